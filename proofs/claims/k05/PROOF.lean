import PyProof.Rows.All
import Wide.All
import OpenK.AllK
import Wide.FinOn
import HandS.ForMost
import HandS.Evl
import HandS.Wide
import HandS.Gcd
import HandS.IsInst
import HandS.TupAny
import HandS.EndBits
import KE.KDictSum
import HandS.Sort
import HandS.Style
import PySem.Challenge.RW_anywriting_k05_whole_counts_of_beginning
set_option Elab.async false
set_option linter.all false
set_option maxRecDepth 100000
set_option maxHeartbeats 2000000
/-! A calculus over the hand layer's readings in which a body is read by plain data: no addresses, no heaps. -/
namespace Cal
open PySem L2 PyProof.Rows
open Evl (Ex ex_l ex_t ex_rd sq_of st_of)

/-! ### data -/
inductive D where
  | non | bl (b : Bool) | int (i : Int) | str (x : Str) | hand
  | tup (xs : List D) | lst (xs : List D)
  | dK (kvs : List (Key × D)) | dT (kvs : List (List Key × D))
  | raw (v : V)

mutual
inductive Rp (K : PySem.W.Frag) (h : Addr) (G : Hp) : V → D → Prop
  | non : Rp K h G .non .non
  | bl (b : Bool) : Rp K h G (.bl b) (.bl b)
  | int (i : Int) : Rp K h G (.int i) (.int i)
  | str (x : Str) : Rp K h G (.str x) (.str x)
  | hand : Rp K h G (.ref h) .hand
  | tup {a : Addr} {vs : List V} {ds : List D} : G a = some (.tup vs) → RpL K h G vs ds → Rp K h G (.ref a) (.tup ds)
  | lst {a : Addr} {vs : List V} {ds : List D} : G a = some (.lst vs) → RpL K h G vs ds → Rp K h G (.ref a) (.lst ds)
  | dK {a : Addr} {vk : List (Key × V)} {kvs : List (Key × D)} : Rd G a (.dK vk) → RpK K h G vk kvs → Rp K h G (.ref a) (.dK kvs)
  | dT {a : Addr} {vk : List (List Key × V)} {kvs : List (List Key × D)} : Rd G a (.dT vk) → RpT K h G vk kvs → Rp K h G (.ref a) (.dT kvs)
  | raw (v : V) : Rp K h G v (.raw v)
inductive RpL (K : PySem.W.Frag) (h : Addr) (G : Hp) : List V → List D → Prop
  | nil : RpL K h G [] []
  | cons {v : V} {vs : List V} {d : D} {ds : List D} : Rp K h G v d → RpL K h G vs ds → RpL K h G (v :: vs) (d :: ds)
inductive RpK (K : PySem.W.Frag) (h : Addr) (G : Hp) : List (Key × V) → List (Key × D) → Prop
  | nil : RpK K h G [] []
  | cons {k : Key} {v : V} {vs : List (Key × V)} {d : D} {ds : List (Key × D)} : Rp K h G v d → RpK K h G vs ds → RpK K h G ((k, v) :: vs) ((k, d) :: ds)
inductive RpT (K : PySem.W.Frag) (h : Addr) (G : Hp) : List (List Key × V) → List (List Key × D) → Prop
  | nil : RpT K h G [] []
  | cons {k : List Key} {v : V} {vs : List (List Key × V)} {d : D} {ds : List (List Key × D)} : Rp K h G v d → RpT K h G vs ds → RpT K h G ((k, v) :: vs) ((k, d) :: ds)
end

section
variable {K : PySem.W.Frag} {h : Addr} {G G' : Hp}
mutual
theorem Rp.mono (e : Ex G G') : ∀ (d : D) (v : V), Rp K h G v d → Rp K h G' v d
  | .non, _, r => by cases r; exact .non
  | .bl b, _, r => by cases r; exact .bl b
  | .int i, _, r => by cases r; exact .int i
  | .str x, _, r => by cases r; exact .str x
  | .hand, _, r => by cases r; exact .hand
  | .tup ds, _, r => by cases r with | tup q l => exact .tup (e _ _ q) (RpL.mono e ds _ l)
  | .lst ds, _, r => by cases r with | lst q l => exact .lst (e _ _ q) (RpL.mono e ds _ l)
  | .dK kvs, _, r => by cases r with | dK q l => exact .dK (ex_rd e q) (RpK.mono e kvs _ l)
  | .dT kvs, _, r => by cases r with | dT q l => exact .dT (ex_rd e q) (RpT.mono e kvs _ l)
  | .raw v, _, r => by cases r; exact .raw v
theorem RpL.mono (e : Ex G G') : ∀ (ds : List D) (vs : List V), RpL K h G vs ds → RpL K h G' vs ds
  | [], _, r => by cases r; exact .nil
  | d :: ds, _, r => by cases r with | cons a b => exact .cons (Rp.mono e d _ a) (RpL.mono e ds _ b)
theorem RpK.mono (e : Ex G G') : ∀ (ds : List (Key × D)) (vs : List (Key × V)), RpK K h G vs ds → RpK K h G' vs ds
  | [], _, r => by cases r; exact .nil
  | (k, d) :: ds, _, r => by cases r with | cons a b => exact .cons (Rp.mono e d _ a) (RpK.mono e ds _ b)
theorem RpT.mono (e : Ex G G') : ∀ (ds : List (List Key × D)) (vs : List (List Key × V)), RpT K h G vs ds → RpT K h G' vs ds
  | [], _, r => by cases r; exact .nil
  | (k, d) :: ds, _, r => by cases r with | cons a b => exact .cons (Rp.mono e d _ a) (RpT.mono e ds _ b)
end
end
abbrev rmono {K : PySem.W.Frag} {h : Addr} {G G' : Hp} {v : V} {d : D} (r : Rp K h G v d) (e : Ex G G') : Rp K h G' v d := Rp.mono e d v r
abbrev lmono {K : PySem.W.Frag} {h : Addr} {G G' : Hp} {v : List V} {d : List D} (r : RpL K h G v d) (e : Ex G G') : RpL K h G' v d := RpL.mono e d v r

section
variable {K : PySem.W.Frag} {h : Addr} {G : Hp}
theorem RpL.length : ∀ {vs : List V} {ds : List D}, RpL K h G vs ds → vs.length = ds.length
  | [], [], _ => rfl
  | v :: vs, d :: ds, r => by cases r with | cons a b => rw [List.length_cons, List.length_cons, RpL.length b]
  | [], d :: ds, r => by cases r
  | v :: vs, [], r => by cases r
theorem RpL.get : ∀ {vs : List V} {ds : List D} {i : Nat} {d : D}, RpL K h G vs ds → ds[i]? = some d → ∃ v, vs[i]? = some v ∧ Rp K h G v d
  | [], [], i, d, _, e => by simp at e
  | v :: vs, x :: ds, 0, d, r, e => by
    cases r with
    | cons a b =>
      have e' : x = d := by simpa using e
      subst e'
      exact ⟨v, rfl, a⟩
  | v :: vs, x :: ds, i + 1, d, r, e => by
    cases r with
    | cons a b =>
      obtain ⟨w, h1, h2⟩ := RpL.get (i := i) (d := d) b (by simpa using e)
      exact ⟨w, by simpa using h1, h2⟩
  | [], d :: ds, _, _, r, _ => by cases r
  | v :: vs, [], _, _, r, _ => by cases r
theorem RpL.get' {vs : List V} {ds : List D} {i : Nat} {v : V} (r : RpL K h G vs ds) (e : vs[i]? = some v) : ∃ d, ds[i]? = some d ∧ Rp K h G v d := by
  have hi : i < vs.length := (List.getElem?_eq_some_iff.mp e).1
  rw [r.length] at hi
  obtain ⟨w, h1, h2⟩ := r.get (List.getElem?_eq_getElem hi)
  rw [e] at h1
  cases h1
  exact ⟨_, List.getElem?_eq_getElem hi, h2⟩
theorem RpL.append : ∀ {vs ws : List V} {ds es : List D}, RpL K h G vs ds → RpL K h G ws es → RpL K h G (vs ++ ws) (ds ++ es)
  | [], _, [], _, _, s => s
  | v :: vs, _, d :: ds, _, r, s => by cases r with | cons a b => exact .cons a (RpL.append b s)
  | [], _, d :: ds, _, r, _ => by cases r
  | v :: vs, _, [], _, r, _ => by cases r
theorem RpL.take : ∀ (n : Nat) {vs : List V} {ds : List D}, RpL K h G vs ds → RpL K h G (vs.take n) (ds.take n)
  | 0, _, _, _ => by rw [List.take_zero, List.take_zero]; exact .nil
  | n + 1, [], [], _ => .nil
  | n + 1, v :: vs, d :: ds, r => by cases r with | cons a b => exact .cons a (RpL.take n b)
  | n + 1, [], d :: ds, r => by cases r
  | n + 1, v :: vs, [], r => by cases r
theorem RpL.drop : ∀ (n : Nat) {vs : List V} {ds : List D}, RpL K h G vs ds → RpL K h G (vs.drop n) (ds.drop n)
  | 0, _, _, r => r
  | n + 1, [], [], _ => .nil
  | n + 1, v :: vs, d :: ds, r => by cases r with | cons a b => exact RpL.drop n b
  | n + 1, [], d :: ds, r => by cases r
  | n + 1, v :: vs, [], r => by cases r
theorem RpL.set {v : V} {d : D} (q : Rp K h G v d) : ∀ (n : Nat) {vs : List V} {ds : List D}, RpL K h G vs ds → RpL K h G (vs.set n v) (ds.set n d)
  | n, [], [], _ => .nil
  | 0, x :: vs, y :: ds, r => by cases r with | cons a b => exact .cons q b
  | n + 1, x :: vs, y :: ds, r => by cases r with | cons a b => exact .cons a (RpL.set q n b)
  | n, [], d :: ds, r => by cases r
  | n, v :: vs, [], r => by cases r
theorem RpL.ints {G : Hp} : ∀ {vs : List V} {ns : List Int}, RpL K h G vs (ns.map D.int) → vs = ns.map V.int
  | [], [], _ => rfl
  | v :: vs, n :: ns, r => by
    cases r with
    | cons a b =>
      cases a
      rw [List.map_cons, RpL.ints b]
  | [], d :: ds, r => by cases r
  | v :: vs, [], r => by cases r
theorem RpL.ofInts {G : Hp} : ∀ (ns : List Int), RpL K h G (ns.map V.int) (ns.map D.int)
  | [] => .nil
  | n :: ns => .cons (.int n) (RpL.ofInts ns)
theorem Rp.tup_inv {v : V} {ds : List D} (r : Rp K h G v (.tup ds)) : ∃ a vs, v = .ref a ∧ G a = some (.tup vs) ∧ RpL K h G vs ds := by
  cases r with | tup q l => exact ⟨_, _, rfl, q, l⟩
theorem Rp.lst_inv {v : V} {ds : List D} (r : Rp K h G v (.lst ds)) : ∃ a vs, v = .ref a ∧ G a = some (.lst vs) ∧ RpL K h G vs ds := by
  cases r with | lst q l => exact ⟨_, _, rfl, q, l⟩
theorem RpK.length : ∀ {vs : List (Key × V)} {ds : List (Key × D)}, RpK K h G vs ds → vs.length = ds.length
  | [], [], _ => rfl
  | v :: vs, d :: ds, r => by cases r with | cons a b => rw [List.length_cons, List.length_cons, RpK.length b]
  | [], d :: ds, r => by cases r
  | v :: vs, [], r => by cases r
theorem RpT.length : ∀ {vs : List (List Key × V)} {ds : List (List Key × D)}, RpT K h G vs ds → vs.length = ds.length
  | [], [], _ => rfl
  | v :: vs, d :: ds, r => by cases r with | cons a b => rw [List.length_cons, List.length_cons, RpT.length b]
  | [], d :: ds, r => by cases r
  | v :: vs, [], r => by cases r
theorem RpK.get' : ∀ {vs : List (Key × V)} {ds : List (Key × D)} {i : Nat} {k : Key} {v : V}, RpK K h G vs ds → vs[i]? = some (k, v) → ∃ d, ds[i]? = some (k, d) ∧ Rp K h G v d
  | [], [], i, k, v, _, e => by simp at e
  | x :: vs, y :: ds, 0, k, v, r, e => by
    cases r with
    | cons a b =>
      have e' := Option.some.inj (show some _ = some (k, v) from e)
      cases e'
      exact ⟨_, rfl, a⟩
  | x :: vs, y :: ds, i + 1, k, v, r, e => by
    cases r with
    | cons a b =>
      obtain ⟨d, h1, h2⟩ := RpK.get' (i := i) (k := k) (v := v) b (by simpa using e)
      exact ⟨d, by simpa using h1, h2⟩
  | [], d :: ds, _, _, _, r, _ => by cases r
  | v :: vs, [], _, _, _, r, _ => by cases r
theorem RpT.get' : ∀ {vs : List (List Key × V)} {ds : List (List Key × D)} {i : Nat} {k : List Key} {v : V}, RpT K h G vs ds → vs[i]? = some (k, v) → ∃ d, ds[i]? = some (k, d) ∧ Rp K h G v d
  | [], [], i, k, v, _, e => by simp at e
  | x :: vs, y :: ds, 0, k, v, r, e => by
    cases r with
    | cons a b =>
      have e' := Option.some.inj (show some _ = some (k, v) from e)
      cases e'
      exact ⟨_, rfl, a⟩
  | x :: vs, y :: ds, i + 1, k, v, r, e => by
    cases r with
    | cons a b =>
      obtain ⟨d, h1, h2⟩ := RpT.get' (i := i) (k := k) (v := v) b (by simpa using e)
      exact ⟨d, by simpa using h1, h2⟩
  | [], d :: ds, _, _, _, r, _ => by cases r
  | v :: vs, [], _, _, _, r, _ => by cases r
end

theorem tq {K : PySem.W.Frag} {G H : Hp} {a : Addr} {vs : List V} (e : Ex G H) (h : G a = some (.tup vs)) : SqT K H a vs := st_of (e _ _ h)
theorem lq {K : PySem.W.Frag} {G H : Hp} {a : Addr} {vs : List V} (e : Ex G H) (h : G a = some (.lst vs)) : SqL K H a vs := sq_of (e _ _ h)
/-! ### dicts of data, by keys of any kind -/
section
variable {κ : Type} [DecidableEq κ]
def dGet (kvs : List (κ × D)) (k : κ) : Option D := (kvs.find? fun kv => decide (kv.1 = k)).map (·.2)
def dPut (kvs : List (κ × D)) (k : κ) (v : D) : List (κ × D) :=
  if (kvs.any fun kv => decide (kv.1 = k)) = true then kvs.map (fun kv => if kv.1 = k then (kv.1, v) else kv) else kvs ++ [(k, v)]
end
section
variable {K : PySem.W.Frag} {h : Addr} {G : Hp}
theorem RpK.any (k : Key) : ∀ {vs : List (Key × V)} {ds : List (Key × D)}, RpK K h G vs ds → (vs.any fun kv => decide (kv.1 = k)) = (ds.any fun kv => decide (kv.1 = k))
  | [], [], _ => rfl
  | x :: vs, y :: ds, r => by cases r with | cons a b => rw [List.any_cons, List.any_cons, RpK.any k b]
  | [], d :: ds, r => by cases r
  | v :: vs, [], r => by cases r
theorem RpK.find (k : Key) : ∀ {vs : List (Key × V)} {ds : List (Key × D)}, RpK K h G vs ds → (valV vs k = none ∧ dGet ds k = none) ∨ ∃ v d, valV vs k = some v ∧ dGet ds k = some d ∧ Rp K h G v d
  | [], [], _ => .inl ⟨rfl, rfl⟩
  | x :: vs, y :: ds, r => by
    cases r with
    | @cons k' v _ d _ a b =>
      by_cases e : k' = k
      · refine .inr ⟨v, d, valV_pos e, ?_, a⟩
        simp [dGet, List.find?_cons, e]
      · rw [valV_neg e]
        have e2 : dGet ((k', d) :: ds) k = dGet ds k := by simp [dGet, List.find?_cons, e]
        rw [e2]
        exact RpK.find k b
  | [], d :: ds, r => by cases r
  | v :: vs, [], r => by cases r
theorem RpK.rep (k : Key) {v : V} {d : D} (q : Rp K h G v d) : ∀ {vs : List (Key × V)} {ds : List (Key × D)}, RpK K h G vs ds →
    RpK K h G (vs.map fun kv => if kv.1 = k then (kv.1, v) else kv) (ds.map fun kv => if kv.1 = k then (kv.1, d) else kv)
  | [], [], _ => .nil
  | x :: vs, y :: ds, r => by
    cases r with
    | @cons k' v' _ d' _ a b =>
      rw [List.map_cons, List.map_cons]
      by_cases e : k' = k
      · rw [if_pos e, if_pos e]; exact .cons q (RpK.rep k q b)
      · rw [if_neg e, if_neg e]; exact .cons a (RpK.rep k q b)
  | [], d :: ds, r => by cases r
  | v :: vs, [], r => by cases r
theorem RpK.snoc {k : Key} {v : V} {d : D} (q : Rp K h G v d) : ∀ {vs : List (Key × V)} {ds : List (Key × D)}, RpK K h G vs ds → RpK K h G (vs ++ [(k, v)]) (ds ++ [(k, d)])
  | [], [], _ => .cons q .nil
  | x :: vs, y :: ds, r => by cases r with | cons a b => exact .cons a (RpK.snoc q b)
  | [], d :: ds, r => by cases r
  | v :: vs, [], r => by cases r
theorem RpK.put (k : Key) {v : V} {d : D} (q : Rp K h G v d) {vs : List (Key × V)} {ds : List (Key × D)} (r : RpK K h G vs ds) : RpK K h G (putK vs k v) (dPut ds k d) := by
  unfold putK dPut
  rw [r.any k]
  split
  · exact r.rep k q
  · exact r.snoc q
theorem RpT.any (k : List Key) : ∀ {vs : List (List Key × V)} {ds : List (List Key × D)}, RpT K h G vs ds → (vs.any fun kv => decide (kv.1 = k)) = (ds.any fun kv => decide (kv.1 = k))
  | [], [], _ => rfl
  | x :: vs, y :: ds, r => by cases r with | cons a b => rw [List.any_cons, List.any_cons, RpT.any k b]
  | [], d :: ds, r => by cases r
  | v :: vs, [], r => by cases r
theorem RpT.find (k : List Key) : ∀ {vs : List (List Key × V)} {ds : List (List Key × D)}, RpT K h G vs ds → (valV vs k = none ∧ dGet ds k = none) ∨ ∃ v d, valV vs k = some v ∧ dGet ds k = some d ∧ Rp K h G v d
  | [], [], _ => .inl ⟨rfl, rfl⟩
  | x :: vs, y :: ds, r => by
    cases r with
    | @cons k' v _ d _ a b =>
      by_cases e : k' = k
      · refine .inr ⟨v, d, valV_pos e, ?_, a⟩
        simp [dGet, List.find?_cons, e]
      · rw [valV_neg e]
        have e2 : dGet ((k', d) :: ds) k = dGet ds k := by simp [dGet, List.find?_cons, e]
        rw [e2]
        exact RpT.find k b
  | [], d :: ds, r => by cases r
  | v :: vs, [], r => by cases r
theorem RpT.rep (k : List Key) {v : V} {d : D} (q : Rp K h G v d) : ∀ {vs : List (List Key × V)} {ds : List (List Key × D)}, RpT K h G vs ds →
    RpT K h G (vs.map fun kv => if kv.1 = k then (kv.1, v) else kv) (ds.map fun kv => if kv.1 = k then (kv.1, d) else kv)
  | [], [], _ => .nil
  | x :: vs, y :: ds, r => by
    cases r with
    | @cons k' v' _ d' _ a b =>
      rw [List.map_cons, List.map_cons]
      by_cases e : k' = k
      · rw [if_pos e, if_pos e]; exact .cons q (RpT.rep k q b)
      · rw [if_neg e, if_neg e]; exact .cons a (RpT.rep k q b)
  | [], d :: ds, r => by cases r
  | v :: vs, [], r => by cases r
theorem RpT.snoc {k : List Key} {v : V} {d : D} (q : Rp K h G v d) : ∀ {vs : List (List Key × V)} {ds : List (List Key × D)}, RpT K h G vs ds → RpT K h G (vs ++ [(k, v)]) (ds ++ [(k, d)])
  | [], [], _ => .cons q .nil
  | x :: vs, y :: ds, r => by cases r with | cons a b => exact .cons a (RpT.snoc q b)
  | [], d :: ds, r => by cases r
  | v :: vs, [], r => by cases r
theorem RpT.put (k : List Key) {v : V} {d : D} (q : Rp K h G v d) {vs : List (List Key × V)} {ds : List (List Key × D)} (r : RpT K h G vs ds) : RpT K h G (putK vs k v) (dPut ds k d) := by
  unfold putK dPut
  rw [r.any k]
  split
  · exact r.rep k q
  · exact r.snoc q
end


/-! ### the state by data -/
structure Par where
  K : PySem.W.Frag
  h : Addr
  H0 : Hp
  G0 : Hp
inductive Cell where
  | d (x : D) | ol (xs : List D) | ok (kvs : List (Key × D)) | ot (kvs : List (List Key × D)) | rw (a : Addr) (o : HO)
  /-- locked while it is walked -/
  | lk (kvs : List (Key × D)) | lt (kvs : List (List Key × D))
def Cell.isOwn : Cell → Bool
  | .d _ => false
  | _ => true
abbrev Rho := List (Option Cell)

/-- the hand: cells, at, the rest, the count -/
def Hand (K : PySem.W.Frag) (G H : Hp) (h : Addr) : Prop := ∃ (c : Addr) (ns : List Int) (i r n : Int), H h = some (.lst [.ref c, .int i, .int r, .int n]) ∧ G c = some (.lst (ns.map V.int)) ∧ ns.length ≤ 63 ∧ 0 ≤ i ∧ 0 ≤ r ∧ 0 ≤ n
structure Mem (p : Par) (G H : Hp) : Prop where
  sub : Ex G H
  gh : G p.h = none
  base : ∀ a o, a ≠ p.h → p.H0 a = some o → H a = some o
  g0 : Ex p.G0 G
  new : ∀ a o, G a = some o → p.G0 a = some o ∨ p.H0 a = none ∨ ((∃ xs, o = .tup xs) ∧ p.H0 a = some o)
  hand : Hand p.K G H p.h
/-- evaluation: what the heaps G, H become -/
abbrev Stp (p : Par) (G H G' H' : Hp) : Prop := Mem ⟨p.K, p.h, H, G⟩ G' H'
/-- no tuple -/
def NT (o : HO) : Prop := ∀ xs, o ≠ .tup xs
def Own (p : Par) (G : Hp) (a : Addr) : Prop := G a = none ∧ p.H0 a = none ∧ a ≠ p.h
def Slot (p : Par) (G H : Hp) (sv : Option V) : Cell → Prop
  | .d x => ∃ v, sv = some v ∧ Rp p.K p.h G v x
  | .ol xs => ∃ a vs, sv = some (.ref a) ∧ Own p G a ∧ H a = some (.lst vs) ∧ RpL p.K p.h G vs xs
  | .ok kvs => ∃ a vs, sv = some (.ref a) ∧ Own p G a ∧ H a = some (.dK vs) ∧ RpK p.K p.h G vs kvs
  | .ot kvs => ∃ a vs, sv = some (.ref a) ∧ Own p G a ∧ H a = some (.dT vs) ∧ RpT p.K p.h G vs kvs
  | .rw a o => sv = some (.ref a) ∧ Own p G a ∧ H a = some o ∧ NT o
  | .lk kvs => ∃ a od vs, sv = some (.ref a) ∧ Own p G a ∧ H a = some (.frz od (.dK vs)) ∧ RpK p.K p.h G vs kvs
  | .lt kvs => ∃ a od vs, sv = some (.ref a) ∧ Own p G a ∧ H a = some (.frz od (.dT vs)) ∧ RpT p.K p.h G vs kvs
structure Hold (p : Par) (ρ : Rho) (G : Hp) (σ : L2.St) (H : Hp) : Prop where
  mem : Mem p G H
  len : σ.length = ρ.length
  slot : ∀ (i : Nat) (c : Cell), ρ[i]? = some (some c) → ∃ sv, σ[i]? = some sv ∧ Slot p G H sv c
  sep : ∀ (i j : Nat) (c c' : Cell) (a : Addr), ρ[i]? = some (some c) → c.isOwn = true → ρ[j]? = some (some c') → c'.isOwn = true → σ[i]? = some (some (.ref a)) → σ[j]? = some (some (.ref a)) → i = j

theorem Ex.none_of {G H : Hp} (e : Ex G H) {a : Addr} (h : H a = none) : G a = none := Evl.fresh_back e h
theorem Hand.mono {K : PySem.W.Frag} {G G' H H' : Hp} {h : Addr} (x : Hand K G H h) (e : Ex G G') (q : H' h = H h) : Hand K G' H' h := by
  obtain ⟨c, ns, i, r, n, h1, h2, h3⟩ := x
  exact ⟨c, ns, i, r, n, by rw [q]; exact h1, e _ _ h2, h3⟩
theorem Hand.some {K : PySem.W.Frag} {G H : Hp} {h : Addr} (x : Hand K G H h) : ∃ o, H h = some o := by
  obtain ⟨c, ns, i, r, n, h1, _⟩ := x
  exact ⟨_, h1⟩

section
variable {p : Par} {G H G1 H1 G2 H2 : Hp} {ρ : Rho} {σ : L2.St}
theorem Mem.refl (m : Mem p G H) : Stp p G H G H := ⟨m.sub, m.gh, fun _ _ _ e => e, fun _ _ e => e, fun _ _ e => .inl e, m.hand⟩
/-- behind an evaluation -/
theorem Mem.step (m : Mem p G H) (s : Stp p G H G1 H1) : Mem p G1 H1 where
  sub := s.sub
  gh := s.gh
  base := fun a o n e => s.base a o n (m.base a o n e)
  g0 := fun a o e => s.g0 a o (m.g0 a o e)
  new := fun a o e => by
    by_cases ha : a = p.h
    · rw [ha, s.gh] at e; cases e
    rcases s.new a o e with q | q | ⟨t, q⟩
    · exact m.new a o q
    · right; left
      cases z : p.H0 a with
      | none => rfl
      | some o' =>
        have := m.base a o' ha z
        have q' : H a = none := q
        rw [q'] at this; cases this
    · cases z : p.H0 a with
      | none => exact .inr (.inl rfl)
      | some o' =>
        have := m.base a o' ha z
        have q' : H a = some o := q
        rw [q'] at this; cases this
        exact .inr (.inr ⟨t, rfl⟩)
  hand := s.hand
theorem Stp.trans (s : Stp p G H G1 H1) (t : Stp p G1 H1 G2 H2) : Stp p G H G2 H2 := Mem.step (p := ⟨p.K, p.h, H, G⟩) s t
theorem Stp.ex (s : Stp p G H G1 H1) : Ex G G1 := s.g0
theorem Slot.step {sv : Option V} {c : Cell} (x : Slot p G H sv c) (s : Stp p G H G1 H1) : Slot p G1 H1 sv c := by
  have own : ∀ {a o}, NT o → Own p G a → H a = some o → Own p G1 a ∧ H1 a = some o := fun {a o} nt q e => by
    refine ⟨⟨?_, q.2⟩, s.base a o q.2.2 e⟩
    cases z : G1 a with
    | none => rfl
    | some u =>
      rcases s.new a u z with r | r | ⟨⟨xs, t⟩, r⟩
      · have r' : G a = some u := r
        rw [q.1] at r'; cases r'
      · have r' : H a = none := r
        rw [e] at r'; cases r'
      · have r' : H a = some u := r
        rw [e] at r'; cases r'
        exact (nt xs t).elim
  cases c with
  | d x => obtain ⟨v, h1, h2⟩ := x; exact ⟨v, h1, rmono h2 s.ex⟩
  | ol xs => obtain ⟨a, vs, h1, h2, h3, h4⟩ := x; obtain ⟨o1, o2⟩ := own (by intro _ z; cases z) h2 h3; exact ⟨a, vs, h1, o1, o2, lmono h4 s.ex⟩
  | ok xs => obtain ⟨a, vs, h1, h2, h3, h4⟩ := x; obtain ⟨o1, o2⟩ := own (by intro _ z; cases z) h2 h3; exact ⟨a, vs, h1, o1, o2, RpK.mono s.ex _ _ h4⟩
  | ot xs => obtain ⟨a, vs, h1, h2, h3, h4⟩ := x; obtain ⟨o1, o2⟩ := own (by intro _ z; cases z) h2 h3; exact ⟨a, vs, h1, o1, o2, RpT.mono s.ex _ _ h4⟩
  | rw a o => obtain ⟨h1, h2, h3, h4⟩ := x; obtain ⟨o1, o2⟩ := own h4 h2 h3; exact ⟨h1, o1, o2, h4⟩
  | lk xs => obtain ⟨a, od, vs, h1, h2, h3, h4⟩ := x; obtain ⟨o1, o2⟩ := own (by intro _ z; cases z) h2 h3; exact ⟨a, od, vs, h1, o1, o2, RpK.mono s.ex _ _ h4⟩
  | lt xs => obtain ⟨a, od, vs, h1, h2, h3, h4⟩ := x; obtain ⟨o1, o2⟩ := own (by intro _ z; cases z) h2 h3; exact ⟨a, od, vs, h1, o1, o2, RpT.mono s.ex _ _ h4⟩
theorem Hold.step (h : Hold p ρ G σ H) (s : Stp p G H G1 H1) : Hold p ρ G1 σ H1 :=
  ⟨h.mem.step s, h.len, fun i c e => by obtain ⟨sv, h1, h2⟩ := h.slot i c e; exact ⟨sv, h1, h2.step s⟩, h.sep⟩
/-- a new object, known from now on -/
theorem Mem.grow (m : Mem p G H) {a : Addr} {o : HO} (n : H a = none) : Stp p G H (upd G a o) (upd H a o) where
  sub := fun b u e => by
    by_cases hb : b = a
    · subst hb; rw [upd_same] at e ⊢; exact e
    · rw [upd_ne hb] at e ⊢; exact m.sub b u e
  gh := by
    obtain ⟨u, hu⟩ := m.hand.some
    show upd G a o p.h = none
    rw [upd_ne (ne_of_none hu n)]
    exact m.gh
  base := fun b u _ e => by
    show upd H a o b = some u
    rw [upd_ne (ne_of_none e n)]
    exact e
  g0 := fun b u e => by
    show upd G a o b = some u
    rw [upd_ne (ne_of_none (m.sub b u e) n)]
    exact e
  new := fun b u e => by
    by_cases hb : b = a
    · subst hb; exact .inr (.inl n)
    · rw [upd_ne hb] at e; exact .inl e
  hand := by
    obtain ⟨u, hu⟩ := m.hand.some
    exact m.hand.mono (fun b u e => by rw [upd_ne (ne_of_none (m.sub b u e) n)]; exact e) (upd_ne (ne_of_none hu n))
/-- a new object, not known -/
theorem Mem.growO (m : Mem p G H) {a : Addr} {o : HO} (n : H a = none) : Stp p G H G (upd H a o) where
  sub := fun b u e => by
    rw [upd_ne (ne_of_none (m.sub b u e) n)]; exact m.sub b u e
  gh := m.gh
  base := fun b u _ e => by
    show upd H a o b = some u
    rw [upd_ne (ne_of_none e n)]
    exact e
  g0 := fun b u e => e
  new := fun b u e => .inl e
  hand := by
    obtain ⟨u, hu⟩ := m.hand.some
    exact m.hand.mono (fun b u e => e) (upd_ne (ne_of_none hu n))
theorem Mem.fresh (m : Mem p G H) {a : Addr} (n : H a = none) : Own p G a := by
  refine ⟨Ex.none_of m.sub n, ?_, ?_⟩
  · cases z : p.H0 a with
    | none => rfl
    | some o' =>
      by_cases ha : a = p.h
      · obtain ⟨u, hu⟩ := m.hand.some
        rw [← ha, n] at hu; cases hu
      · have := m.base a o' ha z
        rw [n] at this; cases this
  · intro ha
    obtain ⟨u, hu⟩ := m.hand.some
    rw [← ha, n] at hu; cases hu

theorem Hold.setD (h : Hold p ρ G σ H) {i : Nat} {v : V} {x : D} (r : Rp p.K p.h G v x) : Hold p (ρ.set i (some (.d x))) G (σ.set i (some v)) H := by
  refine ⟨h.mem, by rw [List.length_set, List.length_set]; exact h.len, fun j c e => ?_, fun j k c c' a e1 o1 e2 o2 e3 e4 => ?_⟩
  · by_cases hj : i = j
    · subst hj
      by_cases hi : i < ρ.length
      · rw [List.getElem?_set_self hi] at e
        cases e
        refine ⟨some v, by rw [List.getElem?_set_self (by rw [h.len]; exact hi)], v, rfl, r⟩
      · rw [List.getElem?_eq_none (by rw [List.length_set]; omega)] at e; cases e
    · rw [List.getElem?_set_ne hj] at e
      obtain ⟨sv, h1, h2⟩ := h.slot j c e
      exact ⟨sv, by rw [List.getElem?_set_ne hj]; exact h1, h2⟩
  · have ne : ∀ {m : Nat} {c : Cell}, (ρ.set i (some (.d x)))[m]? = some (some c) → c.isOwn = true → i ≠ m := fun {m c} e o z => by
      subst z
      by_cases hi : i < ρ.length
      · rw [List.getElem?_set_self hi] at e
        cases e
        cases o
      · rw [List.getElem?_eq_none (by rw [List.length_set]; omega)] at e; cases e
    have n1 := ne e1 o1
    have n2 := ne e2 o2
    rw [List.getElem?_set_ne n1] at e1 e3
    rw [List.getElem?_set_ne n2] at e2 e4
    exact h.sep j k c c' a e1 o1 e2 o2 e3 e4
theorem Cell.own_ref {c : Cell} {sv : Option V} (x : Slot p G H sv c) (o : c.isOwn = true) : ∃ a u, sv = some (.ref a) ∧ Own p G a ∧ H a = some u := by
  cases c with
  | d x => cases o
  | ol xs => obtain ⟨a, vs, h1, h2, h3, _⟩ := x; exact ⟨a, _, h1, h2, h3⟩
  | ok xs => obtain ⟨a, vs, h1, h2, h3, _⟩ := x; exact ⟨a, _, h1, h2, h3⟩
  | ot xs => obtain ⟨a, vs, h1, h2, h3, _⟩ := x; exact ⟨a, _, h1, h2, h3⟩
  | rw a u => obtain ⟨h1, h2, h3, _⟩ := x; exact ⟨a, _, h1, h2, h3⟩
  | lk xs => obtain ⟨a, od, vs, h1, h2, h3, _⟩ := x; exact ⟨a, _, h1, h2, h3⟩
  | lt xs => obtain ⟨a, od, vs, h1, h2, h3, _⟩ := x; exact ⟨a, _, h1, h2, h3⟩
/-- a slot is given an object that no other slot owns -/
theorem Hold.setO (h : Hold p ρ G σ H) {i : Nat} {a : Addr} {c : Cell} (x : Slot p G H (some (.ref a)) c) (hf : ∀ (j : Nat) (c' : Cell), ρ[j]? = some (some c') → c'.isOwn = true → σ[j]? = some (some (.ref a)) → j = i) :
    Hold p (ρ.set i (some c)) G (σ.set i (some (.ref a))) H := by
  refine ⟨h.mem, by rw [List.length_set, List.length_set]; exact h.len, fun j c' e => ?_, fun j k c1 c2 b e1 o1 e2 o2 e3 e4 => ?_⟩
  · by_cases hj : i = j
    · subst hj
      by_cases hi : i < ρ.length
      · rw [List.getElem?_set_self hi] at e
        cases e
        exact ⟨some (.ref a), by rw [List.getElem?_set_self (by rw [h.len]; exact hi)], x⟩
      · rw [List.getElem?_eq_none (by rw [List.length_set]; omega)] at e; cases e
    · rw [List.getElem?_set_ne hj] at e
      obtain ⟨sv, h1, h2⟩ := h.slot j c' e
      exact ⟨sv, by rw [List.getElem?_set_ne hj]; exact h1, h2⟩
  · have at_i : ∀ {b}, (σ.set i (some (V.ref a)))[i]? = some (some (.ref b)) → b = a := fun {b} e => by
      by_cases hi : i < σ.length
      · rw [List.getElem?_set_self hi] at e; cases e; rfl
      · rw [List.getElem?_eq_none (by rw [List.length_set]; omega)] at e; cases e
    by_cases hj : i = j
    · by_cases hk : i = k
      · exact hj.symm.trans hk
      · subst hj
        have := at_i e3
        subst this
        rw [List.getElem?_set_ne hk] at e2 e4
        exact absurd (hf k c2 e2 o2 e4).symm hk
    · by_cases hk : i = k
      · subst hk
        have := at_i e4
        subst this
        rw [List.getElem?_set_ne hj] at e1 e3
        exact absurd (hf j c1 e1 o1 e3).symm hj
      · rw [List.getElem?_set_ne hj] at e1 e3
        rw [List.getElem?_set_ne hk] at e2 e4
        exact h.sep j k c1 c2 b e1 o1 e2 o2 e3 e4
theorem Hold.setNew (h : Hold p ρ G σ H) {i : Nat} {a : Addr} {c : Cell} (s : Stp p G H G1 H1) (n : H a = none) (x : Slot p G1 H1 (some (.ref a)) c) : Hold p (ρ.set i (some c)) G1 (σ.set i (some (.ref a))) H1 :=
  (h.step s).setO x fun j c' e o q => by
    obtain ⟨sv, h1, h2⟩ := h.slot j c' e
    obtain ⟨b, u, e1, _, e3⟩ := Cell.own_ref h2 o
    rw [h1] at q
    rw [e1] at q
    cases q
    rw [n] at e3; cases e3
/-- what slot i owns is changed -/
theorem Hold.write (h : Hold p ρ G σ H) {i : Nat} {c c' : Cell} {a : Addr} {o : HO} (e : ρ[i]? = some (some c)) (ho : c.isOwn = true) (q : σ[i]? = some (some (.ref a))) (ow : Own p G a) (x : Slot p G (upd H a o) (some (.ref a)) c') :
    Hold p (ρ.set i (some c')) G σ (upd H a o) := by
  have m : Mem p G (upd H a o) := ⟨fun b u z => by rw [upd_ne (ne_of_none z ow.1)]; exact h.mem.sub b u z, h.mem.gh, fun b u n z => by rw [upd_ne (ne_of_none z ow.2.1)]; exact h.mem.base b u n z, h.mem.g0, h.mem.new,
    h.mem.hand.mono (fun _ _ z => z) (upd_ne (Ne.symm ow.2.2))⟩
  refine ⟨m, by rw [List.length_set]; exact h.len, fun j c1 e1 => ?_, fun j k c1 c2 b e1 o1 e2 o2 e3 e4 => ?_⟩
  · by_cases hj : i = j
    · subst hj
      rw [List.getElem?_set_self (List.getElem?_eq_some_iff.mp e).1] at e1
      cases e1
      exact ⟨_, q, x⟩
    · rw [List.getElem?_set_ne hj] at e1
      obtain ⟨sv, h1, h2⟩ := h.slot j c1 e1
      refine ⟨sv, h1, ?_⟩
      have far : c1.isOwn = true → ∀ b, sv = some (.ref b) → b ≠ a := fun o1 b eb z => by
        subst z
        rw [eb] at h1
        exact hj (h.sep i j c c1 b e ho e1 o1 q h1)
      cases c1 with
      | d x => exact h2
      | ol xs => obtain ⟨b, vs, h3, h4, h5, h6⟩ := h2; exact ⟨b, vs, h3, h4, by rw [upd_ne (far rfl b h3)]; exact h5, h6⟩
      | ok xs => obtain ⟨b, vs, h3, h4, h5, h6⟩ := h2; exact ⟨b, vs, h3, h4, by rw [upd_ne (far rfl b h3)]; exact h5, h6⟩
      | ot xs => obtain ⟨b, vs, h3, h4, h5, h6⟩ := h2; exact ⟨b, vs, h3, h4, by rw [upd_ne (far rfl b h3)]; exact h5, h6⟩
      | rw b u => obtain ⟨h3, h4, h5, h6⟩ := h2; exact ⟨h3, h4, by rw [upd_ne (far rfl b h3)]; exact h5, h6⟩
      | lk xs => obtain ⟨b, od, vs, h3, h4, h5, h6⟩ := h2; exact ⟨b, od, vs, h3, h4, by rw [upd_ne (far rfl b h3)]; exact h5, h6⟩
      | lt xs => obtain ⟨b, od, vs, h3, h4, h5, h6⟩ := h2; exact ⟨b, od, vs, h3, h4, by rw [upd_ne (far rfl b h3)]; exact h5, h6⟩
  · have own : ∀ {m : Nat} {c1 : Cell}, (ρ.set i (some c'))[m]? = some (some c1) → c1.isOwn = true → ∃ c2, ρ[m]? = some (some c2) ∧ c2.isOwn = true := fun {m c1} e1 o1 => by
      by_cases hm : i = m
      · subst hm; exact ⟨c, e, ho⟩
      · rw [List.getElem?_set_ne hm] at e1; exact ⟨c1, e1, o1⟩
    obtain ⟨d1, f1, g1⟩ := own e1 o1
    obtain ⟨d2, f2, g2⟩ := own e2 o2
    exact h.sep j k d1 d2 b f1 g1 f2 g2 e3 e4
/-- what slot i owns is from now on known and no longer changed -/
theorem Hold.freeze (h : Hold p ρ G σ H) {i : Nat} {c : Cell} {a : Addr} {o : HO} {x : D} (e : ρ[i]? = some (some c)) (ho : c.isOwn = true) (q : σ[i]? = some (some (.ref a))) (ow : Own p G a) (ha : H a = some o) (r : Rp p.K p.h (upd G a o) (.ref a) x) :
    Hold p (ρ.set i (some (.d x))) (upd G a o) σ H ∧ Ex G (upd G a o) := by
  have ex : Ex G (upd G a o) := fun b u z => by rw [upd_ne (ne_of_none z ow.1)]; exact z
  have m : Mem p (upd G a o) H := ⟨fun b u z => by
      by_cases hb : b = a
      · subst hb; rw [upd_same] at z; cases z; exact ha
      · rw [upd_ne hb] at z; exact h.mem.sub b u z, by rw [upd_ne (Ne.symm ow.2.2)]; exact h.mem.gh, h.mem.base, fun b u z => ex b u (h.mem.g0 b u z), fun b u z => by
      by_cases hb : b = a
      · subst hb; exact .inr (.inl ow.2.1)
      · rw [upd_ne hb] at z; exact h.mem.new b u z, h.mem.hand.mono ex rfl⟩
  refine ⟨⟨m, by rw [List.length_set]; exact h.len, fun j c1 e1 => ?_, fun j k c1 c2 b e1 o1 e2 o2 e3 e4 => ?_⟩, ex⟩
  · by_cases hj : i = j
    · subst hj
      rw [List.getElem?_set_self (List.getElem?_eq_some_iff.mp e).1] at e1
      cases e1
      exact ⟨_, q, _, rfl, r⟩
    · rw [List.getElem?_set_ne hj] at e1
      obtain ⟨sv, h1, h2⟩ := h.slot j c1 e1
      refine ⟨sv, h1, ?_⟩
      have far : c1.isOwn = true → ∀ b, sv = some (.ref b) → Own p G b → Own p (upd G a o) b := fun o1 b eb ob => by
        refine ⟨?_, ob.2⟩
        rw [upd_ne]
        · exact ob.1
        · intro z
          subst z
          rw [eb] at h1
          exact hj (h.sep i j c c1 b e ho e1 o1 q h1)
      cases c1 with
      | d x => obtain ⟨v, h3, h4⟩ := h2; exact ⟨v, h3, rmono h4 ex⟩
      | ol xs => obtain ⟨b, vs, h3, h4, h5, h6⟩ := h2; exact ⟨b, vs, h3, far rfl b h3 h4, h5, lmono h6 ex⟩
      | ok xs => obtain ⟨b, vs, h3, h4, h5, h6⟩ := h2; exact ⟨b, vs, h3, far rfl b h3 h4, h5, RpK.mono ex _ _ h6⟩
      | ot xs => obtain ⟨b, vs, h3, h4, h5, h6⟩ := h2; exact ⟨b, vs, h3, far rfl b h3 h4, h5, RpT.mono ex _ _ h6⟩
      | rw b u => obtain ⟨h3, h4, h5⟩ := h2; exact ⟨h3, far rfl b h3 h4, h5⟩
      | lk xs => obtain ⟨b, od, vs, h3, h4, h5, h6⟩ := h2; exact ⟨b, od, vs, h3, far rfl b h3 h4, h5, RpK.mono ex _ _ h6⟩
      | lt xs => obtain ⟨b, od, vs, h3, h4, h5, h6⟩ := h2; exact ⟨b, od, vs, h3, far rfl b h3 h4, h5, RpT.mono ex _ _ h6⟩
  · have own : ∀ {m : Nat} {c1 : Cell}, (ρ.set i (some (.d x)))[m]? = some (some c1) → c1.isOwn = true → ρ[m]? = some (some c1) := fun {m c1} e1 o1 => by
      by_cases hm : i = m
      · subst hm
        rw [List.getElem?_set_self (List.getElem?_eq_some_iff.mp e).1] at e1
        cases e1; cases o1
      · rw [List.getElem?_set_ne hm] at e1; exact e1
    exact h.sep j k c1 c2 b (own e1 o1) o1 (own e2 o2) o2 e3 e4
/-- a slot is forgotten -/
theorem Hold.drop (h : Hold p ρ G σ H) (i : Nat) : Hold p (ρ.set i none) G σ H := by
  have un : ∀ {j : Nat} {c : Cell}, (ρ.set i none)[j]? = some (some c) → ρ[j]? = some (some c) := fun {j c} e => by
    by_cases hj : i = j
    · subst hj
      by_cases hi : i < ρ.length
      · rw [List.getElem?_set_self hi] at e; cases e
      · rw [List.getElem?_eq_none (by rw [List.length_set]; omega)] at e; cases e
    · rw [List.getElem?_set_ne hj] at e; exact e
  exact ⟨h.mem, by rw [List.length_set]; exact h.len, fun j c e => h.slot j c (un e), fun j k c c' a e1 o1 e2 o2 => h.sep j k c c' a (un e1) o1 (un e2) o2⟩
theorem Hold.forget (h : Hold p ρ G σ H) (i : Nat) (v : Option V) : Hold p (ρ.set i none) G (σ.set i v) H := by
  have un : ∀ {j : Nat} {c : Cell}, (ρ.set i none)[j]? = some (some c) → i ≠ j ∧ ρ[j]? = some (some c) := fun {j c} e => by
    by_cases hj : i = j
    · subst hj
      by_cases hi : i < ρ.length
      · rw [List.getElem?_set_self hi] at e; cases e
      · rw [List.getElem?_eq_none (by rw [List.length_set]; omega)] at e; cases e
    · rw [List.getElem?_set_ne hj] at e; exact ⟨hj, e⟩
  refine ⟨h.mem, by rw [List.length_set, List.length_set]; exact h.len, fun j c e => ?_, fun j k c c' a e1 o1 e2 o2 e3 e4 => ?_⟩
  · obtain ⟨n, e⟩ := un e
    rw [List.getElem?_set_ne n]
    exact h.slot j c e
  · obtain ⟨n1, e1⟩ := un e1
    obtain ⟨n2, e2⟩ := un e2
    rw [List.getElem?_set_ne n1] at e3
    rw [List.getElem?_set_ne n2] at e4
    exact h.sep j k c c' a e1 o1 e2 o2 e3 e4
end


/-! ### judgements: what must be true of the data so that a piece of the body runs to what is wanted -/
def WE (p : Par) (ρ : Rho) (te : TE) (Q : D → Prop) : Prop := ∀ G σ H, Hold p ρ G σ H → ∀ Qv : VK, (∀ d v G' H', Q d → Stp p G H G' H' → Rp p.K p.h G' v d → Qv v H') → te σ H Qv
def WT (p : Par) (ρ : Rho) (tt : TT) (Q : Bool → Prop) : Prop := ∀ G σ H, Hold p ρ G σ H → ∀ Qv : Bool → Hp → Prop, (∀ b G' H', Q b → Stp p G H G' H' → Qv b H') → tt σ H Qv
def WA (p : Par) (ρ : Rho) (ta : TA) (Q : List D → Prop) : Prop := ∀ G σ H, Hold p ρ G σ H → ∀ Qv : List V → Hp → Prop, (∀ ds vs G' H', Q ds → Stp p G H G' H' → RpL p.K p.h G' vs ds → Qv vs H') → ta σ H Qv
def WO (p : Par) (ρ : Rho) (to : TO) (Q : Option Int → Prop) : Prop := ∀ G σ H, Hold p ρ G σ H → ∀ Qv : Option Int → Hp → Prop, (∀ o G' H', Q o → Stp p G H G' H' → Qv o H') → to σ H Qv
/-- a new object that nobody else knows -/
def WF (p : Par) (ρ : Rho) (te : TE) (Q : Cell → Prop) : Prop := ∀ G σ H, Hold p ρ G σ H → ∀ Qv : VK, (∀ c a G' H', Q c → c.isOwn = true → Stp p G H G' H' → H a = none → Slot p G' H' (some (.ref a)) c → Qv (.ref a) H') → te σ H Qv
/-- an operation on values -/
def RO (p : Par) (r : R2) (x y : D) (Q : D → Prop) : Prop := ∀ G H v w, Mem p G H → Rp p.K p.h G v x → Rp p.K p.h G w y → ∀ Qv : VK, (∀ d u G' H', Q d → Stp p G H G' H' → Rp p.K p.h G' u d → Qv u H') → r v w H Qv
def RU (p : Par) (r : V → Hp → VK → Prop) (x : D) (Q : D → Prop) : Prop := ∀ G H v, Mem p G H → Rp p.K p.h G v x → ∀ Qv : VK, (∀ d u G' H', Q d → Stp p G H G' H' → Rp p.K p.h G' u d → Qv u H') → r v H Qv
def RC (p : Par) (r : List V → Hp → VK → Prop) (xs : List D) (Q : D → Prop) : Prop := ∀ G H vs, Mem p G H → RpL p.K p.h G vs xs → ∀ Qv : VK, (∀ d u G' H', Q d → Stp p G H G' H' → Rp p.K p.h G' u d → Qv u H') → r vs H Qv
structure Post where
  n : Rho → Prop
  r : D → Prop
  b : Rho → Prop := fun _ => False
  c : Rho → Prop := fun _ => False
def WS (p : Par) (ρ : Rho) (ts : TS) (P : Post) : Prop := ∀ G σ H, Hold p ρ G σ H → ∀ E : Ends,
  (∀ ρ' G' σ' H', P.n ρ' → Ex G G' → Hold p ρ' G' σ' H' → E.nx σ' H') → (∀ d v G' H', P.r d → Mem p G' H' → Rp p.K p.h G' v d → E.rt v H') →
  (∀ ρ' G' σ' H', P.b ρ' → Ex G G' → Hold p ρ' G' σ' H' → E.bk σ' H') → (∀ ρ' G' σ' H', P.c ρ' → Ex G G' → Hold p ρ' G' σ' H' → E.ct σ' H') → ts E σ H
def WG (p : Par) (ρ : Rho) (g : TG) (x : D) (N : Rho → Prop) : Prop := ∀ G σ H v, Hold p ρ G σ H → Rp p.K p.h G v x → ∀ Qs : L2.St → Hp → Prop, (∀ ρ' G' σ' H', N ρ' → Ex G G' → Hold p ρ' G' σ' H' → Qs σ' H') → g v σ H Qs
def WGs (p : Par) (ρ : Rho) (g : TGs) (xs : List D) (N : Rho → Prop) : Prop := ∀ G σ H vs, Hold p ρ G σ H → RpL p.K p.h G vs xs → ∀ Qs : L2.St → Hp → Prop, (∀ ρ' G' σ' H', N ρ' → Ex G G' → Hold p ρ' G' σ' H' → Qs σ' H') → g vs σ H Qs

section
variable {p : Par} {ρ : Rho} {Q : D → Prop} {ta tb te : TE} {tt tu : TT}
theorem WE.imp {Q' : D → Prop} (h : WE p ρ te Q') (k : ∀ d, Q' d → Q d) : WE p ρ te Q := fun G σ H hh Qv q => h G σ H hh Qv fun d v G' H' z => q d v G' H' (k d z)
theorem WT.imp {Q Q' : Bool → Prop} (h : WT p ρ tt Q') (k : ∀ d, Q' d → Q d) : WT p ρ tt Q := fun G σ H hh Qv q => h G σ H hh Qv fun d G' H' z => q d G' H' (k d z)
theorem WA.imp {ta : TA} {Q Q' : List D → Prop} (h : WA p ρ ta Q') (k : ∀ d, Q' d → Q d) : WA p ρ ta Q := fun G σ H hh Qv q => h G σ H hh Qv fun d v G' H' z => q d v G' H' (k d z)
theorem WS.imp {ts : TS} {P P' : Post} (h : WS p ρ ts P') (n : ∀ d, P'.n d → P.n d) (r : ∀ d, P'.r d → P.r d) (b : ∀ d, P'.b d → P.b d) (c : ∀ d, P'.c d → P.c d) : WS p ρ ts P := fun G σ H hh E kn kr kb kc =>
  h G σ H hh E (fun ρ' G' σ' H' z => kn ρ' G' σ' H' (n _ z)) (fun d v G' H' z => kr d v G' H' (r _ z)) (fun ρ' G' σ' H' z => kb ρ' G' σ' H' (b _ z)) (fun ρ' G' σ' H' z => kc ρ' G' σ' H' (c _ z))

/-! ### expressions -/
theorem we_var {i : Nat} {x : D} (e : ρ[i]? = some (some (.d x))) (q : Q x) : WE p ρ (tVar i) Q := fun G σ H h Qv k => by
  obtain ⟨sv, h1, v, h2, h3⟩ := h.slot i _ e
  subst h2
  exact ⟨v, h1, k x v G H q h.mem.refl h3⟩
theorem we_int {i : Int} (q : Q (.int i)) : WE p ρ (tC (.int i)) Q := fun G σ H h Qv k => k _ _ G H q h.mem.refl (.int i)
theorem we_bl {i : Bool} (q : Q (.bl i)) : WE p ρ (tC (.bl i)) Q := fun G σ H h Qv k => k _ _ G H q h.mem.refl (.bl i)
theorem we_non (q : Q .non) : WE p ρ (tC .non) Q := fun G σ H h Qv k => k _ _ G H q h.mem.refl .non
theorem we_str {i : Str} (q : Q (.str i)) : WE p ρ (tC (.str i)) Q := fun G σ H h Qv k => k _ _ G H q h.mem.refl (.str i)
theorem we_raw {v : V} (q : Q (.raw v)) : WE p ρ (tC v) Q := fun G σ H h Qv k => k _ _ G H q h.mem.refl (.raw v)
theorem we_op {r : R2} (h : WE p ρ ta fun x => WE p ρ tb fun y => RO p r x y Q) : WE p ρ (tOp r ta tb) Q := fun G σ H hh Qv k =>
  h G σ H hh _ fun x v G1 H1 hx s1 r1 => hx G1 σ H1 (hh.step s1) _ fun y w G2 H2 hy s2 r2 =>
    hy G2 H2 v w ((hh.step s1).step s2).mem (rmono r1 s2.ex) r2 Qv fun d u G3 H3 q s3 r3 => k d u G3 H3 q ((s1.trans s2).trans s3) r3
theorem we_un {r : V → Hp → VK → Prop} (h : WE p ρ ta fun x => RU p r x Q) : WE p ρ (tUn r ta) Q := fun G σ H hh Qv k =>
  h G σ H hh _ fun x v G1 H1 hx s1 r1 => hx G1 H1 v (hh.step s1).mem r1 Qv fun d u G3 H3 q s3 r3 => k d u G3 H3 q (s1.trans s3) r3
theorem we_cb {r : List V → Hp → VK → Prop} {ta : TA} (h : WA p ρ ta fun xs => RC p r xs Q) : WE p ρ (tCB r ta) Q := fun G σ H hh Qv k =>
  h G σ H hh _ fun x v G1 H1 hx s1 r1 => hx G1 H1 v (hh.step s1).mem r1 Qv fun d u G3 H3 q s3 r3 => k d u G3 H3 q (s1.trans s3) r3
theorem wa_nil {Q : List D → Prop} (q : Q []) : WA p ρ tNil Q := fun G σ H hh Qv k => k [] [] G H q hh.mem.refl .nil
theorem wa_cons {Q : List D → Prop} {tr : TA} (h : WE p ρ te fun x => WA p ρ tr fun xs => Q (x :: xs)) : WA p ρ (tCons te tr) Q := fun G σ H hh Qv k =>
  h G σ H hh _ fun x v G1 H1 hx s1 r1 => hx G1 σ H1 (hh.step s1) _ fun xs vs G2 H2 q s2 r2 => k (x :: xs) (v :: vs) G2 H2 q (s1.trans s2) (.cons (rmono r1 s2.ex) r2)

/-! ### scalars -/
/-- a scalar value as data -/
def inj : V → D
  | .non => .non
  | .bl b => .bl b
  | .int i => .int i
  | .str x => .str x
  | v => .raw v
theorem rp_inj {K : PySem.W.Frag} {h : Addr} {G : Hp} : ∀ v : V, Rp K h G v (inj v)
  | .non => .non
  | .bl b => .bl b
  | .int i => .int i
  | .str x => .str x
  | .byt b => .raw _
  | .flt b => .raw _
  | .ref a => .raw _
  | .ty n => .raw _
theorem rp_int {K : PySem.W.Frag} {h : Addr} {G : Hp} {v : V} {i : Int} (r : Rp K h G v (.int i)) : v = .int i := by cases r; rfl
theorem rp_bl {K : PySem.W.Frag} {h : Addr} {G : Hp} {v : V} {i : Bool} (r : Rp K h G v (.bl i)) : v = .bl i := by cases r; rfl
theorem rp_str {K : PySem.W.Frag} {h : Addr} {G : Hp} {v : V} {i : Str} (r : Rp K h G v (.str i)) : v = .str i := by cases r; rfl
theorem rp_non {K : PySem.W.Frag} {h : Addr} {G : Hp} {v : V} (r : Rp K h G v .non) : v = .non := by cases r; rfl
theorem we_I0 {g : Int → Int → V} (h : WE p ρ ta fun x => ∃ i, x = .int i ∧ WE p ρ tb fun y => ∃ j, y = .int j ∧ Q (inj (g i j))) : WE p ρ (tOp (rI0 g) ta tb) Q :=
  we_op (h.imp fun x ⟨i, e, h⟩ => h.imp fun y ⟨j, e2, q⟩ => fun G H v w m r1 r2 Qv k => by
    subst e e2
    exact ⟨i, j, rp_int r1, rp_int r2, k _ _ G H q m.refl (rp_inj _)⟩)
theorem we_I {C : Int → Int → Prop} {g : Int → Int → V} (h : WE p ρ ta fun x => ∃ i, x = .int i ∧ WE p ρ tb fun y => ∃ j, y = .int j ∧ C i j ∧ Q (inj (g i j))) : WE p ρ (tOp (rI C g) ta tb) Q :=
  we_op (h.imp fun x ⟨i, e, h⟩ => h.imp fun y ⟨j, e2, c, q⟩ => fun G H v w m r1 r2 Qv k => by
    subst e e2
    exact ⟨i, j, rp_int r1, rp_int r2, c, k _ _ G H q m.refl (rp_inj _)⟩)
theorem we_U {g : Int → V} (h : WE p ρ ta fun x => ∃ i, x = .int i ∧ Q (inj (g i))) : WE p ρ (tUn (rU g) ta) Q :=
  we_un (h.imp fun x ⟨i, e, q⟩ => fun G H v m r1 Qv k => by
    subst e
    exact ⟨i, rp_int r1, k _ _ G H q m.refl (rp_inj _)⟩)
theorem we_notV (h : WE p ρ ta fun x => ∃ b, x = .bl b ∧ Q (.bl (!b))) : WE p ρ (tNotV ta) Q := fun G σ H hh Qv k =>
  h G σ H hh _ fun x v G1 H1 ⟨b, e, q⟩ s1 r1 => by
    subst e
    exact ⟨b, rp_bl r1, k _ _ G1 H1 q s1 (.bl _)⟩
theorem we_andV (h : WE p ρ ta fun x => ∃ b, x = .bl b ∧ (b = true → WE p ρ tb Q) ∧ (b = false → Q (.bl false))) : WE p ρ (tAndV ta tb) Q := fun G σ H hh Qv k =>
  h G σ H hh _ fun x v G1 H1 ⟨b, e, q1, q2⟩ s1 r1 => by
    subst e
    refine ⟨b, rp_bl r1, ?_⟩
    cases b with
    | true => rw [if_pos rfl]; exact q1 rfl G1 σ H1 (hh.step s1) Qv fun d u G2 H2 q s2 r2 => k d u G2 H2 q (s1.trans s2) r2
    | false => rw [if_neg (by decide)]; exact k _ _ G1 H1 (q2 rfl) s1 (.bl _)
theorem we_orV (h : WE p ρ ta fun x => ∃ b, x = .bl b ∧ (b = false → WE p ρ tb Q) ∧ (b = true → Q (.bl true))) : WE p ρ (tOrV ta tb) Q := fun G σ H hh Qv k =>
  h G σ H hh _ fun x v G1 H1 ⟨b, e, q1, q2⟩ s1 r1 => by
    subst e
    refine ⟨b, rp_bl r1, ?_⟩
    cases b with
    | false => rw [if_neg (by decide)]; exact q1 rfl G1 σ H1 (hh.step s1) Qv fun d u G2 H2 q s2 r2 => k d u G2 H2 q (s1.trans s2) r2
    | true => rw [if_pos rfl]; exact k _ _ G1 H1 (q2 rfl) s1 (.bl _)
theorem we_if (h : WT p ρ tt fun b => if b = true then WE p ρ ta Q else WE p ρ tb Q) : WE p ρ (tIf tt ta tb) Q := fun G σ H hh Qv k =>
  h G σ H hh _ fun b G1 H1 q s1 => by
    cases b with
    | true => rw [if_pos rfl] at q ⊢; exact q G1 σ H1 (hh.step s1) Qv fun d u G2 H2 q s2 r2 => k d u G2 H2 q (s1.trans s2) r2
    | false => rw [if_neg (by decide)] at q ⊢; exact q G1 σ H1 (hh.step s1) Qv fun d u G2 H2 q s2 r2 => k d u G2 H2 q (s1.trans s2) r2
/-! ### tests -/
variable {R : Bool → Prop}
theorem wt_B (h : WE p ρ te fun x => ∃ b, x = .bl b ∧ R b) : WT p ρ (tB te) R := fun G σ H hh Qv k =>
  h G σ H hh _ fun x v G1 H1 ⟨b, e, q⟩ s1 r1 => by subst e; exact ⟨b, rp_bl r1, k b G1 H1 q s1⟩
theorem wt_T (h : WE p ρ te fun x => ∃ b, x = .bl b ∧ R b) : WT p ρ (tTest te) R := fun G σ H hh Qv k =>
  h G σ H hh _ fun x v G1 H1 ⟨b, e, q⟩ s1 r1 => by subst e; exact ⟨b, rp_bl r1, k b G1 H1 q s1⟩
theorem wt_not (h : WT p ρ tt fun b => R (!b)) : WT p ρ (tNot tt) R := fun G σ H hh Qv k => h G σ H hh _ fun b G1 H1 q s1 => k (!b) G1 H1 q s1
theorem wt_and (h : WT p ρ tt fun b => (b = true → WT p ρ tu R) ∧ (b = false → R false)) : WT p ρ (tAnd tt tu) R := fun G σ H hh Qv k => h G σ H hh _ fun b G1 H1 ⟨q1, q2⟩ s1 => by
  cases b with
  | true => show tu σ H1 Qv; exact q1 rfl G1 σ H1 (hh.step s1) Qv fun d G2 H2 q s2 => k d G2 H2 q (s1.trans s2)
  | false => show Qv false H1; exact k false G1 H1 (q2 rfl) s1
theorem wt_or (h : WT p ρ tt fun b => (b = false → WT p ρ tu R) ∧ (b = true → R true)) : WT p ρ (tOr tt tu) R := fun G σ H hh Qv k => h G σ H hh _ fun b G1 H1 ⟨q1, q2⟩ s1 => by
  cases b with
  | false => show tu σ H1 Qv; exact q1 rfl G1 σ H1 (hh.step s1) Qv fun d G2 H2 q s2 => k d G2 H2 q (s1.trans s2)
  | true => show Qv true H1; exact k true G1 H1 (q2 rfl) s1
theorem wt_yes (h : R true) : WT p ρ tYes R := fun G σ H hh Qv k => k true G H h hh.mem.refl
end

/-! ### tuples, lists -/
theorem sz {n : Nat} (h : n ≤ 4000000) : n ≤ sizeLine := Nat.le_trans h (by rw [sizeLine_eq]; decide)
section
variable {p : Par} {ρ : Rho} {Q : D → Prop} {ta tb te : TE} {tt tu : TT}
theorem we_tup {ta : TA} (h : WA p ρ ta fun ds => ds.length ≤ 4000000 ∧ Q (.tup ds)) : WE p ρ (tTup ta) Q := fun G σ H hh Qv k =>
  h G σ H hh _ fun ds vs G1 H1 ⟨hl, q⟩ s1 r1 => ⟨sz (by rw [r1.length]; exact hl), fun a ha => k _ _ _ _ q (s1.trans ((hh.step s1).mem.grow ha)) (.tup upd_same (lmono r1 ((hh.step s1).mem.grow (o := .tup vs) ha).ex))⟩
end
theorem Mem.back {p : Par} {G H G1 H1 : Hp} {a : Addr} (m : Mem p G H) (s : Stp p G H G1 H1) (n : H1 a = none) : H a = none := by
  cases z : H a with
  | none => rfl
  | some u =>
    by_cases hb : a = p.h
    · obtain ⟨u', hu⟩ := s.hand.some
      rw [hb] at n
      have hu' : H1 p.h = some u' := hu
      rw [n] at hu'; cases hu'
    · have := s.base a u hb z
      rw [n] at this; cases this
/-- frozen -/
def Cell.toD : Cell → D
  | .d x => x
  | .ol xs => .lst xs
  | .ok kvs => .dK kvs
  | .ot kvs => .dT kvs
  | .rw a _ => .raw (.ref a)
  | .lk kvs => .dK kvs
  | .lt kvs => .dT kvs
theorem Mem.know {p : Par} {G H : Hp} {a : Addr} {o : HO} (m : Mem p G H) (ow : Own p G a) (e : H a = some o) : Mem p (upd G a o) H ∧ Ex G (upd G a o) := by
  have ex : Ex G (upd G a o) := fun b u z => by rw [upd_ne (ne_of_none z ow.1)]; exact z
  exact ⟨⟨fun b u z => by
      by_cases hb : b = a
      · subst hb; rw [upd_same] at z; cases z; exact e
      · rw [upd_ne hb] at z; exact m.sub b u z, by rw [upd_ne (Ne.symm ow.2.2)]; exact m.gh, m.base, fun b u z => ex b u (m.g0 b u z), fun b u z => by
      by_cases hb : b = a
      · subst hb; exact .inr (.inl ow.2.1)
      · rw [upd_ne hb] at z; exact m.new b u z, m.hand.mono ex rfl⟩, ex⟩
theorem Slot.toD {p : Par} {G H : Hp} {a : Addr} {c : Cell} (x : Slot p G H (some (.ref a)) c) (ho : c.isOwn = true) : ∃ o, H a = some o ∧ Own p G a ∧ Rp p.K p.h (upd G a o) (.ref a) c.toD := by
  have ex : ∀ {o : HO}, Own p G a → Ex G (upd G a o) := fun {o} ow b u z => by rw [upd_ne (ne_of_none z ow.1)]; exact z
  cases c with
  | d x => cases ho
  | ol xs => obtain ⟨b, vs, h1, h2, h3, h4⟩ := x; cases h1; exact ⟨_, h3, h2, .lst upd_same (lmono h4 (ex h2))⟩
  | ok xs => obtain ⟨b, vs, h1, h2, h3, h4⟩ := x; cases h1; exact ⟨_, h3, h2, .dK (.inl upd_same) (RpK.mono (ex h2) _ _ h4)⟩
  | ot xs => obtain ⟨b, vs, h1, h2, h3, h4⟩ := x; cases h1; exact ⟨_, h3, h2, .dT (.inl upd_same) (RpT.mono (ex h2) _ _ h4)⟩
  | rw b o => obtain ⟨h1, h2, h3, _⟩ := x; cases h1; exact ⟨_, h3, h2, .raw _⟩
  | lk xs => obtain ⟨b, od, vs, h1, h2, h3, h4⟩ := x; cases h1; exact ⟨_, h3, h2, .dK (.inr ⟨od, upd_same⟩) (RpK.mono (ex h2) _ _ h4)⟩
  | lt xs => obtain ⟨b, od, vs, h1, h2, h3, h4⟩ := x; cases h1; exact ⟨_, h3, h2, .dT (.inr ⟨od, upd_same⟩) (RpT.mono (ex h2) _ _ h4)⟩
section
variable {p : Par} {ρ : Rho} {Q : D → Prop} {ta tb te : TE} {tt tu : TT}
theorem we_F (h : WF p ρ te fun c => Q c.toD) : WE p ρ te Q := fun G σ H hh Qv k =>
  h G σ H hh _ fun c a G1 H1 q ho s1 n x => by
    have m1 := (hh.step s1).mem
    -- told of the callee's own view: a is new to H
    obtain ⟨o, e, ow, r⟩ := x.toD ho
    have ow2 : Own ⟨p.K, p.h, H, G⟩ G1 a := ⟨ow.1, n, ow.2.2⟩
    exact k _ _ _ _ q (Mem.know s1 ow2 e).1 r
theorem wf_lst {Q : Cell → Prop} {ta : TA} (h : WA p ρ ta fun ds => ds.length ≤ 4000000 ∧ Q (.ol ds)) : WF p ρ (tLst ta) Q := fun G σ H hh Qv k =>
  h G σ H hh _ fun ds vs G1 H1 ⟨hl, q⟩ s1 r1 => ⟨sz (by rw [r1.length]; exact hl), fun a ha => by
    have m1 := (hh.step s1).mem
    exact k _ a _ _ q rfl (s1.trans (m1.growO ha)) (hh.mem.back s1 ha) ⟨a, vs, rfl, m1.fresh ha, upd_same, r1⟩⟩
theorem we_lst {ta : TA} (h : WA p ρ ta fun ds => ds.length ≤ 4000000 ∧ Q (.lst ds)) : WE p ρ (tLst ta) Q := we_F (wf_lst h)
theorem wf_dK {Q : Cell → Prop} (h : Q (.ok [])) : WF p ρ tDNewK Q := fun G σ H hh Qv k a ha => k _ a _ _ h rfl (hh.mem.growO ha) ha ⟨a, [], rfl, hh.mem.fresh ha, upd_same, .nil⟩
theorem wf_dT {Q : Cell → Prop} (h : Q (.ot [])) : WF p ρ tDNewT Q := fun G σ H hh Qv k a ha => k _ a _ _ h rfl (hh.mem.growO ha) ha ⟨a, [], rfl, hh.mem.fresh ha, upd_same, .nil⟩

/-! ### subscripts -/
theorem atI_rp {G : Hp} {vs : List V} {ds : List D} {i : Int} {d : D} (r : RpL p.K p.h G vs ds) (e : atI ds i = some d) : ∃ v, atI vs i = some v ∧ Rp p.K p.h G v d := by
  unfold atI at e ⊢
  rw [r.length]
  cases z : ixN ds.length i with
  | none => rw [z] at e; cases e
  | some j =>
    rw [z] at e
    obtain ⟨v, h1, h2⟩ := r.get (i := j) (d := d) e
    exact ⟨v, h1, h2⟩
theorem we_ixT (h : WE p ρ ta fun x => ∃ ds, x = .tup ds ∧ WE p ρ tb fun y => ∃ i d, y = .int i ∧ atI ds i = some d ∧ Q d) : WE p ρ (tOp (rIxT p.K) ta tb) Q :=
  we_op (h.imp fun x ⟨ds, e, h⟩ => h.imp fun y ⟨i, d, e2, c, q⟩ => fun G H v w m r1 r2 Qv k => by
    subst e e2
    obtain ⟨a, vs, ev, hs, hl⟩ := r1.tup_inv
    obtain ⟨u, h1, h2⟩ := atI_rp hl c
    exact ⟨a, vs, i, u, ev, rp_int r2, tq m.sub hs, h1, k _ _ G H q m.refl h2⟩)
theorem we_ixL (h : WE p ρ ta fun x => ∃ ds, x = .lst ds ∧ WE p ρ tb fun y => ∃ i d, y = .int i ∧ atI ds i = some d ∧ Q d) : WE p ρ (tOp (rIxL p.K) ta tb) Q :=
  we_op (h.imp fun x ⟨ds, e, h⟩ => h.imp fun y ⟨i, d, e2, c, q⟩ => fun G H v w m r1 r2 Qv k => by
    subst e e2
    obtain ⟨a, vs, ev, hs, hl⟩ := r1.lst_inv
    obtain ⟨u, h1, h2⟩ := atI_rp hl c
    exact ⟨a, vs, i, u, ev, rp_int r2, lq m.sub hs, h1, k _ _ G H q m.refl h2⟩)
/-- an item of a list that slot i owns -/
theorem we_ixO {i : Nat} {xs : List D} (e : ρ[i]? = some (some (.ol xs))) (h : WE p ρ tb fun y => ∃ i d, y = .int i ∧ atI xs i = some d ∧ Q d) : WE p ρ (tOp (rIxL p.K) (tVar i) tb) Q := fun G σ H hh Qv k => by
  obtain ⟨sv, h1, a, vs, h2, _, _, _⟩ := hh.slot i _ e
  subst h2
  refine ⟨.ref a, h1, h G σ H hh _ fun y w G1 H1 ⟨j, d, e2, c, q⟩ s1 r1 => ?_⟩
  obtain ⟨sv', h1', a', vs', h2', h3, h4, h5⟩ := (hh.step s1).slot i _ e
  subst h2'
  rw [h1] at h1'
  cases h1'
  subst e2
  obtain ⟨u, g1, g2⟩ := atI_rp h5 c
  exact ⟨a, vs', j, u, rfl, rp_int r1, sq_of h4, g1, k _ _ G1 H1 q s1 g2⟩
/-! ### len -/
theorem call_len_rc {xs : List D} (h : ∃ ds, (xs = [.lst ds] ∨ xs = [.tup ds]) ∧ Q (.int ds.length)) : RC p (fun xs H Q => ∃ q ys, xs = [.ref q] ∧ (SqL p.K H q ys ∨ SqT p.K H q ys) ∧ Q (.int ys.length) H) xs Q := fun G H vs m r Qv k => by
  obtain ⟨ds, e | e, q⟩ := h
  · subst e
    cases r with
    | cons r rn =>
      cases rn
      obtain ⟨a, us, ev, hs, hl⟩ := r.lst_inv
      subst ev
      refine ⟨a, us, rfl, .inl (lq m.sub hs), k _ _ G H q m.refl ?_⟩
      rw [hl.length]; exact .int _
  · subst e
    cases r with
    | cons r rn =>
      cases rn
      obtain ⟨a, us, ev, hs, hl⟩ := r.tup_inv
      subst ev
      refine ⟨a, us, rfl, .inr (tq m.sub hs), k _ _ G H q m.refl ?_⟩
      rw [hl.length]; exact .int _
theorem we_len (h : WE p ρ te fun x => ∃ ds, (x = .lst ds ∨ x = .tup ds) ∧ Q (.int ds.length)) : WE p ρ (tCB (fun xs H Q => ∃ q ys, xs = [.ref q] ∧ (SqL p.K H q ys ∨ SqT p.K H q ys) ∧ Q (.int ys.length) H) (tCons te tNil)) Q :=
  we_cb (wa_cons (h.imp fun x ⟨ds, e, q⟩ => wa_nil (call_len_rc ⟨ds, by rcases e with e | e; exact .inl (by rw [e]); exact .inr (by rw [e]), q⟩)))
theorem we_lenO {i : Nat} {xs : List D} (e : ρ[i]? = some (some (.ol xs))) (q : Q (.int xs.length)) : WE p ρ (tCB (fun xs H Q => ∃ q ys, xs = [.ref q] ∧ (SqL p.K H q ys ∨ SqT p.K H q ys) ∧ Q (.int ys.length) H) (tCons (tVar i) tNil)) Q := fun G σ H hh Qv k => by
  obtain ⟨sv, h1, a, vs, h2, _, h4, h5⟩ := hh.slot i _ e
  subst h2
  refine ⟨.ref a, h1, a, vs, rfl, .inl (sq_of h4), ?_⟩
  rw [h5.length]
  exact k _ _ G H q hh.mem.refl (.int _)
/-! ### calls of built-ins of ints -/
theorem we_int1 (h : WE p ρ te fun x => ∃ i, x = .int i ∧ Q (.int i)) : WE p ρ (tCB (fun xs H Q => (∃ i, xs = [V.int i] ∧ Q (.int i) H) ∨ ∃ k, xs = [V.bl k] ∧ Q (.int (if k then 1 else 0)) H) (tCons te tNil)) Q :=
  we_cb (wa_cons (h.imp fun x ⟨i, e, q⟩ => wa_nil fun G H vs m r Qv k => by
    subst e
    cases r with
    | cons r rn => cases rn; cases r; exact .inl ⟨i, rfl, k _ _ G H q m.refl (.int _)⟩))
def absI (i : Int) : Int := if i < 0 then -i else i
def maxI (i j : Int) : Int := if j > i then j else i
def minI (i j : Int) : Int := if j < i then j else i
theorem absI_nn (i : Int) : 0 ≤ absI i := by unfold absI; split <;> omega
theorem absI_eq (i : Int) : absI i = (i.natAbs : Int) := by unfold absI; split <;> omega
theorem we_abs (h : WE p ρ te fun x => ∃ i, x = .int i ∧ Q (.int (absI i))) : WE p ρ (tCB (fun xs H Q => ∃ i, xs = [V.int i] ∧ Q (.int (if i < 0 then -i else i)) H) (tCons te tNil)) Q :=
  we_cb (wa_cons (h.imp fun x ⟨i, e, q⟩ => wa_nil fun G H vs m r Qv k => by
    subst e
    cases r with
    | cons r rn => cases rn; cases r; exact ⟨i, rfl, k _ _ G H q m.refl (.int _)⟩))
theorem we_max2 (h : WE p ρ ta fun x => ∃ i, x = .int i ∧ WE p ρ tb fun y => ∃ j, y = .int j ∧ Q (.int (maxI i j))) : WE p ρ (tCB (fun xs H Q => ∃ i j, xs = [V.int i, V.int j] ∧ Q (.int (if j > i then j else i)) H) (tCons ta (tCons tb tNil))) Q :=
  we_cb (wa_cons (h.imp fun x ⟨i, e, h⟩ => wa_cons (h.imp fun y ⟨j, e2, q⟩ => wa_nil fun G H vs m r Qv k => by
    subst e e2
    cases r with
    | cons r rn => cases rn with | cons r2 rn => cases rn; cases r; cases r2; exact ⟨i, j, rfl, k _ _ G H q m.refl (.int _)⟩)))
theorem we_min2 (h : WE p ρ ta fun x => ∃ i, x = .int i ∧ WE p ρ tb fun y => ∃ j, y = .int j ∧ Q (.int (minI i j))) : WE p ρ (tCB (fun xs H Q => ∃ i j, xs = [V.int i, V.int j] ∧ Q (.int (if j < i then j else i)) H) (tCons ta (tCons tb tNil))) Q :=
  we_cb (wa_cons (h.imp fun x ⟨i, e, h⟩ => wa_cons (h.imp fun y ⟨j, e2, q⟩ => wa_nil fun G H vs m r Qv k => by
    subst e e2
    cases r with
    | cons r rn => cases rn with | cons r2 rn => cases rn; cases r; cases r2; exact ⟨i, j, rfl, k _ _ G H q m.refl (.int _)⟩)))
theorem we_gcd (h : WE p ρ ta fun x => ∃ i, x = .int i ∧ WE p ρ tb fun y => ∃ j, y = .int j ∧ Q (.int ((Nat.gcd i.natAbs j.natAbs : Nat) : Int))) : WE p ρ (tCB rGcd (tCons ta (tCons tb tNil))) Q :=
  we_cb (wa_cons (h.imp fun x ⟨i, e, h⟩ => wa_cons (h.imp fun y ⟨j, e2, q⟩ => wa_nil fun G H vs m r Qv k => by
    subst e e2
    cases r with
    | cons r rn => cases rn with | cons r2 rn => cases rn; cases r; cases r2; exact ⟨i, j, rfl, k _ _ G H q m.refl (.int _)⟩)))
/-- == and != of scalars -/
def D.sc : D → Bool
  | .non => true | .bl _ => true | .int _ => true | .str _ => true | _ => false
theorem we_eqI (h : WE p ρ ta fun x => ∃ i, x = .int i ∧ WE p ρ tb fun y => ∃ j, y = .int j ∧ Q (.bl (decide (i = j)))) : WE p ρ (tOp rEq ta tb) Q :=
  we_op (h.imp fun x ⟨i, e, h⟩ => h.imp fun y ⟨j, e2, q⟩ => fun G H v w m r1 r2 Qv k => by
    subst e e2
    rw [rp_int r1, rp_int r2]
    refine ⟨rfl, ?_⟩
    have z : decide (V.int i = V.int j) = decide (i = j) := by
      by_cases e : i = j
      · subst e; simp
      · rw [decide_eq_false e, decide_eq_false fun q => e (V.int.inj q)]
    rw [z]
    exact k _ _ G H q m.refl (.bl _))
theorem we_neI (h : WE p ρ ta fun x => ∃ i, x = .int i ∧ WE p ρ tb fun y => ∃ j, y = .int j ∧ Q (.bl (!decide (i = j)))) : WE p ρ (tOp rNe ta tb) Q :=
  we_op (h.imp fun x ⟨i, e, h⟩ => h.imp fun y ⟨j, e2, q⟩ => fun G H v w m r1 r2 Qv k => by
    subst e e2
    rw [rp_int r1, rp_int r2]
    refine ⟨rfl, ?_⟩
    have z : decide (V.int i = V.int j) = decide (i = j) := by
      by_cases e : i = j
      · subst e; simp
      · rw [decide_eq_false e, decide_eq_false fun q => e (V.int.inj q)]
    rw [z]
    exact k _ _ G H q m.refl (.bl _))
end

theorem Ex.rfl' {G : Hp} : Ex G G := fun _ _ e => e
theorem ex_tr {A B C : Hp} (a : Ex A B) (b : Ex B C) : Ex A C := fun x o e => b x o (a x o e)

/-! ### statements -/
section
variable {p : Par} {ρ : Rho} {Q : D → Prop} {ta tb te td ty : TE} {tt tu : TT} {P : Post} {ts tv : TS}
theorem ws_next (h : P.n ρ) : WS p ρ tNext P := fun G σ H hh E kn kr kb kc => kn ρ G σ H h Ex.rfl' hh
theorem ws_break (h : P.b ρ) : WS p ρ tBreak P := fun G σ H hh E kn kr kb kc => kb ρ G σ H h Ex.rfl' hh
theorem ws_cont (h : P.c ρ) : WS p ρ tCont P := fun G σ H hh E kn kr kb kc => kc ρ G σ H h Ex.rfl' hh
theorem ws_never (h : False) : WS p ρ ts P := h.elim
theorem ws_seq (h : WS p ρ ts { P with n := fun ρ' => WS p ρ' tv P }) : WS p ρ (tSeq ts tv) P := fun G σ H hh E kn kr kb kc =>
  h G σ H hh { E with nx := tv E } (fun ρ' G' σ' H' z e hh' => z G' σ' H' hh' E (fun ρ2 G2 σ2 H2 z2 e2 => kn ρ2 G2 σ2 H2 z2 (ex_tr e e2)) kr (fun ρ2 G2 σ2 H2 z2 e2 => kb ρ2 G2 σ2 H2 z2 (ex_tr e e2)) (fun ρ2 G2 σ2 H2 z2 e2 => kc ρ2 G2 σ2 H2 z2 (ex_tr e e2))) kr kb kc
theorem ws_drop (h : WE p ρ te fun _ => P.n ρ) : WS p ρ (tDrop te) P := fun G σ H hh E kn kr kb kc => h G σ H hh _ fun d v G' H' z s r => kn ρ G' σ H' z s.ex (hh.step s)
theorem ws_ret (h : WE p ρ te P.r) : WS p ρ (tRet te) P := fun G σ H hh E kn kr kb kc => h G σ H hh _ fun d v G' H' z s r => kr d v G' H' z (hh.step s).mem r
theorem ws_retN (h : P.r .non) : WS p ρ tRetN P := fun G σ H hh E kn kr kb kc => kr .non .non G H h hh.mem .non
theorem ws_if (h : WT p ρ tt fun b => if b = true then WS p ρ ts P else WS p ρ tv P) : WS p ρ (tIfS tt ts tv) P := fun G σ H hh E kn kr kb kc =>
  h G σ H hh _ fun b G1 H1 q s1 => by
    cases b with
    | true =>
      rw [if_pos rfl] at q ⊢
      exact q G1 σ H1 (hh.step s1) E (fun ρ2 G2 σ2 H2 z2 e2 => kn ρ2 G2 σ2 H2 z2 (ex_tr s1.ex e2)) kr (fun ρ2 G2 σ2 H2 z2 e2 => kb ρ2 G2 σ2 H2 z2 (ex_tr s1.ex e2)) (fun ρ2 G2 σ2 H2 z2 e2 => kc ρ2 G2 σ2 H2 z2 (ex_tr s1.ex e2))
    | false =>
      rw [if_neg (by decide)] at q ⊢
      exact q G1 σ H1 (hh.step s1) E (fun ρ2 G2 σ2 H2 z2 e2 => kn ρ2 G2 σ2 H2 z2 (ex_tr s1.ex e2)) kr (fun ρ2 G2 σ2 H2 z2 e2 => kb ρ2 G2 σ2 H2 z2 (ex_tr s1.ex e2)) (fun ρ2 G2 σ2 H2 z2 e2 => kc ρ2 G2 σ2 H2 z2 (ex_tr s1.ex e2))
/-! ### targets -/
theorem wg_name {i : Nat} {x : D} {N : Rho → Prop} (h : N (ρ.set i (some (.d x)))) : WG p ρ (gName i) x N := fun G σ H v hh r Qs k => k _ G _ H h Ex.rfl' (hh.setD r)
theorem wgs_nil {xs : List D} {N : Rho → Prop} (h : xs = [] ∧ N ρ) : WGs p ρ gNil xs N := fun G σ H vs hh r Qs k => by
  obtain ⟨e, h⟩ := h
  subst e
  cases r
  exact ⟨rfl, k _ G σ H h Ex.rfl' hh⟩
theorem wgs_cons {g : TG} {gs : TGs} {xs : List D} {N : Rho → Prop} (h : ∃ x r, xs = x :: r ∧ WG p ρ g x fun ρ' => WGs p ρ' gs r N) : WGs p ρ (gCons g gs) xs N := fun G σ H vs hh r Qs k => by
  obtain ⟨x, xr, e, h⟩ := h
  subst e
  cases r with
  | @cons v vs _ _ a b =>
    exact ⟨v, vs, rfl, h G σ H v hh a _ fun ρ1 G1 σ1 H1 z e1 hh1 => z G1 σ1 H1 vs hh1 (lmono b e1) Qs fun ρ2 G2 σ2 H2 z2 e2 => k ρ2 G2 σ2 H2 z2 (ex_tr e1 e2)⟩
theorem wg_tup {n : Nat} {gs : TGs} {x : D} {N : Rho → Prop} (h : ∃ xs, x = .tup xs ∧ xs.length = n ∧ WGs p ρ gs xs N) : WG p ρ (gTup p.K n gs) x N := fun G σ H v hh r Qs k => by
  obtain ⟨xs, e, hl, h⟩ := h
  subst e
  obtain ⟨a, vs, ev, hs, hr⟩ := r.tup_inv
  exact ⟨a, vs, ev, tq hh.mem.sub hs, by rw [hr.length]; exact hl, h G σ H vs hh hr Qs k⟩
theorem ws_asgG {g : TG} (h : WE p ρ te fun x => WG p ρ g x P.n) : WS p ρ (tAsg te g) P := fun G σ H hh E kn kr kb kc =>
  h G σ H hh _ fun d v G' H' z s r => z G' σ H' v (hh.step s) r E.nx fun ρ2 G2 σ2 H2 z2 e2 => kn ρ2 G2 σ2 H2 z2 (ex_tr s.ex e2)
theorem ws_asg {i : Nat} (h : WE p ρ te fun x => P.n (ρ.set i (some (.d x)))) : WS p ρ (tAsg te (gName i)) P := ws_asgG (h.imp fun _ z => wg_name z)
/-- a new list, a new dict, from now on the slot's own -/
theorem ws_asgF {i : Nat} (h : WF p ρ te fun c => P.n (ρ.set i (some c))) : WS p ρ (tAsg te (gName i)) P := fun G σ H hh E kn kr kb kc =>
  h G σ H hh _ fun c a G' H' z ho s n x => kn _ G' _ H' z s.ex (hh.setNew s n x)
/-- x = y, both names of one object that y owned: x owns it from now on, y is forgotten -/
theorem ws_move {i j : Nat} {c : Cell} (e : ρ[j]? = some (some c)) (ho : c.isOwn = true) (h : P.n ((ρ.set j none).set i (some c))) : WS p ρ (tAsg (tVar j) (gName i)) P := fun G σ H hh E kn kr kb kc => by
  obtain ⟨sv, h1, h2⟩ := hh.slot j _ e
  obtain ⟨a, u, h3, h4, h5⟩ := Cell.own_ref h2 ho
  subst h3
  refine ⟨.ref a, h1, kn _ G _ H h Ex.rfl' ((hh.drop j).setO h2 fun m c' em o q => ?_)⟩
  by_cases hm : j = m
  · subst hm
    rw [List.getElem?_set_self (List.getElem?_eq_some_iff.mp e).1] at em
    cases em
  · rw [List.getElem?_set_ne hm] at em
    exact absurd (hh.sep j m c c' a e ho em o h1 q) hm
/-- what slot i owns is from now on plain data -/
theorem ws_freeze (i : Nat) {c : Cell} (e : ρ[i]? = some (some c)) (ho : c.isOwn = true) (h : WS p (ρ.set i (some (.d c.toD))) ts P) : WS p ρ ts P := fun G σ H hh E kn kr kb kc => by
  obtain ⟨sv, h1, h2⟩ := hh.slot i _ e
  obtain ⟨a, u, h3, _, _⟩ := Cell.own_ref h2 ho
  subst h3
  obtain ⟨o, ha, ow, r⟩ := h2.toD ho
  obtain ⟨hh2, ex⟩ := hh.freeze e ho h1 ow ha r
  exact h _ σ H hh2 E (fun ρ2 G2 σ2 H2 z2 e2 => kn ρ2 G2 σ2 H2 z2 (ex_tr ex e2)) kr (fun ρ2 G2 σ2 H2 z2 e2 => kb ρ2 G2 σ2 H2 z2 (ex_tr ex e2)) (fun ρ2 G2 σ2 H2 z2 e2 => kc ρ2 G2 σ2 H2 z2 (ex_tr ex e2))
theorem we_freeze (i : Nat) {c : Cell} (e : ρ[i]? = some (some c)) (ho : c.isOwn = true) (h : WS p (ρ.set i (some (.d c.toD))) (tRet te) P) : WS p ρ (tRet te) P := ws_freeze i e ho h
theorem ws_drop1 (i : Nat) (h : WS p (ρ.set i none) ts P) : WS p ρ ts P := fun G σ H hh => h G σ H (hh.drop i)
theorem ws_par {i j : Nat} {ta : TA} (h : WA p ρ ta fun ds => ∃ x y, ds = [x, y] ∧ P.n ((ρ.set i (some (.d x))).set j (some (.d y)))) : WS p ρ (tPar i j ta) P := fun G σ H hh E kn kr kb kc =>
  h G σ H hh _ fun ds vs G' H' ⟨x, y, e, z⟩ s r => by
    subst e
    cases r with
    | @cons v _ _ _ r1 rn => cases rn with | @cons w _ _ _ r2 rn => cases rn; exact ⟨v, w, rfl, kn _ G' _ H' z s.ex (((hh.step s).setD r1).setD r2)⟩
theorem ws_aug {i : Nat} {f : Int → Int → Int} {a : Int} (e : ρ[i]? = some (some (.d (.int a)))) (h : WE p ρ te fun y => ∃ b, y = .int b ∧ P.n (ρ.set i (some (.d (.int (f a b)))))) : WS p ρ (tAug i te (ipI f)) P := fun G σ H hh E kn kr kb kc => by
  obtain ⟨sv, h1, v, h2, r⟩ := hh.slot i _ e
  subst h2
  cases r
  exact ⟨_, h1, h G σ H hh _ fun d w G' H' ⟨b, eb, z⟩ s r => by
    subst eb
    exact ⟨a, b, rfl, rp_int r, kn _ G' _ H' z s.ex ((hh.step s).setD (.int _))⟩⟩
/-- xs.append(e), xs slot i's own -/
theorem ws_append {i : Nat} {xs : List D} (e : ρ[i]? = some (some (.ol xs))) (hl : xs.length < 4000000) (h : WE p ρ te fun x => P.n (ρ.set i (some (.ol (xs ++ [x]))))) : WS p ρ (tDrop (tBM p.K "list" rAppend (tVar i) (tCons te tNil))) P := fun G σ H hh E kn kr kb kc => by
  obtain ⟨sv, h1, a, vs, h2, ow, h4, h5⟩ := hh.slot i _ e
  subst h2
  refine ⟨.ref a, h1, Or.inl ⟨rfl, vs, sq_of h4⟩, h G σ H hh _ fun d w G' H' z s r => ?_⟩
  obtain ⟨sv', h1', a', vs', h2', ow', h4', h5'⟩ := (hh.step s).slot i _ e
  subst h2'
  rw [h1] at h1'
  cases h1'
  have hz := h5'.length
  exact ⟨a, vs', w, rfl, rfl, h4', by rw [sizeLine_eq]; omega, kn _ G' σ _ z s.ex ((hh.step s).write e rfl h1 ow' ⟨a, _, rfl, ow', upd_same, h5'.append (.cons r .nil)⟩)⟩

/-! ### dicts that a slot owns -/
/-- a key as data -/
def kD : Key → D
  | .inl i => .int i
  | .inr x => .str x
theorem kD_rp {G : Hp} {v : V} : ∀ {k : Key}, Rp p.K p.h G v (kD k) → v = kV k
  | .inl i, r => by cases r; rfl
  | .inr x, r => by cases r; rfl
theorem rp_kD {G : Hp} : ∀ {k : Key}, Rp p.K p.h G (kV k) (kD k)
  | .inl i => .int i
  | .inr x => .str x
/-- d[k] = e -/
theorem ws_dput {i : Nat} {kvs : List (Key × D)} (e : ρ[i]? = some (some (.ok kvs))) (hl : kvs.length < 4000000) (h : WE p ρ te fun x => WE p ρ ty fun y => ∃ k, y = kD k ∧ P.n (ρ.set i (some (.ok (dPut kvs k x))))) : WS p ρ (sDPut (tVar i) ty te) P := fun G σ H hh E kn kr kb kc =>
  h G σ H hh _ fun x v G1 H1 q1 s1 r1 => by
    obtain ⟨sv, h1, a, vs, h2, ow, h4, h5⟩ := (hh.step s1).slot i _ e
    subst h2
    refine ⟨.ref a, h1, q1 G1 σ H1 (hh.step s1) _ fun y w G2 H2 ⟨k, ek, z⟩ s2 r2 => ?_⟩
    subst ek
    have hh2 := (hh.step s1).step s2
    obtain ⟨sv', h1', a', vs', h2', ow', h4', h5'⟩ := hh2.slot i _ e
    subst h2'
    rw [h1] at h1'
    cases h1'
    have hz := h5'.length
    refine ⟨a, _, rfl, .inl ⟨vs', k, h4', kD_rp r2, by rw [sizeLine_eq]; omega, rfl⟩, kn _ G2 σ _ z (ex_tr s1.ex s2.ex) (hh2.write e rfl h1 ow' ⟨a, _, rfl, ow', upd_same, h5'.put k (rmono r1 s2.ex)⟩)⟩
theorem dget_own {i : Nat} {kvs : List (Key × D)} {G : Hp} {σ : L2.St} {H : Hp} (hh : Hold p ρ G σ H) (e : ρ[i]? = some (some (.ok kvs))) : ∃ a vs, σ[i]? = some (some (.ref a)) ∧ H a = some (.dK vs) ∧ RpK p.K p.h G vs kvs := by
  obtain ⟨sv, h1, a, vs, h2, ow, h4, h5⟩ := hh.slot i _ e
  subst h2
  exact ⟨a, vs, h1, h4, h5⟩
/-- d[k], there -/
theorem we_dget {i : Nat} {kvs : List (Key × D)} (e : ρ[i]? = some (some (.ok kvs))) (h : WE p ρ ty fun y => ∃ k x, y = kD k ∧ dGet kvs k = some x ∧ Q x) : WE p ρ (tDGet (tVar i) ty) Q := fun G σ H hh Qv kk => by
  obtain ⟨a, vs, h1, _, _⟩ := dget_own hh e
  refine ⟨.ref a, h1, h G σ H hh _ fun y w G1 H1 ⟨k, x, ey, ex, q⟩ s1 r1 => ?_⟩
  subst ey
  obtain ⟨a', vs', h1', h2', h3'⟩ := dget_own (hh.step s1) e
  rw [h1] at h1'
  cases h1'
  rcases h3'.find k with ⟨_, z⟩ | ⟨v, d, z1, z2, z3⟩
  · rw [ex] at z; cases z
  · rw [ex] at z2; cases z2
    exact ⟨a, v, rfl, .inl ⟨vs', k, .inl h2', kD_rp r1, z1.symm⟩, kk _ _ G1 H1 q s1 z3⟩
/-- k in d, k not in d -/
theorem we_din {i : Nat} {kvs : List (Key × D)} (e : ρ[i]? = some (some (.ok kvs))) (h : WE p ρ ty fun y => ∃ k, y = kD k ∧ Q (.bl (dGet kvs k).isSome)) : WE p ρ (tDIn ty (tVar i)) Q := fun G σ H hh Qv kk =>
  h G σ H hh _ fun y w G1 H1 ⟨k, ey, q⟩ s1 r1 => by
    subst ey
    obtain ⟨a, vs, h1, h2, h3⟩ := dget_own (hh.step s1) e
    refine ⟨.ref a, h1, a, valV vs k, rfl, .inl ⟨vs, k, .inl h2, kD_rp r1, rfl⟩, ?_⟩
    have z : (valV vs k).isSome = (dGet kvs k).isSome := by
      rcases h3.find k with ⟨z1, z2⟩ | ⟨v, d, z1, z2, _⟩ <;> rw [z1, z2] <;> rfl
    rw [z]
    exact kk _ _ G1 H1 q s1 (.bl _)
theorem we_dnotin {i : Nat} {kvs : List (Key × D)} (e : ρ[i]? = some (some (.ok kvs))) (h : WE p ρ ty fun y => ∃ k, y = kD k ∧ Q (.bl (!(dGet kvs k).isSome))) : WE p ρ (tDNotIn ty (tVar i)) Q := fun G σ H hh Qv kk =>
  h G σ H hh _ fun y w G1 H1 ⟨k, ey, q⟩ s1 r1 => by
    subst ey
    obtain ⟨a, vs, h1, h2, h3⟩ := dget_own (hh.step s1) e
    refine ⟨.ref a, h1, a, valV vs k, rfl, .inl ⟨vs, k, .inl h2, kD_rp r1, rfl⟩, ?_⟩
    have z : (valV vs k).isSome = (dGet kvs k).isSome := by
      rcases h3.find k with ⟨z1, z2⟩ | ⟨v, d, z1, z2, _⟩ <;> rw [z1, z2] <;> rfl
    rw [z]
    exact kk _ _ G1 H1 q s1 (.bl _)
/-- d.get(k, x) -/
theorem we_dget2 {i : Nat} {kvs : List (Key × D)} {tx : TE} (e : ρ[i]? = some (some (.ok kvs))) (h : WE p ρ ty fun y => ∃ k, y = kD k ∧ WE p ρ tx fun x => Q ((dGet kvs k).getD x)) : WE p ρ (tDGet2 (tVar i) ty tx) Q := fun G σ H hh Qv kk => by
  obtain ⟨a, vs, h1, h2, h3⟩ := dget_own hh e
  refine ⟨.ref a, h1, a, rfl, .inl ⟨vs, .inl h2⟩, h G σ H hh _ fun y w G1 H1 ⟨k, ey, q⟩ s1 r1 => q G1 σ H1 (hh.step s1) _ fun x u G2 H2 q2 s2 r2 => ?_⟩
  subst ey
  obtain ⟨a', vs', h1', h2', h3'⟩ := dget_own ((hh.step s1).step s2) e
  rw [h1] at h1'
  cases h1'
  refine ⟨valV vs' k, .inl ⟨vs', k, .inl h2', kD_rp r1, rfl⟩, ?_⟩
  rcases h3'.find k with ⟨z1, z2⟩ | ⟨v, d, z1, z2, z3⟩
  · rw [z1]; rw [z2] at q2; exact kk _ _ G2 H2 q2 (s1.trans s2) r2
  · rw [z1]; rw [z2] at q2; exact kk _ _ G2 H2 q2 (s1.trans s2) z3

/-! ### loops -/
theorem ws_while (I : Nat → Rho → Prop) (m0 : Nat) (h0 : I m0 ρ)
    (hs : ∀ m ρ', I m ρ' → WT p ρ' tt fun b => if b = true then WS p ρ' ts ⟨fun ρ2 => ∃ m', m' < m ∧ I m' ρ2, P.r, P.n, fun ρ2 => ∃ m', m' < m ∧ I m' ρ2⟩ else P.n ρ') : WS p ρ (tWhile tt ts) P := fun G σ H hh E kn kr kb kc => by
  refine ⟨fun m σ' H' => ∃ ρ' G', I m ρ' ∧ Ex G G' ∧ Hold p ρ' G' σ' H', ⟨m0, ρ, G, h0, Ex.rfl', hh⟩, ?_⟩
  rintro m σ' H' ⟨ρ', G', hi, e, hh'⟩
  refine hs m ρ' hi G' σ' H' hh' _ fun b G1 H1 q s1 => ?_
  cases b with
  | false =>
    rw [if_neg (by decide)] at q ⊢
    exact kn ρ' G1 σ' H1 q (ex_tr e s1.ex) (hh'.step s1)
  | true =>
    rw [if_pos rfl] at q ⊢
    refine ⟨fun σ2 H2 => ∃ m', m' < m ∧ ∃ ρ2 G2, I m' ρ2 ∧ Ex G G2 ∧ Hold p ρ2 G2 σ2 H2, fun σ2 H2 ⟨m', l, z⟩ => ⟨m', l, z⟩, ?_⟩
    exact q G1 σ' H1 (hh'.step s1) _ (fun ρ2 G2 σ2 H2 ⟨m', l, z⟩ e2 hh2 => ⟨m', l, ρ2, G2, z, ex_tr (ex_tr e s1.ex) e2, hh2⟩) kr (fun ρ2 G2 σ2 H2 z e2 hh2 => kn ρ2 G2 σ2 H2 z (ex_tr (ex_tr e s1.ex) e2) hh2)
      (fun ρ2 G2 σ2 H2 ⟨m', l, z⟩ e2 hh2 => ⟨m', l, ρ2, G2, z, ex_tr (ex_tr e s1.ex) e2, hh2⟩)
/-- for over a range: the item is lo + k -/
theorem for_rng {g : TG} {lo : Int} {n : Nat} {G : Hp} {σ : L2.St} {H : Hp} {E : Ends} (I : Nat → Rho → Prop) (h0 : I 0 ρ) (hh : Hold p ρ G σ H)
    (hs : ∀ k ρ', k < n → I k ρ' → WG p ρ' g (.int (lo + (k : Int))) fun ρ2 => WS p ρ2 ts ⟨I (k + 1), P.r, P.n, I (k + 1)⟩) (hd : ∀ ρ', I n ρ' → P.n ρ')
    (kn : ∀ ρ' G' σ' H', P.n ρ' → Ex G G' → Hold p ρ' G' σ' H' → E.nx σ' H') (kr : ∀ d v G' H', P.r d → Mem p G' H' → Rp p.K p.h G' v d → E.rt v H') :
    ∃ W : Nat → Nat → L2.St → Hp → Prop, (∃ m, W 0 m σ H) ∧ ∀ i m σ H, W i m σ H →
      ((Itr lo n).stop i H ∧ E.nx σ H) ∨ ((Itr lo n).go i H ∧ ∃ N : L2.St → Hp → Prop, (∀ σ' H', N σ' H' → ∃ m', m' < m ∧ W (i + 1) m' σ' H') ∧ ∀ x H', (Itr lo n).yld i H x H' → g x σ H' fun σ2 H2 => ts { E with nx := N, ct := N, bk := E.nx } σ2 H2) :=
  for_range (lo := lo) (n := n) (fun k σ' H' => ∃ ρ' G', I k ρ' ∧ Ex G G' ∧ Hold p ρ' G' σ' H') ⟨ρ, G, h0, Ex.rfl', hh⟩ (fun k σ' H' hk ⟨ρ', G', hi, e, hh'⟩ =>
    hs k ρ' hk hi G' σ' H' _ hh' (.int _) _ fun ρ2 G2 σ2 H2 z e2 hh2 => z G2 σ2 H2 hh2 _ (fun ρ3 G3 σ3 H3 z3 e3 hh3 => ⟨ρ3, G3, z3, ex_tr (ex_tr e e2) e3, hh3⟩) kr (fun ρ3 G3 σ3 H3 z3 e3 hh3 => kn ρ3 G3 σ3 H3 z3 (ex_tr (ex_tr e e2) e3) hh3)
      (fun ρ3 G3 σ3 H3 z3 e3 hh3 => ⟨ρ3, G3, z3, ex_tr (ex_tr e e2) e3, hh3⟩)) fun σ' H' ⟨ρ', G', hi, e, hh'⟩ => kn ρ' G' σ' H' (hd ρ' hi) e hh'
theorem ws_for1 {g : TG} {ta : TA} (h : WA p ρ ta fun ds => ∃ n : Int, ds = [.int n] ∧ n < 2 ^ 62 ∧ -(2 ^ 62) ≤ n ∧ ∃ I : Nat → Rho → Prop, I 0 ρ ∧
    (∀ k ρ', k < n.toNat → I k ρ' → WG p ρ' g (.int (k : Int)) fun ρ2 => WS p ρ2 ts ⟨I (k + 1), P.r, P.n, I (k + 1)⟩) ∧ ∀ ρ', I n.toNat ρ' → P.n ρ') : WS p ρ (tFor (iRng1 ta) g ts) P := fun G σ H hh E kn kr kb kc =>
  h G σ H hh _ fun ds vs G' H' ⟨n, e, l1, l2, I, h0, hs, hd⟩ s r => by
    subst e
    cases r with
    | cons r rn =>
      cases rn; cases r
      refine ⟨n, rfl, l2, l1, for_rng (P := P) I h0 (hh.step s) (fun k ρ' hk hi => ?_) hd (fun ρ2 G2 σ2 H2 z2 e2 => kn ρ2 G2 σ2 H2 z2 (ex_tr s.ex e2)) kr⟩
      rw [Int.zero_add]
      exact hs k ρ' hk hi
theorem ws_for2 {g : TG} {ta : TA} (h : WA p ρ ta fun ds => ∃ lo n : Int, ds = [.int lo, .int n] ∧ (-(2 ^ 62) ≤ lo ∧ lo < 2 ^ 62 ∧ -(2 ^ 62) ≤ n ∧ n < 2 ^ 62) ∧ ∃ I : Nat → Rho → Prop, I 0 ρ ∧
    (∀ k ρ', k < (n - lo).toNat → I k ρ' → WG p ρ' g (.int (lo + (k : Int))) fun ρ2 => WS p ρ2 ts ⟨I (k + 1), P.r, P.n, I (k + 1)⟩) ∧ ∀ ρ', I (n - lo).toNat ρ' → P.n ρ') : WS p ρ (tFor (iRng2 ta) g ts) P := fun G σ H hh E kn kr kb kc =>
  h G σ H hh _ fun ds vs G' H' ⟨lo, n, e, l, I, h0, hs, hd⟩ s r => by
    subst e
    cases r with
    | cons r rn =>
      cases rn with
      | cons r2 rn =>
        cases rn; cases r; cases r2
        exact ⟨lo, n, rfl, l, for_rng (P := P) I h0 (hh.step s) hs hd (fun ρ2 G2 σ2 H2 z2 e2 => kn ρ2 G2 σ2 H2 z2 (ex_tr s.ex e2)) kr⟩
theorem ws_forL {g : TG} (h : WE p ρ te fun x => ∃ xs, x = .lst xs ∧ ∃ I : Nat → Rho → Prop, I 0 ρ ∧
    (∀ k x ρ', xs[k]? = some x → I k ρ' → WG p ρ' g x fun ρ2 => WS p ρ2 ts ⟨I (k + 1), P.r, P.n, I (k + 1)⟩) ∧ ∀ ρ', I xs.length ρ' → P.n ρ') : WS p ρ (tFor (iList p.K te) g ts) P := fun G σ H hh E kn kr kb kc =>
  h G σ H hh _ fun x v G0 H0 ⟨xs, e, I, h0, hs, hd⟩ s r => by
    subst e
    obtain ⟨a, vs, ev, hq, hl⟩ := r.lst_inv
    have hh0 := hh.step s
    refine ⟨a, ev, ⟨vs, lq hh0.mem.sub hq⟩, for_list (xs := vs) (fun k σ' H' => ∃ ρ' G', I k ρ' ∧ Ex G0 G' ∧ Hold p ρ' G' σ' H') ⟨ρ, G0, h0, Ex.rfl', hh0⟩ (fun k σ' H' _ ⟨ρ', G', hi, e, hh'⟩ => lq hh'.mem.sub (e _ _ hq)) (fun k x σ' H' hk ⟨ρ', G', hi, e, hh'⟩ => ?_)
      fun σ' H' ⟨ρ', G', hi, e, hh'⟩ => kn ρ' G' σ' H' (hd ρ' (by rw [← hl.length]; exact hi)) (ex_tr s.ex e) hh'⟩
    obtain ⟨d, hd1, hd2⟩ := hl.get' hk
    exact hs k d ρ' hd1 hi G' σ' H' _ hh' (rmono hd2 e) _ fun ρ2 G2 σ2 H2 z e2 hh2 => z G2 σ2 H2 hh2 _ (fun ρ3 G3 σ3 H3 z3 e3 hh3 => ⟨ρ3, G3, z3, ex_tr (ex_tr e e2) e3, hh3⟩) kr (fun ρ3 G3 σ3 H3 z3 e3 hh3 => kn ρ3 G3 σ3 H3 z3 (ex_tr s.ex (ex_tr (ex_tr e e2) e3)) hh3)
      (fun ρ3 G3 σ3 H3 z3 e3 hh3 => ⟨ρ3, G3, z3, ex_tr (ex_tr e e2) e3, hh3⟩)
theorem ws_forT {g : TG} (h : WE p ρ te fun x => ∃ xs, x = .tup xs ∧ ∃ I : Nat → Rho → Prop, I 0 ρ ∧
    (∀ k x ρ', xs[k]? = some x → I k ρ' → WG p ρ' g x fun ρ2 => WS p ρ2 ts ⟨I (k + 1), P.r, P.n, I (k + 1)⟩) ∧ ∀ ρ', I xs.length ρ' → P.n ρ') : WS p ρ (tFor (iTup p.K te) g ts) P := fun G σ H hh E kn kr kb kc =>
  h G σ H hh _ fun x v G0 H0 ⟨xs, e, I, h0, hs, hd⟩ s r => by
    subst e
    obtain ⟨a, vs, ev, hq, hl⟩ := r.tup_inv
    have hh0 := hh.step s
    refine ⟨a, ev, ⟨vs, tq hh0.mem.sub hq⟩, for_tup (xs := vs) (fun k σ' H' => ∃ ρ' G', I k ρ' ∧ Ex G0 G' ∧ Hold p ρ' G' σ' H') ⟨ρ, G0, h0, Ex.rfl', hh0⟩ (fun k σ' H' _ ⟨ρ', G', hi, e, hh'⟩ => tq hh'.mem.sub (e _ _ hq)) (fun k x σ' H' hk ⟨ρ', G', hi, e, hh'⟩ => ?_)
      fun σ' H' ⟨ρ', G', hi, e, hh'⟩ => kn ρ' G' σ' H' (hd ρ' (by rw [← hl.length]; exact hi)) (ex_tr s.ex e) hh'⟩
    obtain ⟨d, hd1, hd2⟩ := hl.get' hk
    exact hs k d ρ' hd1 hi G' σ' H' _ hh' (rmono hd2 e) _ fun ρ2 G2 σ2 H2 z e2 hh2 => z G2 σ2 H2 hh2 _ (fun ρ3 G3 σ3 H3 z3 e3 hh3 => ⟨ρ3, G3, z3, ex_tr (ex_tr e e2) e3, hh3⟩) kr (fun ρ3 G3 σ3 H3 z3 e3 hh3 => kn ρ3 G3 σ3 H3 z3 (ex_tr s.ex (ex_tr (ex_tr e e2) e3)) hh3)
      (fun ρ3 G3 σ3 H3 z3 e3 hh3 => ⟨ρ3, G3, z3, ex_tr (ex_tr e e2) e3, hh3⟩)
end


/-! ### defs -/
/-- a def's promise by data: from S ds R it hands back some d with R d -/
def spD (K : PySem.W.Frag) (S : List D → (D → Prop) → Prop) : Sp := fun vs H Q _ => ∃ h G ds R, RpL K h G vs ds ∧ Mem ⟨K, h, H, G⟩ G H ∧ S ds R ∧ ∀ d v G' H', R d → Mem ⟨K, h, H, G⟩ G' H' → Rp K h G' v d → Q v H'
def rho0 (N : List Str) (ds : List D) : Rho := ds.map (fun d => some (.d d)) ++ List.replicate (N.length - ds.length) none
theorem hold0 {p : Par} {N : List Str} {G H : Hp} {vs : List V} {ds : List D} (m : Mem p G H) (r : RpL p.K p.h G vs ds) : Hold p (rho0 N ds) G (L2.start N vs) H := by
  have hl := r.length
  refine ⟨m, by simp [rho0, L2.start, hl], fun i c e => ?_, fun i j c c' a e1 o1 e2 o2 e3 e4 => ?_⟩
  · unfold rho0 at e
    unfold L2.start
    by_cases hi : i < ds.length
    · rw [List.getElem?_append_left (by rw [List.length_map]; exact hi), List.getElem?_map, List.getElem?_eq_getElem hi] at e
      cases e
      obtain ⟨v, h1, h2⟩ := r.get (List.getElem?_eq_getElem hi)
      refine ⟨some v, ?_, v, rfl, h2⟩
      rw [List.getElem?_append_left (by rw [List.length_map, hl]; exact hi), List.getElem?_map, h1] <;> rfl
    · rw [List.getElem?_append_right (by rw [List.length_map]; omega)] at e
      rw [List.getElem?_replicate] at e
      split at e <;> cases e
  · exfalso
    have dd : ∀ {i : Nat} {c : Cell}, (rho0 N ds)[i]? = some (some c) → c.isOwn = true → False := fun {i c} e o => by
      unfold rho0 at e
      by_cases hi : i < ds.length
      · rw [List.getElem?_append_left (by rw [List.length_map]; exact hi), List.getElem?_map, List.getElem?_eq_getElem hi] at e
        cases e
        cases o
      · rw [List.getElem?_append_right (by rw [List.length_map]; omega)] at e
        rw [List.getElem?_replicate] at e
        split at e <;> cases e
    exact dd e1 o1
/-- where a def of the text stands -/
structure Src (K : PySem.W.Frag) (mg : Str → Option Value) (x : Str) (st : Stmt) : Prop where
  ex : ∃ f fd, mg x = some (.ref f) ∧ Fun K x x st f fd
/-- a def that keeps the promise S, by at most level k -/
structure Dfn (P : Program) (w : World) (K : PySem.W.Frag) (mg : Str → Option Value) (base : Heap) (k : Nat) (x : Str) (ps : List Str) (S : List D → (D → Prop) → Prop) : Prop where
  ex : ∃ f fd, mg x = some (.ref f) ∧ PySem.W.keepIn K (.ref f) = true ∧ FnOk P w K mg base CX0 k f fd ps (spD K S) ∧ Binds K fd ps []
theorem Dfn.mono {P : Program} {w : World} {K : PySem.W.Frag} {mg : Str → Option Value} {base : Heap} {j k : Nat} {x : Str} {ps : List Str} {S : List D → (D → Prop) → Prop} (F : Dfn P w K mg base j x ps S) (h : j ≤ k) : Dfn P w K mg base k x ps S := by
  obtain ⟨f, fd, h1, h2, h3, h4⟩ := F.ex
  exact ⟨f, fd, h1, h2, h3.mono h, h4⟩
theorem Dfn.imp {P : Program} {w : World} {K : PySem.W.Frag} {mg : Str → Option Value} {base : Heap} {k : Nat} {x : Str} {ps : List Str} {S S' : List D → (D → Prop) → Prop} (F : Dfn P w K mg base k x ps S) (h : ∀ ds R, S' ds R → S ds R) : Dfn P w K mg base k x ps S' := by
  obtain ⟨f, fd, h1, h2, h3, h4⟩ := F.ex
  exact ⟨f, fd, h1, h2, h3.imp fun vs H Q E ⟨hd, G, ds, R, a, b, c, d⟩ => ⟨hd, G, ds, R, a, b, h ds R c, d⟩, h4⟩
def retP (R : D → Prop) : Post := ⟨fun _ => R .non, R, fun _ => False, fun _ => False⟩
section
variable {P : Program} {w : World} {K : PySem.W.Frag} {mg : Str → Option Value} {base : Heap}
theorem mkD {x : Str} {st : Stmt} {N ps : List Str} {k : Nat} {S : List D → (D → Prop) → Prop} (F : Src K mg x st) (sc : FnScope N ps (defScope st))
    (hb : ∀ (kV doc pm : Value) (an : Option Addr) (cdv ct : Value) (us : List Value), us.length = ps.length → bindArgs (PySem.W.fnOf x x (defArgs st) (defBody st) (defScope st) .none kV doc pm an cdv ct) ⟨us, []⟩ = pure (ps.zip us))
    (len : ∀ ds R, S ds R → ds.length = ps.length)
    (body : ∀ (f : Addr) (cdv : Value) (A : Around) (outer : List Env) (s : Shared) (H : Hp) (E : XK), Room k (A.deeper (envOfC x (defScope st) s.heap.objs.size f cdv)) →
      ∃ t, PSs (cxOf CX0 P w K mg base N x (defScope st) f cdv A outer s H E).nox (defBody st) t ∧ ∀ (h : Addr) (H0 G0 : Hp) ds R, S ds R → WS ⟨K, h, H0, G0⟩ (rho0 N ds) t (retP R)) : Dfn P w K mg base (k + 1) x ps S := by
  obtain ⟨f, fd, hm, F⟩ := F.ex
  refine ⟨f, fd, hm, F.kp, F.ok sc (fun vs H Q E h => ?_) (fun cdv A outer s H vs Q E hr h => ?_), F.binds hb⟩
  · obtain ⟨hd, G, ds, R, r, m, hs, q⟩ := h
    rw [r.length]
    exact len ds R hs
  · obtain ⟨hd, G, ds, R, r, m, hs, q⟩ := h
    obtain ⟨t, ht, hw⟩ := body f cdv A outer s H E hr
    refine ⟨t, ht, hw hd H G ds R hs G _ H (hold0 m r) _ (fun ρ' G' σ' H' z e hh => q .non .non G' H' z hh.mem .non) (fun d v G' H' z m' r' => q d v G' H' z m' r') (fun _ _ _ _ z => z.elim) fun _ _ _ _ z => z.elim⟩
/-- a def handled by its own reading -/
theorem mkS {x : Str} {st : Stmt} {N ps : List Str} {k : Nat} {S : List D → (D → Prop) → Prop} (F : Src K mg x st) (sc : FnScope N ps (defScope st))
    (hb : ∀ (kV doc pm : Value) (an : Option Addr) (cdv ct : Value) (us : List Value), us.length = ps.length → bindArgs (PySem.W.fnOf x x (defArgs st) (defBody st) (defScope st) .none kV doc pm an cdv ct) ⟨us, []⟩ = pure (ps.zip us))
    (len : ∀ ds R, S ds R → ds.length = ps.length)
    (body : ∀ (f : Addr) (cdv : Value) (A : Around) (outer : List Env) (s : Shared) (H : Hp) (E : XK), Room k (A.deeper (envOfC x (defScope st) s.heap.objs.size f cdv)) →
      ∃ t, PSs (cxOf CX0 P w K mg base N x (defScope st) f cdv A outer s H E).nox (defBody st) t ∧ ∀ vs Q, spD K S vs H Q E → t { nx := fun _ H' => Q .non H', rt := Q } (L2.start N vs) H) : Dfn P w K mg base (k + 1) x ps S := by
  obtain ⟨f, fd, hm, F⟩ := F.ex
  refine ⟨f, fd, hm, F.kp, F.ok sc (fun vs H Q E h => ?_) (fun cdv A outer s H vs Q E hr h => ?_), F.binds hb⟩
  · obtain ⟨hd, G, ds, R, r, m, hs, q⟩ := h
    rw [r.length]
    exact len ds R hs
  · obtain ⟨t, ht, hw⟩ := body f cdv A outer s H E hr
    exact ⟨t, ht, hw vs Q h⟩
end
section
variable {X : Cx} {x : Str} {p pos : Pos} {e : Expr} {es : List Expr} {t : TA} {k : Nat} {ps : List Str} {S : List D → (D → Prop) → Prop}
theorem pe_callD (F : Dfn X.prog X.w X.K X.mg X.base k x ps S) (hr : Room k X.A) (ha : PA X (e :: es) t) (hg : Gl X x := by rfl) (hdb : (x == ("__debug__" : Str)) = false := by decide)
    (he : starEach (e :: es) X.env = (false, eval e X.env) :: starEach es X.env := by rfl) (hpl : (backTo pos (starEach es X.env)).any (·.1) = false := by rfl) : PE X (.Call (.Name x p) (e :: es) [] pos) (tCall (spD X.K S) [] E0 t) := by
  obtain ⟨f, fd, h1, h2, h3, h4⟩ := F.ex
  exact pe_call h3 hr hg h1 h2 h4 .nil pass0 ha hdb he hpl
theorem pe_call0D (F : Dfn X.prog X.w X.K X.mg X.base k x ps S) (hr : Room k X.A) (hg : Gl X x := by rfl) (hdb : (x == ("__debug__" : Str)) = false := by decide) : PE X (.Call (.Name x p) [] [] pos) (tCall (spD X.K S) [] E0 tNil) := by
  obtain ⟨f, fd, h1, h2, h3, h4⟩ := F.ex
  exact pe_call0 h3 hr hg h1 h2 h4 .nil pass0 hdb
end
section
variable {p : Par} {ρ : Rho} {Q : D → Prop} {ta tb te tl th : TE} {tt tu : TT} {P : Post} {ts tv : TS}
theorem we_call {S : List D → (D → Prop) → Prop} {ta : TA} {E : XK} (h : WA p ρ ta fun ds => S ds Q) : WE p ρ (tCall (spD p.K S) [] E ta) Q := fun G σ H hh Qv k =>
  h G σ H hh _ fun ds vs G1 H1 q s1 r1 => by
    rw [List.append_nil]
    have hh1 := hh.step s1
    exact ⟨p.h, G1, ds, Q, r1, hh1.mem.refl, q, fun d v G' H' z m r => k d v G' H' z (s1.trans m) r⟩

/-! ### slices, sums of tuples and lists -/
def cutD {α : Type} (xs : List α) (lo hi : Option Int) : List α := (xs.drop (HT.sIx xs.length 0 lo)).take (HT.sIx xs.length xs.length hi - HT.sIx xs.length 0 lo)
theorem cut_rp {G : Hp} {vs : List V} {ds : List D} (r : RpL p.K p.h G vs ds) (lo hi : Option Int) : RpL p.K p.h G (cutV vs lo hi) (cutD ds lo hi) := by
  unfold cutV cutD
  rw [r.length]
  exact (r.drop _).take _
theorem cut_whole {α : Type} {xs : List α} {lo hi : Option Int} (h : HT.sIx xs.length 0 lo = 0 ∧ HT.sIx xs.length xs.length hi = xs.length) : cutD xs lo hi = xs := by
  unfold cutD
  rw [h.1, h.2]
  simp
theorem wo_none {Q : Option Int → Prop} (q : Q none) : WO p ρ tNoPart Q := fun G σ H hh Qv k => k none G H q hh.mem.refl
theorem wo_some {Q : Option Int → Prop} (h : WE p ρ te fun x => ∃ i, x = .int i ∧ Q (some i)) : WO p ρ (tPart te) Q := fun G σ H hh Qv k => h G σ H hh _ fun x v G1 H1 ⟨i, e, q⟩ s r => by
  subst e
  exact ⟨i, rp_int r, k _ G1 H1 q s⟩
/-- t[lo:hi] of a tuple -/
theorem we_slT {tl th : TO} (h : WE p ρ te fun x => ∃ xs, x = .tup xs ∧ WO p ρ tl fun lo => WO p ρ th fun hi => Q (.tup (cutD xs lo hi))) : WE p ρ (tSl (rSlA p.K) te tl th) Q := fun G σ H hh Qv k =>
  h G σ H hh _ fun x v G1 H1 ⟨xs, e, q1⟩ s1 r1 => q1 G1 σ H1 (hh.step s1) _ fun lo G2 H2 q2 s2 => q2 G2 σ H2 ((hh.step s1).step s2) _ fun hi G3 H3 q3 s3 => by
    subst e
    obtain ⟨a, vs, ev, hs, hl⟩ := r1.tup_inv
    have hh3 := ((hh.step s1).step s2).step s3
    have ex := ex_tr s2.ex s3.ex
    refine ⟨a, vs, ev, tq hh3.mem.sub (ex _ _ hs), fun hw => ?_, fun hw q hq => ?_⟩
    · rw [hl.length] at hw
      have q3' : Q (.tup (cutD xs lo hi)) := q3
      rw [cut_whole hw] at q3'
      exact k _ _ G3 H3 q3' ((s1.trans s2).trans s3) (.tup (ex _ _ hs) (lmono hl ex))
    · exact k _ _ _ _ q3 (((s1.trans s2).trans s3).trans (hh3.mem.grow hq)) (.tup upd_same (lmono (cut_rp (lmono hl ex) lo hi) (hh3.mem.grow (o := .tup (cutV vs lo hi)) hq).ex))
/-- xs[lo:hi] of a list: a new one -/
theorem wf_slL {Q : Cell → Prop} {tl th : TO} (h : WE p ρ te fun x => ∃ xs, x = .lst xs ∧ WO p ρ tl fun lo => WO p ρ th fun hi => Q (.ol (cutD xs lo hi))) : WF p ρ (tSl (rSlL p.K) te tl th) Q := fun G σ H hh Qv k =>
  h G σ H hh _ fun x v G1 H1 ⟨xs, e, q1⟩ s1 r1 => q1 G1 σ H1 (hh.step s1) _ fun lo G2 H2 q2 s2 => q2 G2 σ H2 ((hh.step s1).step s2) _ fun hi G3 H3 q3 s3 => by
    subst e
    obtain ⟨a, vs, ev, hs, hl⟩ := r1.lst_inv
    have hh3 := ((hh.step s1).step s2).step s3
    have ex := ex_tr s2.ex s3.ex
    refine ⟨a, vs, ev, lq hh3.mem.sub (ex _ _ hs), fun q hq => ?_⟩
    have s := (s1.trans s2).trans s3
    exact k _ q _ _ q3 rfl (s.trans (hh3.mem.growO hq)) (hh.mem.back s hq) ⟨q, _, rfl, hh3.mem.fresh hq, upd_same, cut_rp (lmono hl ex) lo hi⟩
theorem we_slL {tl th : TO} (h : WE p ρ te fun x => ∃ xs, x = .lst xs ∧ WO p ρ tl fun lo => WO p ρ th fun hi => Q (.lst (cutD xs lo hi))) : WE p ρ (tSl (rSlL p.K) te tl th) Q := we_F (wf_slL h)
/-- t + u of tuples -/
theorem we_catT (h : WE p ρ ta fun x => ∃ xs, x = .tup xs ∧ WE p ρ tb fun y => ∃ ys, y = .tup ys ∧ xs.length + ys.length ≤ 4000000 ∧ Q (.tup (xs ++ ys))) : WE p ρ (tOp (rCatA p.K) ta tb) Q :=
  we_op (h.imp fun x ⟨xs, e, h⟩ => h.imp fun y ⟨ys, e2, hz, q⟩ => fun G H v w m r1 r2 Qv k => by
    subst e e2
    obtain ⟨a, vs, ev, hs, hl⟩ := r1.tup_inv
    obtain ⟨b, ws, ew, ht, hm⟩ := r2.tup_inv
    refine ⟨a, b, vs, ws, ev, ew, tq m.sub hs, tq m.sub ht, sz (by rw [hl.length, hm.length]; exact hz), fun e0 => ?_, fun _ e0 => ?_, fun _ _ q' hq => ?_⟩
    · subst e0
      have z := hl.length
      cases xs with
      | nil => exact k _ _ G H q m.refl (.tup ht hm)
      | cons x xs => cases z
    · subst e0
      have z := hm.length
      cases ys with
      | nil => rw [List.append_nil] at q; exact k _ _ G H q m.refl (.tup hs hl)
      | cons x xs => cases z
    · exact k _ _ _ _ q (m.grow hq) (.tup upd_same (lmono (hl.append hm) (m.grow (o := .tup (vs ++ ws)) hq).ex)))
/-- xs + ys of lists: a new one -/
theorem wf_catL {Q : Cell → Prop} (h : WE p ρ ta fun x => ∃ xs, x = .lst xs ∧ WE p ρ tb fun y => ∃ ys, y = .lst ys ∧ xs.length + ys.length ≤ 4000000 ∧ Q (.ol (xs ++ ys))) :
    WF p ρ (tOp rCat ta tb) Q := fun G σ H hh Qv k =>
  h G σ H hh _ fun x v G1 H1 ⟨xs, e, q1⟩ s1 r1 => q1 G1 σ H1 (hh.step s1) _ fun y w G2 H2 ⟨ys, e2, hz, q⟩ s2 r2 => by
    subst e e2
    obtain ⟨a, vs, ev, hs, hl⟩ := r1.lst_inv
    obtain ⟨b, ws, ew, ht, hm⟩ := r2.lst_inv
    have hh2 := (hh.step s1).step s2
    have s := s1.trans s2
    refine ⟨a, b, vs, ws, ev, ew, hh2.mem.sub _ _ (s2.ex _ _ hs), hh2.mem.sub _ _ ht, sz (by rw [hl.length, hm.length]; exact hz), fun q' hq => ?_⟩
    exact k _ q' _ _ q rfl (s.trans (hh2.mem.growO hq)) (hh.mem.back s hq) ⟨q', _, rfl, hh2.mem.fresh hq, upd_same, (lmono hl s2.ex).append hm⟩
/-- tuple(xs) -/
theorem we_tupleOf (h : WE p ρ te fun x => ∃ xs, (x = .lst xs ∨ x = .tup xs) ∧ Q (.tup xs)) :
    WE p ρ (tCB (fun xs H Q => ∃ q ys, xs = [V.ref q] ∧ ((SqL p.K H q ys ∧ ∀ l, H l = none → Q (.ref l) (upd H l (.tup ys))) ∨ (SqT p.K H q ys ∧ Q (.ref q) H))) (tCons te tNil)) Q :=
  we_cb (wa_cons (h.imp fun x ⟨xs, e, q⟩ => wa_nil fun G H vs m r Qv k => by
    cases r with
    | cons r rn =>
      cases rn
      rcases e with e | e
      · subst e
        obtain ⟨a, us, ev, hs, hl⟩ := r.lst_inv
        subst ev
        exact ⟨a, us, rfl, .inl ⟨lq m.sub hs, fun l hq => k _ _ _ _ q (m.grow hq) (.tup upd_same (lmono hl (m.grow (o := .tup us) hq).ex))⟩⟩
      · subst e
        obtain ⟨a, us, ev, hs, hl⟩ := r.tup_inv
        subst ev
        exact ⟨a, us, rfl, .inr ⟨tq m.sub hs, k _ _ G H q m.refl (.tup hs hl)⟩⟩))
/-- list(xs): a new one -/
theorem wf_listOf {Q : Cell → Prop} (h : WE p ρ te fun x => ∃ xs, (x = .lst xs ∨ x = .tup xs) ∧ Q (.ol xs)) :
    WF p ρ (tCB (fun xs H Q => ∃ q ys, xs = [V.ref q] ∧ (SqL p.K H q ys ∨ SqT p.K H q ys) ∧ ∀ l, H l = none → Q (.ref l) (upd H l (.lst ys))) (tCons te tNil)) Q := fun G σ H hh Qv k =>
  h G σ H hh _ fun x v G1 H1 ⟨xs, e, q⟩ s1 r1 => by
    have hh1 := hh.step s1
    rcases e with e | e
    · subst e
      obtain ⟨a, us, ev, hs, hl⟩ := r1.lst_inv
      subst ev
      exact ⟨a, us, rfl, .inl (lq hh1.mem.sub hs), fun l hq => k _ l _ _ q rfl (s1.trans (hh1.mem.growO hq)) (hh.mem.back s1 hq) ⟨l, _, rfl, hh1.mem.fresh hq, upd_same, hl⟩⟩
    · subst e
      obtain ⟨a, us, ev, hs, hl⟩ := r1.tup_inv
      subst ev
      exact ⟨a, us, rfl, .inr (tq hh1.mem.sub hs), fun l hq => k _ l _ _ q rfl (s1.trans (hh1.mem.growO hq)) (hh.mem.back s1 hq) ⟨l, _, rfl, hh1.mem.fresh hq, upd_same, hl⟩⟩
end

/-! ### comprehensions -/
def wipeR (ρ : Rho) : List Nat → Rho
  | [] => ρ
  | v :: vs => (wipeR ρ vs).set v none
section
variable {p : Par} {ρ : Rho} {te : TE} {tt : TT} {g : TG}
theorem Hold.wipe {G H : Hp} {σ : L2.St} (hh : Hold p ρ G σ H) : ∀ vs : List Nat, Hold p (wipeR ρ vs) G (L2.wipe σ vs) H
  | [] => hh
  | v :: vs => (Hold.wipe hh vs).forget v none
theorem wipe_get {σ : L2.St} {j : Nat} : ∀ {vs : List Nat}, (L2.wipe σ vs)[j]? = if j ∈ vs then (if j < σ.length then some none else none) else σ[j]?
  | [] => by simp [L2.wipe]
  | v :: vs => by
    have ih := wipe_get (σ := σ) (j := j) (vs := vs)
    show ((L2.wipe σ vs).set v none)[j]? = _
    by_cases hv : v = j
    · subst hv
      rw [if_pos (by simp)]
      by_cases hl : v < σ.length
      · rw [if_pos hl, List.getElem?_set_self (by rw [L2.wipe_length]; exact hl)]
      · rw [if_neg hl, List.getElem?_eq_none (by rw [List.length_set, L2.wipe_length]; omega)]
    · rw [List.getElem?_set_ne hv, ih]
      by_cases hm : j ∈ vs
      · rw [if_pos hm, if_pos (List.mem_cons_of_mem _ hm)]
      · rw [if_neg hm, if_neg (fun z => by rcases List.mem_cons.mp z with e | e; exact hv e.symm; exact hm e)]
theorem wipe_set {σ : L2.St} {j : Nat} {x : Option V} {vs : List Nat} (h : j ∈ vs) : L2.wipe (σ.set j x) vs = L2.wipe σ vs := by
  refine List.ext_getElem? fun i => ?_
  rw [wipe_get, wipe_get, List.length_set]
  by_cases hm : i ∈ vs
  · rw [if_pos hm, if_pos hm]
  · rw [if_neg hm, if_neg hm, List.getElem?_set_ne (fun z => hm (by rw [← z]; exact h))]
theorem wipe_wipe {σ : L2.St} {vs : List Nat} : L2.wipe (L2.wipe σ vs) vs = L2.wipe σ vs := by
  refine List.ext_getElem? fun i => ?_
  rw [wipe_get, wipe_get, L2.wipe_length]
  by_cases hm : i ∈ vs
  · rw [if_pos hm, if_pos hm]
  · rw [if_neg hm, if_neg hm]
/-- a target that stores into the slots vs alone -/
def WGp (p : Par) (vs : List Nat) (ρ : Rho) (g : TG) (x : D) (N : Rho → Prop) : Prop := ∀ G σ H v, Hold p ρ G σ H → Rp p.K p.h G v x → ∀ Qs : L2.St → Hp → Prop, (∀ ρ' σ', N ρ' → Hold p ρ' G σ' H → L2.wipe σ' vs = L2.wipe σ vs → Qs σ' H) → g v σ H Qs
def WGps (p : Par) (vs : List Nat) (ρ : Rho) (g : TGs) (xs : List D) (N : Rho → Prop) : Prop := ∀ G σ H us, Hold p ρ G σ H → RpL p.K p.h G us xs → ∀ Qs : L2.St → Hp → Prop, (∀ ρ' σ', N ρ' → Hold p ρ' G σ' H → L2.wipe σ' vs = L2.wipe σ vs → Qs σ' H) → g us σ H Qs
theorem wgp_name {vs : List Nat} {i : Nat} {x : D} {N : Rho → Prop} (hi : i ∈ vs) (h : N (ρ.set i (some (.d x)))) : WGp p vs ρ (gName i) x N := fun G σ H v hh r Qs k => k _ _ h (hh.setD r) (wipe_set hi)
theorem wgps_nil {vs : List Nat} {xs : List D} {N : Rho → Prop} (h : xs = [] ∧ N ρ) : WGps p vs ρ gNil xs N := fun G σ H us hh r Qs k => by
  obtain ⟨e, h⟩ := h
  subst e
  cases r
  exact ⟨rfl, k _ σ h hh rfl⟩
theorem wgps_cons {vs : List Nat} {g : TG} {gs : TGs} {xs : List D} {N : Rho → Prop} (h : ∃ x r, xs = x :: r ∧ WGp p vs ρ g x fun ρ' => WGps p vs ρ' gs r N) : WGps p vs ρ (gCons g gs) xs N := fun G σ H us hh r Qs k => by
  obtain ⟨x, xr, e, h⟩ := h
  subst e
  cases r with
  | @cons v us _ _ a b => exact ⟨v, us, rfl, h G σ H v hh a _ fun ρ1 σ1 z hh1 e1 => z G σ1 H us hh1 b Qs fun ρ2 σ2 z2 hh2 e2 => k ρ2 σ2 z2 hh2 (e2.trans e1)⟩
theorem wgp_tup {vs : List Nat} {n : Nat} {gs : TGs} {x : D} {N : Rho → Prop} (h : ∃ xs, x = .tup xs ∧ xs.length = n ∧ WGps p vs ρ gs xs N) : WGp p vs ρ (gTup p.K n gs) x N := fun G σ H v hh r Qs k => by
  obtain ⟨xs, e, hl, h⟩ := h
  subst e
  obtain ⟨a, us, ev, hs, hr⟩ := r.tup_inv
  exact ⟨a, us, ev, tq hh.mem.sub hs, by rw [hr.length]; exact hl, h G σ H us hh hr Qs k⟩
theorem Stp.updO {G H G' H' : Hp} {a : Addr} {o : HO} (s : Stp p G H G' H') (n : H a = none) (ow : Own p G' a) : Stp p G H G' (upd H' a o) :=
  ⟨fun b u z => by rw [upd_ne (ne_of_none z ow.1)]; exact s.sub b u z, s.gh, fun b u hb z => by
    show upd H' a o b = some u
    rw [upd_ne (ne_of_none z n)]
    exact s.base b u hb z, s.g0, s.new, s.hand.mono (fun _ _ z => z) (upd_ne (Ne.symm ow.2.2))⟩
theorem Own.step {G H G' H' : Hp} {a : Addr} {o : HO} (nt : NT o) (ow : Own p G a) (e : H a = some o) (s : Stp p G H G' H') : Own p G' a ∧ H' a = some o := by
  refine ⟨⟨?_, ow.2⟩, s.base a o ow.2.2 e⟩
  cases z : G' a with
  | none => rfl
  | some u =>
    rcases s.new a u z with r | r | ⟨⟨xs, t⟩, r⟩
    · have r' : G a = some u := r
      rw [ow.1] at r'; cases r'
    · have r' : H a = none := r
      rw [e] at r'; cases r'
    · have r' : H a = some u := r
      rw [e] at r'; cases r'
      exact (nt xs t).elim
/-- what stands between two turns: the list at Dl holds acc -/
def Lc (p : Par) (G1 H1 : Hp) (Dl : Addr) (I : Nat → List D → Prop) (k : Nat) (H' : Hp) : Prop := ∃ acc av G', I k acc ∧ acc.length ≤ k ∧ Stp p G1 H1 G' H' ∧ H' Dl = some (.lst av) ∧ Own p G' Dl ∧ RpL p.K p.h G' av acc
theorem lc_turn {vs : List Nat} {G1 H1 H' : Hp} {σ : L2.St} {Dl : Addr} {I : Nat → List D → Prop} {k : Nat} {x : D} {v : V} (hh : Hold p ρ G1 σ H1) (hn : H1 Dl = none) (hk : k < 4000000) (L : Lc p G1 H1 Dl I k H')
    (hr : ∀ G', Stp p G1 H1 G' H' → ∃ G2, Stp p G' H' G2 H' ∧ Rp p.K p.h G2 v x)
    (h : ∀ acc, I k acc → acc.length ≤ k → WGp p vs (wipeR ρ vs) g x fun ρ2 => WT p ρ2 tt fun b => if b = true then WE p ρ2 te fun y => I (k + 1) (acc ++ [y]) else I (k + 1) acc) :
    g v (L2.wipe σ vs) H' fun σ2 H2 => L2.wipe σ2 vs = L2.wipe σ vs ∧ tt σ2 H2 fun b H3 =>
      if b = true then te σ2 H3 fun y H4 => ∃ acc, H4 Dl = some (.lst acc) ∧ acc.length < sizeLine ∧ Lc p G1 H1 Dl I (k + 1) (upd H4 Dl (.lst (acc ++ [y]))) else Lc p G1 H1 Dl I (k + 1) H3 := by
  obtain ⟨acc, av, G0, hi, hl, s0, e0, ow0, r0⟩ := L
  obtain ⟨G', s00, rx⟩ := hr G0 s0
  have s := s0.trans s00
  obtain ⟨ow, e⟩ := Own.step (by intro _ z; cases z) ow0 e0 s00
  have r := lmono r0 s00.ex
  refine h acc hi hl G' _ H' v ((hh.step s).wipe vs) rx _ fun ρ2 σ2 z hh2 ew => ⟨by rw [ew, wipe_wipe], z G' σ2 H' hh2 _ fun b G2 H2 q s2 => ?_⟩
  obtain ⟨ow2, e2⟩ := Own.step (by intro _ z; cases z) ow e s2
  cases b with
  | false =>
    rw [if_neg (by decide)] at q ⊢
    exact ⟨acc, av, G2, q, Nat.le_succ_of_le hl, s.trans s2, e2, ow2, lmono r s2.ex⟩
  | true =>
    rw [if_pos rfl] at q ⊢
    refine q G2 σ2 H2 (hh2.step s2) _ fun d y G3 H3 q3 s3 r3 => ?_
    obtain ⟨ow3, e3⟩ := Own.step (by intro _ z; cases z) ow2 e2 s3
    have hz := r.length
    refine ⟨av, e3, by rw [sizeLine_eq]; omega, acc ++ [d], av ++ [y], G3, q3, by rw [List.length_append, List.length_singleton]; omega, ((s.trans s2).trans s3).updO hn ow3, upd_same, ow3, (lmono r (ex_tr s2.ex s3.ex)).append (.cons r3 .nil)⟩
theorem lc_start {G1 H1 : Hp} {σ : L2.St} {Dl : Addr} {I : Nat → List D → Prop} (hh : Hold p ρ G1 σ H1) (hn : H1 Dl = none) (h0 : I 0 []) : Lc p G1 H1 Dl I 0 (upd H1 Dl (.lst [])) :=
  ⟨[], [], G1, h0, Nat.le_refl _, hh.mem.growO hn, upd_same, hh.mem.fresh hn, .nil⟩
theorem wf_lcL {tl : TE} {vs : List Nat} {Q : Cell → Prop} (h : WE p ρ tl fun x => ∃ xs, x = .lst xs ∧ xs.length ≤ 4000000 ∧ ∃ I : Nat → List D → Prop, I 0 [] ∧
    (∀ k x acc, xs[k]? = some x → I k acc → acc.length ≤ k → WGp p vs (wipeR ρ vs) g x fun ρ2 => WT p ρ2 tt fun b => if b = true then WE p ρ2 te fun y => I (k + 1) (acc ++ [y]) else I (k + 1) acc) ∧ ∀ acc, I xs.length acc → Q (.ol acc)) :
    WF p ρ (tLc (iList p.K tl) g tt te vs) Q := fun G σ H hh Qv kk =>
  h G σ H hh _ fun x v G1 H1 ⟨xs, e, hz, I, h0, hs, hd⟩ s1 r1 => by
    subst e
    obtain ⟨a, us, ev, hq, hl⟩ := r1.lst_inv
    have hh1 := hh.step s1
    refine ⟨a, ev, ⟨us, lq hh1.mem.sub hq⟩, fun Dl hn => lc_list (xs := us) (Lc p G1 H1 Dl I) (lc_start hh1 hn h0) (fun k H' _ L => ?_) (fun k y H' hk L => ?_) fun H' L => ?_⟩
    · obtain ⟨acc, av, G', _, _, s, _⟩ := L
      exact lq s.sub (s.ex _ _ hq)
    · obtain ⟨d, hd1, hd2⟩ := hl.get' hk
      have hk' : k < us.length := (List.getElem?_eq_some_iff.mp hk).1
      exact lc_turn hh1 hn (by have := hl.length; omega) L (fun G' s => ⟨G', (hh1.step s).mem.refl, rmono hd2 s.ex⟩) fun acc hi hle => hs k d acc hd1 hi hle
    · obtain ⟨acc, av, G', hi, _, s, e, ow, r⟩ := L
      rw [hl.length] at hi
      exact kk _ Dl G' H' (hd acc hi) rfl (s1.trans s) (hh.mem.back s1 hn) ⟨Dl, av, rfl, ow, e, r⟩
theorem wf_lcT {tl : TE} {vs : List Nat} {Q : Cell → Prop} (h : WE p ρ tl fun x => ∃ xs, x = .tup xs ∧ xs.length ≤ 4000000 ∧ ∃ I : Nat → List D → Prop, I 0 [] ∧
    (∀ k x acc, xs[k]? = some x → I k acc → acc.length ≤ k → WGp p vs (wipeR ρ vs) g x fun ρ2 => WT p ρ2 tt fun b => if b = true then WE p ρ2 te fun y => I (k + 1) (acc ++ [y]) else I (k + 1) acc) ∧ ∀ acc, I xs.length acc → Q (.ol acc)) :
    WF p ρ (tLc (iTup p.K tl) g tt te vs) Q := fun G σ H hh Qv kk =>
  h G σ H hh _ fun x v G1 H1 ⟨xs, e, hz, I, h0, hs, hd⟩ s1 r1 => by
    subst e
    obtain ⟨a, us, ev, hq, hl⟩ := r1.tup_inv
    have hh1 := hh.step s1
    refine ⟨a, ev, ⟨us, tq hh1.mem.sub hq⟩, fun Dl hn => lc_tup (xs := us) (Lc p G1 H1 Dl I) (lc_start hh1 hn h0) (fun k H' _ L => ?_) (fun k y H' hk L => ?_) fun H' L => ?_⟩
    · obtain ⟨acc, av, G', _, _, s, _⟩ := L
      exact tq s.sub (s.ex _ _ hq)
    · obtain ⟨d, hd1, hd2⟩ := hl.get' hk
      have hk' : k < us.length := (List.getElem?_eq_some_iff.mp hk).1
      exact lc_turn hh1 hn (by have := hl.length; omega) L (fun G' s => ⟨G', (hh1.step s).mem.refl, rmono hd2 s.ex⟩) fun acc hi hle => hs k d acc hd1 hi hle
    · obtain ⟨acc, av, G', hi, _, s, e, ow, r⟩ := L
      rw [hl.length] at hi
      exact kk _ Dl G' H' (hd acc hi) rfl (s1.trans s) (hh.mem.back s1 hn) ⟨Dl, av, rfl, ow, e, r⟩
theorem wf_lc1 {ta : TA} {vs : List Nat} {Q : Cell → Prop} (h : WA p ρ ta fun ds => ∃ n : Int, ds = [.int n] ∧ n ≤ 4000000 ∧ -(2 ^ 62) ≤ n ∧ ∃ I : Nat → List D → Prop, I 0 [] ∧
    (∀ k acc, k < n.toNat → I k acc → acc.length ≤ k → WGp p vs (wipeR ρ vs) g (.int (k : Int)) fun ρ2 => WT p ρ2 tt fun b => if b = true then WE p ρ2 te fun y => I (k + 1) (acc ++ [y]) else I (k + 1) acc) ∧ ∀ acc, I n.toNat acc → Q (.ol acc)) :
    WF p ρ (tLc (iRng1 ta) g tt te vs) Q := fun G σ H hh Qv kk =>
  h G σ H hh _ fun ds ws G1 H1 ⟨n, e, hz, hz2, I, h0, hs, hd⟩ s1 r1 => by
    subst e
    cases r1 with
    | cons r1 rn =>
      cases rn; cases r1
      have hh1 := hh.step s1
      refine ⟨n, rfl, hz2, by omega, fun Dl hn => lc_range (lo := 0) (n := n.toNat) (Lc p G1 H1 Dl I) (lc_start hh1 hn h0) (fun k H' hk L => ?_) fun H' L => ?_⟩
      · rw [Int.zero_add]
        exact lc_turn hh1 hn (by omega) L (fun G' s => ⟨G', (hh1.step s).mem.refl, .int _⟩) fun acc hi hle => hs k acc hk hi hle
      · obtain ⟨acc, av, G', hi, _, s, e, ow, r⟩ := L
        exact kk _ Dl G' H' (hd acc hi) rfl (s1.trans s) (hh.mem.back s1 hn) ⟨Dl, av, rfl, ow, e, r⟩
theorem wf_lc2 {ta : TA} {vs : List Nat} {Q : Cell → Prop} (h : WA p ρ ta fun ds => ∃ lo n : Int, ds = [.int lo, .int n] ∧ n - lo ≤ 4000000 ∧ (-(2 ^ 62) ≤ lo ∧ lo < 2 ^ 62 ∧ -(2 ^ 62) ≤ n ∧ n < 2 ^ 62) ∧ ∃ I : Nat → List D → Prop, I 0 [] ∧
    (∀ k acc, k < (n - lo).toNat → I k acc → acc.length ≤ k → WGp p vs (wipeR ρ vs) g (.int (lo + (k : Int))) fun ρ2 => WT p ρ2 tt fun b => if b = true then WE p ρ2 te fun y => I (k + 1) (acc ++ [y]) else I (k + 1) acc) ∧ ∀ acc, I (n - lo).toNat acc → Q (.ol acc)) :
    WF p ρ (tLc (iRng2 ta) g tt te vs) Q := fun G σ H hh Qv kk =>
  h G σ H hh _ fun ds ws G1 H1 ⟨lo, n, e, hz, hz2, I, h0, hs, hd⟩ s1 r1 => by
    subst e
    cases r1 with
    | cons r1 rn =>
      cases rn with
      | cons r2 rn =>
        cases rn; cases r1; cases r2
        have hh1 := hh.step s1
        refine ⟨lo, n, rfl, hz2, fun Dl hn => lc_range (lo := lo) (n := (n - lo).toNat) (Lc p G1 H1 Dl I) (lc_start hh1 hn h0) (fun k H' hk L => ?_) fun H' L => ?_⟩
        · exact lc_turn hh1 hn (by omega) L (fun G' s => ⟨G', (hh1.step s).mem.refl, .int _⟩) fun acc hi hle => hs k acc hk hi hle
        · obtain ⟨acc, av, G', hi, _, s, e, ow, r⟩ := L
          exact kk _ Dl G' H' (hd acc hi) rfl (s1.trans s) (hh.mem.back s1 hn) ⟨Dl, av, rfl, ow, e, r⟩
end
section
variable {p : Par}
/-- a tuple that stands in H may be taken into what is known -/
theorem Mem.learn {G H : Hp} {q : Addr} {xs : List V} (m : Mem p G H) (e : H q = some (.tup xs)) : ∃ G', Stp p G H G' H ∧ G' q = some (.tup xs) := by
  cases hg : G q with
  | some u =>
    have := m.sub q u hg
    rw [e] at this; cases this
    exact ⟨G, m.refl, hg⟩
  | none =>
    have hq2 : q ≠ p.h := fun z => by
      obtain ⟨c, ns, i', r', n', h1', _⟩ := m.hand
      rw [← z, e] at h1'
      cases h1'
    have ex : Ex G (upd G q (.tup xs)) := fun b u z => by rw [upd_ne (ne_of_none z hg)]; exact z
    refine ⟨upd G q (.tup xs), ⟨fun b u z => ?_, ?_, fun _ _ _ z => z, ex, fun b u z => ?_, m.hand.mono ex rfl⟩, upd_same⟩
    · by_cases hb : b = q
      · subst hb; rw [upd_same] at z; cases z; exact e
      · rw [upd_ne hb] at z; exact m.sub b u z
    · show upd G q (.tup xs) p.h = none
      rw [upd_ne (Ne.symm hq2)]; exact m.gh
    · by_cases hb : b = q
      · subst hb; rw [upd_same] at z; cases z; exact .inr (.inr ⟨⟨_, rfl⟩, e⟩)
      · rw [upd_ne hb] at z; exact .inl z
end
end Cal
set_option Elab.async false
set_option linter.all false
set_option maxRecDepth 100000
set_option maxHeartbeats 2000000
namespace Cal
open PySem L2 PyProof.Rows
open Evl (Ex ex_l ex_t ex_rd sq_of st_of)

/-! ### sum(d.values()) -/
section
variable {X : Cx} {o : Expr} {p pos apos mpos : Pos} {td : TE}
def tSumVals (td : TE) : TE := fun σ H Q => td σ H fun x H1 => ∃ a kvs is, x = V.ref a ∧ H1 a = some (.dK kvs) ∧ kvs.map (·.2) = is.map V.int ∧ Q (.int (List.sum is)) H1
theorem preSum_list : ∀ (is : List Int), PySem.preSum (fun i => is.getD i 0) is.length = is.sum
  | [] => rfl
  | x :: r => by
    have e := PySem.W.kdu_shift (fun i => (x :: r).getD i 0) r.length
    have ih := preSum_list r
    show PySem.preSum (fun i => (x :: r).getD i 0) (r.length + 1) = (x :: r).sum
    rw [e, List.sum_cons]
    have e2 : (fun i => (x :: r).getD (i + 1) 0) = fun i => r.getD i 0 := by funext i; simp
    rw [e2, ih]
    simp
theorem pe_sumVals (hc : X.calm = true) (hg : Gl X "sum") (hm : X.mg "sum" = none) (hd : PE X o td) (hbase : attributeBase o "values" X.env (eval o X.env) = eval o X.env := by rfl) (hline : (apos.endLine == mpos.line) = true := by rfl)
    (hse : starEach [Expr.Call (.Attribute o "values" apos) [] [] mpos] X.env = [(false, eval (Expr.Call (.Attribute o "values" apos) [] [] mpos) X.env)] := by rfl) :
    PE X (.Call (.Name "sum" p) [.Call (.Attribute o "values" apos) [] [] mpos] [] pos) (tSumVals td) := by
  refine ⟨fun pins s σ H Q I h => ?_⟩
  refine wpAny_Call_Name_kw (ld_blt I hg hm (u := .builtin "sum") (by first | rfl | decide +kernel) ?_ (by first | decide +kernel | decide) (by first | decide +kernel | decide))
  rw [hse]
  refine PySem.callWith_builtin1 (wpAny_Call_method0_late hbase hline (thn (hd.run pins s σ H _ I h) fun v s1 ⟨x, H1, I1, r1, a, kvs, is, ex, ha, hv, q⟩ => ?_))
  subst ex
  obtain rfl : v = Value.ref a := r1
  obtain ⟨_, hsys, vs, rel, dof⟩ := dk_of I1.hok ha
  obtain ⟨ep, dat⟩ := dof.dictAt
  have dat' := dat
  obtain ⟨ob, es, ho, ex, hdat, hko, hpr, hnd⟩ := dat'
  refine ⟨"dict", "dict.values", F.plainAttrs_dict, F.slot_dict_values, F.type_dict_values, ⟨ob, ho, ex.1⟩, fun b e => ?_, Calls.callWith_builtin rfl (PySem.evalArgs_none ?_)⟩
  · cases e
    exact ⟨ob, ho, ex.2.1⟩
  refine call_meetsIn F.slot_dict_values ⟨ob, ho, ex.1⟩ F.entry_dict_values (F.args_dict_values_1 _) (meets_dict_values (mixKind X.prog X.w) a hsys) ⟨⟨vs, dof⟩, ?_⟩
  have k1 : ∀ b u, s1.heap.get? b = some u → (s1.heap.push { cls := .type "dict_values", data := .fields #[.ref a] }).get? b = some u := fun b u e => Heap.get?_push_of_some _ e
  have dat1 : (s1.heap.push { cls := .type "dict_values", data := .fields #[.ref a] }).DictAt (mixKind X.prog X.w) a vs ep := dat.keep k1
  have hlv : vs.length = is.length := by
    have e1 := congrArg List.length hv
    rw [List.length_map, List.length_map] at e1
    rw [← e1]
    exact (KV.length rel).symm
  have hval : ∀ (i : Nat) (v : Value), (∃ k, vs[i]? = some (k, v)) → ∃ t, v = Value.int (is.getD i 0) t := fun i v ⟨k, hk⟩ => by
    obtain ⟨x, h1, h2⟩ := KV.at' rel hk
    have e1 : (kvs.map (·.2))[i]? = some x := by rw [List.getElem?_map, h1] <;> rfl
    rw [hv, List.getElem?_map] at e1
    obtain ⟨j, hj, e2⟩ := Option.map_eq_some_iff.mp e1
    subst e2
    obtain ⟨t, e3⟩ := h2
    refine ⟨t, ?_⟩
    rw [e3, List.getD_eq_getElem?_getD, hj] <;> rfl
  refine PySem.call_sum_walkAnyS ?_
  have K := PySem.W.kdl_values (prog := X.prog) (w := X.w) (knd := mixKind X.prog X.w) (r := s1.heap.objs.size) (d := a) (kvs := vs) (ep := ep)
  obtain ⟨oI, St, hit, W, st⟩ := K.iter X.A.in1 { s1 with heap := s1.heap.push { cls := .type "dict_values", data := .fields #[.ref a] } } (I.ok.hd hc) ⟨⟨_, Heap.get?_push_size _ rfl, rfl, rfl⟩, dat1⟩
  have hsz : (s1.heap.push { cls := .type "dict_values", data := .fields #[.ref a] }).objs.size = s1.heap.objs.size + 1 := Heap.size_push _ _
  have hlt : a < s1.heap.objs.size := Heap.lt_size ho
  refine hit _ _ ⟨(s1.heap.push { cls := .type "dict_values", data := .fields #[.ref a] }).objs.size, _, _, _, vs.length, _, _, (fun i => is.getD i 0), rfl, W.toS, st, fun b hb => ?_, hval, fun s' t' hm => ?_⟩
  · show b < ((s1.heap.push _).push oI).objs.size
    rw [Heap.size_push, Heap.size_push]
    rw [hsz] at hb
    rcases List.mem_cons.mp hb with e | hb
    · rw [e]
      exact Nat.lt_succ_self _
    · have e : b = a := List.mem_singleton.mp hb
      rw [e]
      exact Nat.lt_succ_of_lt (Nat.lt_succ_of_lt hlt)
  · have hk : ∀ b o, s1.heap.get? b = some o → s'.heap.get? b = some o := fun b o e =>
      hm.heap b o (fun hI => by
        have e1 : b = (s1.heap.push { cls := .type "dict_values", data := .fields #[.ref a] }).objs.size := List.mem_singleton.mp hI
        have e2 := Heap.lt_size e
        rw [hsz] at e1
        rw [e1] at e2
        exact absurd e2 (Nat.not_lt.mpr (Nat.le_succ _))) (Heap.get?_push_of_some _ (k1 b o e))
    rw [Moved.eq_with hm]
    have e : PySem.preSum (fun i => is.getD i 0) vs.length = is.sum := by rw [hlv]; exact preSum_list is
    rw [e]
    exact ⟨.int _, H1, I1.kept (t' := s'.toks) hk, ⟨t', rfl⟩, q⟩
end
section
variable {p : Par} {ρ : Rho} {Q : D → Prop} {ta tb te td ty : TE} {tt tu : TT} {P : Post} {ts tv : TS}
theorem RpK.vals {K : PySem.W.Frag} {h : Addr} {G : Hp} : ∀ {vs : List (Key × V)} {ds : List (Key × D)} {is : List Int}, RpK K h G vs ds → ds.map (·.2) = is.map D.int → vs.map (·.2) = is.map V.int
  | [], [], [], _, _ => rfl
  | [], [], i :: is, _, e => by cases e
  | x :: vs, y :: ds, [], r, e => by cases e
  | x :: vs, y :: ds, i :: is, r, e => by
    cases r with
    | cons a b =>
      rw [List.map_cons, List.map_cons] at e
      injection e with e1 e2
      have e1' := e1
      subst e1'
      cases a
      rw [List.map_cons, List.map_cons, RpK.vals b e2]
  | [], d :: ds, _, r, _ => by cases r
  | v :: vs, [], _, r, _ => by cases r
theorem we_sumVals {i : Nat} {kvs : List (Key × D)} {is : List Int} (e : ρ[i]? = some (some (.ok kvs))) (he : kvs.map (·.2) = is.map D.int) (q : Q (.int is.sum)) : WE p ρ (tSumVals (tVar i)) Q := fun G σ H hh Qv k => by
  obtain ⟨a, vs, h1, h2, h3⟩ := dget_own hh e
  exact ⟨.ref a, h1, a, vs, is, rfl, h2, h3.vals he, k _ _ G H q hh.mem.refl (.int _)⟩
/-- {k: v} -/
theorem wf_disp1 {Q : Cell → Prop} {tk tx : TE} (h : WE p ρ tk fun y => ∃ k, y = kD k ∧ WE p ρ tx fun x => Q (.ok [(k, x)])) : WF p ρ (tDisp [(tk, tx)]) Q := fun G σ H hh Qv kk a ha => by
  have s0 := hh.mem.growO (o := .dK []) ha
  have hh0 := hh.step s0
  refine h G σ _ hh0 _ fun y w G1 H1 ⟨k, ey, q⟩ s1 r1 => q G1 σ H1 (hh0.step s1) _ fun x u G2 H2 q2 s2 r2 => ?_
  subst ey
  have ow := hh.mem.fresh ha
  obtain ⟨ow1, e1⟩ := Own.step (by intro _ z; cases z) ow upd_same s1
  obtain ⟨ow2, e2⟩ := Own.step (by intro _ z; cases z) ow1 e1 s2
  refine ⟨e2, [(k, u)], ?_, by show 1 ≤ 15; decide, ?_⟩
  · rw [kD_rp r1] <;> rfl
  · refine kk _ a G2 _ q2 rfl (Stp.updO ((s0.trans s1).trans s2) ha ow2) ha ⟨a, _, rfl, ow2, upd_same, ?_⟩
    show RpK p.K p.h G2 (putK [] k u) [(k, x)]
    exact .cons r2 .nil
/-! ### dicts with tuple keys, a slot's own -/
theorem kDs_rp {G : Hp} : ∀ {ks : List Key} {vs : List V}, RpL p.K p.h G vs (ks.map kD) → vs = ks.map kV
  | [], [], _ => rfl
  | k :: ks, v :: vs, r => by
    cases r with
    | cons a b => rw [List.map_cons, kD_rp a, kDs_rp b]
  | [], v :: vs, r => by cases r
  | k :: ks, [], r => by cases r
theorem rp_kDs {G : Hp} : ∀ (ks : List Key), RpL p.K p.h G (ks.map kV) (ks.map kD)
  | [] => .nil
  | k :: ks => .cons rp_kD (rp_kDs ks)
theorem key_at {G H : Hp} {v : V} {ks : List Key} (e : Ex G H) (r : Rp p.K p.h G v (.tup (ks.map kD))) : ∃ b, v = .ref b ∧ H b = some (.tup (ks.map kV)) := by
  obtain ⟨a, vs, ev, h1, h2⟩ := r.tup_inv
  rw [kDs_rp h2] at h1
  exact ⟨a, ev, e _ _ h1⟩
theorem dgetT_own {i : Nat} {kvs : List (List Key × D)} {G : Hp} {σ : L2.St} {H : Hp} (hh : Hold p ρ G σ H) (e : ρ[i]? = some (some (.ot kvs))) : ∃ a vs, σ[i]? = some (some (.ref a)) ∧ H a = some (.dT vs) ∧ RpT p.K p.h G vs kvs := by
  obtain ⟨sv, h1, a, vs, h2, ow, h4, h5⟩ := hh.slot i _ e
  subst h2
  exact ⟨a, vs, h1, h4, h5⟩
theorem we_dgetT {i : Nat} {kvs : List (List Key × D)} (e : ρ[i]? = some (some (.ot kvs))) (h : WE p ρ ty fun y => ∃ k x, y = .tup (k.map kD) ∧ dGet kvs k = some x ∧ Q x) : WE p ρ (tDGet (tVar i) ty) Q := fun G σ H hh Qv kk => by
  obtain ⟨a, vs, h1, _, _⟩ := dgetT_own hh e
  refine ⟨.ref a, h1, h G σ H hh _ fun y w G1 H1 ⟨k, x, ey, ex, q⟩ s1 r1 => ?_⟩
  subst ey
  obtain ⟨a', vs', h1', h2', h3'⟩ := dgetT_own (hh.step s1) e
  rw [h1] at h1'
  cases h1'
  obtain ⟨b, eb, hb⟩ := key_at s1.sub r1
  rcases h3'.find k with ⟨_, z⟩ | ⟨v, d, z1, z2, z3⟩
  · rw [ex] at z; cases z
  · rw [ex] at z2; cases z2
    exact ⟨a, v, rfl, .inr ⟨vs', k, b, .inl h2', eb, hb, z1.symm⟩, kk _ _ G1 H1 q s1 z3⟩
theorem we_dinT {i : Nat} {kvs : List (List Key × D)} (e : ρ[i]? = some (some (.ot kvs))) (h : WE p ρ ty fun y => ∃ k : List Key, y = .tup (k.map kD) ∧ Q (.bl (dGet kvs k).isSome)) : WE p ρ (tDIn ty (tVar i)) Q := fun G σ H hh Qv kk =>
  h G σ H hh _ fun y w G1 H1 ⟨k, ey, q⟩ s1 r1 => by
    subst ey
    obtain ⟨a, vs, h1, h2, h3⟩ := dgetT_own (hh.step s1) e
    obtain ⟨b, eb, hb⟩ := key_at s1.sub r1
    refine ⟨.ref a, h1, a, valV vs k, rfl, .inr ⟨vs, k, b, .inl h2, eb, hb, rfl⟩, ?_⟩
    have z : (valV vs k).isSome = (dGet kvs k).isSome := by
      rcases h3.find k with ⟨z1, z2⟩ | ⟨v, d, z1, z2, _⟩ <;> rw [z1, z2] <;> rfl
    rw [z]
    exact kk _ _ G1 H1 q s1 (.bl _)
theorem we_dnotinT {i : Nat} {kvs : List (List Key × D)} (e : ρ[i]? = some (some (.ot kvs))) (h : WE p ρ ty fun y => ∃ k : List Key, y = .tup (k.map kD) ∧ Q (.bl (!(dGet kvs k).isSome))) : WE p ρ (tDNotIn ty (tVar i)) Q := fun G σ H hh Qv kk =>
  h G σ H hh _ fun y w G1 H1 ⟨k, ey, q⟩ s1 r1 => by
    subst ey
    obtain ⟨a, vs, h1, h2, h3⟩ := dgetT_own (hh.step s1) e
    obtain ⟨b, eb, hb⟩ := key_at s1.sub r1
    refine ⟨.ref a, h1, a, valV vs k, rfl, .inr ⟨vs, k, b, .inl h2, eb, hb, rfl⟩, ?_⟩
    have z : (valV vs k).isSome = (dGet kvs k).isSome := by
      rcases h3.find k with ⟨z1, z2⟩ | ⟨v, d, z1, z2, _⟩ <;> rw [z1, z2] <;> rfl
    rw [z]
    exact kk _ _ G1 H1 q s1 (.bl _)
theorem we_dget2T {i : Nat} {kvs : List (List Key × D)} {tx : TE} (e : ρ[i]? = some (some (.ot kvs))) (h : WE p ρ ty fun y => ∃ k : List Key, y = .tup (k.map kD) ∧ WE p ρ tx fun x => Q ((dGet kvs k).getD x)) : WE p ρ (tDGet2 (tVar i) ty tx) Q := fun G σ H hh Qv kk => by
  obtain ⟨a, vs, h1, h2, h3⟩ := dgetT_own hh e
  refine ⟨.ref a, h1, a, rfl, .inr ⟨vs, .inl h2⟩, h G σ H hh _ fun y w G1 H1 ⟨k, ey, q⟩ s1 r1 => q G1 σ H1 (hh.step s1) _ fun x u G2 H2 q2 s2 r2 => ?_⟩
  subst ey
  obtain ⟨a', vs', h1', h2', h3'⟩ := dgetT_own ((hh.step s1).step s2) e
  rw [h1] at h1'
  cases h1'
  obtain ⟨b, eb, hb⟩ := key_at s2.sub (rmono r1 s2.ex)
  refine ⟨valV vs' k, .inr ⟨vs', k, b, .inl h2', eb, hb, rfl⟩, ?_⟩
  rcases h3'.find k with ⟨z1, z2⟩ | ⟨v, d, z1, z2, z3⟩
  · rw [z1]; rw [z2] at q2; exact kk _ _ G2 H2 q2 (s1.trans s2) r2
  · rw [z1]; rw [z2] at q2; exact kk _ _ G2 H2 q2 (s1.trans s2) z3
theorem ws_dputT {i : Nat} {kvs : List (List Key × D)} (e : ρ[i]? = some (some (.ot kvs))) (hl : kvs.length < 4000000) (h : WE p ρ te fun x => WE p ρ ty fun y => ∃ k : List Key, y = .tup (k.map kD) ∧ P.n (ρ.set i (some (.ot (dPut kvs k x))))) : WS p ρ (sDPut (tVar i) ty te) P := fun G σ H hh E kn kr kb kc =>
  h G σ H hh _ fun x v G1 H1 q1 s1 r1 => by
    obtain ⟨sv, h1, a, vs, h2, ow, h4, h5⟩ := (hh.step s1).slot i _ e
    subst h2
    refine ⟨.ref a, h1, q1 G1 σ H1 (hh.step s1) _ fun y w G2 H2 ⟨k, ek, z⟩ s2 r2 => ?_⟩
    subst ek
    have hh2 := (hh.step s1).step s2
    obtain ⟨sv', h1', a', vs', h2', ow', h4', h5'⟩ := hh2.slot i _ e
    subst h2'
    rw [h1] at h1'
    cases h1'
    have hz := h5'.length
    obtain ⟨b, eb, hb⟩ := key_at s2.sub r2
    refine ⟨a, _, rfl, .inr ⟨vs', k, b, h4', eb, hb, by rw [sizeLine_eq]; omega, rfl⟩, kn _ G2 σ _ z (ex_tr s1.ex s2.ex) (hh2.write e rfl h1 ow' ⟨a, _, rfl, ow', upd_same, h5'.put k (rmono r1 s2.ex)⟩)⟩

/-! ### walks over a dict that a slot owns, locked meanwhile -/
theorem Hold.lock {G : Hp} {σ : L2.St} {H : Hp} (hh : Hold p ρ G σ H) {i : Nat} {c : Cell} {a : Addr} {o : HO} (e : ρ[i]? = some (some c)) (ho : c.isOwn = true) (q : σ[i]? = some (some (.ref a))) (ow : Own p G a) (nt : NT o) :
    Hold p (ρ.set i (some (.rw a o))) G σ (upd H a o) := hh.write e ho q ow ⟨rfl, ow, upd_same, nt⟩
theorem set_set {α : Type} (l : List α) (i : Nat) (a b : α) : (l.set i a).set i b = l.set i b := by simp
/-- for k, v in d.items(): .., d slot i's own; meanwhile nothing is known of slot i -/
theorem ws_items {i : Nat} {g : TG} {kvs : List (Key × D)} (e : ρ[i]? = some (some (.ok kvs))) (I : Nat → Rho → Prop) (hl : ∀ k ρ', I k ρ' → ρ'.length = ρ.length) (h0 : I 0 (ρ.set i none))
    (hs : ∀ (k : Nat) (key : Key) (x : D) (c : Cell) (ρ' : Rho), kvs[k]? = some (key, x) → I k ρ' → WG p (ρ'.set i (some c)) g (.tup [kD key, x]) fun ρ2 => WS p ρ2 ts ⟨fun ρ3 => ρ3[i]? = some (some c) ∧ I (k + 1) (ρ3.set i none), fun _ => False, fun _ => False, fun ρ3 => ρ3[i]? = some (some c) ∧ I (k + 1) (ρ3.set i none)⟩)
    (hd : ∀ ρ', I kvs.length ρ' → P.n (ρ'.set i (some (.ok kvs)))) : WS p ρ (tLock (tFor (iItems (tVar i)) g ts)) P := fun G σ H hh E kn kr kb kc => by
  obtain ⟨sv, h1, a, vs, h2, ow, h4, h5⟩ := hh.slot i _ e
  subst h2
  refine ⟨a, .dK vs, h4, trivial, fun od => ?_⟩
  have hi : i < ρ.length := (List.getElem?_eq_some_iff.mp e).1
  refine ⟨.ref a, h1, a, od, vs, rfl, upd_same, ?_⟩
  -- the word of the walk: slot i holds the locked dict
  have key : ∀ (k : Nat) (ρ' : Rho) (G' : Hp) (σ' : L2.St) (H' : Hp), I k ρ' → Ex G G' → Hold p (ρ'.set i (some (.rw a (.frz od (.dK vs))))) G' σ' H' → H' a = some (.frz od (.dK vs)) ∧ σ'[i]? = some (some (.ref a)) ∧ Own p G' a := fun k ρ' G' σ' H' hi' ex hh' => by
    obtain ⟨sv, q1, q2, q3, q4, _⟩ := hh'.slot i (.rw a (.frz od (.dK vs))) (by rw [List.getElem?_set_self (by rw [hl k ρ' hi']; exact hi)])
    subst q2
    exact ⟨q4, q1, q3⟩
  refine ⟨fun k m σ' H' => m = vs.length - k ∧ k ≤ vs.length ∧ ∃ ρ' G', I k ρ' ∧ Ex G G' ∧ Hold p (ρ'.set i (some (.rw a (.frz od (.dK vs))))) G' σ' H', ⟨vs.length, by simp, Nat.zero_le _, ρ.set i none, G, h0, Ex.rfl', by rw [set_set]; exact hh.lock e rfl h1 ow (by intro _ z; cases z)⟩, ?_⟩
  rintro k m σ' H' ⟨rfl, hk, ρ', G', hi', ex, hh'⟩
  obtain ⟨w1, w2, w3⟩ := key k ρ' G' σ' H' hi' ex hh'
  by_cases hlt : k < vs.length
  · refine .inr ⟨⟨w1, hlt⟩, fun σ2 H2 => ∃ ρ2 G2, I (k + 1) ρ2 ∧ Ex G G2 ∧ Hold p (ρ2.set i (some (.rw a (.frz od (.dK vs))))) G2 σ2 H2, fun σ2 H2 z => ⟨vs.length - (k + 1), by omega, rfl, hlt, z⟩, fun x H2 y => ?_⟩
    obtain ⟨T, ky, v, hx, ex1, hT, eH⟩ := y
    subst ex1 eH
    obtain ⟨d, hd1, hd2⟩ := h5.get' hx
    have s := hh'.mem.grow (o := .tup [kV ky, v]) hT
    have r : Rp p.K p.h (upd G' T (.tup [kV ky, v])) (.ref T) (.tup [kD ky, d]) := .tup upd_same (.cons rp_kD (.cons (rmono (rmono hd2 ex) s.ex) .nil))
    have back : ∀ {ρ3 : Rho}, ρ3[i]? = some (some (.rw a (.frz od (.dK vs)))) → (ρ3.set i none).set i (some (.rw a (.frz od (.dK vs)))) = ρ3 := fun {ρ3} q => by
      rw [set_set]
      refine List.ext_getElem? fun j => ?_
      by_cases hj : i = j
      · subst hj
        rw [List.getElem?_set_self (List.getElem?_eq_some_iff.mp q).1, q]
      · rw [List.getElem?_set_ne hj]
    exact hs k ky d _ ρ' hd1 hi' _ σ' _ _ (hh'.step s) r _ fun ρ2 G2 σ2 H2 z e2 hh2 => z G2 σ2 H2 hh2 _
      (fun ρ3 G3 σ3 H3 ⟨z3, z4⟩ e3 hh3 => ⟨ρ3.set i none, G3, z4, ex_tr (ex_tr ex s.ex) (ex_tr e2 e3), by rw [back z3]; exact hh3⟩)
      (fun d v G3 H3 z3 _ _ => z3.elim) (fun _ _ _ _ z3 => z3.elim)
      (fun ρ3 G3 σ3 H3 ⟨z3, z4⟩ e3 hh3 => ⟨ρ3.set i none, G3, z4, ex_tr (ex_tr ex s.ex) (ex_tr e2 e3), by rw [back z3]; exact hh3⟩)
  · have ek : k = vs.length := by omega
    subst ek
    refine .inl ⟨⟨w1, Nat.le_refl _⟩, w1, ?_⟩
    have hh2 : Hold p ((ρ'.set i (some (.rw a (.frz od (.dK vs))))).set i (some (.ok kvs))) G' σ' (upd H' a (.dK vs)) :=
      hh'.write (c := .rw a (.frz od (.dK vs))) (by rw [List.getElem?_set_self (by rw [hl _ ρ' hi']; exact hi)]) rfl w2 w3 ⟨a, vs, rfl, w3, upd_same, RpK.mono ex _ _ h5⟩
    rw [set_set] at hh2
    exact kn _ G' σ' _ (hd ρ' (by rw [← h5.length]; exact hi')) ex hh2
end
/-! ### comprehensions over a dict that a slot owns -/
section
variable {p : Par} {ρ : Rho} {Q : D → Prop} {ta tb te td ty : TE} {tt tu : TT} {P : Post} {ts tv : TS} {g : TG}
theorem we_dgetLT {i : Nat} {kvs : List (List Key × D)} (e : ρ[i]? = some (some (.lt kvs))) (h : WE p ρ ty fun y => ∃ k x, y = .tup (k.map kD) ∧ dGet kvs k = some x ∧ Q x) : WE p ρ (tDGet (tVar i) ty) Q := fun G σ H hh Qv kk => by
  obtain ⟨sv, h1, a, od, vs, h2, _⟩ := hh.slot i _ e
  subst h2
  refine ⟨.ref a, h1, h G σ H hh _ fun y w G1 H1 ⟨k, x, ey, ex, q⟩ s1 r1 => ?_⟩
  subst ey
  obtain ⟨sv', h1', a', od', vs', h2', ow', h4', h5'⟩ := (hh.step s1).slot i _ e
  subst h2'
  rw [h1] at h1'
  cases h1'
  obtain ⟨b, eb, hb⟩ := key_at s1.sub r1
  rcases h5'.find k with ⟨_, z⟩ | ⟨v, d, z1, z2, z3⟩
  · rw [ex] at z; cases z
  · rw [ex] at z2; cases z2
    exact ⟨a, v, rfl, .inr ⟨vs', k, b, .inr ⟨_, h4'⟩, eb, hb, z1.symm⟩, kk _ _ G1 H1 q s1 z3⟩
theorem we_dgetLK {i : Nat} {kvs : List (Key × D)} (e : ρ[i]? = some (some (.lk kvs))) (h : WE p ρ ty fun y => ∃ k x, y = kD k ∧ dGet kvs k = some x ∧ Q x) : WE p ρ (tDGet (tVar i) ty) Q := fun G σ H hh Qv kk => by
  obtain ⟨sv, h1, a, od, vs, h2, _⟩ := hh.slot i _ e
  subst h2
  refine ⟨.ref a, h1, h G σ H hh _ fun y w G1 H1 ⟨k, x, ey, ex, q⟩ s1 r1 => ?_⟩
  subst ey
  obtain ⟨sv', h1', a', od', vs', h2', ow', h4', h5'⟩ := (hh.step s1).slot i _ e
  subst h2'
  rw [h1] at h1'
  cases h1'
  rcases h5'.find k with ⟨_, z⟩ | ⟨v, d, z1, z2, z3⟩
  · rw [ex] at z; cases z
  · rw [ex] at z2; cases z2
    exact ⟨a, v, rfl, .inl ⟨vs', k, .inr ⟨_, h4'⟩, kD_rp r1, z1.symm⟩, kk _ _ G1 H1 q s1 z3⟩
/-- the walk over the keys of a locked dict with tuple keys, told as a new list -/
theorem lcKeysT {i : Nat} {vs : List Nat} {kvs : List (List Key × D)} {G : Hp} {σ : L2.St} {H : Hp} {Qv : VK} {a : Addr} {od : Obj} {us : List (List Key × V)} (hh : Hold p ρ G σ H) (hq : σ[i]? = some (some (.ref a))) (ha : H a = some (.frz od (.dT us))) (oa : Own p G a) (hl : RpT p.K p.h G us kvs) (hz : kvs.length ≤ 4000000)
    (I : Nat → List D → Prop) (h0 : I 0 [])
    (hs : ∀ (k : Nat) (key : List Key) (x : D) acc, kvs[k]? = some (key, x) → I k acc → acc.length ≤ k → WGp p vs (wipeR ρ vs) g (.tup (key.map kD)) fun ρ2 => WT p ρ2 tt fun b => if b = true then WE p ρ2 te fun y => I (k + 1) (acc ++ [y]) else I (k + 1) acc)
    (kk : ∀ acc Dl G' H', I kvs.length acc → Stp p G H G' H' → H Dl = none → Slot p G' H' (some (.ref Dl)) (.ol acc) → Qv (.ref Dl) H') : tLc (iKeys (tVar i)) g tt te vs σ H Qv := by
  refine ⟨.ref a, hq, a, od, rfl, .inr ⟨us, ha, fun Dl hn => ?_⟩⟩
  refine ⟨fun k m H' => m = us.length - k ∧ k ≤ us.length ∧ Lc p G H Dl I k H', ⟨us.length, by simp, Nat.zero_le _, lc_start hh hn h0⟩, ?_⟩
  rintro k m H' ⟨rfl, hk, L⟩
  have hfrz : H' a = some (.frz od (.dT us)) := by
    obtain ⟨acc, av, G', _, _, s, _⟩ := L
    exact s.base a _ oa.2.2 ha
  by_cases hlt : k < us.length
  · refine .inr ⟨⟨hfrz, hlt⟩, Lc p G H Dl I (k + 1), fun H2 z => ⟨us.length - (k + 1), by omega, rfl, hlt, z⟩, fun x H2 y => ?_⟩
    obtain ⟨eH, ky, v, q, hx, ex, hT⟩ := y
    subst ex eH
    obtain ⟨d, hd1, hd2⟩ := hl.get' hx
    have hlen := hl.length
    exact lc_turn hh hn (by omega) L (fun G' s => by
      obtain ⟨G2, s2, hq2⟩ := Mem.learn (p := p) (hh.step s).mem hT
      exact ⟨G2, s2, .tup hq2 (rp_kDs ky)⟩) fun acc hi hle => hs k ky d acc hd1 hi hle
  · have ek : k = us.length := by omega
    subst ek
    obtain ⟨acc, av, G', hi, _, s, e, ow, r⟩ := L
    exact .inl ⟨⟨hfrz, Nat.le_refl _⟩, kk acc Dl G' H' (by rw [← hl.length]; exact hi) s hn ⟨Dl, av, rfl, ow, e, r⟩⟩
/-- y = [.. for k in d ..], d slot i's own with tuple keys -/
theorem ws_lcKeysT {i j : Nat} {vs : List Nat} {kvs : List (List Key × D)} (e : ρ[i]? = some (some (.ot kvs))) (hz : kvs.length ≤ 4000000) (I : Nat → List D → Prop) (h0 : I 0 [])
    (hs : ∀ (k : Nat) (key : List Key) (x : D) acc, kvs[k]? = some (key, x) → I k acc → acc.length ≤ k → WGp p vs (wipeR (ρ.set i (some (.lt kvs))) vs) g (.tup (key.map kD)) fun ρ2 => WT p ρ2 tt fun b => if b = true then WE p ρ2 te fun y => I (k + 1) (acc ++ [y]) else I (k + 1) acc)
    (hd : ∀ acc, I kvs.length acc → P.n (ρ.set j (some (.ol acc)))) (hij : i ≠ j) : WS p ρ (tLock (tAsg (tLc (iKeys (tVar i)) g tt te vs) (gName j))) P := fun G σ H hh E kn kr kb kc => by
  obtain ⟨sv, h1, a, us, h2, ow, h4, h5⟩ := hh.slot i _ e
  subst h2
  refine ⟨a, .dT us, h4, trivial, fun od => ?_⟩
  have hi : i < ρ.length := (List.getElem?_eq_some_iff.mp e).1
  have hh1 : Hold p (ρ.set i (some (.lt kvs))) G σ (upd H a (.frz od (.dT us))) := hh.write e rfl h1 ow ⟨a, od, us, rfl, ow, upd_same, h5⟩
  refine lcKeysT hh1 h1 upd_same ow h5 hz I h0 hs fun acc Dl G' H' hacc s hn x => ?_
  have hfr : H' a = some (.frz od (.dT us)) := s.base a _ ow.2.2 upd_same
  refine ⟨hfr, ?_⟩
  have hh2 := hh1.setNew (i := j) s hn x
  have hlt : (ρ.set i (some (.lt kvs)) : Rho)[i]? = some (some (.lt kvs)) := List.getElem?_set_self hi
  have ow2 : Own p G' a := (Own.step (by intro _ z; cases z) ow (upd_same (H := H) (o := .frz od (.dT us))) s).1
  have hh3 : Hold p (((ρ.set i (some (.lt kvs))).set j (some (.ol acc))).set i (some (.ot kvs))) G' (σ.set j (some (.ref Dl))) (upd H' a (.dT us)) :=
    hh2.write (c := .lt kvs) (by rw [List.getElem?_set_ne (Ne.symm hij)]; exact hlt) rfl (by rw [List.getElem?_set_ne (Ne.symm hij)]; exact h1) ow2 ⟨a, us, rfl, ow2, upd_same, RpT.mono s.ex _ _ h5⟩
  have er : (((ρ.set i (some (.lt kvs))).set j (some (.ol acc))).set i (some (.ot kvs))) = ρ.set j (some (.ol acc)) := by
    rw [List.set_comm _ _ (Ne.symm hij), set_set]
    congr 1
    refine List.ext_getElem? fun m => ?_
    by_cases hm : i = m
    · subst hm
      rw [List.getElem?_set_self hi, e]
    · rw [List.getElem?_set_ne hm]
  rw [er] at hh3
  exact kn _ G' _ _ (hd acc hacc) s.ex hh3
end
end Cal
set_option Elab.async false
set_option linter.all false
set_option maxRecDepth 100000
set_option maxHeartbeats 2000000
namespace Cal
open PySem L2 PyProof.Rows
open Evl (Ex ex_l ex_t ex_rd sq_of st_of)
/-! ### isinstance -/
def tyD : D → Option String
  | .non => some "NoneType" | .bl _ => some "bool" | .int _ => some "int" | .str _ => some "str" | .tup _ => some "tuple" | .lst _ => some "list" | .dK _ => some "dict" | _ => none
section
variable {p : Par} {ρ : Rho} {Q : D → Prop} {ta tb te td ty : TE} {tt tu : TT} {P : Post} {ts tv : TS} {g : TG}
theorem tyD_x {G H : Hp} {v : V} {t : String} (e : Ex G H) : ∀ {x : D}, Rp p.K p.h G v x → tyD x = some t → TyX p.K H v (.type t)
  | .non, r, h => by cases r; cases h; exact .base .non
  | .bl b, r, h => by cases r; cases h; exact .base (.bl b)
  | .int i, r, h => by cases r; cases h; exact .base (.int i)
  | .str x, r, h => by cases r; cases h; exact .base (.str x)
  | .tup xs, r, h => by
    cases h
    obtain ⟨a, vs, ev, h1, _⟩ := r.tup_inv
    subst ev
    exact .base (.tup (e _ _ h1))
  | .lst xs, r, h => by
    cases h
    obtain ⟨a, vs, ev, h1, _⟩ := r.lst_inv
    subst ev
    exact .base (.lst (e _ _ h1))
  | .dK kvs, r, h => by
    cases h
    cases r with
    | dK q _ =>
      rcases ex_rd e q with q | ⟨o, q⟩
      · exact .base (.dK q)
      · exact .fDict q
  | .hand, _, h => by cases h
  | .dT _, _, h => by cases h
  | .raw _, _, h => by cases h
theorem we_isi {T : String} (h : WE p ρ te fun x => ∃ t b, tyD x = some t ∧ kitB t T = some b ∧ Q (.bl b)) : WE p ρ (tCB (rIsi p.K) (tCons te (tCons (tC (.ty T)) tNil))) Q := fun G σ H hh Qv k =>
  h G σ H hh _ fun x v G1 H1 ⟨t, b, e1, e2, q⟩ s r => ⟨v, .ty T, .type t, .type T, b, rfl, .ty T, tyD_x s.sub r e1, kit_ty e2, k _ _ G1 H1 q s (.bl _)⟩
end
theorem kb_int_int : kitB "int" "int" = some true := by decide +kernel
theorem kb_bool_int : kitB "bool" "int" = some true := by decide +kernel
theorem kb_tuple_int : kitB "tuple" "int" = some false := by decide +kernel
theorem kb_list_int : kitB "list" "int" = some false := by decide +kernel
theorem kb_str_int : kitB "str" "int" = some false := by decide +kernel
theorem kb_none_int : kitB "NoneType" "int" = some false := by decide +kernel
theorem kb_dict_int : kitB "dict" "int" = some false := by decide +kernel
theorem kb_int_bool : kitB "int" "bool" = some false := by decide +kernel
theorem kb_bool_bool : kitB "bool" "bool" = some true := by decide +kernel
theorem kb_tuple_bool : kitB "tuple" "bool" = some false := by decide +kernel
theorem kb_list_bool : kitB "list" "bool" = some false := by decide +kernel
theorem kb_str_bool : kitB "str" "bool" = some false := by decide +kernel
theorem kb_none_bool : kitB "NoneType" "bool" = some false := by decide +kernel
theorem kb_dict_bool : kitB "dict" "bool" = some false := by decide +kernel
theorem kb_int_tuple : kitB "int" "tuple" = some false := by decide +kernel
theorem kb_bool_tuple : kitB "bool" "tuple" = some false := by decide +kernel
theorem kb_tuple_tuple : kitB "tuple" "tuple" = some true := by decide +kernel
theorem kb_list_tuple : kitB "list" "tuple" = some false := by decide +kernel
theorem kb_str_tuple : kitB "str" "tuple" = some false := by decide +kernel
theorem kb_none_tuple : kitB "NoneType" "tuple" = some false := by decide +kernel
theorem kb_dict_tuple : kitB "dict" "tuple" = some false := by decide +kernel
theorem kb_int_list : kitB "int" "list" = some false := by decide +kernel
theorem kb_int_dict : kitB "int" "dict" = some false := by decide +kernel

/-! ### ints -/
theorem ix0 {α : Type} {xs : List α} {n : Nat} {x : α} (h : xs[n]? = some x) : atI xs (n : Int) = some x := by
  unfold atI ixN
  have hl : n < xs.length := (List.getElem?_eq_some_iff.mp h).1
  rw [if_pos (by omega), if_pos (by omega)]
  simpa using h
theorem atI_of {α : Type} {xs : List α} {i : Int} (h0 : 0 ≤ i) (h : i < xs.length) : ∃ x, atI xs i = some x ∧ xs[i.toNat]? = some x := by
  have hl : i.toNat < xs.length := by omega
  refine ⟨xs[i.toNat], ?_, List.getElem?_eq_getElem hl⟩
  unfold atI ixN
  rw [if_pos h0, if_pos h]
  exact List.getElem?_eq_getElem hl
/-- products of ints below 2 ^ 500000 -/
theorem mulOk {i j : Int} (hi : i.natAbs < 2 ^ 499999) (hj : j.natAbs < 2 ^ 499999) : CMulW i j := wide_mul (a := 499999) (b := 499999) hi hj (by decide) (by decide) (by decide)
theorem mulS {i j : Int} (a b : Nat) (hi : i.natAbs < 2 ^ a) (hj : j.natAbs < 2 ^ b) (h0 : 0 < a) (h1 : 0 < b) (h : a + b ≤ 1000000) : CMulW i j := wide_mul hi hj h0 h1 h
theorem big {n : Nat} {k : Nat} (h : n < 18446744073709551616) (hk : 64 ≤ k) : n < 2 ^ k := Nat.lt_of_lt_of_le (show n < 2 ^ 64 from h) (Nat.pow_le_pow_right (by decide) hk)
theorem natAbs_lt {i : Int} {n : Nat} (h1 : -(n : Int) < i) (h2 : i < n) : i.natAbs < n := by omega
/-- products of ints below 2 ^ 64 -/
theorem mul64 {i j : Int} (hi : i.natAbs < 18446744073709551616) (hj : j.natAbs < 18446744073709551616) : CMulW i j := mulS 64 64 hi hj (by decide) (by decide) (by decide)
theorem div64 {j : Int} (i : Int) (h : 0 < j) (hj : j < 18446744073709551616) : CDivW i j := by
  refine wide_div (b := 64) h ?_ (by decide) (by decide)
  have e : (2 : Nat) ^ 64 = 18446744073709551616 := by decide
  rw [e]
  omega
/-- a product: one side below 2 ^ 64, or both together not too long -/
def CMulA (i j : Int) : Prop := (-18446744073709551616 < i ∧ i < 18446744073709551616) ∨ (-18446744073709551616 < j ∧ j < 18446744073709551616) ∨ CMulW i j
def CDivA (_ j : Int) : Prop := 0 < j ∧ (j < 18446744073709551616 ∨ j.natAbs.log2 < 9000)
theorem op_mulA {X : Cx} : OpR X (binaryOp .Mult) (rI CMulA fun i j => .int (i * j)) := by
  intro pins s σ H x y v u Q I rx ry h
  obtain ⟨i, j, ex, ey, c, q⟩ := h
  have e : (2 : Int) ^ 64 = 18446744073709551616 := by decide
  rcases c with c | c | c
  · exact op_mul pins s σ H x y v u Q I rx ry ⟨i, j, ex, ey, .inl (by rw [e]; exact c), q⟩
  · exact op_mul pins s σ H x y v u Q I rx ry ⟨i, j, ex, ey, .inr (by rw [e]; exact c), q⟩
  · exact op_mulW pins s σ H x y v u Q I rx ry ⟨i, j, ex, ey, c, q⟩
theorem op_divA {X : Cx} : OpR X (binaryOp .FloorDiv) (rI CDivA fun i j => .int (i / j)) := by
  intro pins s σ H x y v u Q I rx ry h
  obtain ⟨i, j, ex, ey, ⟨c1, c2⟩, q⟩ := h
  refine op_fdivW pins s σ H x y v u Q I rx ry ⟨i, j, ex, ey, ?_, q⟩
  rcases c2 with c | c
  · exact div64 i c1 c
  · exact ⟨c1, c⟩
/-! ### the hand -/
section
variable {p : Par} {ρ : Rho} {Q : D → Prop} {ta tb te td ty : TE} {tt tu : TT} {P : Post} {ts tv : TS} {g : TG}
theorem we_hand0 (h : WE p ρ ta fun x => x = .hand ∧ ∀ ns : List Int, ns.length ≤ 63 → Q (.lst (ns.map D.int))) : WE p ρ (tOp (rIxL p.K) ta (tC (.int 0))) Q := fun G σ H hh Qv k =>
  h G σ H hh _ fun x v G1 H1 ⟨e, q⟩ s1 r1 => by
    subst e
    cases r1
    obtain ⟨c, ns, i, r, n, h1, h2, h3, _⟩ := s1.hand
    exact ⟨p.h, _, 0, .ref c, rfl, rfl, sq_of h1, rfl, k _ _ G1 H1 (q ns h3) s1 (.lst h2 (RpL.ofInts ns))⟩
theorem we_handN {j : Int} (hj : j = 1 ∨ j = 2 ∨ j = 3) (h : WE p ρ ta fun x => x = .hand ∧ ∀ i : Int, 0 ≤ i → Q (.int i)) : WE p ρ (tOp (rIxL p.K) ta (tC (.int j))) Q := fun G σ H hh Qv k =>
  h G σ H hh _ fun x v G1 H1 ⟨e, q⟩ s1 r1 => by
    subst e
    cases r1
    obtain ⟨c, ns, i, r, n, h1, h2, h3, h4, h5, h6⟩ := s1.hand
    rcases hj with e | e | e
    · subst e; exact ⟨p.h, _, 1, .int i, rfl, rfl, sq_of h1, rfl, k _ _ G1 H1 (q i h4) s1 (.int _)⟩
    · subst e; exact ⟨p.h, _, 2, .int r, rfl, rfl, sq_of h1, rfl, k _ _ G1 H1 (q r h5) s1 (.int _)⟩
    · subst e; exact ⟨p.h, _, 3, .int n, rfl, rfl, sq_of h1, rfl, k _ _ G1 H1 (q n h6) s1 (.int _)⟩
theorem Hold.handed {G : Hp} {σ : L2.St} {H H' : Hp} (hh : Hold p ρ G σ H) (hne : ∀ a, a ≠ p.h → H' a = H a) (hd : Hand p.K G H' p.h) : Hold p ρ G σ H' := by
  refine ⟨⟨fun b u z => ?_, hh.mem.gh, fun b u n z => by rw [hne b n]; exact hh.mem.base b u n z, hh.mem.g0, hh.mem.new, hd⟩, hh.len, fun j c e => ?_, hh.sep⟩
  · rw [hne b (fun y => by rw [y, hh.mem.gh] at z; cases z)]; exact hh.mem.sub b u z
  · obtain ⟨sv, h1, h2⟩ := hh.slot j c e
    refine ⟨sv, h1, ?_⟩
    cases c with
    | d x => exact h2
    | ol xs => obtain ⟨b, vs, h3, h4, h5, h6⟩ := h2; exact ⟨b, vs, h3, h4, by rw [hne b h4.2.2]; exact h5, h6⟩
    | ok xs => obtain ⟨b, vs, h3, h4, h5, h6⟩ := h2; exact ⟨b, vs, h3, h4, by rw [hne b h4.2.2]; exact h5, h6⟩
    | ot xs => obtain ⟨b, vs, h3, h4, h5, h6⟩ := h2; exact ⟨b, vs, h3, h4, by rw [hne b h4.2.2]; exact h5, h6⟩
    | rw b u => obtain ⟨h3, h4, h5, h6⟩ := h2; exact ⟨h3, h4, by rw [hne b h4.2.2]; exact h5, h6⟩
    | lk xs => obtain ⟨b, od, vs, h3, h4, h5, h6⟩ := h2; exact ⟨b, od, vs, h3, h4, by rw [hne b h4.2.2]; exact h5, h6⟩
    | lt xs => obtain ⟨b, od, vs, h3, h4, h5, h6⟩ := h2; exact ⟨b, od, vs, h3, h4, by rw [hne b h4.2.2]; exact h5, h6⟩
theorem ws_handN {j : Int} (hj : j = 1 ∨ j = 2 ∨ j = 3) (h : WE p ρ te fun y => ∃ i, y = .int i ∧ 0 ≤ i ∧ WE p ρ ta fun x => x = .hand ∧ P.n ρ) : WS p ρ (tAsg te (gSub ta (tC (.int j)) rSetL)) P := fun G σ H hh E kn kr kb kc =>
  h G σ H hh _ fun y w G1 H1 ⟨z, e, hz, q⟩ s1 r1 => q G1 σ H1 (hh.step s1) _ fun x v G2 H2 ⟨e2, q2⟩ s2 r2 => by
    subst e e2
    cases r1
    cases r2
    have hh2 := (hh.step s1).step s2
    obtain ⟨c, ns, i, r, n, h1, h2, h3, h4, h5, h6⟩ := s2.hand
    have go : ∀ (jn : Nat) (xs' : List V), Hand p.K G2 (upd H2 p.h (.lst xs')) p.h → E.nx σ (upd H2 p.h (.lst xs')) := fun jn xs' hd =>
      kn ρ G2 σ _ q2 (ex_tr s1.ex s2.ex) (hh2.handed (fun a ha => upd_ne ha) hd)
    rcases hj with e | e | e
    · subst e
      exact ⟨p.h, _, 1, 1, rfl, rfl, h1, rfl, go 1 _ ⟨c, ns, z, r, n, upd_same, h2, h3, hz, h5, h6⟩⟩
    · subst e
      exact ⟨p.h, _, 2, 2, rfl, rfl, h1, rfl, go 2 _ ⟨c, ns, i, z, n, upd_same, h2, h3, h4, hz, h6⟩⟩
    · subst e
      exact ⟨p.h, _, 3, 3, rfl, rfl, h1, rfl, go 3 _ ⟨c, ns, i, r, z, upd_same, h2, h3, h4, h5, hz⟩⟩
end
/-! ### chains, truth -/
section
variable {p : Par} {ρ : Rho} {Q : D → Prop} {ta tb tc te td ty : TE} {tt tu : TT} {P : Post} {ts tv : TS} {g : TG}
theorem we_chain {f f' : Int → Int → Bool} (h : WE p ρ ta fun x => ∃ i, x = .int i ∧ WE p ρ tb fun y => ∃ j, y = .int j ∧ (f i j = true → WE p ρ tc fun z => ∃ k, z = .int k ∧ Q (.bl (f' j k))) ∧ (f i j = false → Q (.bl false))) :
    WE p ρ (tChain (rI0 fun i j => .bl (f i j)) (rI0 fun i j => .bl (f' i j)) ta tb tc) Q := fun G σ H hh Qv k =>
  h G σ H hh _ fun x v G1 H1 ⟨i, e1, h2⟩ s1 r1 => h2 G1 σ H1 (hh.step s1) _ fun y w G2 H2 ⟨j, e2, q1, q2⟩ s2 r2 => by
    subst e1 e2
    refine ⟨i, j, rp_int r1, rp_int r2, f i j, rfl, ?_⟩
    cases hb : f i j with
    | false => rw [if_neg (by decide)]; exact k _ _ G2 H2 (q2 hb) (s1.trans s2) (.bl _)
    | true =>
      rw [if_pos rfl]
      refine q1 hb G2 σ H2 ((hh.step s1).step s2) _ fun z u G3 H3 ⟨l, e3, q⟩ s3 r3 => ?_
      subst e3
      exact ⟨j, l, rp_int r2, rp_int r3, k _ _ G3 H3 q ((s1.trans s2).trans s3) (.bl _)⟩
end
/-! ### kinds -/
def isIB : D → Bool | .int _ => true | .bl _ => true | _ => false
def isBl : D → Bool | .bl _ => true | _ => false
def isI : D → Bool | .int _ => true | _ => false
def isTu : D → Bool | .tup _ => true | _ => false
def isLs : D → Bool | .lst _ => true | _ => false
theorem kb_int : ∀ {x : D} {t : String}, tyD x = some t → kitB t "int" = some (isIB x)
  | .non, _, h => by cases h; exact kb_none_int
  | .bl _, _, h => by cases h; exact kb_bool_int
  | .int _, _, h => by cases h; exact kb_int_int
  | .str _, _, h => by cases h; exact kb_str_int
  | .tup _, _, h => by cases h; exact kb_tuple_int
  | .lst _, _, h => by cases h; exact kb_list_int
  | .dK _, _, h => by cases h; exact kb_dict_int
  | .hand, _, h => by cases h
  | .dT _, _, h => by cases h
  | .raw _, _, h => by cases h
theorem kb_bool : ∀ {x : D} {t : String}, tyD x = some t → kitB t "bool" = some (isBl x)
  | .non, _, h => by cases h; exact kb_none_bool
  | .bl _, _, h => by cases h; exact kb_bool_bool
  | .int _, _, h => by cases h; exact kb_int_bool
  | .str _, _, h => by cases h; exact kb_str_bool
  | .tup _, _, h => by cases h; exact kb_tuple_bool
  | .lst _, _, h => by cases h; exact kb_list_bool
  | .dK _, _, h => by cases h; exact kb_dict_bool
  | .hand, _, h => by cases h
  | .dT _, _, h => by cases h
  | .raw _, _, h => by cases h
theorem kb_tuple : ∀ {x : D} {t : String}, tyD x = some t → kitB t "tuple" = some (isTu x)
  | .non, _, h => by cases h; exact kb_none_tuple
  | .bl _, _, h => by cases h; exact kb_bool_tuple
  | .int _, _, h => by cases h; exact kb_int_tuple
  | .str _, _, h => by cases h; exact kb_str_tuple
  | .tup _, _, h => by cases h; exact kb_tuple_tuple
  | .lst _, _, h => by cases h; exact kb_list_tuple
  | .dK _, _, h => by cases h; exact kb_dict_tuple
  | .hand, _, h => by cases h
  | .dT _, _, h => by cases h
  | .raw _, _, h => by cases h
/-! ### more built-ins -/
section
variable {p : Par} {ρ : Rho} {Q : D → Prop} {ta tb tc te td ty : TE} {tt tu : TT} {P : Post} {ts tv : TS} {g : TG}
theorem we_isiT {A B : String} (h : WE p ρ te fun x => ∃ t a b, tyD x = some t ∧ kitB t A = some a ∧ kitB t B = some b ∧ Q (.bl (a || b))) : WE p ρ (tCB (rIsiT p.K) (tCons te (tCons (tTup (tCons (tC (.ty A)) (tCons (tC (.ty B)) tNil))) tNil))) Q := fun G σ H hh Qv k =>
  h G σ H hh _ fun x v G1 H1 ⟨t, a, b, e1, e2, e3, q⟩ s r => ⟨sz (Nat.le_of_ble_eq_true rfl), fun tp hp => by
    have s2 := (hh.step s).mem.grow (o := .tup [.ty A, .ty B]) hp
    refine ⟨v, tp, [.ty A, .ty B], .type t, [.type A, .type B], a || b, rfl, upd_same, .cons (.ty A) (.cons (.ty B) .nil), tyD_x s2.sub (rmono r s2.ex) e1, ?_, k _ _ _ _ q (s.trans s2) (.bl _)⟩
    refine kitAny_cons (kit_ty e2) (fun ha => ?_) (fun ha => by rw [ha]; rfl)
    rw [ha]
    refine kitAny_cons (kit_ty e3) (fun hb => ?_) (fun hb => by rw [hb]; rfl)
    rw [hb]
    exact kitAny_nil⟩
theorem we_eqB (h : WE p ρ ta fun x => ∃ i, x = .bl i ∧ WE p ρ tb fun y => ∃ j, y = .bl j ∧ Q (.bl (i == j))) : WE p ρ (tOp rEq ta tb) Q :=
  we_op (h.imp fun x ⟨i, e, h⟩ => h.imp fun y ⟨j, e2, q⟩ => fun G H v w m r1 r2 Qv k => by
    subst e e2
    rw [rp_bl r1, rp_bl r2]
    refine ⟨rfl, ?_⟩
    rw [dec_bl]
    exact k _ _ G H q m.refl (.bl _))
theorem we_sum (h : WE p ρ te fun x => ∃ ns : List Int, x = .lst (ns.map D.int) ∧ Q (.int ns.sum)) : WE p ρ (tCB (rSum p.K) (tCons te tNil)) Q :=
  we_cb (wa_cons (h.imp fun x ⟨ns, e, q⟩ => wa_nil fun G H vs m r Qv k => by
    subst e
    cases r with
    | cons r rn =>
      cases rn
      obtain ⟨a, us, ev, hs, hl⟩ := r.lst_inv
      subst ev
      rw [hl.ints] at hs
      exact ⟨a, ns, rfl, lq m.sub hs, k _ _ G H q m.refl (.int _)⟩))
end
/-! ### the law's own start -/
/-- a def by a promise of its own -/
structure DfnR (P : Program) (w : World) (K : PySem.W.Frag) (mg : Str → Option Value) (base : Heap) (k : Nat) (x : Str) (ps : List Str) (sp : Sp) : Prop where
  ex : ∃ f fd, mg x = some (.ref f) ∧ PySem.W.keepIn K (.ref f) = true ∧ FnOk P w K mg base CX0 k f fd ps sp ∧ Binds K fd ps []
section
variable {X : Cx} {x : Str} {p pos : Pos} {e : Expr} {es : List Expr} {t : TA} {k : Nat} {ps : List Str} {sp : Sp}
theorem pe_callR (F : DfnR X.prog X.w X.K X.mg X.base k x ps sp) (hr : Room k X.A) (ha : PA X (e :: es) t) (hg : Gl X x := by rfl) (hdb : (x == ("__debug__" : Str)) = false := by decide)
    (he : starEach (e :: es) X.env = (false, eval e X.env) :: starEach es X.env := by rfl) (hpl : (backTo pos (starEach es X.env)).any (·.1) = false := by rfl) : PE X (.Call (.Name x p) (e :: es) [] pos) (tCall sp [] E0 t) := by
  obtain ⟨f, fd, h1, h2, h3, h4⟩ := F.ex
  exact pe_call h3 hr hg h1 h2 h4 .nil pass0 ha hdb he hpl
end
section
variable {P : Program} {w : World} {K : PySem.W.Frag} {mg : Str → Option Value} {base : Heap}
theorem mkR {x : Str} {st : Stmt} {N ps : List Str} {k : Nat} {sp : Sp} (F : Src K mg x st) (sc : FnScope N ps (defScope st))
    (hb : ∀ (kV doc pm : Value) (an : Option Addr) (cdv ct : Value) (us : List Value), us.length = ps.length → bindArgs (PySem.W.fnOf x x (defArgs st) (defBody st) (defScope st) .none kV doc pm an cdv ct) ⟨us, []⟩ = pure (ps.zip us))
    (len : ∀ vs H Q E, sp vs H Q E → vs.length = ps.length)
    (body : ∀ (f : Addr) (cdv : Value) (A : Around) (outer : List Env) (s : Shared) (H : Hp) (E : XK), Room k (A.deeper (envOfC x (defScope st) s.heap.objs.size f cdv)) →
      ∃ t, PSs (cxOf CX0 P w K mg base N x (defScope st) f cdv A outer s H E).nox (defBody st) t ∧ ∀ vs Q, sp vs H Q E → t { nx := fun _ H' => Q .non H', rt := Q } (L2.start N vs) H) : DfnR P w K mg base (k + 1) x ps sp := by
  obtain ⟨f, fd, hm, F⟩ := F.ex
  refine ⟨f, fd, hm, F.kp, F.ok sc len (fun cdv A outer s H vs Q E hr h => ?_), F.binds hb⟩
  obtain ⟨t, ht, hw⟩ := body f cdv A outer s H E hr
  exact ⟨t, ht, hw vs Q h⟩
end
/-- _law_hand's promise -/
def spHand (K : PySem.W.Frag) : Sp := fun vs H Q _ => ∃ (a : Addr) (ns : List Int), vs = [.ref a] ∧ SqL K H a (ns.map V.int) ∧ ns.length ≤ 63 ∧
  ∀ (h c : Addr) (H' : Hp), Ex H H' → h ≠ c → H' h = some (.lst [.ref c, .int 0, .int 0, .int 0]) → H' c = some (.lst (ns.map V.int)) → Q (.ref h) H'
def spLaw (K : PySem.W.Frag) : Sp := fun vs H Q _ => ∃ (a : Addr) (ns : List Int), vs = [.ref a] ∧ SqL K H a (ns.map V.int) ∧ ns.length ≤ 63 ∧ ∀ H', Q (.bl true) H'
def lawP : Post := ⟨fun _ => False, fun d => d = .bl true, fun _ => False, fun _ => False⟩
theorem law_go {K : PySem.W.Frag} {H : Hp} {h c : Addr} {ns : List Int} {σ : L2.St} {ts : TS} {E : Ends} (ρ : Rho) (hne : h ≠ c) (hl : ns.length ≤ 63) (hh : H h = some (.lst [.ref c, .int 0, .int 0, .int 0])) (hc : H c = some (.lst (ns.map V.int)))
    (len : σ.length = ρ.length) (hρ : ∀ (i : Nat) (x : Cell), ρ[i]? = some (some x) → x = .d .hand ∧ σ[i]? = some (some (.ref h))) (hw : ∀ H0 G0, WS ⟨K, h, H0, G0⟩ ρ ts lawP) (hE : ∀ H', E.rt (.bl true) H') : ts E σ H := by
  let G : Hp := fun a => if a = h then none else H a
  have hG : ∀ a o, G a = some o → H a = some o ∧ a ≠ h := fun a o e => by
    by_cases ha : a = h
    · have : G a = none := if_pos ha
      rw [this] at e; cases e
    · have : G a = H a := if_neg ha
      rw [this] at e; exact ⟨e, ha⟩
  have m : Mem ⟨K, h, H, G⟩ G H := ⟨fun a o e => (hG a o e).1, if_pos rfl, fun _ _ _ e => e, fun _ _ e => e, fun _ _ e => .inl e, ⟨c, ns, 0, 0, 0, hh, by show (if c = h then none else H c) = _; rw [if_neg (Ne.symm hne)]; exact hc, hl, by omega, by omega, by omega⟩⟩
  refine hw H G G σ H ⟨m, len, fun i x e => ?_, fun i j x x' a e1 o1 e2 o2 _ _ => ?_⟩ E (fun _ _ _ _ z => z.elim) (fun d v G' H' z _ r => ?_) (fun _ _ _ _ z => z.elim) fun _ _ _ _ z => z.elim
  · obtain ⟨rfl, q⟩ := hρ i x e
    exact ⟨_, q, _, rfl, .hand⟩
  · obtain ⟨rfl, _⟩ := hρ i x e1
    cases o1
  · have z' : d = .bl true := z
    subst z'
    rw [rp_bl r]
    exact hE H'
/-- behind a statement what slot i owns is plain data -/
theorem ws_endfreeze {p : Par} {ρ : Rho} {ts : TS} {P : Post} (i : Nat) (h : WS p ρ ts { P with n := fun ρ' => ∃ c, ρ'[i]? = some (some c) ∧ c.isOwn = true ∧ P.n (ρ'.set i (some (.d c.toD))) }) : WS p ρ ts P := fun G σ H hh E kn kr kb kc =>
  h G σ H hh E (fun ρ' G' σ' H' ⟨c, e, ho, z⟩ ex hh' => by
    obtain ⟨sv, h1, h2⟩ := hh'.slot i _ e
    obtain ⟨a, u, h3, _, _⟩ := Cell.own_ref h2 ho
    subst h3
    obtain ⟨o, ha, ow, r⟩ := h2.toD ho
    obtain ⟨hh2, ex2⟩ := hh'.freeze e ho h1 ow ha r
    exact kn _ _ σ' H' z (ex_tr ex ex2) hh2) kr kb kc
theorem law_go1 {K : PySem.W.Frag} {H : Hp} {h c a : Addr} {ns : List Int} {ts : TS} {E : Ends} (k : Nat) (hne : h ≠ c) (hl : ns.length ≤ 63) (hh : H h = some (.lst [.ref c, .int 0, .int 0, .int 0])) (hc : H c = some (.lst (ns.map V.int)))
    (hw : ∀ H0 G0, WS ⟨K, h, H0, G0⟩ (none :: some (.d .hand) :: List.replicate k none) ts lawP) (hE : ∀ H', E.rt (.bl true) H') : ts E (some (.ref a) :: some (.ref h) :: List.replicate k none) H := by
  refine law_go (none :: some (.d .hand) :: List.replicate k none) hne hl hh hc (by simp) (fun i x e => ?_) hw hE
  match i, e with
  | 0, e => simp at e
  | 1, e =>
    simp only [List.getElem?_cons_succ, List.getElem?_cons_zero, Option.some.injEq] at e
    subst e
    exact ⟨rfl, rfl⟩
  | i + 2, e =>
    simp only [List.getElem?_cons_succ, List.getElem?_replicate] at e
    split at e <;> cases e
/-! ### the rules with the written part by its name -/
section
variable {X : Cx} {K0 : PySem.W.Frag}
theorem ix_tupK (hK : X.K = K0) : IxR X (rIxT K0) := hK ▸ ix_tup
theorem ix_listK (hK : X.K = K0) : IxR X (rIxL K0) := hK ▸ ix_list
theorem sl_tupK (hK : X.K = K0) : SlR X (rSlA K0) := hK ▸ sl_tupA
theorem sl_listK (hK : X.K = K0) : SlR X (rSlL K0) := hK ▸ sl_list
theorem op_catK (hK : X.K = K0) : OpR X (binaryOp .Add) (rCatA K0) := hK ▸ op_catA
theorem op_eqK (hK : X.K = K0) (hu : X.A.units + 64 < cLine) : OpR X (compareOp .Eq) (rEqD K0) := hK ▸ op_eqD hu
theorem op_neK (hK : X.K = K0) (hu : X.A.units + 64 < cLine) : OpR X (compareOp .NotEq) (rNeD K0) := hK ▸ op_neD hu
theorem call_lenK (hK : X.K = K0) : CallR X (.builtin "len") (fun xs H Q => ∃ q ys, xs = [V.ref q] ∧ (SqL K0 H q ys ∨ SqT K0 H q ys) ∧ Q (.int ys.length) H) := hK ▸ call_len_seq
theorem call_tupleK (hK : X.K = K0) : CallR X (.type "tuple") (fun xs H Q => ∃ q ys, xs = [V.ref q] ∧ ((SqL K0 H q ys ∧ ∀ l, H l = none → Q (.ref l) (upd H l (.tup ys))) ∨ (SqT K0 H q ys ∧ Q (.ref q) H))) := hK ▸ call_tuple_of
theorem call_listK (hK : X.K = K0) : CallR X (.type "list") (fun xs H Q => ∃ q ys, xs = [V.ref q] ∧ (SqL K0 H q ys ∨ SqT K0 H q ys) ∧ ∀ l, H l = none → Q (.ref l) (upd H l (.lst ys))) := hK ▸ call_list_of
theorem call_isiK0 (hK : X.K = K0) : CallR X (.builtin "isinstance") (rIsi K0) := hK ▸ call_isi
theorem call_isiTK (hK : X.K = K0) : CallR X (.builtin "isinstance") (rIsiT K0) := hK ▸ call_isiT
theorem cr_sumK (hK : X.K = K0) (hc : X.calm = true) : CallR X (.builtin "sum") (rSum K0) := hK ▸ cr_sum hc
variable {x : Str} {p pos : Pos} {e : Expr} {es : List Expr} {t : TA} {k : Nat} {ps : List Str} {S : List D → (D → Prop) → Prop}
theorem pe_callK0 (hK : X.K = K0) (F : Dfn X.prog X.w K0 X.mg X.base k x ps S) (hr : Room k X.A) (ha : PA X (e :: es) t) (hg : Gl X x := by rfl) (hdb : (x == ("__debug__" : Str)) = false := by decide)
    (he : starEach (e :: es) X.env = (false, eval e X.env) :: starEach es X.env := by rfl) (hpl : (backTo pos (starEach es X.env)).any (·.1) = false := by rfl) : PE X (.Call (.Name x p) (e :: es) [] pos) (tCall (spD K0 S) [] E0 t) := by
  subst hK
  exact pe_callD F hr ha hg hdb he hpl
theorem pe_call00 (hK : X.K = K0) (F : Dfn X.prog X.w K0 X.mg X.base k x ps S) (hr : Room k X.A) (hg : Gl X x := by rfl) (hdb : (x == ("__debug__" : Str)) = false := by decide) : PE X (.Call (.Name x p) [] [] pos) (tCall (spD K0 S) [] E0 tNil) := by
  subst hK
  exact pe_call0D F hr hg hdb
variable {tg l : Expr} {tl : TE}
theorem pi_listK (hK : X.K = K0) (hl : PE X l tl) : PI X tg l (iList K0 tl) := by subst hK; exact pi_list hl
theorem pi_tupK (hK : X.K = K0) (hl : PE X l tl) : PI X tg l (iTup K0 tl) := by subst hK; exact pi_tup hl
end
end Cal
set_option Elab.async false
set_option linter.all false
set_option maxRecDepth 100000
set_option maxHeartbeats 4000000
namespace Lk05
open PySem L2 PyProof.Rows Cal
open Evl (Ex)
def top (i : Nat) : Stmt := PySem.Challenge.pw_anywriting_k05_whole_counts_of_beginning.main.body.getD i (.Pass ⟨0, 0, 0, 0⟩)
abbrev s_is_integer : Stmt := top 7
abbrev N_is_integer : List Str := ["thing"]
theorem sc_is_integer : FnScope N_is_integer ["thing"] (defScope s_is_integer) := ⟨rfl, rfl, rfl, by decide +kernel, rfl, by decide +kernel, by decide +kernel⟩
abbrev s_is_integer_within : Stmt := top 8
abbrev N_is_integer_within : List Str := ["thing", "low", "high"]
theorem sc_is_integer_within : FnScope N_is_integer_within ["thing", "low", "high"] (defScope s_is_integer_within) := ⟨rfl, rfl, rfl, by decide +kernel, rfl, by decide +kernel, by decide +kernel⟩
abbrev s_is_base : Stmt := top 9
abbrev N_is_base : List Str := ["thing"]
theorem sc_is_base : FnScope N_is_base ["thing"] (defScope s_is_base) := ⟨rfl, rfl, rfl, by decide +kernel, rfl, by decide +kernel, by decide +kernel⟩
abbrev s_is_tuple_of : Stmt := top 10
abbrev N_is_tuple_of : List Str := ["thing", "many"]
theorem sc_is_tuple_of : FnScope N_is_tuple_of ["thing", "many"] (defScope s_is_tuple_of) := ⟨rfl, rfl, rfl, by decide +kernel, rfl, by decide +kernel, by decide +kernel⟩
abbrev s_is_fraction : Stmt := top 13
abbrev N_is_fraction : List Str := ["thing", "top", "bottom"]
theorem sc_is_fraction : FnScope N_is_fraction ["thing"] (defScope s_is_fraction) := ⟨rfl, rfl, rfl, by decide +kernel, rfl, by decide +kernel, by decide +kernel⟩
abbrev s_is_number : Stmt := top 14
abbrev N_is_number : List Str := ["thing"]
theorem sc_is_number : FnScope N_is_number ["thing"] (defScope s_is_number) := ⟨rfl, rfl, rfl, by decide +kernel, rfl, by decide +kernel, by decide +kernel⟩
abbrev s_check_base : Stmt := top 15
abbrev N_check_base : List Str := ["thing"]
theorem sc_check_base : FnScope N_check_base ["thing"] (defScope s_check_base) := ⟨rfl, rfl, rfl, by decide +kernel, rfl, by decide +kernel, by decide +kernel⟩
abbrev s_check_number : Stmt := top 16
abbrev N_check_number : List Str := ["thing"]
theorem sc_check_number : FnScope N_check_number ["thing"] (defScope s_check_number) := ⟨rfl, rfl, rfl, by decide +kernel, rfl, by decide +kernel, by decide +kernel⟩
abbrev s_check_many : Stmt := top 17
abbrev N_check_many : List Str := ["thing"]
theorem sc_check_many : FnScope N_check_many ["thing"] (defScope s_check_many) := ⟨rfl, rfl, rfl, by decide +kernel, rfl, by decide +kernel, by decide +kernel⟩
abbrev s_least_digit : Stmt := top 18
abbrev N_least_digit : List Str := ["base", "top", "bottom"]
theorem sc_least_digit : FnScope N_least_digit ["base", "top", "bottom"] (defScope s_least_digit) := ⟨rfl, rfl, rfl, by decide +kernel, rfl, by decide +kernel, by decide +kernel⟩
abbrev s_greatest_digit : Stmt := top 19
abbrev N_greatest_digit : List Str := ["base", "top", "bottom"]
theorem sc_greatest_digit : FnScope N_greatest_digit ["base", "top", "bottom"] (defScope s_greatest_digit) := ⟨rfl, rfl, rfl, by decide +kernel, rfl, by decide +kernel, by decide +kernel⟩
abbrev s_next_digits : Stmt := top 20
abbrev N_next_digits : List Str := ["base", "top", "bottom", "low", "high", "digit"]
theorem sc_next_digits : FnScope N_next_digits ["base", "top", "bottom"] (defScope s_next_digits) := ⟨rfl, rfl, rfl, by decide +kernel, rfl, by decide +kernel, by decide +kernel⟩
abbrev s_many_beginnings : Stmt := top 21
abbrev N_many_beginnings : List Str := ["base", "x", "many", "counts", "_", "after", "top", "count", "left"]
theorem sc_many_beginnings : FnScope N_many_beginnings ["base", "x", "many"] (defScope s_many_beginnings) := ⟨rfl, rfl, rfl, by decide +kernel, rfl, by decide +kernel, by decide +kernel⟩
abbrev s_law_hand : Stmt := top 23
abbrev N_law_hand : List Str := ["script", "cell"]
theorem sc_law_hand : FnScope N_law_hand ["script"] (defScope s_law_hand) := ⟨rfl, rfl, rfl, by decide +kernel, rfl, by decide +kernel, by decide +kernel⟩
abbrev s_law_mixed : Stmt := top 24
abbrev N_law_mixed : List Str := ["cell", "turn", "number"]
theorem sc_law_mixed : FnScope N_law_mixed ["cell", "turn"] (defScope s_law_mixed) := ⟨rfl, rfl, rfl, by decide +kernel, rfl, by decide +kernel, by decide +kernel⟩
abbrev s_law_draw : Stmt := top 25
abbrev N_law_draw : List Str := ["hand", "many", "found", "cells", "at", "cell"]
theorem sc_law_draw : FnScope N_law_draw ["hand", "many"] (defScope s_law_draw) := ⟨rfl, rfl, rfl, by decide +kernel, rfl, by decide +kernel, by decide +kernel⟩
abbrev s_law_any : Stmt := top 26
abbrev N_law_any : List Str := ["hand", "some"]
theorem sc_law_any : FnScope N_law_any ["hand", "some"] (defScope s_law_any) := ⟨rfl, rfl, rfl, by decide +kernel, rfl, by decide +kernel, by decide +kernel⟩
abbrev s_law_low : Stmt := top 27
abbrev N_law_low : List Str := ["top", "bottom", "one", "other"]
theorem sc_law_low : FnScope N_law_low ["top", "bottom"] (defScope s_law_low) := ⟨rfl, rfl, rfl, by decide +kernel, rfl, by decide +kernel, by decide +kernel⟩
abbrev s_law_minus : Stmt := top 28
abbrev N_law_minus : List Str := ["one", "other"]
theorem sc_law_minus : FnScope N_law_minus ["one", "other"] (defScope s_law_minus) := ⟨rfl, rfl, rfl, by decide +kernel, rfl, by decide +kernel, by decide +kernel⟩
abbrev s_law_times : Stmt := top 29
abbrev N_law_times : List Str := ["one", "other"]
theorem sc_law_times : FnScope N_law_times ["one", "other"] (defScope s_law_times) := ⟨rfl, rfl, rfl, by decide +kernel, rfl, by decide +kernel, by decide +kernel⟩
abbrev s_law_goes : Stmt := top 30
abbrev N_law_goes : List Str := ["base", "rest", "found", "digit", "later"]
theorem sc_law_goes : FnScope N_law_goes ["base", "rest"] (defScope s_law_goes) := ⟨rfl, rfl, rfl, by decide +kernel, rfl, by decide +kernel, by decide +kernel⟩
abbrev s_law_is : Stmt := top 31
abbrev N_law_is : List Str := ["one", "other", "here", "there", "key"]
theorem sc_law_is : FnScope N_law_is ["one", "other"] (defScope s_law_is) := ⟨rfl, rfl, rfl, by decide +kernel, rfl, by decide +kernel, by decide +kernel⟩
abbrev s_law_count : Stmt := top 32
abbrev N_law_count : List Str := ["base", "x", "many", "counts", "turn", "later", "rest", "times", "digit", "behind"]
theorem sc_law_count : FnScope N_law_count ["base", "x", "many"] (defScope s_law_count) := ⟨rfl, rfl, rfl, by decide +kernel, rfl, by decide +kernel, by decide +kernel⟩
abbrev s_law : Stmt := top 33
abbrev N_law : List Str := ["script", "hand", "turn", "base", "bottom", "x", "many", "told", "behind", "digit", "rest"]
theorem sc_law : FnScope N_law ["script"] (defScope s_law) := ⟨rfl, rfl, rfl, by decide +kernel, rfl, by decide +kernel, by decide +kernel⟩
structure Txt (K : PySem.W.Frag) (mg : Str → Option Value) : Prop where
  s_is_integer : Src K mg "is_integer" s_is_integer
  s_is_integer_within : Src K mg "is_integer_within" s_is_integer_within
  s_is_base : Src K mg "is_base" s_is_base
  s_is_tuple_of : Src K mg "is_tuple_of" s_is_tuple_of
  s_is_fraction : Src K mg "is_fraction" s_is_fraction
  s_is_number : Src K mg "is_number" s_is_number
  s_check_base : Src K mg "check_base" s_check_base
  s_check_number : Src K mg "check_number" s_check_number
  s_check_many : Src K mg "check_many" s_check_many
  s_least_digit : Src K mg "least_digit" s_least_digit
  s_greatest_digit : Src K mg "greatest_digit" s_greatest_digit
  s_next_digits : Src K mg "next_digits" s_next_digits
  s_many_beginnings : Src K mg "many_beginnings" s_many_beginnings
  s_law_hand : Src K mg "_law_hand" s_law_hand
  s_law_mixed : Src K mg "_law_mixed" s_law_mixed
  s_law_draw : Src K mg "_law_draw" s_law_draw
  s_law_any : Src K mg "_law_any" s_law_any
  s_law_low : Src K mg "_law_low" s_law_low
  s_law_minus : Src K mg "_law_minus" s_law_minus
  s_law_times : Src K mg "_law_times" s_law_times
  s_law_goes : Src K mg "_law_goes" s_law_goes
  s_law_is : Src K mg "_law_is" s_law_is
  s_law_count : Src K mg "_law_count" s_law_count
  s_law : Src K mg "law" s_law
  n_ValueError : mg "ValueError" = none
  n_abs : mg "abs" = none
  n_all : mg "all" = none
  n_bool : mg "bool" = none
  n_dict : mg "dict" = none
  n_int : mg "int" = none
  n_isinstance : mg "isinstance" = none
  n_len : mg "len" = none
  n_list : mg "list" = none
  n_max : mg "max" = none
  n_min : mg "min" = none
  n_range : mg "range" = none
  n_sum : mg "sum" = none
  n_tuple : mg "tuple" = none
  n_zip : mg "zip" = none
  g_gcd : mg "gcd" = some (.builtin "math.gcd")
  c_MOST_DIGITS : ∃ t, mg "MOST_DIGITS" = some (.int 1000 t)
section
variable {P : Program} {w : World} {K : PySem.W.Frag} {mg : Str → Option Value} {bs : Heap}
local macro_rules | `(tactic| walk_at "arith") => `(tactic| first
  | decide | omega | assumption
  | (refine Or.inl ⟨?_, ?_⟩ <;> first | decide | omega) | (refine Or.inr (Or.inl ⟨?_, ?_⟩) <;> first | decide | omega)
  | (refine ⟨?_, Or.inl ?_⟩ <;> first | decide | omega))
/-- one step of a reading -/
local macro_rules | `(tactic| walk_at "st") => `(tactic| first
  | refine we_var rfl ?_ | refine we_int ?_ | refine we_bl ?_ | refine we_str ?_ | refine we_non ?_ | refine we_I0 ?_ | refine we_I ?_ | refine we_U ?_ | refine we_eqI ?_ | refine we_neI ?_
  | refine ⟨_, rfl, ?_⟩ | refine ⟨by walk_at "arith", ?_⟩ | refine we_int1 ?_ | refine we_abs ?_ | refine we_max2 ?_ | refine we_min2 ?_ | refine we_gcd ?_ | refine we_ixT ?_ | refine we_ixL ?_ | refine wa_cons ?_ | refine wa_nil ?_
  | refine we_call ?_ | refine we_tup ?_ | refine we_lst ?_ | refine we_len ?_ | refine we_isi ?_ | refine wt_T ?_ | refine wt_B ?_ | refine wt_not ?_ | refine wt_yes ?_
  | refine ws_seq ?_ | refine ws_ret ?_ | refine ws_if ?_ | refine ws_drop ?_ | refine ws_par ?_ | refine ws_next ?_ | refine ws_asg ?_ | refine ws_asgG ?_ | refine we_notV ?_
  | refine wg_name ?_ | refine wg_tup ?_ | refine wgs_cons ?_ | refine wgs_nil ?_)
/-! ### the mathematics: how many ways on -/
/-- sums over a stretch of ints -/
def Sm (F : Int → Int) (a : Int) : Nat → Int
  | 0 => 0
  | n + 1 => Sm F a n + F (a + (n : Int))
theorem Sm_map (F : Int → Int) (a : Int) : ∀ n : Nat, ((List.range n).map fun (k : Nat) => F (a + (k : Int))).sum = Sm F a n
  | 0 => rfl
  | n + 1 => by rw [List.range_succ, List.map_append, List.sum_append, Sm_map F a n]; simp [Sm]
theorem Sm_add (F : Int → Int) (a : Int) (m : Nat) : ∀ n : Nat, Sm F a (m + n) = Sm F a m + Sm F (a + (m : Int)) n
  | 0 => by simp [Sm]
  | n + 1 => by
    show Sm F a (m + n) + F (a + ((m + n : Nat) : Int)) = _
    rw [Sm_add F a m n]
    show _ = Sm F a m + (Sm F (a + (m : Int)) n + F (a + (m : Int) + (n : Int)))
    have e : a + ((m + n : Nat) : Int) = a + (m : Int) + (n : Int) := by omega
    rw [e, Int.add_assoc]
theorem Sm_congr {F G : Int → Int} {a : Int} : ∀ {n : Nat}, (∀ k : Nat, k < n → F (a + (k : Int)) = G (a + (k : Int))) → Sm F a n = Sm G a n
  | 0, _ => rfl
  | n + 1, h => by
    show Sm F a n + F (a + (n : Int)) = Sm G a n + G (a + (n : Int))
    rw [Sm_congr fun k hk => h k (by omega), h n (by omega)]
theorem Sm_zero {F : Int → Int} {a : Int} : ∀ {n : Nat}, (∀ k : Nat, k < n → F (a + (k : Int)) = 0) → Sm F a n = 0
  | 0, _ => rfl
  | n + 1, h => by
    show Sm F a n + F (a + (n : Int)) = 0
    rw [Sm_zero fun k hk => h k (by omega), h n (by omega)]
    rfl
/-- the sum over the digits from lo to hi alone -/
theorem Sm_part {G : Int → Int} {a lo hi : Int} {n : Nat} (h1 : a ≤ lo) (h2 : lo ≤ hi + 1) (h3 : hi + 1 ≤ a + n) : Sm (fun d => if lo ≤ d ∧ d ≤ hi then G d else 0) a n = Sm G lo (hi + 1 - lo).toNat := by
  have e : n = (lo - a).toNat + ((hi + 1 - lo).toNat + (a + n - (hi + 1)).toNat) := by omega
  rw [e, Sm_add, Sm_add]
  have ea : a + ((lo - a).toNat : Int) = lo := by omega
  rw [ea]
  have z1 : Sm (fun d => if lo ≤ d ∧ d ≤ hi then G d else 0) a (lo - a).toNat = 0 := Sm_zero fun k hk => if_neg (by omega)
  have z2 : Sm (fun d => if lo ≤ d ∧ d ≤ hi then G d else 0) (lo + ((hi + 1 - lo).toNat : Int)) (a + n - (hi + 1)).toNat = 0 := Sm_zero fun k hk => if_neg (by omega)
  have z3 : Sm (fun d => if lo ≤ d ∧ d ≤ hi then G d else 0) lo (hi + 1 - lo).toNat = Sm G lo (hi + 1 - lo).toNat := Sm_congr fun k hk => if_pos (by omega)
  rw [z1, z2, z3]
  omega
/-- turned about -/
theorem Sm_head (F : Int → Int) (a : Int) : ∀ n : Nat, Sm F a (n + 1) = F a + Sm F (a + 1) n := fun n => by
  have h := Sm_add F a 1 n
  rw [Nat.add_comm] at h
  rw [h]
  show Sm F a 0 + F (a + ((0 : Nat) : Int)) + Sm F (a + ((1 : Nat) : Int)) n = _
  have e : a + ((0 : Nat) : Int) = a := by omega
  have e2 : a + ((1 : Nat) : Int) = a + 1 := by omega
  rw [e, e2]
  show 0 + F a + _ = _
  omega
theorem Sm_neg (F : Int → Int) : ∀ (n : Nat) (a : Int), Sm (fun d => F (-d)) a n = Sm F (1 - a - (n : Int)) n
  | 0, _ => rfl
  | n + 1, a => by
    show Sm (fun d => F (-d)) a n + F (-(a + (n : Int))) = _
    rw [Sm_head, Sm_neg F n a]
    have e : 1 - a - ((n + 1 : Nat) : Int) + 1 = 1 - a - (n : Int) := by omega
    have e2 : 1 - a - ((n + 1 : Nat) : Int) = -(a + (n : Int)) := by omega
    rw [e, e2]
    omega
/-- how many tuples of n digits begin a writing of t / b -/
def Pn (base b : Int) : Nat → Int → Int
  | 0, _ => 1
  | n + 1, t => Sm (fun d => if -b ≤ base * t - d * b ∧ base * t - d * b ≤ b then Pn base b n (base * t - d * b) else 0) (1 - base) (2 * base - 1).toNat
theorem Pn_neg (base b : Int) (hb : 2 ≤ base) : ∀ (n : Nat) (t : Int), Pn base b n (-t) = Pn base b n t
  | 0, _ => rfl
  | n + 1, t => by
    have ih := Pn_neg base b hb n
    show Sm _ _ _ = Sm _ _ _
    have e : (fun d : Int => if -b ≤ base * -t - d * b ∧ base * -t - d * b ≤ b then Pn base b n (base * -t - d * b) else 0) = fun d => (fun d' => if -b ≤ base * t - d' * b ∧ base * t - d' * b ≤ b then Pn base b n (base * t - d' * b) else 0) (-d) := by
      funext d
      have e1 : base * -t - d * b = -(base * t - -d * b) := by rw [Int.mul_neg, Int.neg_mul]; omega
      show (if -b ≤ base * -t - d * b ∧ base * -t - d * b ≤ b then Pn base b n (base * -t - d * b) else 0) = if -b ≤ base * t - -d * b ∧ base * t - -d * b ≤ b then Pn base b n (base * t - -d * b) else 0
      rw [e1, ih]
      by_cases h : -b ≤ base * t - -d * b ∧ base * t - -d * b ≤ b
      · rw [if_pos h, if_pos (by omega)]
      · rw [if_neg h, if_neg (by omega)]
    have key := Sm_neg (fun d' => if -b ≤ base * t - d' * b ∧ base * t - d' * b ≤ b then Pn base b n (base * t - d' * b) else 0) (2 * base - 1).toNat (1 - base)
    rw [e]
    refine key.trans ?_
    have e2 : 1 - (1 - base) - ((2 * base - 1).toNat : Int) = 1 - base := by omega
    rw [e2]
/-- two ways of writing one number -/
theorem Pn_sim (base : Int) : ∀ (n : Nat) {t b t' b' : Int}, 0 < b → 0 < b' → t * b' = t' * b → Pn base b n t = Pn base b' n t'
  | 0, _, _, _, _, _, _, _ => rfl
  | n + 1, t, b, t', b', hb, hb', h => by
    show Sm _ _ _ = Sm _ _ _
    refine Sm_congr fun k _ => ?_
    generalize (1 - base + (k : Int)) = d
    have hx : (base * t - d * b) * b' = (base * t' - d * b') * b := by
      rw [Int.sub_mul, Int.sub_mul, Int.mul_assoc, h, ← Int.mul_assoc base, Int.mul_right_comm d b b']
    have ih := Pn_sim base n (t := base * t - d * b) (t' := base * t' - d * b') hb hb' hx
    have c : (-b ≤ base * t - d * b ∧ base * t - d * b ≤ b) ↔ (-b' ≤ base * t' - d * b' ∧ base * t' - d * b' ≤ b') := by
      generalize base * t - d * b = u at hx
      generalize base * t' - d * b' = v at hx
      constructor
      · rintro ⟨h1, h2⟩
        constructor
        · refine Int.le_of_mul_le_mul_right (a := b) ?_ hb
          rw [← hx, Int.neg_mul, Int.mul_comm b' b, ← Int.neg_mul]
          exact Int.mul_le_mul_of_nonneg_right h1 (by omega)
        · refine Int.le_of_mul_le_mul_right (a := b) ?_ hb
          rw [← hx, Int.mul_comm b' b]
          exact Int.mul_le_mul_of_nonneg_right h2 (by omega)
      · rintro ⟨h1, h2⟩
        constructor
        · refine Int.le_of_mul_le_mul_right (a := b') ?_ hb'
          rw [hx, Int.neg_mul, Int.mul_comm b b', ← Int.neg_mul]
          exact Int.mul_le_mul_of_nonneg_right h1 (by omega)
        · refine Int.le_of_mul_le_mul_right (a := b') ?_ hb'
          rw [hx, Int.mul_comm b b']
          exact Int.mul_le_mul_of_nonneg_right h2 (by omega)
    show (if -b ≤ base * t - d * b ∧ base * t - d * b ≤ b then Pn base b n (base * t - d * b) else 0) = if -b' ≤ base * t' - d * b' ∧ base * t' - d * b' ≤ b' then Pn base b' n (base * t' - d * b') else 0
    by_cases hc : -b ≤ base * t - d * b ∧ base * t - d * b ≤ b
    · rw [if_pos hc, if_pos (c.mp hc), ih]
    · rw [if_neg hc, if_neg fun z => hc (c.mpr z)]
theorem Pn_end (base b : Int) (hb1 : 2 ≤ base) (hb : 0 < b) : ∀ n : Nat, Pn base b n b = 1
  | 0 => rfl
  | n + 1 => by
    have ih := Pn_end base b hb1 hb n
    show Sm _ _ _ = 1
    obtain ⟨m, hm⟩ : ∃ m : Nat, (2 * base - 1).toNat = m + 1 := ⟨(2 * base - 2).toNat, by omega⟩
    rw [hm]
    show Sm _ _ m + _ = 1
    have e0 : Sm (fun d => if -b ≤ base * b - d * b ∧ base * b - d * b ≤ b then Pn base b n (base * b - d * b) else 0) (1 - base) m = 0 := by
      refine Sm_zero fun k hk => if_neg ?_
      rintro ⟨_, h2⟩
      have : base * b - (1 - base + (k : Int)) * b = (2 * base - 1 - (k : Int)) * b := by rw [← Int.sub_mul]; congr 1; omega
      rw [this] at h2
      have h3 : 2 * b ≤ (2 * base - 1 - (k : Int)) * b := Int.mul_le_mul_of_nonneg_right (by omega) (by omega)
      omega
    rw [e0]
    have ed : 1 - base + (m : Int) = base - 1 := by omega
    show 0 + (if -b ≤ base * b - (1 - base + (m : Int)) * b ∧ base * b - (1 - base + (m : Int)) * b ≤ b then Pn base b n (base * b - (1 - base + (m : Int)) * b) else 0) = 1
    rw [ed]
    have e1 : base * b - (base - 1) * b = b := by rw [← Int.sub_mul]; have : base - (base - 1) = 1 := by omega
                                                  rw [this, Int.one_mul]
    rw [e1, if_pos ⟨by omega, by omega⟩, ih]
    rfl
/-! ### tables of counts -/
section
variable {α κ : Type} [DecidableEq α] [DecidableEq κ]
def aAdd : List (α × Int) → α → Int → List (α × Int)
  | [], k, c => [(k, c)]
  | x :: r, k, c => if x.1 = k then (x.1, x.2 + c) :: r else x :: aAdd r k c
def aGet : List (α × Int) → α → Int
  | [], _ => 0
  | x :: r, k => if x.1 = k then x.2 else aGet r k
def encA (e : α → κ) (L : List (α × Int)) : List (κ × D) := L.map fun x => (e x.1, .int x.2)
def aW (f : α → Int) : List (α × Int) → Int
  | [] => 0
  | x :: r => x.2 * f x.1 + aW f r
theorem aW_app (f : α → Int) : ∀ L M : List (α × Int), aW f (L ++ M) = aW f L + aW f M
  | [], M => by simp [aW]
  | x :: r, M => by
    show x.2 * f x.1 + aW f (r ++ M) = x.2 * f x.1 + aW f r + aW f M
    rw [aW_app f r M, Int.add_assoc]
theorem aW_add (f : α → Int) (k : α) (c : Int) : ∀ L : List (α × Int), aW f (aAdd L k c) = aW f L + c * f k
  | [] => by show c * f k + 0 = 0 + c * f k; omega
  | x :: r => by
    unfold aAdd
    by_cases h : x.1 = k
    · rw [if_pos h]
      show (x.2 + c) * f x.1 + aW f r = x.2 * f x.1 + aW f r + c * f k
      rw [h, Int.add_mul]
      omega
    · rw [if_neg h]
      show x.2 * f x.1 + aW f (aAdd r k c) = x.2 * f x.1 + aW f r + c * f k
      rw [aW_add f k c r]
      omega
theorem aW_one (L : List (α × Int)) : aW (fun _ => 1) L = (L.map (·.2)).sum := by
  induction L with
  | nil => rfl
  | cons x r ih =>
    show x.2 * 1 + aW (fun _ => 1) r = _
    rw [ih, List.map_cons, List.sum_cons, Int.mul_one]
theorem aW_congr {f g : α → Int} : ∀ {L : List (α × Int)}, (∀ x ∈ L, f x.1 = g x.1) → aW f L = aW g L
  | [], _ => rfl
  | x :: r, h => by
    show x.2 * f x.1 + aW f r = x.2 * g x.1 + aW g r
    rw [h x (by simp), aW_congr fun y hy => h y (List.mem_cons_of_mem _ hy)]
theorem keys_add (k : α) (c : Int) : ∀ L : List (α × Int), (aAdd L k c).map (·.1) = if k ∈ L.map (·.1) then L.map (·.1) else L.map (·.1) ++ [k]
  | [] => by simp [aAdd]
  | x :: r => by
    unfold aAdd
    by_cases h : x.1 = k
    · rw [if_pos h, if_pos (by simp [h])] <;> rfl
    · rw [if_neg h, List.map_cons, keys_add k c r]
      by_cases hm : k ∈ r.map (·.1)
      · rw [if_pos hm, if_pos (by simp only [List.map_cons, List.mem_cons]; exact .inr hm)] <;> rfl
      · rw [if_neg hm, if_neg (by simp only [List.map_cons, List.mem_cons]; rintro (e | e); exact h e.symm; exact hm e)] <;> rfl
theorem nodup_add {k : α} {c : Int} {L : List (α × Int)} (h : (L.map (·.1)).Nodup) : ((aAdd L k c).map (·.1)).Nodup := by
  rw [keys_add]
  split
  · exact h
  · rename_i hm
    rw [List.nodup_append]
    exact ⟨h, by simp, fun a ha b hb e => hm (by rw [List.mem_singleton] at hb; rw [← hb, ← e]; exact ha)⟩
theorem mem_add {k : α} {c : Int} {L : List (α × Int)} {x : α} (h : x ∈ (aAdd L k c).map (·.1)) : x ∈ L.map (·.1) ∨ x = k := by
  rw [keys_add] at h
  split at h
  · exact .inl h
  · rcases List.mem_append.mp h with h | h
    · exact .inl h
    · exact .inr (List.mem_singleton.mp h)
theorem enc_get {e : α → κ} (inj : ∀ a b, e a = e b → a = b) (k : α) : ∀ L : List (α × Int), (dGet (encA e L) (e k)).getD (.int 0) = .int (aGet L k)
  | [] => rfl
  | x :: r => by
    have ih := enc_get inj k r
    unfold aGet
    by_cases h : x.1 = k
    · rw [if_pos h]
      simp [dGet, encA, List.find?_cons, h]
    · rw [if_neg h, ← ih]
      have : e x.1 ≠ e k := fun z => h (inj _ _ z)
      simp [dGet, encA, List.find?_cons, this]
theorem enc_find {e : α → κ} (inj : ∀ a b, e a = e b → a = b) {k : α} {n : Int} : ∀ {L : List (α × Int)}, (L.map (·.1)).Nodup → (k, n) ∈ L → dGet (encA e L) (e k) = some (.int n)
  | [], _, h => by cases h
  | x :: r, nd, h => by
    rw [List.map_cons, List.nodup_cons] at nd
    rcases List.mem_cons.mp h with h | h
    · subst h
      simp [dGet, encA, List.find?_cons]
    · have hx : x.1 ≠ k := fun z => nd.1 (by rw [z]; exact List.mem_map.mpr ⟨_, h, rfl⟩)
      have : e x.1 ≠ e k := fun z => hx (inj _ _ z)
      have ih := enc_find inj nd.2 h
      rw [← ih]
      simp [dGet, encA, List.find?_cons, this]
theorem map_id_of {e : α → κ} {k : κ} {v : D} : ∀ {L : List (α × Int)}, (∀ x ∈ L, e x.1 ≠ k) → (encA e L).map (fun kv => if kv.1 = k then (kv.1, v) else kv) = encA e L
  | [], _ => rfl
  | x :: r, h => by
    show (if e x.1 = k then (e x.1, v) else (e x.1, D.int x.2)) :: _ = (e x.1, D.int x.2) :: _
    rw [if_neg (h x (by simp))]
    congr 1
    exact map_id_of fun y hy => h y (List.mem_cons_of_mem _ hy)
theorem enc_put {e : α → κ} (inj : ∀ a b, e a = e b → a = b) (k : α) (c : Int) : ∀ {L : List (α × Int)}, (L.map (·.1)).Nodup → dPut (encA e L) (e k) (.int (aGet L k + c)) = encA e (aAdd L k c)
  | [], _ => by
    show [(e k, D.int (0 + c))] = [(e k, D.int c)]
    rw [Int.zero_add]
  | x :: r, nd => by
    rw [List.map_cons, List.nodup_cons] at nd
    have ih := enc_put inj k c nd.2
    unfold aAdd aGet
    by_cases h : x.1 = k
    · rw [if_pos h, if_pos h]
      unfold dPut
      rw [if_pos (by show (decide (e x.1 = e k) || _) = true; rw [decide_eq_true (by rw [h])]; rfl)]
      show (if e x.1 = e k then (e x.1, D.int (x.2 + c)) else (e x.1, D.int x.2)) :: (encA e r).map _ = (e x.1, D.int (x.2 + c)) :: encA e r
      rw [if_pos (by rw [h]), map_id_of fun y hy z => nd.1 (by rw [h, ← inj _ _ z]; exact List.mem_map.mpr ⟨_, hy, rfl⟩)]
    · rw [if_neg h, if_neg h]
      have hx : e x.1 ≠ e k := fun z => h (inj _ _ z)
      show dPut ((e x.1, D.int x.2) :: encA e r) (e k) (.int (aGet r k + c)) = (e x.1, D.int x.2) :: encA e (aAdd r k c)
      rw [← ih]
      unfold dPut
      have ha : (((e x.1, D.int x.2) :: encA e r).any fun kv => decide (kv.1 = e k)) = ((encA e r).any fun kv => decide (kv.1 = e k)) := by
        rw [List.any_cons, decide_eq_false hx, Bool.false_or]
      rw [ha]
      split
      · rw [List.map_cons, if_neg hx]
      · rw [List.cons_append]
end
/-- no more ints than a stretch has -/
theorem len_range : ∀ (n : Nat) (a : Int) {L : List Int}, L.Nodup → (∀ x ∈ L, a ≤ x ∧ x < a + n) → L.length ≤ n
  | 0, a, L, _, h => by
    cases L with
    | nil => exact Nat.le_refl _
    | cons x r => have := h x (by simp); omega
  | n + 1, a, L, nd, h => by
    have nd2 : (L.filter fun x => decide (x ≠ a + (n : Int))).Nodup := nd.filter _
    have ih := len_range n a nd2 fun x hx => by
      obtain ⟨h1, h2⟩ := List.mem_filter.mp hx
      have h3 := h x h1
      have h4 : x ≠ a + (n : Int) := of_decide_eq_true h2
      omega
    have hc : L.length ≤ (L.filter fun x => decide (x ≠ a + (n : Int))).length + 1 := by
      clear ih nd2 h
      induction L with
      | nil => simp
      | cons x r ih =>
        rw [List.nodup_cons] at nd
        rw [List.filter_cons]
        by_cases hx : x = a + (n : Int)
        · have he : (r.filter fun x => decide (x ≠ a + (n : Int))) = r := List.filter_eq_self.mpr fun y hy => decide_eq_true fun z => nd.1 (by rw [hx, ← z]; exact hy)
          rw [if_neg (by simp [hx]), he, List.length_cons]
          exact Nat.le_refl _
        · rw [if_pos (by simp [hx]), List.length_cons, List.length_cons]
          have := ih nd.2
          omega
    omega
/-! ### the drawing -/
def S_law_mixed : List D → (D → Prop) → Prop := fun ds R => ∃ c t : Int, ds = [.int c, .int t] ∧ ∀ k : Int, R (.int k)
theorem l_law_mixed : ∀ ds R, S_law_mixed ds R → ds.length = 2 := fun ds R ⟨_, _, e, _⟩ => by rw [e]; rfl
theorem d_law_mixed (T : Txt K mg) : Dfn P w K mg bs 1 "_law_mixed" ["cell", "turn"] S_law_mixed := by
  refine mkD (k := 0) T.s_law_mixed sc_law_mixed (fun _ _ _ _ _ _ us hl => match us, hl with | [_, _], _ => rfl) l_law_mixed fun f cdv A outer s H E hr => ?_
  have hu := hu_of hr
  refine ⟨_, (pss_cons (ps_set (i := 2) sc_law_mixed.nd rfl (Or.inl rfl) (pe_op op_mod (pe_callTy call_int1 (by rfl) T.n_int (by decide +kernel) (pa_cons (pe_op op_mulA (pe_op op_add (pe_op op_add (pe_op op_mod (pe_callTy call_int1 (by rfl) T.n_int (by decide +kernel) (pa_cons (pv 0) pa_nil)) pe_int) (pe_op op_mulA pe_int (pv 1))) pe_int) pe_int) pa_nil)) pe_int))
      (pss_cons (ps_set (i := 2) sc_law_mixed.nd rfl (Or.inl rfl) (pe_op op_mod (pe_callTy call_int1 (by rfl) T.n_int (by decide +kernel) (pa_cons (pe_op op_mulA (pv 2) (pe_op op_add (pe_op op_divA (pv 2) pe_int) pe_int)) pa_nil)) pe_int))
      (pss_one (ps_ret (pe_op op_divA (pe_op op_mod (pe_callTy call_int1 (by rfl) T.n_int (by decide +kernel) (pa_cons (pe_op op_mulA (pv 2) (pe_op op_add (pe_op op_divA (pv 2) pe_int) pe_int)) pa_nil)) pe_int) pe_int))))), fun h H0 G0 ds R hS => ?_⟩
  obtain ⟨c, t, rfl, hR⟩ := hS
  repeat walk_at "st"
  exact hR _
def S_law_draw : List D → (D → Prop) → Prop := fun ds R => ∃ m : Int, ds = [.hand, .int m] ∧ 0 < m ∧ m < 18446744073709551616 ∧ ∀ k : Int, 0 ≤ k → k < m → R (.int k)
theorem l_law_draw : ∀ ds R, S_law_draw ds R → ds.length = 2 := fun ds R ⟨_, e, _⟩ => by rw [e]; rfl
theorem d_law_draw (T : Txt K mg) : Dfn P w K mg bs 2 "_law_draw" ["hand", "many"] S_law_draw := by
  have D_law_mixed := d_law_mixed (P := P) (w := w) (bs := bs) T
  refine mkD (k := 1) T.s_law_draw sc_law_draw (fun _ _ _ _ _ _ us hl => match us, hl with | [_, _], _ => rfl) l_law_draw fun f cdv A outer s H E hr => ?_
  have hu := hu_of hr
  refine ⟨_, (pss_cons (ps_asg (pe_op op_add (pe_ix (ix_listK (K0 := K) (by rfl)) (pv 0) pe_int (fun _ _ => rfl)) pe_int) (pg_sub (pv 0) pe_int set_list))
      (pss_cons (ps_if (pt_cmpR op_gt (pe_ix (ix_listK (K0 := K) (by rfl)) (pv 0) pe_int (fun _ _ => rfl)) pe_int (nomark _)) (pss_cons (ps_set (i := 2) sc_law_draw.nd rfl (Or.inl rfl) (pe_op op_mod (pe_callTy call_int1 (by rfl) T.n_int (by decide +kernel) (pa_cons (pe_ix (ix_listK (K0 := K) (by rfl)) (pv 0) pe_int (fun _ _ => rfl)) pa_nil)) (pv 1)))
      (pss_cons (ps_asg (pe_op op_divA (pe_ix (ix_listK (K0 := K) (by rfl)) (pv 0) pe_int (fun _ _ => rfl)) (pv 1)) (pg_sub (pv 0) pe_int set_list))
      (pss_one (ps_ret (pv 2))))) pss_nil)
      (pss_cons (ps_par (i := 3) (j := 4) (by rfl) sc_law_draw.nd rfl rfl (by decide) rfl rfl (pa_cons (pe_ix (ix_listK (K0 := K) (by rfl)) (pv 0) pe_int (fun _ _ => rfl)) (pa_cons (pe_ix (ix_listK (K0 := K) (by rfl)) (pv 0) pe_int (fun _ _ => rfl)) pa_nil)) (by rfl))
      (pss_cons (ps_asg (pe_op op_add (pv 4) pe_int) (pg_sub (pv 0) pe_int set_list))
      (pss_cons (ps_if (pt_cmpR op_eq (pe_callB (call_lenK (K0 := K) (by rfl)) (by rfl) T.n_len (by decide +kernel) (pa_cons (pv 3) pa_nil)) pe_int (nomark _)) (pss_one (ps_ret (pe_op op_mod (pe_callTy call_int1 (by rfl) T.n_int (by decide +kernel) (pa_cons (pe_callK0 (K0 := K) (by rfl) D_law_mixed (hr.mono (by decide)) (pa_cons pe_int (pa_cons (pe_ix (ix_listK (K0 := K) (by rfl)) (pv 0) pe_int (fun _ _ => rfl)) pa_nil))) pa_nil)) (pv 1)))) pss_nil)
      (pss_cons (ps_set (i := 5) sc_law_draw.nd rfl (Or.inl rfl) (pe_ix (ix_listK (K0 := K) (by rfl)) (pv 3) (pe_op op_mod (pe_callTy call_int1 (by rfl) T.n_int (by decide +kernel) (pa_cons (pv 4) pa_nil)) (pe_callB (call_lenK (K0 := K) (by rfl)) (by rfl) T.n_len (by decide +kernel) (pa_cons (pv 3) pa_nil))) (fun _ _ => rfl)))
      (pss_cons (ps_if (PW.pt (pw_and (pt_cmpR op_lt (pv 4) (pe_callB (call_lenK (K0 := K) (by rfl)) (by rfl) T.n_len (by decide +kernel) (pa_cons (pv 3) pa_nil)) (nomark _)) (pw_and1 (pt_cmpR op_ge (pe_callB call_abs (by rfl) T.n_abs (by decide +kernel) (pa_cons (pv 5) pa_nil)) (pe_op op_pow pe_int pe_int) (nomark _))))) (pss_cons (ps_asg (pe_op op_divA (pe_callB call_abs (by rfl) T.n_abs (by decide +kernel) (pa_cons (pv 5) pa_nil)) (pv 1)) (pg_sub (pv 0) pe_int set_list))
      (pss_one (ps_ret (pe_op op_mod (pe_callTy call_int1 (by rfl) T.n_int (by decide +kernel) (pa_cons (pe_callB call_abs (by rfl) T.n_abs (by decide +kernel) (pa_cons (pv 5) pa_nil)) pa_nil)) (pv 1))))) pss_nil)
      (pss_one (ps_ret (pe_op op_mod (pe_callTy call_int1 (by rfl) T.n_int (by decide +kernel) (pa_cons (pe_callK0 (K0 := K) (by rfl) D_law_mixed (hr.mono (by decide)) (pa_cons (pv 5) (pa_cons (pe_ix (ix_listK (K0 := K) (by rfl)) (pv 0) pe_int (fun _ _ => rfl)) pa_nil))) pa_nil)) (pv 1))))))))))), fun h H0 G0 ds R hS => ?_⟩
  obtain ⟨m, rfl, hm, hm2, hR⟩ := hS
  have fin : ∀ k : Int, R (.int (k % m)) := fun k => hR _ (Int.emod_nonneg _ (by omega)) (Int.emod_lt_of_pos _ hm)
  have hmd : ∀ i, CDivA i m := fun i => ⟨hm, .inl hm2⟩
  -- hand[3] = hand[3] + 1
  refine ws_seq (ws_handN (.inr (.inr rfl)) (we_I0 (we_handN (.inr (.inr rfl)) (we_var rfl ⟨rfl, fun n hn => ⟨_, rfl, we_int ⟨_, rfl, _, rfl, by omega, we_var rfl ⟨rfl, ?_⟩⟩⟩⟩))))
  -- if hand[2] > 0
  refine ws_seq (ws_if (wt_T (we_I0 (we_handN (.inr (.inl rfl)) (we_var rfl ⟨rfl, fun r hr' => ⟨_, rfl, we_int ⟨_, rfl, _, rfl, ?_⟩⟩⟩)))))
  refine ite2 (fun hb => ?_) (fun hb => ?_)
  · refine ws_seq (ws_asg (we_I (we_int1 (we_handN (.inr (.inl rfl)) (we_var rfl ⟨rfl, fun r2 hr2 => ⟨_, rfl, _, rfl, we_var rfl ⟨_, rfl, hm, ?_⟩⟩⟩)))))
    refine ws_seq (ws_handN (.inr (.inl rfl)) (we_I (we_handN (.inr (.inl rfl)) (we_var rfl ⟨rfl, fun r3 hr3 => ⟨_, rfl, we_var rfl ⟨_, rfl, hmd _, _, rfl, Int.ediv_nonneg hr3 (by omega), we_var rfl ⟨rfl, ?_⟩⟩⟩⟩))))
    exact ws_ret (we_var rfl (fin _))
  · refine ws_next ?_
    refine ws_seq (ws_par (wa_cons (we_hand0 (we_var rfl ⟨rfl, fun ns hns => wa_cons (we_handN (.inl rfl) (we_var rfl ⟨rfl, fun i hi => wa_nil ⟨_, _, rfl, ?_⟩⟩))⟩))))
    refine ws_seq (ws_handN (.inl rfl) (we_I0 (we_var rfl ⟨_, rfl, we_int ⟨_, rfl, _, rfl, by omega, we_var rfl ⟨rfl, ?_⟩⟩⟩)))
    refine ws_seq (ws_if (wt_T (we_eqI (we_len (we_var rfl ⟨_, .inl rfl, _, rfl, we_int ⟨_, rfl, _, rfl, ?_⟩⟩)))))
    refine ite2 (fun hb => ?_) (fun hne => ?_)
    · refine ws_ret (we_I (we_int1 (we_call (wa_cons ?_))))
      refine we_int (wa_cons (we_handN (.inr (.inr rfl)) (we_var rfl ⟨rfl, fun n2 hn2 => wa_nil ?_⟩)))
      exact ⟨_, _, rfl, fun k => ⟨_, rfl, _, rfl, we_var rfl ⟨_, rfl, hm, fin _⟩⟩⟩
    · rw [List.length_map] at hne
      have hlen : 0 < (ns.length : Int) := by
        have : ¬ ((ns.length : Int) = 0) := by simpa using hne
        omega
      refine ws_next ?_
      have hi0 := Int.emod_nonneg i (b := (ns.length : Int)) (by omega)
      have hi1 := Int.emod_lt_of_pos i hlen
      obtain ⟨x, hx1, hx2⟩ := atI_of (xs := ns.map D.int) hi0 (by rw [List.length_map]; exact hi1)
      obtain ⟨c, rfl⟩ : ∃ c, x = D.int c := by
        rw [List.getElem?_map] at hx2
        obtain ⟨c, _, e⟩ := Option.map_eq_some_iff.mp hx2
        exact ⟨c, e.symm⟩
      refine ws_seq (ws_asg (we_ixL (we_var rfl ⟨_, rfl, we_I (we_int1 (we_var rfl ⟨_, rfl, _, rfl, we_len (we_var rfl ⟨_, .inl rfl, _, rfl, by rw [List.length_map]; exact hlen, _, D.int c, rfl, by rw [List.length_map]; exact hx1, ?_⟩)⟩))⟩)))
      refine ws_seq (ws_if (wt_and (wt_T (we_I0 (we_var rfl ⟨_, rfl, we_len (we_var rfl ⟨_, .inl rfl, _, rfl, _, rfl, fun _ => ?_, fun hb => ?_⟩)⟩)))))
      · refine wt_T (we_I0 (we_abs (we_var rfl ⟨_, rfl, _, rfl, we_I (we_int ⟨_, rfl, we_int ⟨_, rfl, by refine ⟨by decide, by decide, ?_⟩; decide, _, rfl, _, rfl, ?_⟩⟩)⟩)))
        refine ite2 (fun hb => ?_) (fun hb => ?_)
        · refine ws_seq (ws_handN (.inr (.inl rfl)) (we_I (we_abs (we_var rfl ⟨_, rfl, _, rfl, we_var rfl ⟨_, rfl, hmd _, _, rfl, Int.ediv_nonneg (absI_nn c) (by omega), we_var rfl ⟨rfl, ?_⟩⟩⟩))))
          exact ws_ret (we_I (we_int1 (we_abs (we_var rfl ⟨_, rfl, _, rfl, _, rfl, we_var rfl ⟨_, rfl, hm, fin _⟩⟩))))
        · refine ws_next ?_
          refine ws_ret (we_I (we_int1 (we_call (wa_cons ?_))))
          refine we_var rfl (wa_cons (we_handN (.inr (.inr rfl)) (we_var rfl ⟨rfl, fun n2 hn2 => wa_nil ?_⟩)))
          exact ⟨_, _, rfl, fun k => ⟨_, rfl, _, rfl, we_var rfl ⟨_, rfl, hm, fin _⟩⟩⟩
      · refine ws_next ?_
        refine ws_ret (we_I (we_int1 (we_call (wa_cons ?_))))
        refine we_var rfl (wa_cons (we_handN (.inr (.inr rfl)) (we_var rfl ⟨rfl, fun n2 hn2 => wa_nil ?_⟩)))
        exact ⟨_, _, rfl, fun k => ⟨_, rfl, _, rfl, we_var rfl ⟨_, rfl, hm, fin _⟩⟩⟩
def S_law_any : List D → (D → Prop) → Prop := fun ds R => ∃ xs : List D, ds = [.hand, .lst xs] ∧ xs ≠ [] ∧ xs.length < 4000000 ∧ ∀ x ∈ xs, R x
theorem l_law_any : ∀ ds R, S_law_any ds R → ds.length = 2 := fun ds R ⟨_, e, _⟩ => by rw [e]; rfl
theorem d_law_any (T : Txt K mg) : Dfn P w K mg bs 3 "_law_any" ["hand", "some"] S_law_any := by
  have D_law_draw := d_law_draw (P := P) (w := w) (bs := bs) T
  refine mkD (k := 2) T.s_law_any sc_law_any (fun _ _ _ _ _ _ us hl => match us, hl with | [_, _], _ => rfl) l_law_any fun f cdv A outer s H E hr => ?_
  have hu := hu_of hr
  refine ⟨_, (pss_one (ps_ret (pe_ix (ix_listK (K0 := K) (by rfl)) (pv 1) (pe_callK0 (K0 := K) (by rfl) D_law_draw (hr.mono (by decide)) (pa_cons (pv 0) (pa_cons (pe_callB (call_lenK (K0 := K) (by rfl)) (by rfl) T.n_len (by decide +kernel) (pa_cons (pv 1) pa_nil)) pa_nil))) (fun _ _ => rfl)))), fun h H0 G0 ds R hS => ?_⟩
  obtain ⟨xs, rfl, hne, hl, hR⟩ := hS
  have hpos : 0 < xs.length := List.length_pos_iff.mpr hne
  refine ws_ret (we_ixL (we_var rfl ⟨_, rfl, we_call (wa_cons (we_var rfl (wa_cons (we_len (we_var rfl ⟨_, .inl rfl, wa_nil ⟨_, rfl, by omega, by omega, fun k h0 h1 => ?_⟩⟩)))))⟩))
  obtain ⟨x, hx1, hx2⟩ := atI_of h0 h1
  exact ⟨k, x, rfl, hx1, hR x (List.mem_of_getElem? hx2)⟩
theorem l_law_hand : ∀ vs H Q E, spHand K vs H Q E → vs.length = 1 := fun vs H Q E ⟨_, _, e, _⟩ => by rw [e]; rfl
theorem d_law_hand (T : Txt K mg) : DfnR P w K mg bs 1 "_law_hand" ["script"] (spHand K) := by
  refine mkR (k := 0) T.s_law_hand sc_law_hand (fun _ _ _ _ _ _ us hl => match us, hl with | [_], _ => rfl) l_law_hand fun f cdv A outer s H E hr => ?_
  have hu := hu_of hr
  refine ⟨_, (pss_one (ps_ret (pe_lst (pa_cons (pe_lc (own := [("cell", 1)]) (g := (gName 1)) rfl sc_law_hand.nd (pi_listK (K0 := K) (by rfl) (pe_slice (sl_listK (K0 := K) (by rfl)) (pv 0) po_none (po_some pe_int))) (blkOk_by (N := N_law_hand) (sc := defScope s_law_hand) (by decide +kernel)) (fun _ _ _ _ _ => by exact (pg_name (i := 1) sc_law_hand.nd rfl (Or.inl rfl))) (fun _ _ _ _ _ => by exact pts_nil) (fun _ _ _ _ _ => by exact (pe_callTy call_int1 (by rfl) T.n_int (by decide +kernel) (pa_cons (pv 1) pa_nil)))) (pa_cons pe_int (pa_cons pe_int (pa_cons pe_int pa_nil))))))), fun vs Q hsp => ?_⟩
  obtain ⟨a, ns, rfl, hS, hl, hQ⟩ := hsp
  have hcut : cutV (ns.map V.int) none (some 63) = ns.map V.int := by
    unfold cutV
    have e1 : HT.sIx (ns.map V.int).length 0 none = 0 := rfl
    have e2 : HT.sIx (ns.map V.int).length (ns.map V.int).length (some 63) = (ns.map V.int).length := by
      exact (HT.sIx_nat _ _ 63).trans (by rw [List.length_map]; omega)
    rw [e1, e2, List.drop_zero, Nat.sub_zero, List.take_length]
  have key := Evl.el_lcNL (K := K) (σ := L2.start N_law_hand [.ref a]) (H := H) (xs := ns.map V.int) (j := 1) (vs := [1]) (t := tYes) (te := tCB (fun xs H Q => (∃ i, xs = [V.int i] ∧ Q (V.int i) H) ∨ ∃ k, xs = [V.bl k] ∧ Q (V.int (if k = true then 1 else 0)) H) (tCons (tVar 1) tNil))
    (tl := tSl (rSlL K) (tVar 0) tNoPart (tPart (tC (.int 63)))) (fun _ => true) (fun i => (ns.map V.int).getD i .non)
    (by
      have h2 := Evl.el_sl (K := K) (σ := L2.start N_law_hand [.ref a]) (H := H) (te := tVar 0) (tl := tNoPart) (th := tPart (tC (.int 63))) (Evl.ev_var rfl) Evl.eo_none (Evl.eo_some Evl.ev_c) hS
      rw [hcut] at h2
      exact h2) (by rw [List.length_map]; omega) (fun x => rfl) (fun i x H1 _ _ H2 _ Q q => q H2 (Evl.Ex.refl _)) (fun i x H1 _ hx _ => by
        have hi := hx
        rw [List.getElem?_map] at hi
        obtain ⟨z, hz, rfl⟩ := Option.map_eq_some_iff.mp hi
        have e : (ns.map V.int).getD i .non = .int z := by rw [List.getD_eq_getElem?_getD, hx] <;> rfl
        intro H2 _ Q q
        refine ⟨.int z, rfl, .inl ⟨z, rfl, ?_⟩⟩
        have q' := q H2 (Evl.Ex.refl _)
        rw [e] at q'
        exact q')
  have eg : Evl.given (ns.map V.int).length (fun _ => true) (fun i => (ns.map V.int).getD i .non) = ns.map V.int := by
    unfold Evl.given
    rw [List.filter_eq_self.mpr (fun _ _ => rfl)]
    refine List.ext_getElem? fun i => ?_
    rw [List.getElem?_map]
    by_cases hi : i < (ns.map V.int).length
    · rw [List.getElem?_range hi, List.getElem?_eq_getElem hi]
      show some ((ns.map V.int).getD i .non) = _
      rw [List.getD_eq_getElem?_getD, List.getElem?_eq_getElem hi] <;> rfl
    · rw [List.getElem?_eq_none (by rw [List.length_range]; omega), List.getElem?_eq_none (l := ns.map V.int) (by omega)] <;> rfl
  rw [eg] at key
  exact key H (Evl.Ex.refl _) (fun x H1 => tCons (tC (.int 0)) (tCons (tC (.int 0)) (tCons (tC (.int 0)) tNil)) (L2.start N_law_hand [.ref a]) H1 fun xs H2 => (x :: xs).length ≤ sizeLine ∧ ∀ p, H2 p = none → Q (.ref p) (upd H2 p (.lst (x :: xs)))) fun c H1 hc e1 h1 => ⟨sz (Nat.le_of_ble_eq_true rfl), fun h2 hn2 => by
    have hne : h2 ≠ c := fun z => by rw [z, h1] at hn2; cases hn2
    exact hQ h2 c _ (e1.trans (Evl.Ex.new hn2)) hne upd_same (by rw [upd_ne (Ne.symm hne)]; exact h1)⟩
/-! ### kinds -/
def S_is_integer : List D → (D → Prop) → Prop := fun ds R => ∃ x t, ds = [x] ∧ tyD x = some t ∧ R (.bl (isI x))
theorem l_is_integer : ∀ ds R, S_is_integer ds R → ds.length = 1 := fun ds R ⟨_, _, e, _⟩ => by rw [e]; rfl
theorem d_is_integer (T : Txt K mg) : Dfn P w K mg bs 1 "is_integer" ["thing"] S_is_integer := by
  refine mkD (k := 0) T.s_is_integer sc_is_integer (fun _ _ _ _ _ _ us hl => match us, hl with | [_], _ => rfl) l_is_integer fun f cdv A outer s H E hr => ?_
  have hu := hu_of hr
  refine ⟨_, (pss_one (ps_ret (pe_and (pe_callB (call_isiK0 (K0 := K) (by rfl)) (by rfl) T.n_isinstance (by decide +kernel) (pa_cons (pv 0) (pa_cons (pe_bltn (v := .ty "int") (by rfl) T.n_int (by decide +kernel) rfl) pa_nil))) (pe_one (pe_not (pe_callB (call_isiK0 (K0 := K) (by rfl)) (by rfl) T.n_isinstance (by decide +kernel) (pa_cons (pv 0) (pa_cons (pe_bltn (v := .ty "bool") (by rfl) T.n_bool (by decide +kernel) rfl) pa_nil)))))))), fun h H0 G0 ds R hS => ?_⟩
  obtain ⟨x, t, rfl, ht, hR⟩ := hS
  refine ws_ret (we_andV (we_isi (we_var rfl ⟨t, _, ht, kb_int ht, _, rfl, fun hb => ?_, fun hb => ?_⟩)))
  · refine we_notV (we_isi (we_var rfl ⟨t, _, ht, kb_bool ht, _, rfl, ?_⟩))
    have e : (!isBl x) = isI x := by cases x <;> first | rfl | cases hb
    rw [e]; exact hR
  · have e : isI x = false := by cases x <;> first | rfl | cases hb
    rw [e] at hR; exact hR
def within (lo hi : Int) : D → Bool | .int i => decide (lo ≤ i) && decide (i ≤ hi) | _ => false
def S_is_integer_within : List D → (D → Prop) → Prop := fun ds R => ∃ x t lo hi, ds = [x, .int lo, .int hi] ∧ tyD x = some t ∧ R (.bl (within lo hi x))
theorem l_is_integer_within : ∀ ds R, S_is_integer_within ds R → ds.length = 3 := fun ds R ⟨_, _, _, _, e, _⟩ => by rw [e]; rfl
theorem d_is_integer_within (T : Txt K mg) : Dfn P w K mg bs 2 "is_integer_within" ["thing", "low", "high"] S_is_integer_within := by
  have D_is_integer := d_is_integer (P := P) (w := w) (bs := bs) T
  refine mkD (k := 1) T.s_is_integer_within sc_is_integer_within (fun _ _ _ _ _ _ us hl => match us, hl with | [_, _, _], _ => rfl) l_is_integer_within fun f cdv A outer s H E hr => ?_
  have hu := hu_of hr
  refine ⟨_, (pss_one (ps_ret (pe_and (pe_callK0 (K0 := K) (by rfl) D_is_integer (hr.mono (by decide)) (pa_cons (pv 0) pa_nil)) (pe_one (pe_chain op_le op_le (pv 1) (pv 0) (pv 2)))))), fun h H0 G0 ds R hS => ?_⟩
  obtain ⟨x, t, lo, hi, rfl, ht, hR⟩ := hS
  refine ws_ret (we_andV (we_call (wa_cons (we_var rfl (wa_nil ⟨x, t, rfl, ht, _, rfl, fun hb => ?_, fun hb => ?_⟩)))))
  · obtain ⟨i, rfl⟩ : ∃ i, x = D.int i := by cases x <;> first | exact ⟨_, rfl⟩ | cases hb
    refine we_chain (we_var rfl ⟨_, rfl, we_var rfl ⟨_, rfl, fun h1 => we_var rfl ⟨_, rfl, ?_⟩, fun h1 => ?_⟩⟩)
    · have e : within lo hi (.int i) = decide (i ≤ hi) := by show (decide (lo ≤ i) && decide (i ≤ hi)) = _; rw [h1, Bool.true_and]
      rw [e] at hR; exact hR
    · have e : within lo hi (.int i) = false := by show (decide (lo ≤ i) && decide (i ≤ hi)) = _; rw [h1, Bool.false_and]
      rw [e] at hR; exact hR
  · have e : within lo hi x = false := by cases x <;> first | rfl | cases hb
    rw [e] at hR; exact hR
def S_is_base : List D → (D → Prop) → Prop := fun ds R => ∃ x t, ds = [x] ∧ tyD x = some t ∧ R (.bl (within 2 5 x))
theorem l_is_base : ∀ ds R, S_is_base ds R → ds.length = 1 := fun ds R ⟨_, _, e, _⟩ => by rw [e]; rfl
theorem d_is_base (T : Txt K mg) : Dfn P w K mg bs 3 "is_base" ["thing"] S_is_base := by
  have D_is_integer_within := d_is_integer_within (P := P) (w := w) (bs := bs) T
  refine mkD (k := 2) T.s_is_base sc_is_base (fun _ _ _ _ _ _ us hl => match us, hl with | [_], _ => rfl) l_is_base fun f cdv A outer s H E hr => ?_
  have hu := hu_of hr
  refine ⟨_, (pss_one (ps_ret (pe_callK0 (K0 := K) (by rfl) D_is_integer_within (hr.mono (by decide)) (pa_cons (pv 0) (pa_cons pe_int (pa_cons pe_int pa_nil)))))), fun h H0 G0 ds R hS => ?_⟩
  obtain ⟨x, t, rfl, ht, hR⟩ := hS
  exact ws_ret (we_call (wa_cons (we_var rfl (wa_cons (we_int (wa_cons (we_int (wa_nil ⟨x, t, _, _, rfl, ht, hR⟩))))))))
def tupOf (n : Int) : D → Bool | .tup xs => decide ((xs.length : Int) = n) | _ => false
def S_is_tuple_of : List D → (D → Prop) → Prop := fun ds R => ∃ x t n, ds = [x, .int n] ∧ tyD x = some t ∧ R (.bl (tupOf n x))
theorem l_is_tuple_of : ∀ ds R, S_is_tuple_of ds R → ds.length = 2 := fun ds R ⟨_, _, _, e, _⟩ => by rw [e]; rfl
theorem d_is_tuple_of (T : Txt K mg) : Dfn P w K mg bs 1 "is_tuple_of" ["thing", "many"] S_is_tuple_of := by
  refine mkD (k := 0) T.s_is_tuple_of sc_is_tuple_of (fun _ _ _ _ _ _ us hl => match us, hl with | [_, _], _ => rfl) l_is_tuple_of fun f cdv A outer s H E hr => ?_
  have hu := hu_of hr
  refine ⟨_, (pss_one (ps_ret (pe_and (pe_callB (call_isiK0 (K0 := K) (by rfl)) (by rfl) T.n_isinstance (by decide +kernel) (pa_cons (pv 0) (pa_cons (pe_bltn (v := .ty "tuple") (by rfl) T.n_tuple (by decide +kernel) rfl) pa_nil))) (pe_one (pe_cmpR op_eq (pe_callB (call_lenK (K0 := K) (by rfl)) (by rfl) T.n_len (by decide +kernel) (pa_cons (pv 0) pa_nil)) (pv 1) (nomark _)))))), fun h H0 G0 ds R hS => ?_⟩
  obtain ⟨x, t, n, rfl, ht, hR⟩ := hS
  refine ws_ret (we_andV (we_isi (we_var rfl ⟨t, _, ht, kb_tuple ht, _, rfl, fun hb => ?_, fun hb => ?_⟩)))
  · obtain ⟨xs, rfl⟩ : ∃ xs, x = D.tup xs := by cases x <;> first | exact ⟨_, rfl⟩ | cases hb
    exact we_eqI (we_len (we_var rfl ⟨_, .inr rfl, _, rfl, we_var rfl ⟨_, rfl, hR⟩⟩))
  · have e : tupOf n x = false := by cases x <;> first | rfl | cases hb
    rw [e] at hR; exact hR
/-! ### fractions -/
/-- in lowest terms -/
@[irreducible] def low (t b : Int) : Int × Int := (t / (Int.gcd t b : Int), b / (Int.gcd t b : Int))
theorem low_fst (t b : Int) : (low t b).1 = t / (Int.gcd t b : Int) := by unfold low; rfl
theorem low_snd (t b : Int) : (low t b).2 = b / (Int.gcd t b : Int) := by unfold low; rfl
theorem low_is (t b : Int) : low t b = (t / (Int.gcd t b : Int), b / (Int.gcd t b : Int)) := by unfold low; rfl
def fr (x : Int × Int) : D := .tup [.int x.1, .int x.2]
theorem len2 {α : Type} {a b : α} : [a, b].length ≤ 4000000 := Nat.le_of_ble_eq_true rfl
theorem len3 {α : Type} {a b c : α} : [a, b, c].length ≤ 4000000 := Nat.le_of_ble_eq_true rfl
section
variable {p : Par} {ρ : Rho} {Q : D → Prop} {ta : TE}
theorem we_fr0 (h : WE p ρ ta fun x => ∃ y, x = fr y ∧ Q (.int y.1)) : WE p ρ (tOp (rIxT p.K) ta (tC (.int 0))) Q := we_ixT (h.imp fun x ⟨y, e, q⟩ => ⟨_, e, we_int ⟨_, _, rfl, rfl, q⟩⟩)
theorem we_fr1 (h : WE p ρ ta fun x => ∃ y, x = fr y ∧ Q (.int y.2)) : WE p ρ (tOp (rIxT p.K) ta (tC (.int 1))) Q := we_ixT (h.imp fun x ⟨y, e, q⟩ => ⟨_, e, we_int ⟨_, _, rfl, rfl, q⟩⟩)
end
theorem gcd_pos {t b : Int} (hb : 0 < b) : 0 < (Int.gcd t b : Int) := by
  have := Int.gcd_pos_of_ne_zero_right t (b := b) (by omega)
  omega
theorem gcd_le {t b : Int} (hb : 0 < b) : (Int.gcd t b : Int) ≤ b := Int.le_of_dvd hb (Int.gcd_dvd_right t b)
theorem low_cross {t b : Int} (hb : 0 < b) : (low t b).1 * b = t * (low t b).2 := by
  have hg := gcd_pos (t := t) hb
  obtain ⟨x, hx⟩ := Int.gcd_dvd_left t b
  obtain ⟨y, hy⟩ := Int.gcd_dvd_right t b
  have e1 : t / (Int.gcd t b : Int) = x := Int.ediv_eq_of_eq_mul_right (by omega) hx
  have e2 : b / (Int.gcd t b : Int) = y := Int.ediv_eq_of_eq_mul_right (by omega) hy
  rw [low_fst, low_snd]
  rw [e1, e2]
  generalize (Int.gcd t b : Int) = g at hx hy
  rw [hx, hy, Int.mul_comm g x, Int.mul_assoc]
theorem low_pos {t b : Int} (hb : 0 < b) : 0 < (low t b).2 := by
  have hg := gcd_pos (t := t) hb
  obtain ⟨y, hy⟩ := Int.gcd_dvd_right t b
  have e2 : b / (Int.gcd t b : Int) = y := Int.ediv_eq_of_eq_mul_right (by omega) hy
  rw [low_snd]
  rw [e2]
  generalize (Int.gcd t b : Int) = g at hy hg
  by_cases h : 0 < y
  · exact h
  · have : g * y ≤ 0 := Int.mul_nonpos_of_nonneg_of_nonpos (by omega) (by omega)
    omega
theorem low_le {t b : Int} (hb : 0 < b) : (low t b).2 ≤ b := by rw [low_snd]; exact Int.ediv_le_self _ (by omega)
theorem low_top {t b : Int} (hb : 0 < b) : (low t b).1.natAbs ≤ t.natAbs := by
  have hg := gcd_pos (t := t) hb
  obtain ⟨x, hx⟩ := Int.gcd_dvd_left t b
  have e1 : t / (Int.gcd t b : Int) = x := Int.ediv_eq_of_eq_mul_right (by omega) hx
  rw [low_fst]
  rw [e1]
  generalize (Int.gcd t b : Int) = g at hx hg
  rw [hx, Int.natAbs_mul]
  exact Nat.le_mul_of_pos_left _ (by omega)
theorem gcd_step {x y : Int} (hx : 0 ≤ x) (hy : 0 ≤ y) : Int.gcd y (x % y) = Int.gcd x y := by
  obtain ⟨n, rfl⟩ := Int.eq_ofNat_of_zero_le hx
  obtain ⟨m, rfl⟩ := Int.eq_ofNat_of_zero_le hy
  rw [← Int.natCast_emod]
  show Nat.gcd (m : Int).natAbs ((n % m : Nat) : Int).natAbs = Nat.gcd (n : Int).natAbs (m : Int).natAbs
  rw [Int.natAbs_natCast, Int.natAbs_natCast, Int.natAbs_natCast, Nat.gcd_comm n m, Nat.gcd_rec m n, Nat.gcd_comm]
/-- a number of at most so many bits -/
abbrev Bd (k : Nat) (x : Int) : Prop := x.natAbs < 2 ^ k
theorem Bd.mul {a b : Nat} {x y : Int} (h : Bd a x) (h2 : Bd b y) : Bd (a + b) (x * y) := wide_lt h h2
theorem Bd.mono {a b : Nat} {x : Int} (h : Bd a x) (hl : a ≤ b) : Bd b x := Nat.lt_of_lt_of_le h (Nat.pow_le_pow_right (by decide) hl)
theorem Bd.sub {a : Nat} {x y : Int} (h : Bd a x) (h2 : Bd a y) : Bd (a + 1) (x - y) := by
  have e : (2 : Nat) ^ (a + 1) = 2 ^ a + 2 ^ a := by rw [Nat.pow_succ]; omega
  show (x - y).natAbs < _
  have h' : x.natAbs < 2 ^ a := h
  have h2' : y.natAbs < 2 ^ a := h2
  generalize (2 : Nat) ^ a = q at *
  omega
theorem Bd.add {a : Nat} {x y : Int} (h : Bd a x) (h2 : Bd a y) : Bd (a + 1) (x + y) := by
  have e : (2 : Nat) ^ (a + 1) = 2 ^ a + 2 ^ a := by rw [Nat.pow_succ]; omega
  show (x + y).natAbs < _
  have h' : x.natAbs < 2 ^ a := h
  have h2' : y.natAbs < 2 ^ a := h2
  generalize (2 : Nat) ^ a = q at *
  omega
theorem Bd.small {k : Nat} {x : Int} (h : x.natAbs < 18446744073709551616) (hk : 64 ≤ k := by decide) : Bd k x := big h hk
theorem Bd.cm {a b : Nat} {x y : Int} (h : Bd a x) (h2 : Bd b y) (ha : 0 < a := by decide) (hb : 0 < b := by decide) (hl : a + b ≤ 1000000 := by decide) : CMulA x y := .inr (.inr (wide_mul h h2 ha hb hl))
theorem Bd.cd {a : Nat} {x y : Int} (hp : 0 < y) (h : Bd a y) (ha : 0 < a := by decide) (hl : a ≤ 9000 := by decide) : CDivA x y := ⟨hp, .inr (wide_div (i := x) hp h ha hl).2⟩
def S_law_low : List D → (D → Prop) → Prop := fun ds R => ∃ t b : Int, ds = [.int t, .int b] ∧ 0 < b ∧ Bd 8999 b ∧ R (fr (low t b))
theorem l_law_low : ∀ ds R, S_law_low ds R → ds.length = 2 := fun ds R ⟨_, _, e, _⟩ => by rw [e]; rfl
theorem d_law_low (T : Txt K mg) : Dfn P w K mg bs 1 "_law_low" ["top", "bottom"] S_law_low := by
  refine mkD (k := 0) T.s_law_low sc_law_low (fun _ _ _ _ _ _ us hl => match us, hl with | [_, _], _ => rfl) l_law_low fun f cdv A outer s H E hr => ?_
  have hu := hu_of hr
  refine ⟨_, (pss_cons (ps_par (i := 2) (j := 3) (by rfl) sc_law_low.nd rfl rfl (by decide) rfl rfl (pa_cons (pe_callB call_abs (by rfl) T.n_abs (by decide +kernel) (pa_cons (pv 0) pa_nil)) (pa_cons (pe_callB call_abs (by rfl) T.n_abs (by decide +kernel) (pa_cons (pv 1) pa_nil)) pa_nil)) (by rfl))
      (pss_cons (ps_while PassesOwn.never (pt_cmpR op_gt (pv 3) pe_int (nomark _)) (pss_one (ps_par (i := 2) (j := 3) (by rfl) sc_law_low.nd rfl rfl (by decide) rfl rfl (pa_cons (pv 3) (pa_cons (pe_op op_mod (pe_callTy call_int1 (by rfl) T.n_int (by decide +kernel) (pa_cons (pv 2) pa_nil)) (pv 3)) pa_nil)) (by rfl))))
      (pss_cons (ps_set (i := 2) sc_law_low.nd rfl (Or.inl rfl) (pe_ifExp (pt_cmpR op_gt (pv 1) pe_int (nomark _)) (pv 2) (pe_op op_sub pe_int (pv 2))))
      (pss_one (ps_ret (pe_tup (pa_cons (pe_op op_divA (pe_callTy call_int1 (by rfl) T.n_int (by decide +kernel) (pa_cons (pv 0) pa_nil)) (pv 2)) (pa_cons (pe_op op_divA (pe_callTy call_int1 (by rfl) T.n_int (by decide +kernel) (pa_cons (pv 1) pa_nil)) (pv 2)) pa_nil)))))))), fun h H0 G0 ds R hS => ?_⟩
  obtain ⟨t, b, rfl, hb, hbd, hR⟩ := hS
  rw [low_is] at hR
  have hg := gcd_pos (t := t) hb
  refine ws_seq (ws_par ?_)
  refine wa_cons (we_abs (we_var rfl ⟨_, rfl, wa_cons (we_abs (we_var rfl ⟨_, rfl, wa_nil ⟨_, _, rfl, ?_⟩⟩))⟩))
  refine ws_seq (ws_while (fun m ρ => ∃ x y : Int, 0 ≤ x ∧ 0 ≤ y ∧ Int.gcd x y = Int.gcd t b ∧ m = y.toNat ∧ ρ = [some (.d (.int t)), some (.d (.int b)), some (.d (.int x)), some (.d (.int y))]) (absI b).toNat ⟨absI t, absI b, absI_nn t, absI_nn b, ?_, rfl, rfl⟩ ?_)
  · rw [absI_eq, absI_eq]
    simp [Int.gcd]
  · rintro m ρ ⟨x, y, hx, hy, e, rfl, rfl⟩
    refine wt_T (we_I0 (we_var rfl ⟨_, rfl, we_int ⟨_, rfl, _, rfl, ?_⟩⟩))
    refine ite2 (fun hpos => ?_) (fun hpos => ?_)
    · have hpos : 0 < y := of_decide_eq_true hpos
      refine ws_par (wa_cons (we_var rfl (wa_cons (we_I (we_int1 (we_var rfl ⟨_, rfl, _, rfl, we_var rfl ⟨_, rfl, hpos, wa_nil ⟨_, _, rfl, ?_⟩⟩⟩))))))
      have h1 := Int.emod_nonneg x (b := y) (by omega)
      have h2 := Int.emod_lt_of_pos x hpos
      refine ⟨(x % y).toNat, by omega, y, x % y, hy, h1, ?_, rfl, rfl⟩
      rw [← e, gcd_step hx hy]
    · have h0 : y = 0 := by
        have : ¬ 0 < y := fun z => hpos (decide_eq_true z)
        omega
      subst h0
      have ex : x = (Int.gcd t b : Int) := by
        rw [← e, Int.gcd_zero_right]
        omega
      subst ex
      -- one = one if bottom > 0 else 0 - one
      refine ws_seq (ws_asg (we_if (wt_T (we_I0 (we_var rfl ⟨_, rfl, we_int ⟨_, rfl, _, rfl, ?_⟩⟩)))))
      have hpos' : (decide ((0 : Int) < b)) = true := decide_eq_true hb
      rw [hpos', if_pos rfl]
      refine we_var rfl ?_
      have hbg : Bd 8999 (Int.gcd t b : Int) := by
        have := gcd_le (t := t) hb
        exact Nat.lt_of_le_of_lt (by omega) hbd
      exact ws_ret (we_tup (wa_cons (we_I (we_int1 (we_var rfl ⟨_, rfl, _, rfl, we_var rfl ⟨_, rfl, Bd.cd hg hbg, wa_cons (we_I (we_int1 (we_var rfl ⟨_, rfl, _, rfl, we_var rfl ⟨_, rfl, Bd.cd hg hbg, wa_nil ⟨by show 2 ≤ 4000000; decide, hR⟩⟩⟩)))⟩⟩)))))
def S_law_minus : List D → (D → Prop) → Prop := fun ds R => ∃ a b c d : Int, ds = [fr (a, b), fr (c, d)] ∧ 0 < b ∧ 0 < d ∧ Bd 4000 a ∧ Bd 4000 b ∧ Bd 4000 c ∧ Bd 4000 d ∧ R (fr (low (a * d - c * b) (b * d)))
theorem l_law_minus : ∀ ds R, S_law_minus ds R → ds.length = 2 := fun ds R ⟨_, _, _, _, e, _⟩ => by rw [e]; rfl
theorem d_law_minus (T : Txt K mg) : Dfn P w K mg bs 2 "_law_minus" ["one", "other"] S_law_minus := by
  have D_law_low := d_law_low (P := P) (w := w) (bs := bs) T
  refine mkD (k := 1) T.s_law_minus sc_law_minus (fun _ _ _ _ _ _ us hl => match us, hl with | [_, _], _ => rfl) l_law_minus fun f cdv A outer s H E hr => ?_
  have hu := hu_of hr
  refine ⟨_, (pss_one (ps_ret (pe_callK0 (K0 := K) (by rfl) D_law_low (hr.mono (by decide)) (pa_cons (pe_op op_sub (pe_op op_mulA (pe_ix (ix_tupK (K0 := K) (by rfl)) (pv 0) pe_int (fun _ _ => rfl)) (pe_ix (ix_tupK (K0 := K) (by rfl)) (pv 1) pe_int (fun _ _ => rfl))) (pe_op op_mulA (pe_ix (ix_tupK (K0 := K) (by rfl)) (pv 1) pe_int (fun _ _ => rfl)) (pe_ix (ix_tupK (K0 := K) (by rfl)) (pv 0) pe_int (fun _ _ => rfl)))) (pa_cons (pe_op op_mulA (pe_ix (ix_tupK (K0 := K) (by rfl)) (pv 0) pe_int (fun _ _ => rfl)) (pe_ix (ix_tupK (K0 := K) (by rfl)) (pv 1) pe_int (fun _ _ => rfl))) pa_nil))))), fun h H0 G0 ds R hS => ?_⟩
  obtain ⟨a, b, c, d, rfl, hb, hd, b1, b2, b3, b4, hR⟩ := hS
  refine ws_ret (we_call (wa_cons (we_I0 ?_)))
  refine we_I (we_ixT (we_var rfl ⟨_, rfl, we_int ⟨_, _, rfl, rfl, _, rfl, we_ixT (we_var rfl ⟨_, rfl, we_int ⟨_, _, rfl, rfl, _, rfl, b1.cm b4, _, rfl, ?_⟩⟩)⟩⟩))
  refine we_I (we_ixT (we_var rfl ⟨_, rfl, we_int ⟨_, _, rfl, rfl, _, rfl, we_ixT (we_var rfl ⟨_, rfl, we_int ⟨_, _, rfl, rfl, _, rfl, b3.cm b2, _, rfl, ?_⟩⟩)⟩⟩))
  refine wa_cons (we_I (we_ixT (we_var rfl ⟨_, rfl, we_int ⟨_, _, rfl, rfl, _, rfl, we_ixT (we_var rfl ⟨_, rfl, we_int ⟨_, _, rfl, rfl, _, rfl, b2.cm b4, ?_⟩⟩)⟩⟩)))
  exact wa_nil ⟨_, _, rfl, Int.mul_pos hb hd, (b2.mul b4).mono (by decide), hR⟩
def S_law_times : List D → (D → Prop) → Prop := fun ds R => ∃ a b c d : Int, ds = [fr (a, b), fr (c, d)] ∧ 0 < b ∧ 0 < d ∧ Bd 4000 a ∧ Bd 4000 b ∧ Bd 4000 c ∧ Bd 4000 d ∧ R (fr (low (a * c) (b * d)))
theorem l_law_times : ∀ ds R, S_law_times ds R → ds.length = 2 := fun ds R ⟨_, _, _, _, e, _⟩ => by rw [e]; rfl
theorem d_law_times (T : Txt K mg) : Dfn P w K mg bs 2 "_law_times" ["one", "other"] S_law_times := by
  have D_law_low := d_law_low (P := P) (w := w) (bs := bs) T
  refine mkD (k := 1) T.s_law_times sc_law_times (fun _ _ _ _ _ _ us hl => match us, hl with | [_, _], _ => rfl) l_law_times fun f cdv A outer s H E hr => ?_
  have hu := hu_of hr
  refine ⟨_, (pss_one (ps_ret (pe_callK0 (K0 := K) (by rfl) D_law_low (hr.mono (by decide)) (pa_cons (pe_op op_mulA (pe_ix (ix_tupK (K0 := K) (by rfl)) (pv 0) pe_int (fun _ _ => rfl)) (pe_ix (ix_tupK (K0 := K) (by rfl)) (pv 1) pe_int (fun _ _ => rfl))) (pa_cons (pe_op op_mulA (pe_ix (ix_tupK (K0 := K) (by rfl)) (pv 0) pe_int (fun _ _ => rfl)) (pe_ix (ix_tupK (K0 := K) (by rfl)) (pv 1) pe_int (fun _ _ => rfl))) pa_nil))))), fun h H0 G0 ds R hS => ?_⟩
  obtain ⟨a, b, c, d, rfl, hb, hd, b1, b2, b3, b4, hR⟩ := hS
  refine ws_ret (we_call (wa_cons ?_))
  refine we_I (we_ixT (we_var rfl ⟨_, rfl, we_int ⟨_, _, rfl, rfl, _, rfl, we_ixT (we_var rfl ⟨_, rfl, we_int ⟨_, _, rfl, rfl, _, rfl, b1.cm b3, ?_⟩⟩)⟩⟩))
  refine wa_cons (we_I (we_ixT (we_var rfl ⟨_, rfl, we_int ⟨_, _, rfl, rfl, _, rfl, we_ixT (we_var rfl ⟨_, rfl, we_int ⟨_, _, rfl, rfl, _, rfl, b2.cm b4, ?_⟩⟩)⟩⟩)))
  exact wa_nil ⟨_, _, rfl, Int.mul_pos hb hd, (b2.mul b4).mono (by decide), hR⟩
/-! ### which digits a writing begins with -/
def ldig (base t b : Int) : Int := maxI (1 - base) (-((b - base * t) / b))
def gdig (base t b : Int) : Int := minI (base - 1) ((base * t + b) / b)
theorem ldig_ge (base t b : Int) : 1 - base ≤ ldig base t b := by unfold ldig maxI; split <;> omega
theorem gdig_le (base t b : Int) : gdig base t b ≤ base - 1 := by unfold gdig minI; split <;> omega
theorem max_le {a b c : Int} : maxI a b ≤ c ↔ a ≤ c ∧ b ≤ c := by unfold maxI; split <;> omega
theorem le_min {a b c : Int} : c ≤ minI a b ↔ c ≤ a ∧ c ≤ b := by unfold minI; split <;> omega
theorem ldig_le {base t b d : Int} (hb : 0 < b) : ldig base t b ≤ d ↔ 1 - base ≤ d ∧ base * t - d * b ≤ b := by
  unfold ldig
  rw [max_le]
  have e : -((b - base * t) / b) ≤ d ↔ -d ≤ (b - base * t) / b := by omega
  rw [e, Int.le_ediv_iff_mul_le hb, Int.neg_mul]
  omega
theorem le_gdig {base t b d : Int} (hb : 0 < b) : d ≤ gdig base t b ↔ d ≤ base - 1 ∧ -b ≤ base * t - d * b := by
  unfold gdig
  rw [le_min, Int.le_ediv_iff_mul_le hb]
  omega
theorem dig_le {base t b : Int} (h1 : 2 ≤ base) (hb : 0 < b) (h2 : -b ≤ t) (h3 : t ≤ b) : ldig base t b ≤ gdig base t b := by
  have m1 : base * t ≤ base * b := Int.mul_le_mul_of_nonneg_left h3 (by omega)
  have m2 : base * -b ≤ base * t := Int.mul_le_mul_of_nonneg_left h2 (by omega)
  rw [Int.mul_neg] at m2
  unfold ldig gdig
  rw [max_le, le_min, le_min]
  refine ⟨⟨by omega, ?_⟩, ?_, ?_⟩
  · rw [Int.le_ediv_iff_mul_le hb, Int.sub_mul, Int.one_mul]
    omega
  · have : 1 - base ≤ (b - base * t) / b := by
      rw [Int.le_ediv_iff_mul_le hb, Int.sub_mul, Int.one_mul]
      omega
    omega
  · have e1 := Int.mul_ediv_add_emod (b - base * t) b
    have e2 := Int.mul_ediv_add_emod (base * t + b) b
    have r1 := Int.emod_lt_of_pos (b - base * t) hb
    have r2 := Int.emod_lt_of_pos (base * t + b) hb
    generalize (b - base * t) / b = q1 at *
    generalize (base * t + b) / b = q2 at *
    have hs : 0 < b * (q1 + q2) := by rw [Int.mul_add]; omega
    have : 0 < q1 + q2 := by
      by_cases h : 0 < q1 + q2
      · exact h
      · have := Int.mul_nonpos_of_nonneg_of_nonpos (show 0 ≤ b by omega) (show q1 + q2 ≤ 0 by omega)
        omega
    omega
/-- a digit within goes to a number again -/
theorem dig_in {base t b d : Int} (hb : 0 < b) (h1 : ldig base t b ≤ d) (h2 : d ≤ gdig base t b) : -b ≤ base * t - d * b ∧ base * t - d * b ≤ b := ⟨((le_gdig hb).mp h2).2, ((ldig_le hb).mp h1).2⟩
/-! ### numbers -/
def Ty (x : D) : Prop := ∃ t, tyD x = some t
def isFr : D → Bool | .tup [.int t, .int b] => decide (0 < b) && decide (Nat.gcd t.natAbs b.natAbs = 1) | _ => false
def S_is_fraction : List D → (D → Prop) → Prop := fun ds R => ∃ x, ds = [x] ∧ Ty x ∧ (∀ a b, x = .tup [a, b] → Ty a ∧ Ty b) ∧ R (.bl (isFr x))
theorem l_is_fraction : ∀ ds R, S_is_fraction ds R → ds.length = 1 := fun ds R ⟨_, e, _⟩ => by rw [e]; rfl
theorem d_is_fraction (T : Txt K mg) : Dfn P w K mg bs 2 "is_fraction" ["thing"] S_is_fraction := by
  have D_is_tuple_of := d_is_tuple_of (P := P) (w := w) (bs := bs) T
  have D_is_integer := d_is_integer (P := P) (w := w) (bs := bs) T
  refine mkD (k := 1) T.s_is_fraction sc_is_fraction (fun _ _ _ _ _ _ us hl => match us, hl with | [_], _ => rfl) l_is_fraction fun f cdv A outer s H E hr => ?_
  have hu := hu_of hr
  refine ⟨_, (pss_cons (ps_if (pt_not (pt_val (pe_callK0 (K0 := K) (by rfl) D_is_tuple_of (hr.mono (by decide)) (pa_cons (pv 0) (pa_cons pe_int pa_nil))))) (pss_one (ps_ret pe_bl)) pss_nil)
      (pss_cons (ps_asg (pv 0) (pg_tup rfl (pgs_cons (pg_name (i := 1) sc_is_fraction.nd rfl (Or.inl rfl)) (pgs_cons (pg_name (i := 2) sc_is_fraction.nd rfl (Or.inl rfl)) pgs_nil))))
      (pss_one (ps_ret (pe_and (pe_callK0 (K0 := K) (by rfl) D_is_integer (hr.mono (by decide)) (pa_cons (pv 1) pa_nil)) (pe_and (pe_callK0 (K0 := K) (by rfl) D_is_integer (hr.mono (by decide)) (pa_cons (pv 2) pa_nil)) (pe_and (pe_cmpR op_gt (pv 2) pe_int (nomark _)) (pe_one (pe_cmpR op_eq (pe_callBfun cr_gcd (by rfl) T.g_gcd (pa_cons (pv 1) (pa_cons (pv 2) pa_nil))) pe_int (nomark _)))))))))), fun h H0 G0 ds R hS => ?_⟩
  obtain ⟨x, rfl, ⟨t, ht⟩, hab, hR⟩ := hS
  refine ws_seq (ws_if (wt_not (wt_B (we_call (wa_cons (we_var rfl (wa_cons (we_int (wa_nil ⟨x, t, 2, rfl, ht, _, rfl, ?_⟩)))))))))
  refine ite2 (fun hb => ?_) (fun hb => ?_)
  · refine ws_ret (we_bl ?_)
    have e : isFr x = false := by
      unfold isFr
      split
      · exfalso; simp [tupOf] at hb
      · rfl
    rw [e] at hR; exact hR
  · obtain ⟨a, b, rfl⟩ : ∃ a b, x = D.tup [a, b] := by
      cases x with
      | tup xs =>
        match xs, hb with
        | [a, b], _ => exact ⟨a, b, rfl⟩
        | [], h => exact absurd rfl h
        | [a], h => exact absurd rfl h
        | a :: b :: c :: r, h =>
          exfalso
          refine h ?_
          have : decide (((a :: b :: c :: r).length : Int) = 2) = false := decide_eq_false (by simp only [List.length_cons]; omega)
          show (!decide (((a :: b :: c :: r).length : Int) = 2)) = true
          rw [this]; rfl
      | _ => exact absurd rfl hb
    obtain ⟨⟨ta, hta⟩, ⟨tb, htb⟩⟩ := hab a b rfl
    refine ws_next (ws_seq (ws_asgG (we_var rfl (wg_tup ⟨_, rfl, rfl, wgs_cons ⟨_, _, rfl, wg_name (wgs_cons ⟨_, _, rfl, wg_name (wgs_nil ⟨rfl, ?_⟩)⟩)⟩⟩))))
    refine ws_ret (we_andV (we_call (wa_cons (we_var rfl (wa_nil ⟨a, ta, rfl, hta, _, rfl, fun ha => ?_, fun ha => ?_⟩)))))
    · obtain ⟨i, rfl⟩ : ∃ i, a = D.int i := by cases a <;> first | exact ⟨_, rfl⟩ | cases ha
      refine we_andV (we_call (wa_cons (we_var rfl (wa_nil ⟨b, tb, rfl, htb, _, rfl, fun hb' => ?_, fun hb' => ?_⟩))))
      · obtain ⟨j, rfl⟩ : ∃ j, b = D.int j := by cases b <;> first | exact ⟨_, rfl⟩ | cases hb'
        refine we_andV (we_I0 (we_var rfl ⟨_, rfl, we_int ⟨_, rfl, _, rfl, fun h0 => ?_, fun h0 => ?_⟩⟩))
        · refine we_eqI (we_gcd (we_var rfl ⟨_, rfl, we_var rfl ⟨_, rfl, _, rfl, we_int ⟨_, rfl, ?_⟩⟩⟩))
          have e : isFr (.tup [.int i, .int j]) = decide (((Nat.gcd i.natAbs j.natAbs : Nat) : Int) = 1) := by
            show (decide (0 < j) && decide (Nat.gcd i.natAbs j.natAbs = 1)) = _
            rw [h0, Bool.true_and]
            by_cases hg : Nat.gcd i.natAbs j.natAbs = 1
            · rw [decide_eq_true hg, decide_eq_true (by omega)]
            · rw [decide_eq_false hg, decide_eq_false (by omega)]
          rw [e] at hR; exact hR
        · have e : isFr (.tup [.int i, .int j]) = false := by
            show (decide (0 < j) && _) = false
            rw [h0, Bool.false_and]
          rw [e] at hR; exact hR
      · have e : isFr (.tup [.int i, b]) = false := by cases b <;> first | rfl | cases hb'
        rw [e] at hR; exact hR
    · have e : isFr (.tup [a, b]) = false := by cases a <;> first | rfl | cases ha
      rw [e] at hR; exact hR
/-- a number: top, bottom -/
def Num (t b : Int) : Prop := 0 < b ∧ Nat.gcd t.natAbs b.natAbs = 1 ∧ -b ≤ t ∧ t ≤ b
def isNum : D → Bool | .tup [.int t, .int b] => isFr (.tup [.int t, .int b]) && decide (absI t ≤ b) | _ => false
theorem Num.is {t b : Int} (h : Num t b) : isNum (fr (t, b)) = true := by
  obtain ⟨h1, h2, h3, h4⟩ := h
  show ((decide (0 < b) && decide (Nat.gcd t.natAbs b.natAbs = 1)) && decide (absI t ≤ b)) = true
  rw [decide_eq_true h1, decide_eq_true h2, decide_eq_true (by rw [absI_eq]; omega)]
  rfl
theorem fr_of : ∀ {x : D}, isFr x = true → ∃ t b, x = fr (t, b)
  | .tup [.int t, .int b], _ => ⟨t, b, rfl⟩
def S_is_number : List D → (D → Prop) → Prop := fun ds R => ∃ x, ds = [x] ∧ Ty x ∧ (∀ a b, x = .tup [a, b] → Ty a ∧ Ty b) ∧ R (.bl (isNum x))
theorem l_is_number : ∀ ds R, S_is_number ds R → ds.length = 1 := fun ds R ⟨_, e, _⟩ => by rw [e]; rfl
theorem d_is_number (T : Txt K mg) : Dfn P w K mg bs 3 "is_number" ["thing"] S_is_number := by
  have D_is_fraction := d_is_fraction (P := P) (w := w) (bs := bs) T
  refine mkD (k := 2) T.s_is_number sc_is_number (fun _ _ _ _ _ _ us hl => match us, hl with | [_], _ => rfl) l_is_number fun f cdv A outer s H E hr => ?_
  have hu := hu_of hr
  refine ⟨_, (pss_one (ps_ret (pe_and (pe_callK0 (K0 := K) (by rfl) D_is_fraction (hr.mono (by decide)) (pa_cons (pv 0) pa_nil)) (pe_one (pe_cmpR op_le (pe_callB call_abs (by rfl) T.n_abs (by decide +kernel) (pa_cons (pe_ix (ix_tupK (K0 := K) (by rfl)) (pv 0) pe_int (fun _ _ => rfl)) pa_nil)) (pe_ix (ix_tupK (K0 := K) (by rfl)) (pv 0) pe_int (fun _ _ => rfl)) (nomark _)))))), fun h H0 G0 ds R hS => ?_⟩
  obtain ⟨x, rfl, hx, hab, hR⟩ := hS
  refine ws_ret (we_andV (we_call (wa_cons (we_var rfl (wa_nil ⟨x, rfl, hx, hab, _, rfl, fun hb => ?_, fun hb => ?_⟩)))))
  · obtain ⟨t, b, rfl⟩ := fr_of hb
    refine we_I0 (we_abs (we_fr0 (we_var rfl ⟨_, rfl, _, rfl, _, rfl, we_fr1 (we_var rfl ⟨_, rfl, _, rfl, ?_⟩)⟩)))
    have e : isNum (fr (t, b)) = decide (absI t ≤ b) := by
      show (isFr (fr (t, b)) && decide (absI t ≤ b)) = _
      rw [hb, Bool.true_and]
    rw [e] at hR; exact hR
  · have e : isNum x = false := by
      unfold isNum
      split
      · rw [hb, Bool.false_and]
      · rfl
    rw [e] at hR; exact hR
def S_check_base : List D → (D → Prop) → Prop := fun ds R => ∃ x : D, ds = [x] ∧ Ty x ∧ within 2 5 x = true ∧ R .non
theorem l_check_base : ∀ ds R, S_check_base ds R → ds.length = 1 := fun ds R ⟨_, e, _⟩ => by rw [e]; rfl
theorem d_check_base (T : Txt K mg) : Dfn P w K mg bs 4 "check_base" ["thing"] S_check_base := by
  have D_is_base := d_is_base (P := P) (w := w) (bs := bs) T
  refine mkD (k := 3) T.s_check_base sc_check_base (fun _ _ _ _ _ _ us hl => match us, hl with | [_], _ => rfl) l_check_base fun f cdv A outer s H E hr => ?_
  have hu := hu_of hr
  refine ⟨_, (pss_one (ps_if (pt_not (pt_val (pe_callK0 (K0 := K) (by rfl) D_is_base (hr.mono (by decide)) (pa_cons (pv 0) pa_nil)))) (pss_one ps_never) pss_nil)), fun h H0 G0 ds R hS => ?_⟩
  obtain ⟨x, rfl, ⟨t, ht⟩, hw, hR⟩ := hS
  refine ws_if (wt_not (wt_B (we_call (wa_cons (we_var rfl (wa_nil ⟨x, t, rfl, ht, _, rfl, ?_⟩))))))
  rw [hw]
  exact ws_next hR
def S_check_number : List D → (D → Prop) → Prop := fun ds R => ∃ t b : Int, ds = [fr (t, b)] ∧ Num t b ∧ R .non
theorem l_check_number : ∀ ds R, S_check_number ds R → ds.length = 1 := fun ds R ⟨_, _, e, _⟩ => by rw [e]; rfl
theorem ty_fr (x : Int × Int) : Ty (fr x) ∧ ∀ a b, fr x = .tup [a, b] → Ty a ∧ Ty b := ⟨⟨_, rfl⟩, fun a b e => by cases e; exact ⟨⟨_, rfl⟩, ⟨_, rfl⟩⟩⟩
theorem d_check_number (T : Txt K mg) : Dfn P w K mg bs 4 "check_number" ["thing"] S_check_number := by
  have D_is_number := d_is_number (P := P) (w := w) (bs := bs) T
  refine mkD (k := 3) T.s_check_number sc_check_number (fun _ _ _ _ _ _ us hl => match us, hl with | [_], _ => rfl) l_check_number fun f cdv A outer s H E hr => ?_
  have hu := hu_of hr
  refine ⟨_, (pss_one (ps_if (pt_not (pt_val (pe_callK0 (K0 := K) (by rfl) D_is_number (hr.mono (by decide)) (pa_cons (pv 0) pa_nil)))) (pss_one ps_never) pss_nil)), fun h H0 G0 ds R hS => ?_⟩
  obtain ⟨t, b, rfl, hn, hR⟩ := hS
  refine ws_if (wt_not (wt_B (we_call (wa_cons (we_var rfl (wa_nil ⟨_, rfl, (ty_fr _).1, (ty_fr _).2, _, rfl, ?_⟩))))))
  rw [hn.is]
  exact ws_next hR
def S_check_many : List D → (D → Prop) → Prop := fun ds R => ∃ n : Int, ds = [.int n] ∧ 0 ≤ n ∧ n ≤ 1000 ∧ R .non
theorem l_check_many : ∀ ds R, S_check_many ds R → ds.length = 1 := fun ds R ⟨_, e, _⟩ => by rw [e]; rfl
theorem d_check_many (T : Txt K mg) : Dfn P w K mg bs 3 "check_many" ["thing"] S_check_many := by
  have D_is_integer_within := d_is_integer_within (P := P) (w := w) (bs := bs) T
  refine mkD (k := 2) T.s_check_many sc_check_many (fun _ _ _ _ _ _ us hl => match us, hl with | [_], _ => rfl) l_check_many fun f cdv A outer s H E hr => ?_
  have hu := hu_of hr
  obtain ⟨t_MOST_DIGITS, g_MOST_DIGITS⟩ := T.c_MOST_DIGITS
  refine ⟨_, (pss_one (ps_if (pt_not (pt_val (pe_callK0 (K0 := K) (by rfl) D_is_integer_within (hr.mono (by decide)) (pa_cons (pv 0) (pa_cons pe_int (pa_cons (pe_glob (v := .int 1000) rfl g_MOST_DIGITS ⟨_, rfl⟩) pa_nil)))))) (pss_one ps_never) pss_nil)), fun h H0 G0 ds R hS => ?_⟩
  obtain ⟨n, rfl, h0, h1, hR⟩ := hS
  refine ws_if (wt_not (wt_B (we_call (wa_cons (we_var rfl (wa_cons (we_int (wa_cons (we_int (wa_nil ⟨_, _, 0, 1000, rfl, rfl, _, rfl, ?_⟩)))))))))) 
  have e : within 0 1000 (.int n) = true := by show (decide (0 ≤ n) && decide (n ≤ 1000)) = true; rw [decide_eq_true h0, decide_eq_true h1]; rfl
  rw [e]
  exact ws_next hR
def S_least_digit : List D → (D → Prop) → Prop := fun ds R => ∃ base t b : Int, ds = [.int base, .int t, .int b] ∧ 2 ≤ base ∧ base ≤ 5 ∧ 0 < b ∧ Bd 8999 b ∧ R (.int (ldig base t b))
theorem l_least_digit : ∀ ds R, S_least_digit ds R → ds.length = 3 := fun ds R ⟨_, _, _, e, _⟩ => by rw [e]; rfl
theorem d_least_digit (T : Txt K mg) : Dfn P w K mg bs 1 "least_digit" ["base", "top", "bottom"] S_least_digit := by
  refine mkD (k := 0) T.s_least_digit sc_least_digit (fun _ _ _ _ _ _ us hl => match us, hl with | [_, _, _], _ => rfl) l_least_digit fun f cdv A outer s H E hr => ?_
  have hu := hu_of hr
  refine ⟨_, (pss_one (ps_ret (pe_callB (call_max2 rfl) (by rfl) T.n_max (by decide +kernel) (pa_cons (pe_op op_sub pe_int (pv 0)) (pa_cons (pe_un un_neg (pe_op op_divA (pe_op op_sub (pv 2) (pe_op op_mulA (pv 0) (pv 1))) (pv 2))) pa_nil))))), fun h H0 G0 ds R hS => ?_⟩
  obtain ⟨base, t, b, rfl, h1, h2, hb, hbd, hR⟩ := hS
  refine ws_ret (we_max2 (we_I0 (we_int ⟨_, rfl, we_var rfl ⟨_, rfl, _, rfl, ?_⟩⟩)))
  refine we_U (we_I (we_I0 (we_var rfl ⟨_, rfl, we_I (we_var rfl ⟨_, rfl, we_var rfl ⟨_, rfl, .inl (by omega), _, rfl, _, rfl, we_var rfl ⟨_, rfl, Bd.cd hb hbd, _, rfl, _, rfl, hR⟩⟩⟩)⟩)))
def S_greatest_digit : List D → (D → Prop) → Prop := fun ds R => ∃ base t b : Int, ds = [.int base, .int t, .int b] ∧ 2 ≤ base ∧ base ≤ 5 ∧ 0 < b ∧ Bd 8999 b ∧ R (.int (gdig base t b))
theorem l_greatest_digit : ∀ ds R, S_greatest_digit ds R → ds.length = 3 := fun ds R ⟨_, _, _, e, _⟩ => by rw [e]; rfl
theorem d_greatest_digit (T : Txt K mg) : Dfn P w K mg bs 1 "greatest_digit" ["base", "top", "bottom"] S_greatest_digit := by
  refine mkD (k := 0) T.s_greatest_digit sc_greatest_digit (fun _ _ _ _ _ _ us hl => match us, hl with | [_, _, _], _ => rfl) l_greatest_digit fun f cdv A outer s H E hr => ?_
  have hu := hu_of hr
  refine ⟨_, (pss_one (ps_ret (pe_callB (call_min2 rfl) (by rfl) T.n_min (by decide +kernel) (pa_cons (pe_op op_sub (pv 0) pe_int) (pa_cons (pe_op op_divA (pe_op op_add (pe_op op_mulA (pv 0) (pv 1)) (pv 2)) (pv 2)) pa_nil))))), fun h H0 G0 ds R hS => ?_⟩
  obtain ⟨base, t, b, rfl, h1, h2, hb, hbd, hR⟩ := hS
  refine ws_ret (we_min2 (we_I0 (we_var rfl ⟨_, rfl, we_int ⟨_, rfl, _, rfl, ?_⟩⟩)))
  refine we_I (we_I0 (we_I (we_var rfl ⟨_, rfl, we_var rfl ⟨_, rfl, .inl (by omega), _, rfl, we_var rfl ⟨_, rfl, _, rfl, we_var rfl ⟨_, rfl, Bd.cd hb hbd, _, rfl, hR⟩⟩⟩⟩)))
def nexts (base t b : Int) (n : Nat) : List (Int × Int) := (List.range n).map fun (k : Nat) => (ldig base t b + (k : Int), base * t - (ldig base t b + (k : Int)) * b)
def nD (x : Int × Int) : D := .tup [.int x.1, .int x.2]
def nextN (base t b : Int) : Nat := (gdig base t b + 1 - ldig base t b).toNat
def S_next_digits : List D → (D → Prop) → Prop := fun ds R => ∃ base t b : Int, ds = [.int base, .int t, .int b] ∧ 2 ≤ base ∧ base ≤ 5 ∧ 0 < b ∧ Bd 8999 b ∧ -b ≤ t ∧ t ≤ b ∧ R (.lst ((nexts base t b (nextN base t b)).map nD))
theorem l_next_digits : ∀ ds R, S_next_digits ds R → ds.length = 3 := fun ds R ⟨_, _, _, e, _⟩ => by rw [e]; rfl
theorem nexts_succ (base t b : Int) (n : Nat) : nexts base t b (n + 1) = nexts base t b n ++ [(ldig base t b + (n : Int), base * t - (ldig base t b + (n : Int)) * b)] := by
  unfold nexts
  rw [List.range_succ, List.map_append]
  rfl
theorem d_next_digits (T : Txt K mg) : Dfn P w K mg bs 2 "next_digits" ["base", "top", "bottom"] S_next_digits := by
  have D_least_digit := d_least_digit (P := P) (w := w) (bs := bs) T
  have D_greatest_digit := d_greatest_digit (P := P) (w := w) (bs := bs) T
  refine mkD (k := 1) T.s_next_digits sc_next_digits (fun _ _ _ _ _ _ us hl => match us, hl with | [_, _, _], _ => rfl) l_next_digits fun f cdv A outer s H E hr => ?_
  have hu := hu_of hr
  refine ⟨_, (pss_cons (ps_set (i := 3) sc_next_digits.nd rfl (Or.inl rfl) (pe_callK0 (K0 := K) (by rfl) D_least_digit (hr.mono (by decide)) (pa_cons (pv 0) (pa_cons (pv 1) (pa_cons (pv 2) pa_nil)))))
      (pss_cons (ps_set (i := 4) sc_next_digits.nd rfl (Or.inl rfl) (pe_callK0 (K0 := K) (by rfl) D_greatest_digit (hr.mono (by decide)) (pa_cons (pv 0) (pa_cons (pv 1) (pa_cons (pv 2) pa_nil)))))
      (pss_one (ps_ret (pe_lc (own := [("digit", 5)]) (g := (gName 5)) rfl sc_next_digits.nd (pi_range2 rfl T.n_range (pa_cons (pv 3) (pa_cons (pe_op op_add (pv 4) pe_int) pa_nil))) (blkOk_by (N := N_next_digits) (sc := defScope s_next_digits) (by decide +kernel)) (fun _ _ _ _ _ => by exact (pg_name (i := 5) sc_next_digits.nd rfl (Or.inl rfl))) (fun _ _ _ _ _ => by exact pts_nil) (fun _ _ _ _ _ => by exact (pe_tup (pa_cons (pv 5) (pa_cons (pe_op op_sub (pe_op op_mulA (pv 0) (pv 1)) (pe_op op_mulA (pv 5) (pv 2))) pa_nil))))))))), fun h H0 G0 ds R hS => ?_⟩
  obtain ⟨base, t, b, rfl, h1, h2, hb, hbd, ht1, ht2, hR⟩ := hS
  refine ws_seq (ws_asg (we_call (wa_cons (we_var rfl (wa_cons (we_var rfl (wa_cons (we_var rfl (wa_nil ⟨base, t, b, rfl, h1, h2, hb, hbd, ?_⟩)))))))))
  refine ws_seq (ws_asg (we_call (wa_cons (we_var rfl (wa_cons (we_var rfl (wa_cons (we_var rfl (wa_nil ⟨base, t, b, rfl, h1, h2, hb, hbd, ?_⟩)))))))))
  have l1 := ldig_ge base t b
  have l2 := gdig_le base t b
  refine ws_ret (we_F (wf_lc2 (wa_cons (we_var rfl (wa_cons (we_I0 (we_var rfl ⟨_, rfl, we_int ⟨_, rfl, wa_nil ?_⟩⟩)))))))
  have hle := dig_le h1 hb ht1 ht2
  refine ⟨_, _, rfl, by omega, by omega, fun k acc => acc = (nexts base t b k).map nD, rfl, ?_, fun acc e => by rw [e]; exact hR⟩
  rintro k acc hk rfl hl
  refine wgp_name (by decide) (wt_yes ?_)
  rw [if_pos rfl]
  refine we_tup (wa_cons (we_var rfl (wa_cons (we_I0 (we_I (we_var rfl ⟨_, rfl, we_var rfl ⟨_, rfl, .inl (by omega), _, rfl, ?_⟩⟩))))))
  refine we_I (we_var rfl ⟨_, rfl, we_var rfl ⟨_, rfl, .inl (by omega), _, rfl, wa_nil ⟨len2, ?_⟩⟩⟩)
  dsimp only
  rw [nexts_succ, List.map_append]
  rfl
/-! ### many_beginnings -/
theorem Pn_nexts {base t b : Int} (m : Nat) (h1 : 2 ≤ base) (hb : 0 < b) (h2 : -b ≤ t) (h3 : t ≤ b) : Sm (fun d => Pn base b m (base * t - d * b)) (ldig base t b) (nextN base t b) = Pn base b (m + 1) t := by
  have l1 := ldig_ge base t b
  have l2 := gdig_le base t b
  have l3 := dig_le h1 hb h2 h3
  have e : Pn base b (m + 1) t = Sm (fun d => if ldig base t b ≤ d ∧ d ≤ gdig base t b then (fun d => Pn base b m (base * t - d * b)) d else 0) (1 - base) (2 * base - 1).toNat := by
    show Sm _ _ _ = _
    refine Sm_congr fun k hk => ?_
    have hi : (ldig base t b ≤ 1 - base + (k : Int) ∧ 1 - base + (k : Int) ≤ gdig base t b) ↔ (-b ≤ base * t - (1 - base + (k : Int)) * b ∧ base * t - (1 - base + (k : Int)) * b ≤ b) := by
      rw [ldig_le hb, le_gdig hb]
      constructor
      · rintro ⟨⟨_, a⟩, ⟨_, c⟩⟩; exact ⟨c, a⟩
      · rintro ⟨a, c⟩; exact ⟨⟨by omega, c⟩, ⟨by omega, a⟩⟩
    dsimp only
    by_cases hc : -b ≤ base * t - (1 - base + (k : Int)) * b ∧ base * t - (1 - base + (k : Int)) * b ≤ b
    · rw [if_pos hc, if_pos (hi.mpr hc)]
    · rw [if_neg hc, if_neg fun z => hc (hi.mp z)]
  rw [e]
  exact (Sm_part (by omega) (by omega) (by omega)).symm
theorem inl_inj : ∀ a b : Int, (Sum.inl a : Key) = Sum.inl b → a = b := fun _ _ e => Sum.inl.inj e
theorem nexts_at {base t b : Int} {n k : Nat} {x : D} (h : ((nexts base t b n).map nD)[k]? = some x) : x = nD (ldig base t b + (k : Int), base * t - (ldig base t b + (k : Int)) * b) ∧ k < n := by
  have hk : k < n := by
    have := (List.getElem?_eq_some_iff.mp h).1
    rw [List.length_map] at this
    unfold nexts at this
    rw [List.length_map, List.length_range] at this
    exact this
  unfold nexts at h
  rw [List.getElem?_map, List.getElem?_map, List.getElem?_range hk] at h
  cases h
  exact ⟨rfl, hk⟩
theorem enc_at {α κ : Type} {e : α → κ} {L : List (α × Int)} {k : Nat} {y : κ} {x : D} (h : (encA e L)[k]? = some (y, x)) : ∃ a n, L[k]? = some (a, n) ∧ y = e a ∧ x = .int n := by
  unfold encA at h
  rw [List.getElem?_map] at h
  obtain ⟨z, hz, e1⟩ := Option.map_eq_some_iff.mp h
  cases e1
  exact ⟨_, _, hz, rfl, rfl⟩
def S_many_beginnings : List D → (D → Prop) → Prop := fun ds R => ∃ base t b n : Int, ds = [.int base, fr (t, b), .int n] ∧ 2 ≤ base ∧ base ≤ 5 ∧ Num t b ∧ b ≤ 400000 ∧ 0 ≤ n ∧ n ≤ 1000 ∧ R (.int (Pn base b n.toNat t))
theorem l_many_beginnings : ∀ ds R, S_many_beginnings ds R → ds.length = 3 := fun ds R ⟨_, _, _, _, e, _⟩ => by rw [e]; rfl
theorem d_many_beginnings (T : Txt K mg) : Dfn P w K mg bs 5 "many_beginnings" ["base", "x", "many"] S_many_beginnings := by
  have D_check_base := d_check_base (P := P) (w := w) (bs := bs) T
  have D_check_number := d_check_number (P := P) (w := w) (bs := bs) T
  have D_check_many := d_check_many (P := P) (w := w) (bs := bs) T
  have D_next_digits := d_next_digits (P := P) (w := w) (bs := bs) T
  refine mkD (k := 4) T.s_many_beginnings sc_many_beginnings (fun _ _ _ _ _ _ us hl => match us, hl with | [_, _, _], _ => rfl) l_many_beginnings fun f cdv A outer s H E hr => ?_
  have hu := hu_of hr
  refine ⟨_, (pss_cons (ps_expr (pe_callK0 (K0 := K) (by rfl) D_check_base (hr.mono (by decide)) (pa_cons (pv 0) pa_nil)))
      (pss_cons (ps_expr (pe_callK0 (K0 := K) (by rfl) D_check_number (hr.mono (by decide)) (pa_cons (pv 1) pa_nil)))
      (pss_cons (ps_expr (pe_callK0 (K0 := K) (by rfl) D_check_many (hr.mono (by decide)) (pa_cons (pv 2) pa_nil)))
      (pss_cons (ps_set (i := 3) sc_many_beginnings.nd rfl (Or.inl rfl) (pe_disp (pps_cons (pe_ix (ix_tupK (K0 := K) (by rfl)) (pv 1) pe_int (fun _ _ => rfl)) pe_int pps_nil) (by rfl) (by rfl) (fun z => by cases z) (by decide)))
      (pss_cons (ps_for PassesOwn.never rfl (pi_range1 rfl T.n_range (pa_cons (pv 2) pa_nil)) (pg_name (i := 4) sc_many_beginnings.nd rfl (Or.inl rfl))
      (pss_cons (ps_set (i := 5) sc_many_beginnings.nd rfl (Or.inl rfl) pe_dnewK)
      (pss_cons (ps_lock (ps_for PassesOwn.never rfl (pi_items (pv 3)) (pg_tup rfl (pgs_cons (pg_name (i := 6) sc_many_beginnings.nd rfl (Or.inl rfl)) (pgs_cons (pg_name (i := 7) sc_many_beginnings.nd rfl (Or.inl rfl)) pgs_nil)))
      (pss_one (ps_for PassesOwn.never rfl (pi_listK (K0 := K) (by rfl) (pe_callK0 (K0 := K) (by rfl) D_next_digits (hr.mono (by decide)) (pa_cons (pv 0) (pa_cons (pv 6) (pa_cons (pe_ix (ix_tupK (K0 := K) (by rfl)) (pv 1) pe_int (fun _ _ => rfl)) pa_nil))))) (pg_tup rfl (pgs_cons (pg_name (i := 4) sc_many_beginnings.nd rfl (Or.inl rfl)) (pgs_cons (pg_name (i := 8) sc_many_beginnings.nd rfl (Or.inl rfl)) pgs_nil)))
      (pss_one (ps_dput hu (pv 5) (pv 8) (pe_op op_add (pe_dget2 hu (pv 5) (pv 8) pe_int ⟨by rfl, by rfl, by rfl, by rfl⟩) (pv 7)) rfl))))))
      (pss_one (ps_set (i := 3) sc_many_beginnings.nd rfl (Or.inl rfl) (pv 5))))))
      (pss_one (ps_ret (pe_sumVals rfl (by rfl) T.n_sum (pv 3))))))))), fun h H0 G0 ds R hS => ?_⟩
  obtain ⟨base, t, b, n, rfl, h1, h2, hn, hb4, hn0, hn1, hR⟩ := hS
  obtain ⟨hb, hg, ht1, ht2⟩ := id hn
  have hbd : Bd 8999 b := (Bd.small (k := 64) (by omega)).mono (by decide)
  refine ws_seq (ws_drop (we_call (wa_cons (we_var rfl (wa_nil ⟨_, rfl, ⟨_, rfl⟩, ?_, ?_⟩)))))
  · show (decide (2 ≤ base) && decide (base ≤ 5)) = true
    rw [decide_eq_true h1, decide_eq_true h2]; rfl
  refine ws_seq (ws_drop (we_call (wa_cons (we_var rfl (wa_nil ⟨t, b, rfl, hn, ?_⟩)))))
  refine ws_seq (ws_drop (we_call (wa_cons (we_var rfl (wa_nil ⟨n, rfl, hn0, hn1, ?_⟩)))))
  refine ws_seq (ws_asgF (wf_disp1 (we_fr0 (we_var rfl ⟨_, rfl, .inl t, rfl, we_int ?_⟩))))
  refine ws_seq (ws_for1 (wa_cons (we_var rfl (wa_nil ⟨n, rfl, by omega, by omega, fun i ρ => ∃ (L : List (Int × Int)) (r4 r5 r6 r7 r8 : Option Cell), (L.map (·.1)).Nodup ∧ (∀ x ∈ L.map (·.1), -b ≤ x ∧ x ≤ b) ∧ aW (Pn base b (n.toNat - i)) L = Pn base b n.toNat t ∧
    ρ = [some (.d (.int base)), some (.d (fr (t, b))), some (.d (.int n)), some (.ok (encA Sum.inl L)), r4, r5, r6, r7, r8], ⟨[(t, 1)], _, _, _, _, _, by simp, ?_, ?_, rfl⟩, ?_, ?_⟩))))
  · intro x hx
    have : x = t := by simpa using hx
    omega
  · show 1 * Pn base b (n.toNat - 0) t + 0 = _
    rw [Nat.sub_zero]; omega
  · rintro i ρ hi ⟨L, r4, r5, r6, r7, r8, nd, rg, hw, rfl⟩
    obtain ⟨m, hm⟩ : ∃ m, n.toNat - i = m + 1 := ⟨n.toNat - i - 1, by omega⟩
    have hm2 : n.toNat - (i + 1) = m := by omega
    rw [hm] at hw
    refine wg_name (ws_seq (ws_asgF (wf_dK ?_)))
    refine ws_seq (ws_items rfl (fun k ρ => ∃ (L' : List (Int × Int)) (r4 r6 r7 r8 : Option Cell), (L'.map (·.1)).Nodup ∧ (∀ x ∈ L'.map (·.1), -b ≤ x ∧ x ≤ b) ∧ aW (Pn base b m) L' = aW (Pn base b (m + 1)) (L.take k) ∧
      ρ = [some (.d (.int base)), some (.d (fr (t, b))), some (.d (.int n)), none, r4, some (.ok (encA Sum.inl L')), r6, r7, r8]) ?_ ⟨[], _, _, _, _, List.nodup_nil, ?_, rfl, rfl⟩ ?_ ?_)
    · rintro k ρ ⟨L', s4, s6, s7, s8, _, _, _, rfl⟩
      rfl
    · intro x hx; cases hx
    · rintro k key x c ρ hk ⟨L', s4, s6, s7, s8, nd', rg', hw', rfl⟩
      obtain ⟨t', n', hL, rfl, rfl⟩ := enc_at hk
      have ht' := rg t' (List.mem_map.mpr ⟨_, List.mem_of_getElem? hL, rfl⟩)
      refine wg_tup ⟨_, rfl, rfl, wgs_cons ⟨_, _, rfl, wg_name (wgs_cons ⟨_, _, rfl, wg_name (wgs_nil ⟨rfl, ?_⟩)⟩)⟩⟩
      refine ws_forL (we_call (wa_cons (we_var rfl (wa_cons (we_var rfl (wa_cons (we_fr1 (we_var rfl ⟨_, rfl, wa_nil ?_⟩))))))))
      refine ⟨base, t', b, rfl, h1, h2, hb, hbd, ht'.1, ht'.2, _, rfl, fun j ρ => ∃ (L'' : List (Int × Int)) (r4 r8 : Option Cell), (L''.map (·.1)).Nodup ∧ (∀ x ∈ L''.map (·.1), -b ≤ x ∧ x ≤ b) ∧ aW (Pn base b m) L'' = aW (Pn base b m) L' + n' * Sm (fun d => Pn base b m (base * t' - d * b)) (ldig base t' b) j ∧
        ρ = [some (.d (.int base)), some (.d (fr (t, b))), some (.d (.int n)), some c, r4, some (.ok (encA Sum.inl L'')), some (.d (.int t')), some (.d (.int n')), r8], ⟨L', _, _, nd', rg', ?_, rfl⟩, ?_, ?_⟩
      · show _ = aW (Pn base b m) L' + n' * 0
        omega
      · rintro j x ρ hj ⟨L'', q4, q8, nd'', rg'', hw'', rfl⟩
        obtain ⟨rfl, hjn⟩ := nexts_at hj
        have l1 := ldig_ge base t' b
        have hnn : (ldig base t' b + (j : Int)) ≤ gdig base t' b := by
          have : nextN base t' b = (gdig base t' b + 1 - ldig base t' b).toNat := rfl
          omega
        have hin := dig_in (base := base) (t := t') (d := ldig base t' b + (j : Int)) hb (by omega) hnn
        have hlen : (encA (Sum.inl : Int → Key) L'').length < 4000000 := by
          unfold encA
          rw [List.length_map, ← List.length_map (f := (·.1))]
          have := len_range (2 * b + 1).toNat (-b) nd'' fun x hx => by have := rg'' x hx; omega
          omega
        refine wg_tup ⟨_, rfl, rfl, wgs_cons ⟨_, _, rfl, wg_name (wgs_cons ⟨_, _, rfl, wg_name (wgs_nil ⟨rfl, ?_⟩)⟩)⟩⟩
        refine ws_dput rfl hlen (we_I0 (we_dget2 rfl (we_var rfl ⟨Sum.inl _, rfl, we_int ⟨_, enc_get inl_inj _ _, we_var rfl ⟨_, rfl, we_var rfl ⟨Sum.inl _, rfl, ?_⟩⟩⟩⟩)))
        have e := enc_put inl_inj (base * t' - (ldig base t' b + (j : Int)) * b) n' nd''
        dsimp only [inj]
        rw [e]
        refine ⟨aAdd L'' (base * t' - (ldig base t' b + (j : Int)) * b) n', _, _, nodup_add nd'', fun x hx => ?_, ?_, rfl⟩
        · rcases mem_add hx with hx | hx
          · exact rg'' x hx
          · rw [hx]; exact hin
        · rw [aW_add, hw'']
          show _ = _ + n' * (Sm _ _ j + Pn base b m (base * t' - (ldig base t' b + (j : Int)) * b))
          rw [Int.mul_add, Int.add_assoc]
      · rintro ρ ⟨L'', q4, q8, nd'', rg'', hw'', rfl⟩
        refine ⟨rfl, L'', _, _, _, _, nd'', rg'', ?_, rfl⟩
        rw [List.length_map] at hw''
        have hl : (nexts base t' b (nextN base t' b)).length = nextN base t' b := by unfold nexts; rw [List.length_map, List.length_range]
        rw [hl, Pn_nexts m h1 hb ht'.1 ht'.2] at hw''
        have hk' : k < L.length := (List.getElem?_eq_some_iff.mp hL).1
        have htk : L.take (k + 1) = L.take k ++ [(t', n')] := by
          rw [List.take_succ, hL]; rfl
        rw [hw'', htk, aW_app, hw']
        show _ = _ + (n' * Pn base b (m + 1) t' + 0)
        omega
    · rintro ρ ⟨L', s4, s6, s7, s8, nd', rg', hw', rfl⟩
      refine ws_move rfl rfl ?_
      refine ⟨L', _, _, _, _, _, nd', rg', ?_, rfl⟩
      have hl : (encA (Sum.inl : Int → Key) L).length = L.length := by unfold encA; rw [List.length_map]
      rw [hl, List.take_length] at hw'
      rw [hm2, hw', hw]
  · rintro ρ ⟨L, r4, r5, r6, r7, r8, nd, rg, hw, rfl⟩
    refine ws_ret (we_sumVals (is := L.map (·.2)) rfl ?_ ?_)
    · unfold encA
      rw [List.map_map, List.map_map]
      rfl
    · rw [Nat.sub_self] at hw
      have e : aW (Pn base b 0) L = (L.map (·.2)).sum := aW_one L
      rw [← e, hw]
      exact hR
/-! ### the digits that go on -/
/-- what is left of t / b behind the digit d -/
def lat (base t b d : Int) : Int × Int := low ((low (t * base) (b * 1)).1 * 1 - d * (low (t * base) (b * 1)).2) ((low (t * base) (b * 1)).2 * 1)
def goOk (x : Int × (Int × Int)) : Bool := decide (absI x.2.1 ≤ x.2.2)
def goesN (base t b : Int) (n : Nat) : List (Int × (Int × Int)) := ((List.range n).map fun (k : Nat) => ((1 - base + (k : Int)), lat base t b (1 - base + (k : Int)))).filter goOk
def goes (base t b : Int) : List (Int × (Int × Int)) := goesN base t b (base - (1 - base)).toNat
def gD (x : Int × (Int × Int)) : D := .tup [.int x.1, fr x.2]
theorem goesN_succ (base t b : Int) (n : Nat) : goesN base t b (n + 1) = goesN base t b n ++ if goOk ((1 - base + (n : Int)), lat base t b (1 - base + (n : Int))) = true then [((1 - base + (n : Int)), lat base t b (1 - base + (n : Int)))] else [] := by
  unfold goesN
  rw [List.range_succ, List.map_append, List.filter_append, List.map_singleton, List.filter_cons]
  simp only [List.filter_nil]
theorem goesN_len (base t b : Int) (n : Nat) : (goesN base t b n).length ≤ n := by
  unfold goesN
  refine Nat.le_trans (List.length_filter_le _ _) ?_
  rw [List.length_map, List.length_range]
  exact Nat.le_refl _
def S_law_goes : List D → (D → Prop) → Prop := fun ds R => ∃ base t b : Int, ds = [.int base, fr (t, b)] ∧ 2 ≤ base ∧ base ≤ 5 ∧ 0 < b ∧ Bd 3000 t ∧ Bd 3000 b ∧ R (.lst ((goes base t b).map gD))
theorem l_law_goes : ∀ ds R, S_law_goes ds R → ds.length = 2 := fun ds R ⟨_, _, _, e, _⟩ => by rw [e]; rfl
theorem d_law_goes (T : Txt K mg) : Dfn P w K mg bs 3 "_law_goes" ["base", "rest"] S_law_goes := by
  have D_law_minus := d_law_minus (P := P) (w := w) (bs := bs) T
  have D_law_times := d_law_times (P := P) (w := w) (bs := bs) T
  refine mkD (k := 2) T.s_law_goes sc_law_goes (fun _ _ _ _ _ _ us hl => match us, hl with | [_, _], _ => rfl) l_law_goes fun f cdv A outer s H E hr => ?_
  have hu := hu_of hr
  refine ⟨_, (pss_cons (ps_set (i := 2) sc_law_goes.nd rfl (Or.inl rfl) (pe_lst pa_nil))
      (pss_cons (ps_for PassesOwn.never rfl (pi_range2 rfl T.n_range (pa_cons (pe_op op_sub pe_int (pv 0)) (pa_cons (pv 0) pa_nil))) (pg_name (i := 3) sc_law_goes.nd rfl (Or.inl rfl))
      (pss_cons (ps_set (i := 4) sc_law_goes.nd rfl (Or.inl rfl) (pe_callK0 (K0 := K) (by rfl) D_law_minus (hr.mono (by decide)) (pa_cons (pe_callK0 (K0 := K) (by rfl) D_law_times (hr.mono (by decide)) (pa_cons (pv 1) (pa_cons (pe_tup (pa_cons (pv 0) (pa_cons pe_int pa_nil))) pa_nil))) (pa_cons (pe_tup (pa_cons (pv 3) (pa_cons pe_int pa_nil))) pa_nil))))
      (pss_one (ps_if (pt_cmpR op_le (pe_callB call_abs (by rfl) T.n_abs (by decide +kernel) (pa_cons (pe_ix (ix_tupK (K0 := K) (by rfl)) (pv 4) pe_int (fun _ _ => rfl)) pa_nil)) (pe_ix (ix_tupK (K0 := K) (by rfl)) (pv 4) pe_int (fun _ _ => rfl)) (nomark _)) (pss_one (ps_expr (pe_bm PySem.F.plainAttrs_list PySem.F.slot_list_append PySem.F.type_list_append mt_append (pv 2) (pa_cons (pe_tup (pa_cons (pv 3) (pa_cons (pv 4) pa_nil))) pa_nil)))) pss_nil))))
      (pss_one (ps_ret (pv 2))))), fun h H0 G0 ds R hS => ?_⟩
  obtain ⟨base, t, b, rfl, hb1, hb2, hb, bt, bb, hR⟩ := hS
  have ba : Bd 64 base := Bd.small (by omega)
  have b1 : Bd 64 (1 : Int) := by decide
  have hpos : 0 < b * 1 := by omega
  have bu : Bd 4000 (low (t * base) (b * 1)).1 := Nat.lt_of_le_of_lt (low_top hpos) ((bt.mul ba).mono (show 3000 + 64 ≤ 4000 by decide))
  have hv := low_pos (t := t * base) hpos
  have bv : Bd 4000 (low (t * base) (b * 1)).2 := by
    have h1 := low_le (t := t * base) hpos
    exact Nat.lt_of_le_of_lt (by omega) (bb.mono (show 3000 ≤ 4000 by decide))
  refine ws_seq (ws_asgF (wf_lst (wa_nil ⟨by decide, ?_⟩)))
  refine ws_seq (ws_for2 (wa_cons ?_))
  refine we_I0 (we_int ⟨_, rfl, we_var rfl ⟨_, rfl, wa_cons (we_var rfl (wa_nil ?_))⟩⟩)
  refine ⟨1 - base, base, rfl, by omega, fun k ρ => ∃ r3 r4 : Option Cell, ρ = [some (.d (.int base)), some (.d (fr (t, b))), some (.ol ((goesN base t b k).map gD)), r3, r4], ⟨_, _, rfl⟩, ?_, ?_⟩
  · rintro k ρ hk ⟨r3, r4, rfl⟩
    refine wg_name (ws_seq (ws_asg (we_call (wa_cons ?_))))
    refine we_call (wa_cons (we_var rfl (wa_cons ?_)))
    refine we_tup (wa_cons (we_var rfl (wa_cons (we_int (wa_nil ⟨len2, wa_nil ?_⟩)))))
    refine ⟨t, b, base, 1, rfl, hb, by decide, bt.mono (by decide), bb.mono (by decide), ba.mono (by decide), b1.mono (by decide), wa_cons ?_⟩
    refine we_tup (wa_cons (we_var rfl (wa_cons (we_int (wa_nil ⟨len2, wa_nil ?_⟩)))))
    refine ⟨_, _, 1 - base + (k : Int), 1, rfl, hv, by decide, bu, bv, (Bd.small (k := 64) (by omega)).mono (by decide), b1.mono (by decide), ?_⟩
    show WS _ _ _ _
    refine ws_if (wt_T (we_I0 (we_abs (we_fr0 (we_var rfl ⟨_, rfl, _, rfl, _, rfl, we_fr1 (we_var rfl ⟨_, rfl, _, rfl, _, rfl, ?_⟩)⟩)))))
    refine ite2 (fun ht => ?_) (fun ht => ?_)
    · refine ws_append rfl (by rw [List.length_map]; have := goesN_len base t b k; omega) ?_
      refine we_tup (wa_cons (we_var rfl (wa_cons (we_var rfl (wa_nil ⟨len2, ?_⟩)))))
      have e : (goesN base t b (k + 1)).map gD = (goesN base t b k).map gD ++ [gD ((1 - base + (k : Int)), lat base t b (1 - base + (k : Int)))] := by
        rw [goesN_succ, if_pos (show goOk ((1 - base + (k : Int)), lat base t b (1 - base + (k : Int))) = true from ht), List.map_append]
        rfl
      dsimp only
      rw [e]
      exact ⟨_, _, rfl⟩
    · refine ws_next ?_
      have e : goesN base t b (k + 1) = goesN base t b k := by
        rw [goesN_succ, if_neg (show ¬ goOk ((1 - base + (k : Int)), lat base t b (1 - base + (k : Int))) = true from ht), List.append_nil]
      dsimp only
      rw [e]
      exact ⟨_, _, rfl⟩
  · rintro ρ ⟨r3, r4, rfl⟩
    exact ws_freeze 2 rfl rfl (ws_ret (we_var rfl hR))
/-! ### the law's own count -/
def S_law_is : List D → (D → Prop) → Prop := fun ds R => ∃ i j : Int, ds = [.int i, .int j] ∧ R (.bl (decide (i = j)))
theorem l_law_is : ∀ ds R, S_law_is ds R → ds.length = 2 := fun ds R ⟨_, _, e, _⟩ => by rw [e]; rfl
theorem d_law_is (T : Txt K mg) : Dfn P w K mg bs 1 "_law_is" ["one", "other"] S_law_is := by
  refine mkD (k := 0) T.s_law_is sc_law_is (fun _ _ _ _ _ _ us hl => match us, hl with | [_, _], _ => rfl) l_law_is fun f cdv A outer s H E hr => ?_
  have hu := hu_of hr
  refine ⟨_, (pss_cons (ps_if (PW.pt (pw_and (pt_val (pe_callB (call_isiTK (K0 := K) (by rfl)) (by rfl) T.n_isinstance (by decide +kernel) (pa_cons (pv 0) (pa_cons (pe_tup (pa_cons (pe_bltn (v := .ty "list") (by rfl) T.n_list (by decide +kernel) rfl) (pa_cons (pe_bltn (v := .ty "tuple") (by rfl) T.n_tuple (by decide +kernel) rfl) pa_nil))) pa_nil)))) (pw_and1 (pt_val (pe_callB (call_isiTK (K0 := K) (by rfl)) (by rfl) T.n_isinstance (by decide +kernel) (pa_cons (pv 1) (pa_cons (pe_tup (pa_cons (pe_bltn (v := .ty "list") (by rfl) T.n_list (by decide +kernel) rfl) (pa_cons (pe_bltn (v := .ty "tuple") (by rfl) T.n_tuple (by decide +kernel) rfl) pa_nil))) pa_nil))))))) pss_never pss_nil)
      (pss_cons (ps_if (PW.pt (pw_and (pt_val (pe_callB (call_isiK0 (K0 := K) (by rfl)) (by rfl) T.n_isinstance (by decide +kernel) (pa_cons (pv 0) (pa_cons (pe_bltn (v := .ty "dict") (by rfl) T.n_dict (by decide +kernel) rfl) pa_nil)))) (pw_and1 (pt_val (pe_callB (call_isiK0 (K0 := K) (by rfl)) (by rfl) T.n_isinstance (by decide +kernel) (pa_cons (pv 1) (pa_cons (pe_bltn (v := .ty "dict") (by rfl) T.n_dict (by decide +kernel) rfl) pa_nil))))))) pss_never pss_nil)
      (pss_one (ps_ret (pe_and (pe_cmpR op_eq (pe_callB (call_isiK0 (K0 := K) (by rfl)) (by rfl) T.n_isinstance (by decide +kernel) (pa_cons (pv 0) (pa_cons (pe_bltn (v := .ty "bool") (by rfl) T.n_bool (by decide +kernel) rfl) pa_nil))) (pe_callB (call_isiK0 (K0 := K) (by rfl)) (by rfl) T.n_isinstance (by decide +kernel) (pa_cons (pv 1) (pa_cons (pe_bltn (v := .ty "bool") (by rfl) T.n_bool (by decide +kernel) rfl) pa_nil))) (nomark _)) (pe_one (pe_cmpR op_eq (pv 0) (pv 1) (nomark _)))))))), fun h H0 G0 ds R hS => ?_⟩
  obtain ⟨i, j, rfl, hR⟩ := hS
  refine ws_seq (ws_if (wt_and (wt_B (we_isiT (we_var rfl ⟨_, false, false, rfl, kb_int_list, kb_int_tuple, _, rfl, fun h => absurd h (by decide), fun _ => ?_⟩)))))
  rw [if_neg (by decide)]
  refine ws_next (ws_seq (ws_if (wt_and (wt_B (we_isi (we_var rfl ⟨_, false, rfl, kb_int_dict, _, rfl, fun h => absurd h (by decide), fun _ => ?_⟩))))))
  rw [if_neg (by decide)]
  refine ws_next (ws_ret (we_andV (we_eqB (we_isi (we_var rfl ⟨_, false, rfl, kb_int_bool, _, rfl, we_isi (we_var rfl ⟨_, false, rfl, kb_int_bool, _, rfl, _, rfl, fun _ => ?_, fun h => absurd h (by decide)⟩)⟩)))))
  exact we_eqI (we_var rfl ⟨_, rfl, we_var rfl ⟨_, rfl, hR⟩⟩)
theorem sim_within {t b t' b' : Int} (hb : 0 < b) (hb' : 0 < b') (hx : t * b' = t' * b) : (-b ≤ t ∧ t ≤ b) ↔ (-b' ≤ t' ∧ t' ≤ b') := by
  constructor
  · rintro ⟨h1, h2⟩
    constructor
    · refine Int.le_of_mul_le_mul_right (a := b) ?_ hb
      rw [← hx, Int.neg_mul, Int.mul_comm b' b, ← Int.neg_mul]
      exact Int.mul_le_mul_of_nonneg_right h1 (by omega)
    · refine Int.le_of_mul_le_mul_right (a := b) ?_ hb
      rw [← hx, Int.mul_comm b' b]
      exact Int.mul_le_mul_of_nonneg_right h2 (by omega)
  · rintro ⟨h1, h2⟩
    constructor
    · refine Int.le_of_mul_le_mul_right (a := b') ?_ hb'
      rw [hx, Int.neg_mul, Int.mul_comm b b', ← Int.neg_mul]
      exact Int.mul_le_mul_of_nonneg_right h1 (by omega)
    · refine Int.le_of_mul_le_mul_right (a := b') ?_ hb'
      rw [hx, Int.mul_comm b b']
      exact Int.mul_le_mul_of_nonneg_right h2 (by omega)
theorem lat_pos {base t b d : Int} (hb : 0 < b) : 0 < (lat base t b d).2 ∧ (lat base t b d).2 ≤ b := by
  have hb' : 0 < b * 1 := by omega
  have h1 := low_pos (t := t * base) hb'
  have h2 := low_le (t := t * base) hb'
  have h3 : 0 < (low (t * base) (b * 1)).2 * 1 := by omega
  exact ⟨low_pos h3, by have := low_le (t := (low (t * base) (b * 1)).1 * 1 - d * (low (t * base) (b * 1)).2) h3; unfold lat; omega⟩
theorem lat_cross {base t b d : Int} (hb : 0 < b) : (lat base t b d).1 * b = (base * t - d * b) * (lat base t b d).2 := by
  have hb' : 0 < b * 1 := by omega
  have h1 := low_pos (t := t * base) hb'
  have c1 := low_cross (t := t * base) hb'
  have h3 : 0 < (low (t * base) (b * 1)).2 * 1 := by omega
  have c2 := low_cross (t := (low (t * base) (b * 1)).1 * 1 - d * (low (t * base) (b * 1)).2) h3
  unfold lat
  generalize (low (t * base) (b * 1)).1 = u at *
  generalize (low (t * base) (b * 1)).2 = v at *
  generalize (low (u * 1 - d * v) (v * 1)) = z at *
  obtain ⟨z1, z2⟩ := z
  dsimp only at *
  rw [Int.mul_one] at c1 c2
  refine Int.eq_of_mul_eq_mul_right (a := v) (by omega) ?_
  calc z1 * b * v = (z1 * v) * b := Int.mul_right_comm _ _ _
    _ = ((u * 1 - d * v) * z2) * b := by rw [c2]
    _ = (u * b - d * v * b) * z2 := by rw [Int.mul_one, Int.mul_right_comm, Int.sub_mul]
    _ = (base * t - d * b) * v * z2 := by
      have e : t * base * v - d * v * b = (base * t - d * b) * v := by rw [Int.sub_mul, Int.mul_comm t base, Int.mul_right_comm d v b]
      rw [c1, e]
    _ = (base * t - d * b) * z2 * v := Int.mul_right_comm _ _ _
theorem lat_ok {base t b d : Int} (hb : 0 < b) : goOk (d, lat base t b d) = true ↔ (-b ≤ base * t - d * b ∧ base * t - d * b ≤ b) := by
  have h := sim_within (lat_pos (base := base) (t := t) (d := d) hb).1 hb (lat_cross (base := base) (t := t) (d := d) hb)
  unfold goOk
  rw [decide_eq_true_iff, absI_eq, ← h]
  dsimp only
  omega
/-- over the digits that go on -/
def gSum (f : Int × Int → Int) (L : List (Int × (Int × Int))) : Int := (L.map fun x => f x.2).sum
theorem gSum_app (f : Int × Int → Int) (L M : List (Int × (Int × Int))) : gSum f (L ++ M) = gSum f L + gSum f M := by unfold gSum; rw [List.map_append, List.sum_append]
def fP (base : Int) (m : Nat) (x : Int × Int) : Int := Pn base x.2 m x.1
theorem goes_sum {base t b : Int} (m : Nat) (hb : 0 < b) : gSum (fP base m) (goes base t b) = Pn base b (m + 1) t := by
  have key : ∀ n : Nat, gSum (fP base m) (goesN base t b n) = Sm (fun d => if -b ≤ base * t - d * b ∧ base * t - d * b ≤ b then Pn base b m (base * t - d * b) else 0) (1 - base) n := by
    intro n
    induction n with
    | zero => rfl
    | succ n ih =>
      rw [goesN_succ, gSum_app, ih]
      show _ = Sm _ _ n + _
      congr 1
      have h := lat_ok (base := base) (t := t) (d := 1 - base + (n : Int)) hb
      by_cases hc : goOk ((1 - base + (n : Int)), lat base t b (1 - base + (n : Int))) = true
      · dsimp only
        rw [if_pos hc, if_pos (h.mp hc)]
        show fP base m (lat base t b (1 - base + (n : Int))) + 0 = _
        rw [Int.add_zero]
        exact Pn_sim base m (lat_pos hb).1 hb (lat_cross hb)
      · dsimp only
        rw [if_neg hc, if_neg fun z => hc (h.mpr z)]
        rfl
  have e : (base - (1 - base)).toNat = (2 * base - 1).toNat := by omega
  unfold goes
  rw [key, e]
  rfl
theorem goes_mem {base t b : Int} {x : Int × (Int × Int)} (hb : 0 < b) (h : x ∈ goes base t b) : 0 < x.2.2 ∧ x.2.2 ≤ b ∧ -x.2.2 ≤ x.2.1 ∧ x.2.1 ≤ x.2.2 := by
  unfold goes goesN at h
  obtain ⟨h1, h2⟩ := List.mem_filter.mp h
  obtain ⟨k, _, e⟩ := List.mem_map.mp h1
  subst e
  have h3 := lat_pos (base := base) (t := t) (d := 1 - base + (k : Int)) hb
  unfold goOk at h2
  rw [decide_eq_true_iff, absI_eq] at h2
  dsimp only at *
  omega
def kF (x : Int × Int) : List Key := [Sum.inl x.1, Sum.inl x.2]
theorem kF_inj : ∀ a b, kF a = kF b → a = b := fun a b e => by
  unfold kF at e
  injection e with e1 e2
  injection e2 with e2 _
  exact Prod.ext (Sum.inl.inj e1) (Sum.inl.inj e2)
theorem kF_fr (x : Int × Int) : (.tup ((kF x).map kD) : D) = fr x := rfl
def cD (x : (Int × Int) × Int) : D := .tup [fr x.1, .int x.2]
/-- the fractions met: those of a bottom up to B -/
def Fk (B : Int) (x : Int × Int) : Prop := 0 < x.2 ∧ x.2 ≤ B ∧ -x.2 ≤ x.1 ∧ x.1 ≤ x.2
theorem nodup_map_on {α β : Type} {f : α → β} : ∀ {L : List α}, (∀ x ∈ L, ∀ y ∈ L, f x = f y → x = y) → L.Nodup → (L.map f).Nodup
  | [], _, _ => List.nodup_nil
  | x :: r, h, nd => by
    rw [List.nodup_cons] at nd
    rw [List.map_cons, List.nodup_cons]
    refine ⟨fun hm => ?_, nodup_map_on (fun a ha b hb => h a (List.mem_cons_of_mem _ ha) b (List.mem_cons_of_mem _ hb)) nd.2⟩
    obtain ⟨y, hy, e⟩ := List.mem_map.mp hm
    have := h y (List.mem_cons_of_mem _ hy) x (by simp) e
    exact nd.1 (by rw [← this]; exact hy)
theorem fk_len {B : Int} {L : List ((Int × Int) × Int)} (hB : B ≤ 1000) (nd : (L.map (·.1)).Nodup) (rg : ∀ x ∈ L.map (·.1), Fk B x) : L.length ≤ 3100000 := by
  have h1 : ((L.map (·.1)).map fun x => x.1 + x.2 * 3000).Nodup := by
    refine nodup_map_on ?_ nd
    intro x hx y hy e
    have hx' := rg x hx
    have hy' := rg y hy
    unfold Fk at hx' hy'
    have : x.2 = y.2 := by omega
    exact Prod.ext (by omega) this
  have h2 := len_range 3100000 0 h1 fun z hz => by
    obtain ⟨x, hx, e⟩ := List.mem_map.mp hz
    have hx' := rg x hx
    unfold Fk at hx'
    omega
  rw [List.length_map, List.length_map] at h2
  exact h2
def S_law_count : List D → (D → Prop) → Prop := fun ds R => ∃ base t b n : Int, ds = [.int base, fr (t, b), .int n] ∧ 2 ≤ base ∧ base ≤ 5 ∧ 0 < b ∧ b ≤ 1000 ∧ -b ≤ t ∧ t ≤ b ∧ 0 ≤ n ∧ n ≤ 1000 ∧ R (.int (Pn base b n.toNat t))
theorem l_law_count : ∀ ds R, S_law_count ds R → ds.length = 3 := fun ds R ⟨_, _, _, _, e, _⟩ => by rw [e]; rfl
theorem gD_at {L : List (Int × (Int × Int))} {j : Nat} {y : D} (h : (L.map gD)[j]? = some y) : ∃ g, L[j]? = some g ∧ y = gD g := by
  rw [List.getElem?_map] at h
  obtain ⟨z, hz, e⟩ := Option.map_eq_some_iff.mp h
  exact ⟨z, hz, e.symm⟩
theorem cD_at {L : List ((Int × Int) × Int)} {j : Nat} {y : D} (h : (L.map cD)[j]? = some y) : ∃ t b n, L[j]? = some ((t, b), n) ∧ y = .tup [fr (t, b), .int n] := by
  rw [List.getElem?_map] at h
  obtain ⟨⟨⟨t, b⟩, n⟩, hz, e⟩ := Option.map_eq_some_iff.mp h
  exact ⟨t, b, n, hz, e.symm⟩
theorem take_more {α : Type} {l : List α} {i : Nat} {x : α} (h : l[i]? = some x) : l.take (i + 1) = l.take i ++ [x] := by
  rw [List.take_succ, h]; rfl
theorem d_law_count (T : Txt K mg) : Dfn P w K mg bs 4 "_law_count" ["base", "x", "many"] S_law_count := by
  have D_law_goes := d_law_goes (P := P) (w := w) (bs := bs) T
  refine mkD (k := 3) T.s_law_count sc_law_count (fun _ _ _ _ _ _ us hl => match us, hl with | [_, _, _], _ => rfl) l_law_count fun f cdv A outer s H E hr => ?_
  have hu := hu_of hr
  refine ⟨_, (pss_cons (ps_set (i := 3) sc_law_count.nd rfl (Or.inl rfl) (pe_lst (pa_cons (pe_tup (pa_cons (pv 1) (pa_cons pe_int pa_nil))) pa_nil)))
      (pss_cons (ps_for PassesOwn.never rfl (pi_range1 rfl T.n_range (pa_cons (pv 2) pa_nil)) (pg_name (i := 4) sc_law_count.nd rfl (Or.inl rfl))
      (pss_cons (ps_set (i := 5) sc_law_count.nd rfl (Or.inr rfl) pe_dnewT)
      (pss_cons (ps_for PassesOwn.never rfl (pi_listK (K0 := K) (by rfl) (pv 3)) (pg_tup rfl (pgs_cons (pg_name (i := 6) sc_law_count.nd rfl (Or.inl rfl)) (pgs_cons (pg_name (i := 7) sc_law_count.nd rfl (Or.inl rfl)) pgs_nil)))
      (pss_one (ps_for PassesOwn.never rfl (pi_listK (K0 := K) (by rfl) (pe_callK0 (K0 := K) (by rfl) D_law_goes (hr.mono (by decide)) (pa_cons (pv 0) (pa_cons (pv 6) pa_nil)))) (pg_tup rfl (pgs_cons (pg_name (i := 8) sc_law_count.nd rfl (Or.inl rfl)) (pgs_cons (pg_name (i := 9) sc_law_count.nd rfl (Or.inl rfl)) pgs_nil)))
      (pss_one (ps_dput hu (pv 5) (pv 9) (pe_op op_add (pe_dget2 hu (pv 5) (pv 9) pe_int ⟨by rfl, by rfl, by rfl, by rfl⟩) (pv 7)) rfl)))))
      (pss_one (ps_lock (ps_setLc (i := 3) (own := [("rest", 6)]) (g := (gName 6)) rfl sc_law_count.nd rfl rfl (sw_true rfl rfl rfl (by decide +kernel)) (pi_keys (pv 5)) (blkOk_by (N := N_law_count) (sc := defScope s_law_count) (by decide +kernel)) (fun _ _ _ _ _ => by exact (pg_name (i := 6) sc_law_count.nd rfl (Or.inl rfl))) (fun _ _ _ _ _ => by exact pts_nil) (fun _ _ _ _ _ => by exact (pe_tup (pa_cons (pv 6) (pa_cons (pe_dget hu (pv 5) (pv 6) (fun _ _ => rfl)) pa_nil))))))))))
      (pss_one (ps_ret (pe_callB (cr_sumK (K0 := K) (by rfl) rfl) (by rfl) T.n_sum (by decide +kernel) (pa_cons (pe_lc (own := [("rest", 6), ("times", 7)]) (g := (gTup K 2 (gCons (gName 6) (gCons (gName 7) gNil)))) rfl sc_law_count.nd (pi_listK (K0 := K) (by rfl) (pv 3)) (blkOk_by (N := N_law_count) (sc := defScope s_law_count) (by decide +kernel)) (fun _ _ _ _ _ => by exact (pg_tup rfl (pgs_cons (pg_name (i := 6) sc_law_count.nd rfl (Or.inl rfl)) (pgs_cons (pg_name (i := 7) sc_law_count.nd rfl (Or.inl rfl)) pgs_nil)))) (fun _ _ _ _ _ => by exact pts_nil) (fun _ _ _ _ _ => by exact (pv 7))) pa_nil)))))), fun h H0 G0 ds R hS => ?_⟩
  obtain ⟨base, t, b, n, rfl, h1, h2, hb, hb4, ht1, ht2, hn0, hn1, hR⟩ := hS
  refine ws_seq (ws_asg (we_lst (wa_cons (we_tup (wa_cons (we_var rfl (wa_cons (we_int (wa_nil ⟨len2, wa_nil ⟨Nat.le_of_ble_eq_true rfl, ?_⟩⟩)))))))))
  refine ws_seq (ws_for1 (wa_cons (we_var rfl (wa_nil ⟨n, rfl, by omega, by omega, fun i ρ => ∃ (L : List ((Int × Int) × Int)) (r4 r5 r6 r7 r8 r9 : Option Cell), (L.map (·.1)).Nodup ∧ (∀ x ∈ L.map (·.1), Fk b x) ∧ aW (fP base (n.toNat - i)) L = Pn base b n.toNat t ∧
    ρ = [some (.d (.int base)), some (.d (fr (t, b))), some (.d (.int n)), some (.d (.lst (L.map cD))), r4, r5, r6, r7, r8, r9], ⟨[((t, b), 1)], _, _, _, _, _, _, by simp, ?_, ?_, rfl⟩, ?_, ?_⟩))))
  · intro x hx
    have : x = (t, b) := by simpa using hx
    subst this
    exact ⟨hb, Int.le_refl _, ht1, ht2⟩
  · show 1 * fP base (n.toNat - 0) (t, b) + 0 = _
    rw [Nat.sub_zero, Int.one_mul, Int.add_zero]
    rfl
  · rintro i ρ hi ⟨L, r4, r5, r6, r7, r8, r9, nd, rg, hw, rfl⟩
    obtain ⟨m, hm⟩ : ∃ m, n.toNat - i = m + 1 := ⟨n.toNat - i - 1, by omega⟩
    have hm2 : n.toNat - (i + 1) = m := by omega
    rw [hm] at hw
    refine wg_name (ws_seq (ws_asgF (wf_dT ?_)))
    refine ws_seq (ws_forL (we_var rfl ⟨_, rfl, fun k ρ => ∃ (L' : List ((Int × Int) × Int)) (r6 r7 r8 r9 : Option Cell), (L'.map (·.1)).Nodup ∧ (∀ x ∈ L'.map (·.1), Fk b x) ∧ aW (fP base m) L' = aW (fP base (m + 1)) (L.take k) ∧
      ρ = [some (.d (.int base)), some (.d (fr (t, b))), some (.d (.int n)), some (.d (.lst (L.map cD))), some (.d (.int (i : Int))), some (.ot (encA kF L')), r6, r7, r8, r9], ⟨[], _, _, _, _, List.nodup_nil, ?_, rfl, rfl⟩, ?_, ?_⟩))
    · intro x hx; cases hx
    · rintro k x ρ hk ⟨L', s6, s7, s8, s9, nd', rg', hw', rfl⟩
      obtain ⟨t', b', n', hL, rfl⟩ := cD_at hk
      have hf : Fk b (t', b') := rg (t', b') (List.mem_map.mpr ⟨_, List.mem_of_getElem? hL, rfl⟩)
      obtain ⟨f1, f2, f3, f4⟩ := id hf
      dsimp only at f1 f2 f3 f4
      refine wg_tup ⟨_, rfl, rfl, wgs_cons ⟨_, _, rfl, wg_name (wgs_cons ⟨_, _, rfl, wg_name (wgs_nil ⟨rfl, ?_⟩)⟩)⟩⟩
      refine ws_forL (we_call (wa_cons (we_var rfl (wa_cons (we_var rfl (wa_nil ?_))))))
      refine ⟨base, t', b', rfl, h1, h2, f1, (Bd.small (k := 64) (by omega)).mono (by decide), (Bd.small (k := 64) (by omega)).mono (by decide), _, rfl, fun j ρ => ∃ (L'' : List ((Int × Int) × Int)) (r8 r9 : Option Cell), (L''.map (·.1)).Nodup ∧ (∀ x ∈ L''.map (·.1), Fk b x) ∧ aW (fP base m) L'' = aW (fP base m) L' + n' * gSum (fP base m) ((goes base t' b').take j) ∧
        ρ = [some (.d (.int base)), some (.d (fr (t, b))), some (.d (.int n)), some (.d (.lst (L.map cD))), some (.d (.int (i : Int))), some (.ot (encA kF L'')), some (.d (fr (t', b'))), some (.d (.int n')), r8, r9], ⟨L', _, _, nd', rg', ?_, rfl⟩, ?_, ?_⟩
      · show _ = aW (fP base m) L' + n' * 0
        omega
      · rintro j y ρ hj ⟨L'', q8, q9, nd'', rg'', hw'', rfl⟩
        obtain ⟨g, hg, rfl⟩ := gD_at hj
        have hgm := goes_mem f1 (List.mem_of_getElem? hg)
        have hlen : (encA kF L'').length < 4000000 := by
          unfold encA
          rw [List.length_map]
          have := fk_len hb4 nd'' rg''
          omega
        refine wg_tup ⟨_, rfl, rfl, wgs_cons ⟨_, _, rfl, wg_name (wgs_cons ⟨_, _, rfl, wg_name (wgs_nil ⟨rfl, ?_⟩)⟩)⟩⟩
        refine ws_dputT rfl hlen (we_I0 (we_dget2T rfl (we_var rfl ⟨kF g.2, rfl, we_int ⟨_, enc_get kF_inj _ _, we_var rfl ⟨_, rfl, we_var rfl ⟨kF g.2, rfl, ?_⟩⟩⟩⟩)))
        have e := enc_put kF_inj g.2 n' nd''
        dsimp only [inj]
        rw [e]
        refine ⟨aAdd L'' g.2 n', _, _, nodup_add nd'', fun x hx => ?_, ?_, rfl⟩
        · rcases mem_add hx with hx | hx
          · exact rg'' x hx
          · rw [hx]; exact ⟨hgm.1, Int.le_trans hgm.2.1 f2, hgm.2.2.1, hgm.2.2.2⟩
        · rw [aW_add, hw'', take_more hg, gSum_app]
          have e1 : gSum (fP base m) [g] = fP base m g.2 := by show fP base m g.2 + 0 = _; omega
          rw [e1, Int.mul_add, Int.add_assoc]
      · rintro ρ ⟨L'', q8, q9, nd'', rg'', hw'', rfl⟩
        refine ⟨L'', _, _, _, _, nd'', rg'', ?_, rfl⟩
        rw [List.length_map, List.take_length, goes_sum m f1] at hw''
        rw [hw'', take_more hL, aW_app, hw']
        show _ = _ + (n' * Pn base b' (m + 1) t' + 0)
        omega
    · rintro ρ ⟨L', s6, s7, s8, s9, nd', rg', hw', rfl⟩
      rw [List.length_map, List.take_length] at hw'
      have hl2 : (encA kF L').length = L'.length := by unfold encA; rw [List.length_map]
      refine ws_endfreeze 3 (ws_lcKeysT (i := 5) (j := 3) rfl (by have := fk_len hb4 nd' rg'; omega) (fun k acc => acc = (L'.take k).map cD) rfl ?_ ?_ (by decide))
      · rintro k key x acc hk rfl hle
        obtain ⟨a, na, hL, rfl, rfl⟩ := enc_at hk
        refine wgp_name (by decide) (wt_yes ?_)
        rw [if_pos rfl]
        refine we_tup (wa_cons (we_var rfl (wa_cons (we_dgetLT rfl (we_var rfl ⟨kF a, .int na, rfl, enc_find kF_inj nd' (List.mem_of_getElem? hL), wa_nil ⟨len2, ?_⟩⟩)))))
        rw [take_more hL, List.map_append]
        rfl
      · rintro acc rfl
        refine ⟨_, rfl, rfl, ?_⟩
        rw [hl2, List.take_length]
        exact ⟨L', _, _, _, _, _, _, nd', rg', by rw [hm2, hw', hw], rfl⟩
  · rintro ρ ⟨L, r4, r5, r6, r7, r8, r9, nd, rg, hw, rfl⟩
    refine ws_ret (we_sum (we_F (wf_lcL (we_var rfl ⟨_, rfl, by rw [List.length_map]; have := fk_len hb4 nd rg; omega, fun k acc => acc = (L.take k).map (fun x => D.int x.2), rfl, ?_, ?_⟩))))
    · rintro k x acc hk rfl hle
      obtain ⟨t', b', n', hL, rfl⟩ := cD_at hk
      refine wgp_tup ⟨_, rfl, rfl, wgps_cons ⟨_, _, rfl, wgp_name (by decide) (wgps_cons ⟨_, _, rfl, wgp_name (by decide) (wgps_nil ⟨rfl, wt_yes ?_⟩)⟩)⟩⟩
      rw [if_pos rfl]
      refine we_var rfl ?_
      dsimp only
      rw [take_more hL, List.map_append]
      rfl
    · rintro acc rfl
      refine ⟨L.map (·.2), ?_, ?_⟩
      · rw [List.length_map, List.take_length, List.map_map]
        rfl
      · rw [Nat.sub_self] at hw
        have e : aW (fP base 0) L = (L.map (·.2)).sum := aW_one L
        rw [← e, hw]
        exact hR
theorem low_gcd {t b : Int} (hb : 0 < b) : Nat.gcd (low t b).1.natAbs (low t b).2.natAbs = 1 := by
  have hg := gcd_pos (t := t) hb
  obtain ⟨x, hx⟩ := Int.gcd_dvd_left t b
  obtain ⟨y, hy⟩ := Int.gcd_dvd_right t b
  have e1 : t / (Int.gcd t b : Int) = x := Int.ediv_eq_of_eq_mul_right (by omega) hx
  have e2 : b / (Int.gcd t b : Int) = y := Int.ediv_eq_of_eq_mul_right (by omega) hy
  rw [low_fst, low_snd, e1, e2]
  have h : Int.gcd ((Int.gcd t b : Int) * x) ((Int.gcd t b : Int) * y) = Int.gcd t b := by rw [← hx, ← hy]
  rw [Int.gcd_mul_left, Int.natAbs_natCast] at h
  have h2 : Int.gcd t b * Int.gcd x y = Int.gcd t b * 1 := by rw [h, Nat.mul_one]
  exact Nat.eq_of_mul_eq_mul_left (by omega) h2
theorem goes_num {base t b : Int} {x : Int × (Int × Int)} (hb : 0 < b) (h : x ∈ goes base t b) : Num x.2.1 x.2.2 := by
  have h1 := goes_mem hb h
  refine ⟨h1.1, ?_, h1.2.2.1, h1.2.2.2⟩
  unfold goes goesN at h
  obtain ⟨k, _, e⟩ := List.mem_map.mp (List.mem_filter.mp h).1
  subst e
  have hb' : 0 < b * 1 := by omega
  have h3 := low_pos (t := t * base) hb'
  exact low_gcd (by omega)
theorem low_num {t b : Int} (hb : 0 < b) (h1 : -b ≤ t) (h2 : t ≤ b) : Num (low t b).1 (low t b).2 := by
  have h := (sim_within (low_pos (t := t) hb) hb (low_cross (t := t) hb)).mpr ⟨h1, h2⟩
  exact ⟨low_pos hb, low_gcd hb, h.1, h.2⟩
theorem ok_law {f : Addr} {fd : FuncData} (T : Txt K mg) (F : Fun K "law" "law" s_law f fd) : FnOk P w K mg bs CX0 6 f fd ["script"] (spLaw K) := by
  have D_law_hand := d_law_hand (P := P) (w := w) (bs := bs) T
  have D_law_low := d_law_low (P := P) (w := w) (bs := bs) T
  have D_law_any := d_law_any (P := P) (w := w) (bs := bs) T
  have D_many_beginnings := d_many_beginnings (P := P) (w := w) (bs := bs) T
  have D_law_draw := d_law_draw (P := P) (w := w) (bs := bs) T
  have D_law_is := d_law_is (P := P) (w := w) (bs := bs) T
  have D_law_count := d_law_count (P := P) (w := w) (bs := bs) T
  have D_law_goes := d_law_goes (P := P) (w := w) (bs := bs) T
  refine F.ok sc_law (fun vs H Q E h => ?_) (fun cdv A outer s H vs Q E hr h => ?_)
  · obtain ⟨a, ns, rfl, _⟩ := h; rfl
  obtain ⟨a, ns, rfl, hS, hl, hQ⟩ := h
  have hu := hu_of hr
  refine ⟨_, (pss_cons (ps_set (i := 1) sc_law.nd rfl (Or.inl rfl) (pe_callR D_law_hand (hr.mono (by decide)) (pa_cons (pv 0) pa_nil)))
      (pss_cons (ps_for PassesOwn.never rfl (pi_range1 rfl T.n_range (pa_cons pe_int pa_nil)) (pg_name (i := 2) sc_law.nd rfl (Or.inl rfl))
      (pss_cons (ps_asg (pe_tup (pa_cons (pe_op op_add pe_int (pe_callK0 (K0 := K) (by rfl) D_law_draw (hr.mono (by decide)) (pa_cons (pv 1) (pa_cons pe_int pa_nil)))) (pa_cons (pe_callK0 (K0 := K) (by rfl) D_law_any (hr.mono (by decide)) (pa_cons (pv 1) (pa_cons (pe_lst (pa_cons pe_int (pa_cons pe_int (pa_cons pe_int (pa_cons pe_int (pa_cons pe_int (pa_cons (pe_op op_add pe_int (pe_callK0 (K0 := K) (by rfl) D_law_draw (hr.mono (by decide)) (pa_cons (pv 1) (pa_cons pe_int pa_nil)))) pa_nil))))))) pa_nil))) pa_nil))) (pg_tup rfl (pgs_cons (pg_name (i := 3) sc_law.nd rfl (Or.inr rfl)) (pgs_cons (pg_name (i := 4) sc_law.nd rfl (Or.inl rfl)) pgs_nil))))
      (pss_cons (ps_set (i := 5) sc_law.nd rfl (Or.inl rfl) (pe_callK0 (K0 := K) (by rfl) D_law_low (hr.mono (by decide)) (pa_cons (pe_op op_sub (pe_callK0 (K0 := K) (by rfl) D_law_draw (hr.mono (by decide)) (pa_cons (pv 1) (pa_cons (pe_op op_add (pe_op op_mulA pe_int (pv 4)) pe_int) pa_nil))) (pv 4)) (pa_cons (pv 4) pa_nil))))
      (pss_cons (ps_set (i := 6) sc_law.nd rfl (Or.inr rfl) (pe_callK0 (K0 := K) (by rfl) D_law_any (hr.mono (by decide)) (pa_cons (pv 1) (pa_cons (pe_lst (pa_cons pe_int (pa_cons pe_int (pa_cons pe_int (pa_cons pe_int (pa_cons pe_int (pa_cons pe_int (pa_cons pe_int (pa_cons pe_int (pa_cons pe_int pa_nil)))))))))) pa_nil))))
      (pss_cons (ps_set (i := 7) sc_law.nd rfl (Or.inl rfl) (pe_callK0 (K0 := K) (by rfl) D_many_beginnings (hr.mono (by decide)) (pa_cons (pv 3) (pa_cons (pv 5) (pa_cons (pv 6) pa_nil)))))
      (pss_cons (ps_if (PW.pt (pw_or (pt_not (pt_val (pe_callK0 (K0 := K) (by rfl) D_law_is (hr.mono (by decide)) (pa_cons (pv 7) (pa_cons (pe_callK0 (K0 := K) (by rfl) D_law_count (hr.mono (by decide)) (pa_cons (pv 3) (pa_cons (pv 5) (pa_cons (pv 6) pa_nil)))) pa_nil))))) (pw_or1 (pt_cmpR op_ne (pe_callK0 (K0 := K) (by rfl) D_many_beginnings (hr.mono (by decide)) (pa_cons (pv 3) (pa_cons (pe_tup (pa_cons (pe_op op_sub pe_int (pe_ix (ix_tupK (K0 := K) (by rfl)) (pv 5) pe_int (fun _ _ => rfl))) (pa_cons (pe_ix (ix_tupK (K0 := K) (by rfl)) (pv 5) pe_int (fun _ _ => rfl)) pa_nil))) (pa_cons (pv 6) pa_nil)))) (pv 7) (nomark _))))) (pss_one (ps_ret pe_bl)) pss_nil)
      (pss_cons (ps_if (pt_cmpR op_gt (pv 6) pe_int (nomark _)) (pss_cons (ps_setLc (i := 8) (own := [("digit", 9), ("rest", 10)]) (g := (gTup K 2 (gCons (gName 9) (gCons (gName 10) gNil)))) rfl sc_law.nd rfl rfl (sw_true rfl rfl rfl (by decide +kernel)) (pi_listK (K0 := K) (by rfl) (pe_callK0 (K0 := K) (by rfl) D_law_goes (hr.mono (by decide)) (pa_cons (pv 3) (pa_cons (pv 5) pa_nil)))) (blkOk_by (N := N_law) (sc := defScope s_law) (by decide +kernel)) (fun _ _ _ _ _ => by exact (pg_tup rfl (pgs_cons (pg_name (i := 9) sc_law.nd rfl (Or.inl rfl)) (pgs_cons (pg_name (i := 10) sc_law.nd rfl (Or.inl rfl)) pgs_nil)))) (fun _ _ _ _ _ => by exact pts_nil) (fun _ _ _ _ _ => by exact (pe_callK0 (K0 := K) (by rfl) D_many_beginnings (hr.mono (by decide)) (pa_cons (pv 3) (pa_cons (pv 10) (pa_cons (pe_op op_sub (pv 6) pe_int) pa_nil))))))
      (pss_one (ps_if (pt_cmpR op_ne (pe_callB (cr_sumK (K0 := K) (by rfl) rfl) (by rfl) T.n_sum (by decide +kernel) (pa_cons (pv 8) pa_nil)) (pv 7) (nomark _)) (pss_one (ps_ret pe_bl)) pss_nil))) pss_nil)
      (pss_one (ps_if (PW.pt (pw_or (pt_cmpR op_ne (pe_callK0 (K0 := K) (by rfl) D_many_beginnings (hr.mono (by decide)) (pa_cons (pv 3) (pa_cons (pe_tup (pa_cons pe_int (pa_cons pe_int pa_nil))) (pa_cons (pv 6) pa_nil)))) pe_int (nomark _)) (pw_or1 (pt_cmpR op_ne (pe_callK0 (K0 := K) (by rfl) D_many_beginnings (hr.mono (by decide)) (pa_cons (pv 3) (pa_cons (pe_tup (pa_cons (pe_un un_neg pe_int) (pa_cons pe_int pa_nil))) (pa_cons (pv 6) pa_nil)))) pe_int (nomark _))))) (pss_one (ps_ret pe_bl)) pss_nil)))))))))
      (pss_one (ps_ret pe_bl)))), ?_⟩
  refine ⟨.ref a, rfl, a, ns, rfl, hS, hl, fun h c H' ex hne hh hc => ?_⟩
  dsimp only
  refine law_go1 (K := K) (a := a) (ts := tSeq (tFor _ _ _) (tRet _)) 9 hne hl hh hc (fun H0 G0 => ?_) hQ
  refine ws_seq (ws_for1 (wa_cons (we_int (wa_nil ⟨2, rfl, by decide, by decide, fun k ρ => ∃ r2 r3 r4 r5 r6 r7 r8 r9 r10 : Option Cell, ρ = [none, some (.d .hand), r2, r3, r4, r5, r6, r7, r8, r9, r10], ⟨_, _, _, _, _, _, _, _, _, rfl⟩, ?_, ?_⟩))))
  · rintro k ρ hk ⟨r2, r3, r4, r5, r6, r7, r8, r9, r10, rfl⟩
    refine wg_name (ws_seq (ws_asgG (we_tup (wa_cons (we_I0 (we_int ⟨_, rfl, we_call (wa_cons (we_var rfl (wa_cons (we_int (wa_nil ⟨4, rfl, by decide, by decide, fun b0 hb0 hb1 => ⟨_, rfl, ?_⟩⟩)))))⟩))))))
    refine wa_cons (we_call (wa_cons (we_var rfl (wa_cons (we_lst (wa_cons (we_int (wa_cons (we_int (wa_cons (we_int (wa_cons (we_int (wa_cons (we_int ?_)))))))))))))))
    refine wa_cons (we_I0 (we_int ⟨_, rfl, we_call (wa_cons (we_var rfl (wa_cons (we_int (wa_nil ⟨1000, rfl, by decide, by decide, fun k1 hk0 hk1 => ⟨_, rfl, ?_⟩⟩)))))⟩))
    refine wa_nil ⟨Nat.le_of_ble_eq_true rfl, wa_nil ⟨_, rfl, by simp, by simp, fun y hy => ?_⟩⟩
    obtain ⟨bo, rfl, bo1, bo2⟩ : ∃ i : Int, y = .int i ∧ 1 ≤ i ∧ i ≤ 1000 := by
      simp only [List.mem_cons, List.not_mem_nil, or_false] at hy
      rcases hy with rfl | rfl | rfl | rfl | rfl | rfl
      · exact ⟨1, rfl, by omega, by omega⟩
      · exact ⟨2, rfl, by omega, by omega⟩
      · exact ⟨3, rfl, by omega, by omega⟩
      · exact ⟨8, rfl, by omega, by omega⟩
      · exact ⟨60, rfl, by omega, by omega⟩
      · exact ⟨_, rfl, by omega, by omega⟩
    refine wa_nil ⟨len2, wg_tup ⟨_, rfl, rfl, wgs_cons ⟨_, _, rfl, wg_name (wgs_cons ⟨_, _, rfl, wg_name (wgs_nil ⟨rfl, ?_⟩)⟩)⟩⟩⟩
    -- x
    refine ws_seq (ws_asg (we_call (wa_cons (we_I0 (we_call (wa_cons (we_var rfl (wa_cons ?_))))))))
    refine we_I0 (we_I (we_int ⟨_, rfl, we_var rfl ⟨_, rfl, .inl (by decide), _, rfl, we_int ⟨_, rfl, wa_nil ?_⟩⟩⟩))
    refine ⟨_, rfl, by omega, by omega, fun k2 hk0 hk1 => ⟨_, rfl, we_var rfl ⟨_, rfl, wa_cons (we_var rfl (wa_nil ?_))⟩⟩⟩
    refine ⟨k2 - bo, bo, rfl, by omega, (Bd.small (k := 64) (by omega)).mono (by decide), ?_⟩
    have hX := low_num (t := k2 - bo) (b := bo) (by omega) (by omega) (by omega)
    have hXb := low_le (t := k2 - bo) (b := bo) (by omega)
    generalize low (k2 - bo) bo = X at hX hXb ⊢
    obtain ⟨xt, xb⟩ := X
    obtain ⟨x1, x2, x3, x4⟩ := id hX
    dsimp only at x1 x2 x3 x4 hXb
    -- many
    refine ws_seq (ws_asg (we_call (wa_cons (we_var rfl (wa_cons (we_lst ?_))))))
    refine wa_cons (we_int (wa_cons (we_int (wa_cons (we_int (wa_cons (we_int (wa_cons (we_int ?_)))))))))
    refine wa_cons (we_int (wa_cons (we_int (wa_cons (we_int (wa_cons (we_int ?_)))))))
    refine wa_nil ⟨Nat.le_of_ble_eq_true rfl, wa_nil ⟨_, rfl, by simp, by simp, fun y hy => ?_⟩⟩
    obtain ⟨mn, rfl, mn1, mn2⟩ : ∃ i : Int, y = .int i ∧ 0 ≤ i ∧ i ≤ 1000 := by
      simp only [List.mem_cons, List.not_mem_nil, or_false] at hy
      rcases hy with rfl | rfl | rfl | rfl | rfl | rfl | rfl | rfl | rfl <;> exact ⟨_, rfl, by omega, by omega⟩
    have hbase1 : (2 : Int) ≤ 2 + b0 := by omega
    have hbase2 : 2 + b0 ≤ 5 := by omega
    generalize hB : 2 + b0 = B at hbase1 hbase2
    -- told
    refine ws_seq (ws_asg (we_call (wa_cons (we_var rfl (wa_cons (we_var rfl (wa_cons (we_var rfl (wa_nil ?_)))))))))
    refine ⟨B, xt, xb, mn, rfl, hbase1, hbase2, hX, by omega, mn1, mn2, ?_⟩
    -- told against the law's own count, and the number with the other sign
    refine ws_seq (ws_if (wt_or (wt_not (wt_B (we_call (wa_cons (we_var rfl (wa_cons (we_call (wa_cons (we_var rfl (wa_cons (we_var rfl (wa_cons (we_var rfl (wa_nil ?_))))))))))))))))
    refine ⟨B, xt, xb, mn, rfl, hbase1, hbase2, x1, by omega, x3, x4, mn1, mn2, wa_nil ⟨_, _, rfl, _, rfl, ?_⟩⟩
    rw [decide_eq_true rfl]
    refine ⟨fun _ => ?_, fun hf => absurd hf (by decide)⟩
    refine wt_T (we_neI (we_call (wa_cons (we_var rfl (wa_cons (we_tup (wa_cons (we_I0 (we_int ⟨_, rfl, we_fr0 (we_var rfl ⟨_, rfl, _, rfl, ?_⟩)⟩)))))))))
    refine wa_cons (we_fr1 (we_var rfl ⟨_, rfl, wa_nil ⟨len2, wa_cons (we_var rfl (wa_nil ?_))⟩⟩))
    have hXn : Num (0 - xt) xb := ⟨x1, by rw [Int.zero_sub, Int.natAbs_neg]; exact x2, by omega, by omega⟩
    refine ⟨B, 0 - xt, xb, mn, rfl, hbase1, hbase2, hXn, by omega, mn1, mn2, _, rfl, we_var rfl ⟨_, rfl, _, rfl, ?_⟩⟩
    have hneg : Pn B xb mn.toNat (0 - xt) = Pn B xb mn.toNat xt := by rw [Int.zero_sub]; exact Pn_neg B xb hbase1 _ _
    rw [hneg, decide_eq_true rfl]
    refine ws_next ?_
    -- one digit more
    refine ws_seq (ws_if (wt_T (we_I0 (we_var rfl ⟨_, rfl, we_int ⟨_, rfl, _, rfl, ?_⟩⟩))))
    have final : ∀ r8 r9 r10 : Option Cell, WS ⟨K, h, H0, G0⟩ [none, some (.d .hand), some (.d (.int (k : Int))), some (.d (.int B)), some (.d (.int bo)), some (.d (fr (xt, xb))), some (.d (.int mn)), some (.d (.int (Pn B xb mn.toNat xt))), r8, r9, r10]
        (tIfS (tOr (tTest (tOp rNe (tCall (spD K S_many_beginnings) [] E0 (tCons (tVar 3) (tCons (tTup (tCons (tC (.int 1)) (tCons (tC (.int 1)) tNil))) (tCons (tVar 6) tNil)))) (tC (.int 1))))
          (tTest (tOp rNe (tCall (spD K S_many_beginnings) [] E0 (tCons (tVar 3) (tCons (tTup (tCons (tUn (rU fun i => .int (-i)) (tC (.int 1))) (tCons (tC (.int 1)) tNil))) (tCons (tVar 6) tNil)))) (tC (.int 1))))) (tRet (tC (.bl false))) tNext)
        ⟨fun ρ => ∃ r2 r3 r4 r5 r6 r7 r8 r9 r10 : Option Cell, ρ = [none, some (.d .hand), r2, r3, r4, r5, r6, r7, r8, r9, r10], fun d => d = .bl true, fun ρ => WS ⟨K, h, H0, G0⟩ ρ (tRet (tC (.bl true))) lawP, fun ρ => ∃ r2 r3 r4 r5 r6 r7 r8 r9 r10 : Option Cell, ρ = [none, some (.d .hand), r2, r3, r4, r5, r6, r7, r8, r9, r10]⟩ := by
      intro r8 r9 r10
      have n1 : Num 1 1 := by refine ⟨by decide, by decide, by decide, by decide⟩
      have n2 : Num (-1) 1 := by refine ⟨by decide, by decide, by decide, by decide⟩
      have p1 : Pn B 1 mn.toNat 1 = 1 := Pn_end B 1 hbase1 (by decide) _
      have p2 : Pn B 1 mn.toNat (-1) = 1 := by rw [Pn_neg B 1 hbase1]; exact p1
      refine ws_if (wt_or (wt_T (we_neI (we_call (wa_cons (we_var rfl (wa_cons (we_tup (wa_cons (we_int (wa_cons (we_int (wa_nil ⟨len2, wa_cons (we_var rfl (wa_nil ?_))⟩)))))))))))))
      refine ⟨B, 1, 1, mn, rfl, hbase1, hbase2, n1, by decide, mn1, mn2, _, rfl, we_int ⟨_, rfl, _, rfl, ?_⟩⟩
      rw [p1]
      refine ⟨fun _ => ?_, fun hf => absurd hf (by decide)⟩
      refine wt_T (we_neI (we_call (wa_cons (we_var rfl (wa_cons (we_tup (wa_cons (we_U (we_int ⟨_, rfl, wa_cons (we_int (wa_nil ⟨len2, wa_cons (we_var rfl (wa_nil ?_))⟩))⟩)))))))))
      refine ⟨B, -1, 1, mn, rfl, hbase1, hbase2, n2, by decide, mn1, mn2, _, rfl, we_int ⟨_, rfl, _, rfl, ?_⟩⟩
      rw [p2]
      exact ws_next ⟨_, _, _, _, _, _, _, _, _, rfl⟩
    refine ite2 (fun hpos => ?_) (fun hpos => ?_)
    · have hpos : 0 < mn := of_decide_eq_true hpos
      obtain ⟨m, hm⟩ : ∃ m, mn.toNat = m + 1 := ⟨mn.toNat - 1, by omega⟩
      have hm1 : (mn - 1).toNat = m := by omega
      refine ws_seq (ws_asg (we_F (wf_lcL (we_call (wa_cons (we_var rfl (wa_cons (we_var rfl (wa_nil ?_)))))))))
      refine ⟨B, xt, xb, rfl, hbase1, hbase2, x1, (Bd.small (k := 64) (by omega)).mono (by decide), (Bd.small (k := 64) (by omega)).mono (by decide), _, rfl, ?_, fun k acc => acc = ((goes B xt xb).take k).map (fun g => D.int (fP B m g.2)), rfl, ?_, ?_⟩
      · rw [List.length_map]
        have := goesN_len B xt xb (B - (1 - B)).toNat
        unfold goes
        omega
      · rintro k' x acc hk' rfl hle
        obtain ⟨g, hg, rfl⟩ := gD_at hk'
        have hgm := goes_mem x1 (List.mem_of_getElem? hg)
        have hgn := goes_num x1 (List.mem_of_getElem? hg)
        refine wgp_tup ⟨_, rfl, rfl, wgps_cons ⟨_, _, rfl, wgp_name (by decide) (wgps_cons ⟨_, _, rfl, wgp_name (by decide) (wgps_nil ⟨rfl, wt_yes ?_⟩)⟩)⟩⟩
        rw [if_pos rfl]
        refine we_call (wa_cons (we_var rfl (wa_cons (we_var rfl (wa_cons (we_I0 (we_var rfl ⟨_, rfl, we_int ⟨_, rfl, wa_nil ?_⟩⟩)))))))
        refine ⟨B, g.2.1, g.2.2, mn - 1, rfl, hbase1, hbase2, hgn, by omega, by omega, by omega, ?_⟩
        dsimp only
        rw [take_more hg, List.map_append, hm1]
        rfl
      · rintro acc rfl
        rw [List.length_map, List.take_length]
        refine ws_if (wt_T (we_neI (we_sum (we_var rfl ⟨(goes B xt xb).map (fun g => fP B m g.2), ?_, _, rfl, we_var rfl ⟨_, rfl, _, rfl, ?_⟩⟩))))
        · rw [List.map_map]; rfl
        · have e : ((goes B xt xb).map (fun g => fP B m g.2)).sum = Pn B xb mn.toNat xt := by rw [hm]; exact goes_sum m x1
          rw [e, decide_eq_true rfl]
          exact ws_next (final _ _ _)
    · exact ws_next (final _ _ _)
  · rintro ρ ⟨r2, r3, r4, r5, r6, r7, r8, r9, r10, rfl⟩
    exact ws_ret (we_bl rfl)
end
theorem all_mk {l : PySem.W.OpenLaw} {w : World} {K : PySem.W.Frag} {h : Heap} {mg : Str → Option Value} {fa : Addr} (X : K.In h) (G : h.Ns mainGlobals mg) (hfa : mg "law" = some (.ref fa))
    {f_is_integer f_is_integer_within f_is_base f_is_tuple_of f_is_fraction f_is_number f_check_base f_check_number f_check_many f_least_digit f_greatest_digit f_next_digits f_many_beginnings f_law_hand f_law_mixed f_law_draw f_law_any f_law_low f_law_minus f_law_times f_law_goes f_law_is f_law_count f_law : Addr}
    {od_is_integer an_is_integer od_is_integer_within an_is_integer_within od_is_base an_is_base od_is_tuple_of an_is_tuple_of od_is_fraction an_is_fraction od_is_number an_is_number od_check_base an_check_base od_check_number an_check_number od_check_many an_check_many od_least_digit an_least_digit od_greatest_digit an_greatest_digit od_next_digits an_next_digits od_many_beginnings an_many_beginnings od_law_hand an_law_hand od_law_mixed an_law_mixed od_law_draw an_law_draw od_law_any an_law_any od_law_low an_law_low od_law_minus an_law_minus od_law_times an_law_times od_law_goes an_law_goes od_law_is an_law_is od_law_count an_law_count od_law an_law : Option Addr}
    {sl_is_integer sl_is_integer_within sl_is_base sl_is_tuple_of sl_is_fraction sl_is_number sl_check_base sl_check_number sl_check_many sl_least_digit sl_greatest_digit sl_next_digits sl_many_beginnings sl_law_hand sl_law_mixed sl_law_draw sl_law_any sl_law_low sl_law_minus sl_law_times sl_law_goes sl_law_is sl_law_count sl_law : Array (Option Value)}
    {oc_is_integer kV_is_integer dc_is_integer pm_is_integer cd_is_integer ct_is_integer oc_is_integer_within kV_is_integer_within dc_is_integer_within pm_is_integer_within cd_is_integer_within ct_is_integer_within oc_is_base kV_is_base dc_is_base pm_is_base cd_is_base ct_is_base oc_is_tuple_of kV_is_tuple_of dc_is_tuple_of pm_is_tuple_of cd_is_tuple_of ct_is_tuple_of oc_is_fraction kV_is_fraction dc_is_fraction pm_is_fraction cd_is_fraction ct_is_fraction oc_is_number kV_is_number dc_is_number pm_is_number cd_is_number ct_is_number oc_check_base kV_check_base dc_check_base pm_check_base cd_check_base ct_check_base oc_check_number kV_check_number dc_check_number pm_check_number cd_check_number ct_check_number oc_check_many kV_check_many dc_check_many pm_check_many cd_check_many ct_check_many oc_least_digit kV_least_digit dc_least_digit pm_least_digit cd_least_digit ct_least_digit oc_greatest_digit kV_greatest_digit dc_greatest_digit pm_greatest_digit cd_greatest_digit ct_greatest_digit oc_next_digits kV_next_digits dc_next_digits pm_next_digits cd_next_digits ct_next_digits oc_many_beginnings kV_many_beginnings dc_many_beginnings pm_many_beginnings cd_many_beginnings ct_many_beginnings oc_law_hand kV_law_hand dc_law_hand pm_law_hand cd_law_hand ct_law_hand oc_law_mixed kV_law_mixed dc_law_mixed pm_law_mixed cd_law_mixed ct_law_mixed oc_law_draw kV_law_draw dc_law_draw pm_law_draw cd_law_draw ct_law_draw oc_law_any kV_law_any dc_law_any pm_law_any cd_law_any ct_law_any oc_law_low kV_law_low dc_law_low pm_law_low cd_law_low ct_law_low oc_law_minus kV_law_minus dc_law_minus pm_law_minus cd_law_minus ct_law_minus oc_law_times kV_law_times dc_law_times pm_law_times cd_law_times ct_law_times oc_law_goes kV_law_goes dc_law_goes pm_law_goes cd_law_goes ct_law_goes oc_law_is kV_law_is dc_law_is pm_law_is cd_law_is ct_law_is oc_law_count kV_law_count dc_law_count pm_law_count cd_law_count ct_law_count oc_law kV_law dc_law pm_law cd_law ct_law : Value}
    {t_MOST_DIGITS : Tok}
    (a_is_integer : PySem.W.nsIn K mainGlobals "is_integer" = some (some (.ref f_is_integer))) (l_is_integer : K.lookup f_is_integer = some ⟨oc_is_integer, od_is_integer, .func (PySem.W.fnOf "is_integer" "is_integer" (defArgs s_is_integer) (defBody s_is_integer) (defScope s_is_integer) .none kV_is_integer dc_is_integer pm_is_integer an_is_integer cd_is_integer ct_is_integer), sl_is_integer⟩) (c_is_integer : PySem.W.codeIn K cd_is_integer "is_integer" = true) (k_is_integer : PySem.W.keepIn K (.ref f_is_integer) = true)
    (a_is_integer_within : PySem.W.nsIn K mainGlobals "is_integer_within" = some (some (.ref f_is_integer_within))) (l_is_integer_within : K.lookup f_is_integer_within = some ⟨oc_is_integer_within, od_is_integer_within, .func (PySem.W.fnOf "is_integer_within" "is_integer_within" (defArgs s_is_integer_within) (defBody s_is_integer_within) (defScope s_is_integer_within) .none kV_is_integer_within dc_is_integer_within pm_is_integer_within an_is_integer_within cd_is_integer_within ct_is_integer_within), sl_is_integer_within⟩) (c_is_integer_within : PySem.W.codeIn K cd_is_integer_within "is_integer_within" = true) (k_is_integer_within : PySem.W.keepIn K (.ref f_is_integer_within) = true)
    (a_is_base : PySem.W.nsIn K mainGlobals "is_base" = some (some (.ref f_is_base))) (l_is_base : K.lookup f_is_base = some ⟨oc_is_base, od_is_base, .func (PySem.W.fnOf "is_base" "is_base" (defArgs s_is_base) (defBody s_is_base) (defScope s_is_base) .none kV_is_base dc_is_base pm_is_base an_is_base cd_is_base ct_is_base), sl_is_base⟩) (c_is_base : PySem.W.codeIn K cd_is_base "is_base" = true) (k_is_base : PySem.W.keepIn K (.ref f_is_base) = true)
    (a_is_tuple_of : PySem.W.nsIn K mainGlobals "is_tuple_of" = some (some (.ref f_is_tuple_of))) (l_is_tuple_of : K.lookup f_is_tuple_of = some ⟨oc_is_tuple_of, od_is_tuple_of, .func (PySem.W.fnOf "is_tuple_of" "is_tuple_of" (defArgs s_is_tuple_of) (defBody s_is_tuple_of) (defScope s_is_tuple_of) .none kV_is_tuple_of dc_is_tuple_of pm_is_tuple_of an_is_tuple_of cd_is_tuple_of ct_is_tuple_of), sl_is_tuple_of⟩) (c_is_tuple_of : PySem.W.codeIn K cd_is_tuple_of "is_tuple_of" = true) (k_is_tuple_of : PySem.W.keepIn K (.ref f_is_tuple_of) = true)
    (a_is_fraction : PySem.W.nsIn K mainGlobals "is_fraction" = some (some (.ref f_is_fraction))) (l_is_fraction : K.lookup f_is_fraction = some ⟨oc_is_fraction, od_is_fraction, .func (PySem.W.fnOf "is_fraction" "is_fraction" (defArgs s_is_fraction) (defBody s_is_fraction) (defScope s_is_fraction) .none kV_is_fraction dc_is_fraction pm_is_fraction an_is_fraction cd_is_fraction ct_is_fraction), sl_is_fraction⟩) (c_is_fraction : PySem.W.codeIn K cd_is_fraction "is_fraction" = true) (k_is_fraction : PySem.W.keepIn K (.ref f_is_fraction) = true)
    (a_is_number : PySem.W.nsIn K mainGlobals "is_number" = some (some (.ref f_is_number))) (l_is_number : K.lookup f_is_number = some ⟨oc_is_number, od_is_number, .func (PySem.W.fnOf "is_number" "is_number" (defArgs s_is_number) (defBody s_is_number) (defScope s_is_number) .none kV_is_number dc_is_number pm_is_number an_is_number cd_is_number ct_is_number), sl_is_number⟩) (c_is_number : PySem.W.codeIn K cd_is_number "is_number" = true) (k_is_number : PySem.W.keepIn K (.ref f_is_number) = true)
    (a_check_base : PySem.W.nsIn K mainGlobals "check_base" = some (some (.ref f_check_base))) (l_check_base : K.lookup f_check_base = some ⟨oc_check_base, od_check_base, .func (PySem.W.fnOf "check_base" "check_base" (defArgs s_check_base) (defBody s_check_base) (defScope s_check_base) .none kV_check_base dc_check_base pm_check_base an_check_base cd_check_base ct_check_base), sl_check_base⟩) (c_check_base : PySem.W.codeIn K cd_check_base "check_base" = true) (k_check_base : PySem.W.keepIn K (.ref f_check_base) = true)
    (a_check_number : PySem.W.nsIn K mainGlobals "check_number" = some (some (.ref f_check_number))) (l_check_number : K.lookup f_check_number = some ⟨oc_check_number, od_check_number, .func (PySem.W.fnOf "check_number" "check_number" (defArgs s_check_number) (defBody s_check_number) (defScope s_check_number) .none kV_check_number dc_check_number pm_check_number an_check_number cd_check_number ct_check_number), sl_check_number⟩) (c_check_number : PySem.W.codeIn K cd_check_number "check_number" = true) (k_check_number : PySem.W.keepIn K (.ref f_check_number) = true)
    (a_check_many : PySem.W.nsIn K mainGlobals "check_many" = some (some (.ref f_check_many))) (l_check_many : K.lookup f_check_many = some ⟨oc_check_many, od_check_many, .func (PySem.W.fnOf "check_many" "check_many" (defArgs s_check_many) (defBody s_check_many) (defScope s_check_many) .none kV_check_many dc_check_many pm_check_many an_check_many cd_check_many ct_check_many), sl_check_many⟩) (c_check_many : PySem.W.codeIn K cd_check_many "check_many" = true) (k_check_many : PySem.W.keepIn K (.ref f_check_many) = true)
    (a_least_digit : PySem.W.nsIn K mainGlobals "least_digit" = some (some (.ref f_least_digit))) (l_least_digit : K.lookup f_least_digit = some ⟨oc_least_digit, od_least_digit, .func (PySem.W.fnOf "least_digit" "least_digit" (defArgs s_least_digit) (defBody s_least_digit) (defScope s_least_digit) .none kV_least_digit dc_least_digit pm_least_digit an_least_digit cd_least_digit ct_least_digit), sl_least_digit⟩) (c_least_digit : PySem.W.codeIn K cd_least_digit "least_digit" = true) (k_least_digit : PySem.W.keepIn K (.ref f_least_digit) = true)
    (a_greatest_digit : PySem.W.nsIn K mainGlobals "greatest_digit" = some (some (.ref f_greatest_digit))) (l_greatest_digit : K.lookup f_greatest_digit = some ⟨oc_greatest_digit, od_greatest_digit, .func (PySem.W.fnOf "greatest_digit" "greatest_digit" (defArgs s_greatest_digit) (defBody s_greatest_digit) (defScope s_greatest_digit) .none kV_greatest_digit dc_greatest_digit pm_greatest_digit an_greatest_digit cd_greatest_digit ct_greatest_digit), sl_greatest_digit⟩) (c_greatest_digit : PySem.W.codeIn K cd_greatest_digit "greatest_digit" = true) (k_greatest_digit : PySem.W.keepIn K (.ref f_greatest_digit) = true)
    (a_next_digits : PySem.W.nsIn K mainGlobals "next_digits" = some (some (.ref f_next_digits))) (l_next_digits : K.lookup f_next_digits = some ⟨oc_next_digits, od_next_digits, .func (PySem.W.fnOf "next_digits" "next_digits" (defArgs s_next_digits) (defBody s_next_digits) (defScope s_next_digits) .none kV_next_digits dc_next_digits pm_next_digits an_next_digits cd_next_digits ct_next_digits), sl_next_digits⟩) (c_next_digits : PySem.W.codeIn K cd_next_digits "next_digits" = true) (k_next_digits : PySem.W.keepIn K (.ref f_next_digits) = true)
    (a_many_beginnings : PySem.W.nsIn K mainGlobals "many_beginnings" = some (some (.ref f_many_beginnings))) (l_many_beginnings : K.lookup f_many_beginnings = some ⟨oc_many_beginnings, od_many_beginnings, .func (PySem.W.fnOf "many_beginnings" "many_beginnings" (defArgs s_many_beginnings) (defBody s_many_beginnings) (defScope s_many_beginnings) .none kV_many_beginnings dc_many_beginnings pm_many_beginnings an_many_beginnings cd_many_beginnings ct_many_beginnings), sl_many_beginnings⟩) (c_many_beginnings : PySem.W.codeIn K cd_many_beginnings "many_beginnings" = true) (k_many_beginnings : PySem.W.keepIn K (.ref f_many_beginnings) = true)
    (a_law_hand : PySem.W.nsIn K mainGlobals "_law_hand" = some (some (.ref f_law_hand))) (l_law_hand : K.lookup f_law_hand = some ⟨oc_law_hand, od_law_hand, .func (PySem.W.fnOf "_law_hand" "_law_hand" (defArgs s_law_hand) (defBody s_law_hand) (defScope s_law_hand) .none kV_law_hand dc_law_hand pm_law_hand an_law_hand cd_law_hand ct_law_hand), sl_law_hand⟩) (c_law_hand : PySem.W.codeIn K cd_law_hand "_law_hand" = true) (k_law_hand : PySem.W.keepIn K (.ref f_law_hand) = true)
    (a_law_mixed : PySem.W.nsIn K mainGlobals "_law_mixed" = some (some (.ref f_law_mixed))) (l_law_mixed : K.lookup f_law_mixed = some ⟨oc_law_mixed, od_law_mixed, .func (PySem.W.fnOf "_law_mixed" "_law_mixed" (defArgs s_law_mixed) (defBody s_law_mixed) (defScope s_law_mixed) .none kV_law_mixed dc_law_mixed pm_law_mixed an_law_mixed cd_law_mixed ct_law_mixed), sl_law_mixed⟩) (c_law_mixed : PySem.W.codeIn K cd_law_mixed "_law_mixed" = true) (k_law_mixed : PySem.W.keepIn K (.ref f_law_mixed) = true)
    (a_law_draw : PySem.W.nsIn K mainGlobals "_law_draw" = some (some (.ref f_law_draw))) (l_law_draw : K.lookup f_law_draw = some ⟨oc_law_draw, od_law_draw, .func (PySem.W.fnOf "_law_draw" "_law_draw" (defArgs s_law_draw) (defBody s_law_draw) (defScope s_law_draw) .none kV_law_draw dc_law_draw pm_law_draw an_law_draw cd_law_draw ct_law_draw), sl_law_draw⟩) (c_law_draw : PySem.W.codeIn K cd_law_draw "_law_draw" = true) (k_law_draw : PySem.W.keepIn K (.ref f_law_draw) = true)
    (a_law_any : PySem.W.nsIn K mainGlobals "_law_any" = some (some (.ref f_law_any))) (l_law_any : K.lookup f_law_any = some ⟨oc_law_any, od_law_any, .func (PySem.W.fnOf "_law_any" "_law_any" (defArgs s_law_any) (defBody s_law_any) (defScope s_law_any) .none kV_law_any dc_law_any pm_law_any an_law_any cd_law_any ct_law_any), sl_law_any⟩) (c_law_any : PySem.W.codeIn K cd_law_any "_law_any" = true) (k_law_any : PySem.W.keepIn K (.ref f_law_any) = true)
    (a_law_low : PySem.W.nsIn K mainGlobals "_law_low" = some (some (.ref f_law_low))) (l_law_low : K.lookup f_law_low = some ⟨oc_law_low, od_law_low, .func (PySem.W.fnOf "_law_low" "_law_low" (defArgs s_law_low) (defBody s_law_low) (defScope s_law_low) .none kV_law_low dc_law_low pm_law_low an_law_low cd_law_low ct_law_low), sl_law_low⟩) (c_law_low : PySem.W.codeIn K cd_law_low "_law_low" = true) (k_law_low : PySem.W.keepIn K (.ref f_law_low) = true)
    (a_law_minus : PySem.W.nsIn K mainGlobals "_law_minus" = some (some (.ref f_law_minus))) (l_law_minus : K.lookup f_law_minus = some ⟨oc_law_minus, od_law_minus, .func (PySem.W.fnOf "_law_minus" "_law_minus" (defArgs s_law_minus) (defBody s_law_minus) (defScope s_law_minus) .none kV_law_minus dc_law_minus pm_law_minus an_law_minus cd_law_minus ct_law_minus), sl_law_minus⟩) (c_law_minus : PySem.W.codeIn K cd_law_minus "_law_minus" = true) (k_law_minus : PySem.W.keepIn K (.ref f_law_minus) = true)
    (a_law_times : PySem.W.nsIn K mainGlobals "_law_times" = some (some (.ref f_law_times))) (l_law_times : K.lookup f_law_times = some ⟨oc_law_times, od_law_times, .func (PySem.W.fnOf "_law_times" "_law_times" (defArgs s_law_times) (defBody s_law_times) (defScope s_law_times) .none kV_law_times dc_law_times pm_law_times an_law_times cd_law_times ct_law_times), sl_law_times⟩) (c_law_times : PySem.W.codeIn K cd_law_times "_law_times" = true) (k_law_times : PySem.W.keepIn K (.ref f_law_times) = true)
    (a_law_goes : PySem.W.nsIn K mainGlobals "_law_goes" = some (some (.ref f_law_goes))) (l_law_goes : K.lookup f_law_goes = some ⟨oc_law_goes, od_law_goes, .func (PySem.W.fnOf "_law_goes" "_law_goes" (defArgs s_law_goes) (defBody s_law_goes) (defScope s_law_goes) .none kV_law_goes dc_law_goes pm_law_goes an_law_goes cd_law_goes ct_law_goes), sl_law_goes⟩) (c_law_goes : PySem.W.codeIn K cd_law_goes "_law_goes" = true) (k_law_goes : PySem.W.keepIn K (.ref f_law_goes) = true)
    (a_law_is : PySem.W.nsIn K mainGlobals "_law_is" = some (some (.ref f_law_is))) (l_law_is : K.lookup f_law_is = some ⟨oc_law_is, od_law_is, .func (PySem.W.fnOf "_law_is" "_law_is" (defArgs s_law_is) (defBody s_law_is) (defScope s_law_is) .none kV_law_is dc_law_is pm_law_is an_law_is cd_law_is ct_law_is), sl_law_is⟩) (c_law_is : PySem.W.codeIn K cd_law_is "_law_is" = true) (k_law_is : PySem.W.keepIn K (.ref f_law_is) = true)
    (a_law_count : PySem.W.nsIn K mainGlobals "_law_count" = some (some (.ref f_law_count))) (l_law_count : K.lookup f_law_count = some ⟨oc_law_count, od_law_count, .func (PySem.W.fnOf "_law_count" "_law_count" (defArgs s_law_count) (defBody s_law_count) (defScope s_law_count) .none kV_law_count dc_law_count pm_law_count an_law_count cd_law_count ct_law_count), sl_law_count⟩) (c_law_count : PySem.W.codeIn K cd_law_count "_law_count" = true) (k_law_count : PySem.W.keepIn K (.ref f_law_count) = true)
    (a_law : PySem.W.nsIn K mainGlobals "law" = some (some (.ref f_law))) (l_law : K.lookup f_law = some ⟨oc_law, od_law, .func (PySem.W.fnOf "law" "law" (defArgs s_law) (defBody s_law) (defScope s_law) .none kV_law dc_law pm_law an_law cd_law ct_law), sl_law⟩) (c_law : PySem.W.codeIn K cd_law "law" = true) (k_law : PySem.W.keepIn K (.ref f_law) = true)
    (n_ValueError : PySem.W.nsIn K mainGlobals "ValueError" = some none)
    (n_abs : PySem.W.nsIn K mainGlobals "abs" = some none)
    (n_all : PySem.W.nsIn K mainGlobals "all" = some none)
    (n_bool : PySem.W.nsIn K mainGlobals "bool" = some none)
    (n_dict : PySem.W.nsIn K mainGlobals "dict" = some none)
    (n_int : PySem.W.nsIn K mainGlobals "int" = some none)
    (n_isinstance : PySem.W.nsIn K mainGlobals "isinstance" = some none)
    (n_len : PySem.W.nsIn K mainGlobals "len" = some none)
    (n_list : PySem.W.nsIn K mainGlobals "list" = some none)
    (n_max : PySem.W.nsIn K mainGlobals "max" = some none)
    (n_min : PySem.W.nsIn K mainGlobals "min" = some none)
    (n_range : PySem.W.nsIn K mainGlobals "range" = some none)
    (n_sum : PySem.W.nsIn K mainGlobals "sum" = some none)
    (n_tuple : PySem.W.nsIn K mainGlobals "tuple" = some none)
    (n_zip : PySem.W.nsIn K mainGlobals "zip" = some none)
    (g_gcd : PySem.W.nsIn K mainGlobals "gcd" = some (some (.builtin "math.gcd")))
    (v_MOST_DIGITS : PySem.W.nsIn K mainGlobals "MOST_DIGITS" = some (some (.int 1000 t_MOST_DIGITS))) :
    ∃ fd : FuncData, (∀ (s : Shared) (v : Value), BindsTo s fd ⟨[v], []⟩ [("script", v)]) ∧ ∀ base : Heap, K.In base → base.Ns mainGlobals mg → FnOk l.prog w K mg base CX0 6 fa fd ["script"] (spLaw K) := by
  have e := hfa.symm.trans (PySem.W.mg_of X G a_law)
  cases e
  have T : Txt K mg := ⟨⟨⟨_, _, PySem.W.mg_of X G a_is_integer, fun_mk (st := s_is_integer) l_is_integer c_is_integer k_is_integer⟩⟩,
    ⟨⟨_, _, PySem.W.mg_of X G a_is_integer_within, fun_mk (st := s_is_integer_within) l_is_integer_within c_is_integer_within k_is_integer_within⟩⟩,
    ⟨⟨_, _, PySem.W.mg_of X G a_is_base, fun_mk (st := s_is_base) l_is_base c_is_base k_is_base⟩⟩,
    ⟨⟨_, _, PySem.W.mg_of X G a_is_tuple_of, fun_mk (st := s_is_tuple_of) l_is_tuple_of c_is_tuple_of k_is_tuple_of⟩⟩,
    ⟨⟨_, _, PySem.W.mg_of X G a_is_fraction, fun_mk (st := s_is_fraction) l_is_fraction c_is_fraction k_is_fraction⟩⟩,
    ⟨⟨_, _, PySem.W.mg_of X G a_is_number, fun_mk (st := s_is_number) l_is_number c_is_number k_is_number⟩⟩,
    ⟨⟨_, _, PySem.W.mg_of X G a_check_base, fun_mk (st := s_check_base) l_check_base c_check_base k_check_base⟩⟩,
    ⟨⟨_, _, PySem.W.mg_of X G a_check_number, fun_mk (st := s_check_number) l_check_number c_check_number k_check_number⟩⟩,
    ⟨⟨_, _, PySem.W.mg_of X G a_check_many, fun_mk (st := s_check_many) l_check_many c_check_many k_check_many⟩⟩,
    ⟨⟨_, _, PySem.W.mg_of X G a_least_digit, fun_mk (st := s_least_digit) l_least_digit c_least_digit k_least_digit⟩⟩,
    ⟨⟨_, _, PySem.W.mg_of X G a_greatest_digit, fun_mk (st := s_greatest_digit) l_greatest_digit c_greatest_digit k_greatest_digit⟩⟩,
    ⟨⟨_, _, PySem.W.mg_of X G a_next_digits, fun_mk (st := s_next_digits) l_next_digits c_next_digits k_next_digits⟩⟩,
    ⟨⟨_, _, PySem.W.mg_of X G a_many_beginnings, fun_mk (st := s_many_beginnings) l_many_beginnings c_many_beginnings k_many_beginnings⟩⟩,
    ⟨⟨_, _, PySem.W.mg_of X G a_law_hand, fun_mk (st := s_law_hand) l_law_hand c_law_hand k_law_hand⟩⟩,
    ⟨⟨_, _, PySem.W.mg_of X G a_law_mixed, fun_mk (st := s_law_mixed) l_law_mixed c_law_mixed k_law_mixed⟩⟩,
    ⟨⟨_, _, PySem.W.mg_of X G a_law_draw, fun_mk (st := s_law_draw) l_law_draw c_law_draw k_law_draw⟩⟩,
    ⟨⟨_, _, PySem.W.mg_of X G a_law_any, fun_mk (st := s_law_any) l_law_any c_law_any k_law_any⟩⟩,
    ⟨⟨_, _, PySem.W.mg_of X G a_law_low, fun_mk (st := s_law_low) l_law_low c_law_low k_law_low⟩⟩,
    ⟨⟨_, _, PySem.W.mg_of X G a_law_minus, fun_mk (st := s_law_minus) l_law_minus c_law_minus k_law_minus⟩⟩,
    ⟨⟨_, _, PySem.W.mg_of X G a_law_times, fun_mk (st := s_law_times) l_law_times c_law_times k_law_times⟩⟩,
    ⟨⟨_, _, PySem.W.mg_of X G a_law_goes, fun_mk (st := s_law_goes) l_law_goes c_law_goes k_law_goes⟩⟩,
    ⟨⟨_, _, PySem.W.mg_of X G a_law_is, fun_mk (st := s_law_is) l_law_is c_law_is k_law_is⟩⟩,
    ⟨⟨_, _, PySem.W.mg_of X G a_law_count, fun_mk (st := s_law_count) l_law_count c_law_count k_law_count⟩⟩,
    ⟨⟨_, _, PySem.W.mg_of X G a_law, fun_mk (st := s_law) l_law c_law k_law⟩⟩,
    PySem.W.mg_none_of X G n_ValueError,
    PySem.W.mg_none_of X G n_abs,
    PySem.W.mg_none_of X G n_all,
    PySem.W.mg_none_of X G n_bool,
    PySem.W.mg_none_of X G n_dict,
    PySem.W.mg_none_of X G n_int,
    PySem.W.mg_none_of X G n_isinstance,
    PySem.W.mg_none_of X G n_len,
    PySem.W.mg_none_of X G n_list,
    PySem.W.mg_none_of X G n_max,
    PySem.W.mg_none_of X G n_min,
    PySem.W.mg_none_of X G n_range,
    PySem.W.mg_none_of X G n_sum,
    PySem.W.mg_none_of X G n_tuple,
    PySem.W.mg_none_of X G n_zip,
    PySem.W.mg_of X G g_gcd,
    ⟨_, PySem.W.mg_of X G v_MOST_DIGITS⟩⟩
  have FL := fun_mk (st := s_law) l_law c_law k_law
  exact ⟨_, fun s v => .of_eq rfl, fun base _ _ => ok_law T FL⟩
theorem walk {l : PySem.W.OpenLaw} {q : Program} {loose : List Str} {XP : (Str → Option Value) → Heap → Prop} {YP : World → Heap → Prop} {d : DefRec} {K : Params → PySem.W.Frag} (hn : l.most = some 63) (hdf : d.params.defaults = [])
    (hY : ∀ (w : World) (h : Heap), YP w h → (K w.params).In h)
    (F : ∀ (w : World) (mg : Str → Option Value) (fa : Addr) (h : Heap), (K w.params).In h → h.Ns mainGlobals mg → mg d.name = some (.ref fa) →
      ∃ fd : FuncData, (∀ (s : Shared) (u : Value), BindsTo s fd ⟨[u], []⟩ [("script", u)]) ∧ ∀ base : Heap, (K w.params).In base → base.Ns mainGlobals mg → FnOk l.prog w (K w.params) mg base CX0 6 fa fd ["script"] (spLaw (K w.params))) :
    PySem.W.WalkO q loose XP YP l.row.toRowW d [] (fun f vs => PySem.call f vs) :=
  L2.walk_of (n := 63) (k := 6) (x := "script") (CX := fun _ => CX0) (sp := fun w => spLaw (K w.params)) hn (by decide) hdf ⟨rfl, by decide, by decide⟩ hY F (fun _ _ a ns hl _ hS => ⟨a, ns, rfl, hS, hl, fun _ => rfl⟩) fun _ _ _ _ _ z => z
end Lk05
open PySem PySem.W PyProof.Rows
set_option maxRecDepth 100000 in
set_option maxHeartbeats 0 in
theorem PySem.Challenge.cw_anywriting_k05_whole_counts_of_beginning_holds : PySem.Challenge.rw_anywriting_k05_whole_counts_of_beginning.Holds := by
  w_on; o_law; k_head; (case hw => w_witness2)
  k_fill
  refine Lk05.walk (l := PySem.Challenge.rw_anywriting_k05_whole_counts_of_beginning) rfl rfl (fun w h Y => PySem.W.kIn_of Y) ?F
  case F =>
    intro w mg fa h KX G hmg
    refine' Lk05.all_mk KX G hmg ?a_is_integer ?l_is_integer ?c_is_integer ?k_is_integer ?a_is_integer_within ?l_is_integer_within ?c_is_integer_within ?k_is_integer_within ?a_is_base ?l_is_base ?c_is_base ?k_is_base ?a_is_tuple_of ?l_is_tuple_of ?c_is_tuple_of ?k_is_tuple_of ?a_is_fraction ?l_is_fraction ?c_is_fraction ?k_is_fraction ?a_is_number ?l_is_number ?c_is_number ?k_is_number ?a_check_base ?l_check_base ?c_check_base ?k_check_base ?a_check_number ?l_check_number ?c_check_number ?k_check_number ?a_check_many ?l_check_many ?c_check_many ?k_check_many ?a_least_digit ?l_least_digit ?c_least_digit ?k_least_digit ?a_greatest_digit ?l_greatest_digit ?c_greatest_digit ?k_greatest_digit ?a_next_digits ?l_next_digits ?c_next_digits ?k_next_digits ?a_many_beginnings ?l_many_beginnings ?c_many_beginnings ?k_many_beginnings ?a_law_hand ?l_law_hand ?c_law_hand ?k_law_hand ?a_law_mixed ?l_law_mixed ?c_law_mixed ?k_law_mixed ?a_law_draw ?l_law_draw ?c_law_draw ?k_law_draw ?a_law_any ?l_law_any ?c_law_any ?k_law_any ?a_law_low ?l_law_low ?c_law_low ?k_law_low ?a_law_minus ?l_law_minus ?c_law_minus ?k_law_minus ?a_law_times ?l_law_times ?c_law_times ?k_law_times ?a_law_goes ?l_law_goes ?c_law_goes ?k_law_goes ?a_law_is ?l_law_is ?c_law_is ?k_law_is ?a_law_count ?l_law_count ?c_law_count ?k_law_count ?a_law ?l_law ?c_law ?k_law ?n_ValueError ?n_abs ?n_all ?n_bool ?n_dict ?n_int ?n_isinstance ?n_len ?n_list ?n_max ?n_min ?n_range ?n_sum ?n_tuple ?n_zip ?g_gcd ?v_MOST_DIGITS
    (case a_is_integer => k_is)
    (case l_is_integer => k_is)
    (case c_is_integer => k_is)
    (case k_is_integer => k_is)
    (case a_is_integer_within => k_is)
    (case l_is_integer_within => k_is)
    (case c_is_integer_within => k_is)
    (case k_is_integer_within => k_is)
    (case a_is_base => k_is)
    (case l_is_base => k_is)
    (case c_is_base => k_is)
    (case k_is_base => k_is)
    (case a_is_tuple_of => k_is)
    (case l_is_tuple_of => k_is)
    (case c_is_tuple_of => k_is)
    (case k_is_tuple_of => k_is)
    (case a_is_fraction => k_is)
    (case l_is_fraction => k_is)
    (case c_is_fraction => k_is)
    (case k_is_fraction => k_is)
    (case a_is_number => k_is)
    (case l_is_number => k_is)
    (case c_is_number => k_is)
    (case k_is_number => k_is)
    (case a_check_base => k_is)
    (case l_check_base => k_is)
    (case c_check_base => k_is)
    (case k_check_base => k_is)
    (case a_check_number => k_is)
    (case l_check_number => k_is)
    (case c_check_number => k_is)
    (case k_check_number => k_is)
    (case a_check_many => k_is)
    (case l_check_many => k_is)
    (case c_check_many => k_is)
    (case k_check_many => k_is)
    (case a_least_digit => k_is)
    (case l_least_digit => k_is)
    (case c_least_digit => k_is)
    (case k_least_digit => k_is)
    (case a_greatest_digit => k_is)
    (case l_greatest_digit => k_is)
    (case c_greatest_digit => k_is)
    (case k_greatest_digit => k_is)
    (case a_next_digits => k_is)
    (case l_next_digits => k_is)
    (case c_next_digits => k_is)
    (case k_next_digits => k_is)
    (case a_many_beginnings => k_is)
    (case l_many_beginnings => k_is)
    (case c_many_beginnings => k_is)
    (case k_many_beginnings => k_is)
    (case a_law_hand => k_is)
    (case l_law_hand => k_is)
    (case c_law_hand => k_is)
    (case k_law_hand => k_is)
    (case a_law_mixed => k_is)
    (case l_law_mixed => k_is)
    (case c_law_mixed => k_is)
    (case k_law_mixed => k_is)
    (case a_law_draw => k_is)
    (case l_law_draw => k_is)
    (case c_law_draw => k_is)
    (case k_law_draw => k_is)
    (case a_law_any => k_is)
    (case l_law_any => k_is)
    (case c_law_any => k_is)
    (case k_law_any => k_is)
    (case a_law_low => k_is)
    (case l_law_low => k_is)
    (case c_law_low => k_is)
    (case k_law_low => k_is)
    (case a_law_minus => k_is)
    (case l_law_minus => k_is)
    (case c_law_minus => k_is)
    (case k_law_minus => k_is)
    (case a_law_times => k_is)
    (case l_law_times => k_is)
    (case c_law_times => k_is)
    (case k_law_times => k_is)
    (case a_law_goes => k_is)
    (case l_law_goes => k_is)
    (case c_law_goes => k_is)
    (case k_law_goes => k_is)
    (case a_law_is => k_is)
    (case l_law_is => k_is)
    (case c_law_is => k_is)
    (case k_law_is => k_is)
    (case a_law_count => k_is)
    (case l_law_count => k_is)
    (case c_law_count => k_is)
    (case k_law_count => k_is)
    (case a_law => k_is)
    (case l_law => k_is)
    (case c_law => k_is)
    (case k_law => k_is)
    (case n_ValueError => k_is)
    (case n_abs => k_is)
    (case n_all => k_is)
    (case n_bool => k_is)
    (case n_dict => k_is)
    (case n_int => k_is)
    (case n_isinstance => k_is)
    (case n_len => k_is)
    (case n_list => k_is)
    (case n_max => k_is)
    (case n_min => k_is)
    (case n_range => k_is)
    (case n_sum => k_is)
    (case n_tuple => k_is)
    (case n_zip => k_is)
    (case g_gcd => k_is)
    (case v_MOST_DIGITS => k_is)
#print axioms PySem.Challenge.cw_anywriting_k05_whole_counts_of_beginning_holds

