import PyProof.Rows.All
import Wide.All
import OpenK.AllK
import Wide.FinOn
import HandS.ForMost
import HandS.Evl
import HandS.Wide
import HandS.Gcd
import HandS.IsInst
import HandS.TupAny
import HandS.EndBits
import KE.KDictSum
import HandS.Sort
import HandS.Style
import HandS.ExcInit
import HandS.ExcField
import HandS.ExcOwn
import HandS.ExcIs
import HandS.TryOnly
import HandS.TryMany
import HandS.WordsExc
import HandS.Zip
import HandS.Deep
import HandS.TupMul
import PySem.Challenge.RW_anywriting_k04_whole_beginnings
set_option Elab.async false
set_option linter.all false
set_option maxRecDepth 100000
set_option maxHeartbeats 2000000
/-! A calculus over the hand layer's readings in which a body is read by plain data: no addresses, no heaps. -/
namespace Cal
open PySem L2 PyProof.Rows
open Evl (Ex ex_l ex_t ex_rd sq_of st_of)

/-! ### data -/
inductive D where
  | non | bl (b : Bool) | int (i : Int) | str (x : Str) | hand
  | tup (xs : List D) | lst (xs : List D)
  | dK (kvs : List (Key × D)) | dT (kvs : List (List Key × D))
  | raw (v : V)

mutual
inductive Rp (K : PySem.W.Frag) (h : Addr) (G : Hp) : V → D → Prop
  | non : Rp K h G .non .non
  | bl (b : Bool) : Rp K h G (.bl b) (.bl b)
  | int (i : Int) : Rp K h G (.int i) (.int i)
  | str (x : Str) : Rp K h G (.str x) (.str x)
  | hand : Rp K h G (.ref h) .hand
  | tup {a : Addr} {vs : List V} {ds : List D} : G a = some (.tup vs) → RpL K h G vs ds → Rp K h G (.ref a) (.tup ds)
  | lst {a : Addr} {vs : List V} {ds : List D} : G a = some (.lst vs) → RpL K h G vs ds → Rp K h G (.ref a) (.lst ds)
  | dK {a : Addr} {vk : List (Key × V)} {kvs : List (Key × D)} : Rd G a (.dK vk) → RpK K h G vk kvs → Rp K h G (.ref a) (.dK kvs)
  | dT {a : Addr} {vk : List (List Key × V)} {kvs : List (List Key × D)} : Rd G a (.dT vk) → RpT K h G vk kvs → Rp K h G (.ref a) (.dT kvs)
  | raw (v : V) : Rp K h G v (.raw v)
inductive RpL (K : PySem.W.Frag) (h : Addr) (G : Hp) : List V → List D → Prop
  | nil : RpL K h G [] []
  | cons {v : V} {vs : List V} {d : D} {ds : List D} : Rp K h G v d → RpL K h G vs ds → RpL K h G (v :: vs) (d :: ds)
inductive RpK (K : PySem.W.Frag) (h : Addr) (G : Hp) : List (Key × V) → List (Key × D) → Prop
  | nil : RpK K h G [] []
  | cons {k : Key} {v : V} {vs : List (Key × V)} {d : D} {ds : List (Key × D)} : Rp K h G v d → RpK K h G vs ds → RpK K h G ((k, v) :: vs) ((k, d) :: ds)
inductive RpT (K : PySem.W.Frag) (h : Addr) (G : Hp) : List (List Key × V) → List (List Key × D) → Prop
  | nil : RpT K h G [] []
  | cons {k : List Key} {v : V} {vs : List (List Key × V)} {d : D} {ds : List (List Key × D)} : Rp K h G v d → RpT K h G vs ds → RpT K h G ((k, v) :: vs) ((k, d) :: ds)
end

section
variable {K : PySem.W.Frag} {h : Addr} {G G' : Hp}
mutual
theorem Rp.mono (e : Ex G G') : ∀ (d : D) (v : V), Rp K h G v d → Rp K h G' v d
  | .non, _, r => by cases r; exact .non
  | .bl b, _, r => by cases r; exact .bl b
  | .int i, _, r => by cases r; exact .int i
  | .str x, _, r => by cases r; exact .str x
  | .hand, _, r => by cases r; exact .hand
  | .tup ds, _, r => by cases r with | tup q l => exact .tup (e _ _ q) (RpL.mono e ds _ l)
  | .lst ds, _, r => by cases r with | lst q l => exact .lst (e _ _ q) (RpL.mono e ds _ l)
  | .dK kvs, _, r => by cases r with | dK q l => exact .dK (ex_rd e q) (RpK.mono e kvs _ l)
  | .dT kvs, _, r => by cases r with | dT q l => exact .dT (ex_rd e q) (RpT.mono e kvs _ l)
  | .raw v, _, r => by cases r; exact .raw v
theorem RpL.mono (e : Ex G G') : ∀ (ds : List D) (vs : List V), RpL K h G vs ds → RpL K h G' vs ds
  | [], _, r => by cases r; exact .nil
  | d :: ds, _, r => by cases r with | cons a b => exact .cons (Rp.mono e d _ a) (RpL.mono e ds _ b)
theorem RpK.mono (e : Ex G G') : ∀ (ds : List (Key × D)) (vs : List (Key × V)), RpK K h G vs ds → RpK K h G' vs ds
  | [], _, r => by cases r; exact .nil
  | (k, d) :: ds, _, r => by cases r with | cons a b => exact .cons (Rp.mono e d _ a) (RpK.mono e ds _ b)
theorem RpT.mono (e : Ex G G') : ∀ (ds : List (List Key × D)) (vs : List (List Key × V)), RpT K h G vs ds → RpT K h G' vs ds
  | [], _, r => by cases r; exact .nil
  | (k, d) :: ds, _, r => by cases r with | cons a b => exact .cons (Rp.mono e d _ a) (RpT.mono e ds _ b)
end
end
abbrev rmono {K : PySem.W.Frag} {h : Addr} {G G' : Hp} {v : V} {d : D} (r : Rp K h G v d) (e : Ex G G') : Rp K h G' v d := Rp.mono e d v r
abbrev lmono {K : PySem.W.Frag} {h : Addr} {G G' : Hp} {v : List V} {d : List D} (r : RpL K h G v d) (e : Ex G G') : RpL K h G' v d := RpL.mono e d v r

section
variable {K : PySem.W.Frag} {h : Addr} {G : Hp}
theorem RpL.length : ∀ {vs : List V} {ds : List D}, RpL K h G vs ds → vs.length = ds.length
  | [], [], _ => rfl
  | v :: vs, d :: ds, r => by cases r with | cons a b => rw [List.length_cons, List.length_cons, RpL.length b]
  | [], d :: ds, r => by cases r
  | v :: vs, [], r => by cases r
theorem RpL.get : ∀ {vs : List V} {ds : List D} {i : Nat} {d : D}, RpL K h G vs ds → ds[i]? = some d → ∃ v, vs[i]? = some v ∧ Rp K h G v d
  | [], [], i, d, _, e => by simp at e
  | v :: vs, x :: ds, 0, d, r, e => by
    cases r with
    | cons a b =>
      have e' : x = d := by simpa using e
      subst e'
      exact ⟨v, rfl, a⟩
  | v :: vs, x :: ds, i + 1, d, r, e => by
    cases r with
    | cons a b =>
      obtain ⟨w, h1, h2⟩ := RpL.get (i := i) (d := d) b (by simpa using e)
      exact ⟨w, by simpa using h1, h2⟩
  | [], d :: ds, _, _, r, _ => by cases r
  | v :: vs, [], _, _, r, _ => by cases r
theorem RpL.get' {vs : List V} {ds : List D} {i : Nat} {v : V} (r : RpL K h G vs ds) (e : vs[i]? = some v) : ∃ d, ds[i]? = some d ∧ Rp K h G v d := by
  have hi : i < vs.length := (List.getElem?_eq_some_iff.mp e).1
  rw [r.length] at hi
  obtain ⟨w, h1, h2⟩ := r.get (List.getElem?_eq_getElem hi)
  rw [e] at h1
  cases h1
  exact ⟨_, List.getElem?_eq_getElem hi, h2⟩
theorem RpL.append : ∀ {vs ws : List V} {ds es : List D}, RpL K h G vs ds → RpL K h G ws es → RpL K h G (vs ++ ws) (ds ++ es)
  | [], _, [], _, _, s => s
  | v :: vs, _, d :: ds, _, r, s => by cases r with | cons a b => exact .cons a (RpL.append b s)
  | [], _, d :: ds, _, r, _ => by cases r
  | v :: vs, _, [], _, r, _ => by cases r
theorem RpL.take : ∀ (n : Nat) {vs : List V} {ds : List D}, RpL K h G vs ds → RpL K h G (vs.take n) (ds.take n)
  | 0, _, _, _ => by rw [List.take_zero, List.take_zero]; exact .nil
  | n + 1, [], [], _ => .nil
  | n + 1, v :: vs, d :: ds, r => by cases r with | cons a b => exact .cons a (RpL.take n b)
  | n + 1, [], d :: ds, r => by cases r
  | n + 1, v :: vs, [], r => by cases r
theorem RpL.drop : ∀ (n : Nat) {vs : List V} {ds : List D}, RpL K h G vs ds → RpL K h G (vs.drop n) (ds.drop n)
  | 0, _, _, r => r
  | n + 1, [], [], _ => .nil
  | n + 1, v :: vs, d :: ds, r => by cases r with | cons a b => exact RpL.drop n b
  | n + 1, [], d :: ds, r => by cases r
  | n + 1, v :: vs, [], r => by cases r
theorem RpL.set {v : V} {d : D} (q : Rp K h G v d) : ∀ (n : Nat) {vs : List V} {ds : List D}, RpL K h G vs ds → RpL K h G (vs.set n v) (ds.set n d)
  | n, [], [], _ => .nil
  | 0, x :: vs, y :: ds, r => by cases r with | cons a b => exact .cons q b
  | n + 1, x :: vs, y :: ds, r => by cases r with | cons a b => exact .cons a (RpL.set q n b)
  | n, [], d :: ds, r => by cases r
  | n, v :: vs, [], r => by cases r
theorem RpL.ints {G : Hp} : ∀ {vs : List V} {ns : List Int}, RpL K h G vs (ns.map D.int) → vs = ns.map V.int
  | [], [], _ => rfl
  | v :: vs, n :: ns, r => by
    cases r with
    | cons a b =>
      cases a
      rw [List.map_cons, RpL.ints b]
  | [], d :: ds, r => by cases r
  | v :: vs, [], r => by cases r
theorem RpL.ofInts {G : Hp} : ∀ (ns : List Int), RpL K h G (ns.map V.int) (ns.map D.int)
  | [] => .nil
  | n :: ns => .cons (.int n) (RpL.ofInts ns)
theorem Rp.tup_inv {v : V} {ds : List D} (r : Rp K h G v (.tup ds)) : ∃ a vs, v = .ref a ∧ G a = some (.tup vs) ∧ RpL K h G vs ds := by
  cases r with | tup q l => exact ⟨_, _, rfl, q, l⟩
theorem Rp.lst_inv {v : V} {ds : List D} (r : Rp K h G v (.lst ds)) : ∃ a vs, v = .ref a ∧ G a = some (.lst vs) ∧ RpL K h G vs ds := by
  cases r with | lst q l => exact ⟨_, _, rfl, q, l⟩
theorem RpK.length : ∀ {vs : List (Key × V)} {ds : List (Key × D)}, RpK K h G vs ds → vs.length = ds.length
  | [], [], _ => rfl
  | v :: vs, d :: ds, r => by cases r with | cons a b => rw [List.length_cons, List.length_cons, RpK.length b]
  | [], d :: ds, r => by cases r
  | v :: vs, [], r => by cases r
theorem RpT.length : ∀ {vs : List (List Key × V)} {ds : List (List Key × D)}, RpT K h G vs ds → vs.length = ds.length
  | [], [], _ => rfl
  | v :: vs, d :: ds, r => by cases r with | cons a b => rw [List.length_cons, List.length_cons, RpT.length b]
  | [], d :: ds, r => by cases r
  | v :: vs, [], r => by cases r
theorem RpK.get' : ∀ {vs : List (Key × V)} {ds : List (Key × D)} {i : Nat} {k : Key} {v : V}, RpK K h G vs ds → vs[i]? = some (k, v) → ∃ d, ds[i]? = some (k, d) ∧ Rp K h G v d
  | [], [], i, k, v, _, e => by simp at e
  | x :: vs, y :: ds, 0, k, v, r, e => by
    cases r with
    | cons a b =>
      have e' := Option.some.inj (show some _ = some (k, v) from e)
      cases e'
      exact ⟨_, rfl, a⟩
  | x :: vs, y :: ds, i + 1, k, v, r, e => by
    cases r with
    | cons a b =>
      obtain ⟨d, h1, h2⟩ := RpK.get' (i := i) (k := k) (v := v) b (by simpa using e)
      exact ⟨d, by simpa using h1, h2⟩
  | [], d :: ds, _, _, _, r, _ => by cases r
  | v :: vs, [], _, _, _, r, _ => by cases r
theorem RpT.get' : ∀ {vs : List (List Key × V)} {ds : List (List Key × D)} {i : Nat} {k : List Key} {v : V}, RpT K h G vs ds → vs[i]? = some (k, v) → ∃ d, ds[i]? = some (k, d) ∧ Rp K h G v d
  | [], [], i, k, v, _, e => by simp at e
  | x :: vs, y :: ds, 0, k, v, r, e => by
    cases r with
    | cons a b =>
      have e' := Option.some.inj (show some _ = some (k, v) from e)
      cases e'
      exact ⟨_, rfl, a⟩
  | x :: vs, y :: ds, i + 1, k, v, r, e => by
    cases r with
    | cons a b =>
      obtain ⟨d, h1, h2⟩ := RpT.get' (i := i) (k := k) (v := v) b (by simpa using e)
      exact ⟨d, by simpa using h1, h2⟩
  | [], d :: ds, _, _, _, r, _ => by cases r
  | v :: vs, [], _, _, _, r, _ => by cases r
end

theorem tq {K : PySem.W.Frag} {G H : Hp} {a : Addr} {vs : List V} (e : Ex G H) (h : G a = some (.tup vs)) : SqT K H a vs := st_of (e _ _ h)
theorem lq {K : PySem.W.Frag} {G H : Hp} {a : Addr} {vs : List V} (e : Ex G H) (h : G a = some (.lst vs)) : SqL K H a vs := sq_of (e _ _ h)
/-! ### dicts of data, by keys of any kind -/
section
variable {κ : Type} [DecidableEq κ]
def dGet (kvs : List (κ × D)) (k : κ) : Option D := (kvs.find? fun kv => decide (kv.1 = k)).map (·.2)
def dPut (kvs : List (κ × D)) (k : κ) (v : D) : List (κ × D) :=
  if (kvs.any fun kv => decide (kv.1 = k)) = true then kvs.map (fun kv => if kv.1 = k then (kv.1, v) else kv) else kvs ++ [(k, v)]
end
section
variable {K : PySem.W.Frag} {h : Addr} {G : Hp}
theorem RpK.any (k : Key) : ∀ {vs : List (Key × V)} {ds : List (Key × D)}, RpK K h G vs ds → (vs.any fun kv => decide (kv.1 = k)) = (ds.any fun kv => decide (kv.1 = k))
  | [], [], _ => rfl
  | x :: vs, y :: ds, r => by cases r with | cons a b => rw [List.any_cons, List.any_cons, RpK.any k b]
  | [], d :: ds, r => by cases r
  | v :: vs, [], r => by cases r
theorem RpK.find (k : Key) : ∀ {vs : List (Key × V)} {ds : List (Key × D)}, RpK K h G vs ds → (valV vs k = none ∧ dGet ds k = none) ∨ ∃ v d, valV vs k = some v ∧ dGet ds k = some d ∧ Rp K h G v d
  | [], [], _ => .inl ⟨rfl, rfl⟩
  | x :: vs, y :: ds, r => by
    cases r with
    | @cons k' v _ d _ a b =>
      by_cases e : k' = k
      · refine .inr ⟨v, d, valV_pos e, ?_, a⟩
        simp [dGet, List.find?_cons, e]
      · rw [valV_neg e]
        have e2 : dGet ((k', d) :: ds) k = dGet ds k := by simp [dGet, List.find?_cons, e]
        rw [e2]
        exact RpK.find k b
  | [], d :: ds, r => by cases r
  | v :: vs, [], r => by cases r
theorem RpK.rep (k : Key) {v : V} {d : D} (q : Rp K h G v d) : ∀ {vs : List (Key × V)} {ds : List (Key × D)}, RpK K h G vs ds →
    RpK K h G (vs.map fun kv => if kv.1 = k then (kv.1, v) else kv) (ds.map fun kv => if kv.1 = k then (kv.1, d) else kv)
  | [], [], _ => .nil
  | x :: vs, y :: ds, r => by
    cases r with
    | @cons k' v' _ d' _ a b =>
      rw [List.map_cons, List.map_cons]
      by_cases e : k' = k
      · rw [if_pos e, if_pos e]; exact .cons q (RpK.rep k q b)
      · rw [if_neg e, if_neg e]; exact .cons a (RpK.rep k q b)
  | [], d :: ds, r => by cases r
  | v :: vs, [], r => by cases r
theorem RpK.snoc {k : Key} {v : V} {d : D} (q : Rp K h G v d) : ∀ {vs : List (Key × V)} {ds : List (Key × D)}, RpK K h G vs ds → RpK K h G (vs ++ [(k, v)]) (ds ++ [(k, d)])
  | [], [], _ => .cons q .nil
  | x :: vs, y :: ds, r => by cases r with | cons a b => exact .cons a (RpK.snoc q b)
  | [], d :: ds, r => by cases r
  | v :: vs, [], r => by cases r
theorem RpK.put (k : Key) {v : V} {d : D} (q : Rp K h G v d) {vs : List (Key × V)} {ds : List (Key × D)} (r : RpK K h G vs ds) : RpK K h G (putK vs k v) (dPut ds k d) := by
  unfold putK dPut
  rw [r.any k]
  split
  · exact r.rep k q
  · exact r.snoc q
theorem RpT.any (k : List Key) : ∀ {vs : List (List Key × V)} {ds : List (List Key × D)}, RpT K h G vs ds → (vs.any fun kv => decide (kv.1 = k)) = (ds.any fun kv => decide (kv.1 = k))
  | [], [], _ => rfl
  | x :: vs, y :: ds, r => by cases r with | cons a b => rw [List.any_cons, List.any_cons, RpT.any k b]
  | [], d :: ds, r => by cases r
  | v :: vs, [], r => by cases r
theorem RpT.find (k : List Key) : ∀ {vs : List (List Key × V)} {ds : List (List Key × D)}, RpT K h G vs ds → (valV vs k = none ∧ dGet ds k = none) ∨ ∃ v d, valV vs k = some v ∧ dGet ds k = some d ∧ Rp K h G v d
  | [], [], _ => .inl ⟨rfl, rfl⟩
  | x :: vs, y :: ds, r => by
    cases r with
    | @cons k' v _ d _ a b =>
      by_cases e : k' = k
      · refine .inr ⟨v, d, valV_pos e, ?_, a⟩
        simp [dGet, List.find?_cons, e]
      · rw [valV_neg e]
        have e2 : dGet ((k', d) :: ds) k = dGet ds k := by simp [dGet, List.find?_cons, e]
        rw [e2]
        exact RpT.find k b
  | [], d :: ds, r => by cases r
  | v :: vs, [], r => by cases r
theorem RpT.rep (k : List Key) {v : V} {d : D} (q : Rp K h G v d) : ∀ {vs : List (List Key × V)} {ds : List (List Key × D)}, RpT K h G vs ds →
    RpT K h G (vs.map fun kv => if kv.1 = k then (kv.1, v) else kv) (ds.map fun kv => if kv.1 = k then (kv.1, d) else kv)
  | [], [], _ => .nil
  | x :: vs, y :: ds, r => by
    cases r with
    | @cons k' v' _ d' _ a b =>
      rw [List.map_cons, List.map_cons]
      by_cases e : k' = k
      · rw [if_pos e, if_pos e]; exact .cons q (RpT.rep k q b)
      · rw [if_neg e, if_neg e]; exact .cons a (RpT.rep k q b)
  | [], d :: ds, r => by cases r
  | v :: vs, [], r => by cases r
theorem RpT.snoc {k : List Key} {v : V} {d : D} (q : Rp K h G v d) : ∀ {vs : List (List Key × V)} {ds : List (List Key × D)}, RpT K h G vs ds → RpT K h G (vs ++ [(k, v)]) (ds ++ [(k, d)])
  | [], [], _ => .cons q .nil
  | x :: vs, y :: ds, r => by cases r with | cons a b => exact .cons a (RpT.snoc q b)
  | [], d :: ds, r => by cases r
  | v :: vs, [], r => by cases r
theorem RpT.put (k : List Key) {v : V} {d : D} (q : Rp K h G v d) {vs : List (List Key × V)} {ds : List (List Key × D)} (r : RpT K h G vs ds) : RpT K h G (putK vs k v) (dPut ds k d) := by
  unfold putK dPut
  rw [r.any k]
  split
  · exact r.rep k q
  · exact r.snoc q
end


/-! ### the state by data -/
structure Par where
  K : PySem.W.Frag
  h : Addr
  H0 : Hp
  G0 : Hp
inductive Cell where
  | d (x : D) | ol (xs : List D) | ok (kvs : List (Key × D)) | ot (kvs : List (List Key × D)) | rw (a : Addr) (o : HO)
  /-- locked while it is walked -/
  | lk (kvs : List (Key × D)) | lt (kvs : List (List Key × D))
def Cell.isOwn : Cell → Bool
  | .d _ => false
  | _ => true
abbrev Rho := List (Option Cell)

/-- the hand: cells, at, the rest, the count -/
def Hand (K : PySem.W.Frag) (G H : Hp) (h : Addr) : Prop := ∃ (c : Addr) (ns : List Int) (i r n : Int), H h = some (.lst [.ref c, .int i, .int r, .int n]) ∧ G c = some (.lst (ns.map V.int)) ∧ ns.length ≤ 63 ∧ 0 ≤ i ∧ 0 ≤ r ∧ 0 ≤ n
structure Mem (p : Par) (G H : Hp) : Prop where
  sub : Ex G H
  gh : G p.h = none
  base : ∀ a o, a ≠ p.h → p.H0 a = some o → H a = some o
  g0 : Ex p.G0 G
  new : ∀ a o, G a = some o → p.G0 a = some o ∨ p.H0 a = none ∨ ((∃ xs, o = .tup xs) ∧ p.H0 a = some o)
  hand : Hand p.K G H p.h
/-- evaluation: what the heaps G, H become -/
abbrev Stp (p : Par) (G H G' H' : Hp) : Prop := Mem ⟨p.K, p.h, H, G⟩ G' H'
/-- no tuple -/
def NT (o : HO) : Prop := ∀ xs, o ≠ .tup xs
def Own (p : Par) (G : Hp) (a : Addr) : Prop := G a = none ∧ p.H0 a = none ∧ a ≠ p.h
def Slot (p : Par) (G H : Hp) (sv : Option V) : Cell → Prop
  | .d x => ∃ v, sv = some v ∧ Rp p.K p.h G v x
  | .ol xs => ∃ a vs, sv = some (.ref a) ∧ Own p G a ∧ H a = some (.lst vs) ∧ RpL p.K p.h G vs xs
  | .ok kvs => ∃ a vs, sv = some (.ref a) ∧ Own p G a ∧ H a = some (.dK vs) ∧ RpK p.K p.h G vs kvs
  | .ot kvs => ∃ a vs, sv = some (.ref a) ∧ Own p G a ∧ H a = some (.dT vs) ∧ RpT p.K p.h G vs kvs
  | .rw a o => sv = some (.ref a) ∧ Own p G a ∧ H a = some o ∧ NT o
  | .lk kvs => ∃ a od vs, sv = some (.ref a) ∧ Own p G a ∧ H a = some (.frz od (.dK vs)) ∧ RpK p.K p.h G vs kvs
  | .lt kvs => ∃ a od vs, sv = some (.ref a) ∧ Own p G a ∧ H a = some (.frz od (.dT vs)) ∧ RpT p.K p.h G vs kvs
structure Hold (p : Par) (ρ : Rho) (G : Hp) (σ : L2.St) (H : Hp) : Prop where
  mem : Mem p G H
  len : σ.length = ρ.length
  slot : ∀ (i : Nat) (c : Cell), ρ[i]? = some (some c) → ∃ sv, σ[i]? = some sv ∧ Slot p G H sv c
  sep : ∀ (i j : Nat) (c c' : Cell) (a : Addr), ρ[i]? = some (some c) → c.isOwn = true → ρ[j]? = some (some c') → c'.isOwn = true → σ[i]? = some (some (.ref a)) → σ[j]? = some (some (.ref a)) → i = j

theorem Ex.none_of {G H : Hp} (e : Ex G H) {a : Addr} (h : H a = none) : G a = none := Evl.fresh_back e h
theorem Hand.mono {K : PySem.W.Frag} {G G' H H' : Hp} {h : Addr} (x : Hand K G H h) (e : Ex G G') (q : H' h = H h) : Hand K G' H' h := by
  obtain ⟨c, ns, i, r, n, h1, h2, h3⟩ := x
  exact ⟨c, ns, i, r, n, by rw [q]; exact h1, e _ _ h2, h3⟩
theorem Hand.some {K : PySem.W.Frag} {G H : Hp} {h : Addr} (x : Hand K G H h) : ∃ o, H h = some o := by
  obtain ⟨c, ns, i, r, n, h1, _⟩ := x
  exact ⟨_, h1⟩

section
variable {p : Par} {G H G1 H1 G2 H2 : Hp} {ρ : Rho} {σ : L2.St}
theorem Mem.refl (m : Mem p G H) : Stp p G H G H := ⟨m.sub, m.gh, fun _ _ _ e => e, fun _ _ e => e, fun _ _ e => .inl e, m.hand⟩
/-- behind an evaluation -/
theorem Mem.step (m : Mem p G H) (s : Stp p G H G1 H1) : Mem p G1 H1 where
  sub := s.sub
  gh := s.gh
  base := fun a o n e => s.base a o n (m.base a o n e)
  g0 := fun a o e => s.g0 a o (m.g0 a o e)
  new := fun a o e => by
    by_cases ha : a = p.h
    · rw [ha, s.gh] at e; cases e
    rcases s.new a o e with q | q | ⟨t, q⟩
    · exact m.new a o q
    · right; left
      cases z : p.H0 a with
      | none => rfl
      | some o' =>
        have := m.base a o' ha z
        have q' : H a = none := q
        rw [q'] at this; cases this
    · cases z : p.H0 a with
      | none => exact .inr (.inl rfl)
      | some o' =>
        have := m.base a o' ha z
        have q' : H a = some o := q
        rw [q'] at this; cases this
        exact .inr (.inr ⟨t, rfl⟩)
  hand := s.hand
theorem Stp.trans (s : Stp p G H G1 H1) (t : Stp p G1 H1 G2 H2) : Stp p G H G2 H2 := Mem.step (p := ⟨p.K, p.h, H, G⟩) s t
theorem Stp.ex (s : Stp p G H G1 H1) : Ex G G1 := s.g0
theorem Slot.step {sv : Option V} {c : Cell} (x : Slot p G H sv c) (s : Stp p G H G1 H1) : Slot p G1 H1 sv c := by
  have own : ∀ {a o}, NT o → Own p G a → H a = some o → Own p G1 a ∧ H1 a = some o := fun {a o} nt q e => by
    refine ⟨⟨?_, q.2⟩, s.base a o q.2.2 e⟩
    cases z : G1 a with
    | none => rfl
    | some u =>
      rcases s.new a u z with r | r | ⟨⟨xs, t⟩, r⟩
      · have r' : G a = some u := r
        rw [q.1] at r'; cases r'
      · have r' : H a = none := r
        rw [e] at r'; cases r'
      · have r' : H a = some u := r
        rw [e] at r'; cases r'
        exact (nt xs t).elim
  cases c with
  | d x => obtain ⟨v, h1, h2⟩ := x; exact ⟨v, h1, rmono h2 s.ex⟩
  | ol xs => obtain ⟨a, vs, h1, h2, h3, h4⟩ := x; obtain ⟨o1, o2⟩ := own (by intro _ z; cases z) h2 h3; exact ⟨a, vs, h1, o1, o2, lmono h4 s.ex⟩
  | ok xs => obtain ⟨a, vs, h1, h2, h3, h4⟩ := x; obtain ⟨o1, o2⟩ := own (by intro _ z; cases z) h2 h3; exact ⟨a, vs, h1, o1, o2, RpK.mono s.ex _ _ h4⟩
  | ot xs => obtain ⟨a, vs, h1, h2, h3, h4⟩ := x; obtain ⟨o1, o2⟩ := own (by intro _ z; cases z) h2 h3; exact ⟨a, vs, h1, o1, o2, RpT.mono s.ex _ _ h4⟩
  | rw a o => obtain ⟨h1, h2, h3, h4⟩ := x; obtain ⟨o1, o2⟩ := own h4 h2 h3; exact ⟨h1, o1, o2, h4⟩
  | lk xs => obtain ⟨a, od, vs, h1, h2, h3, h4⟩ := x; obtain ⟨o1, o2⟩ := own (by intro _ z; cases z) h2 h3; exact ⟨a, od, vs, h1, o1, o2, RpK.mono s.ex _ _ h4⟩
  | lt xs => obtain ⟨a, od, vs, h1, h2, h3, h4⟩ := x; obtain ⟨o1, o2⟩ := own (by intro _ z; cases z) h2 h3; exact ⟨a, od, vs, h1, o1, o2, RpT.mono s.ex _ _ h4⟩
theorem Hold.step (h : Hold p ρ G σ H) (s : Stp p G H G1 H1) : Hold p ρ G1 σ H1 :=
  ⟨h.mem.step s, h.len, fun i c e => by obtain ⟨sv, h1, h2⟩ := h.slot i c e; exact ⟨sv, h1, h2.step s⟩, h.sep⟩
/-- a new object, known from now on -/
theorem Mem.grow (m : Mem p G H) {a : Addr} {o : HO} (n : H a = none) : Stp p G H (upd G a o) (upd H a o) where
  sub := fun b u e => by
    by_cases hb : b = a
    · subst hb; rw [upd_same] at e ⊢; exact e
    · rw [upd_ne hb] at e ⊢; exact m.sub b u e
  gh := by
    obtain ⟨u, hu⟩ := m.hand.some
    show upd G a o p.h = none
    rw [upd_ne (ne_of_none hu n)]
    exact m.gh
  base := fun b u _ e => by
    show upd H a o b = some u
    rw [upd_ne (ne_of_none e n)]
    exact e
  g0 := fun b u e => by
    show upd G a o b = some u
    rw [upd_ne (ne_of_none (m.sub b u e) n)]
    exact e
  new := fun b u e => by
    by_cases hb : b = a
    · subst hb; exact .inr (.inl n)
    · rw [upd_ne hb] at e; exact .inl e
  hand := by
    obtain ⟨u, hu⟩ := m.hand.some
    exact m.hand.mono (fun b u e => by rw [upd_ne (ne_of_none (m.sub b u e) n)]; exact e) (upd_ne (ne_of_none hu n))
/-- a new object, not known -/
theorem Mem.growO (m : Mem p G H) {a : Addr} {o : HO} (n : H a = none) : Stp p G H G (upd H a o) where
  sub := fun b u e => by
    rw [upd_ne (ne_of_none (m.sub b u e) n)]; exact m.sub b u e
  gh := m.gh
  base := fun b u _ e => by
    show upd H a o b = some u
    rw [upd_ne (ne_of_none e n)]
    exact e
  g0 := fun b u e => e
  new := fun b u e => .inl e
  hand := by
    obtain ⟨u, hu⟩ := m.hand.some
    exact m.hand.mono (fun b u e => e) (upd_ne (ne_of_none hu n))
theorem Mem.fresh (m : Mem p G H) {a : Addr} (n : H a = none) : Own p G a := by
  refine ⟨Ex.none_of m.sub n, ?_, ?_⟩
  · cases z : p.H0 a with
    | none => rfl
    | some o' =>
      by_cases ha : a = p.h
      · obtain ⟨u, hu⟩ := m.hand.some
        rw [← ha, n] at hu; cases hu
      · have := m.base a o' ha z
        rw [n] at this; cases this
  · intro ha
    obtain ⟨u, hu⟩ := m.hand.some
    rw [← ha, n] at hu; cases hu

theorem Hold.setD (h : Hold p ρ G σ H) {i : Nat} {v : V} {x : D} (r : Rp p.K p.h G v x) : Hold p (ρ.set i (some (.d x))) G (σ.set i (some v)) H := by
  refine ⟨h.mem, by rw [List.length_set, List.length_set]; exact h.len, fun j c e => ?_, fun j k c c' a e1 o1 e2 o2 e3 e4 => ?_⟩
  · by_cases hj : i = j
    · subst hj
      by_cases hi : i < ρ.length
      · rw [List.getElem?_set_self hi] at e
        cases e
        refine ⟨some v, by rw [List.getElem?_set_self (by rw [h.len]; exact hi)], v, rfl, r⟩
      · rw [List.getElem?_eq_none (by rw [List.length_set]; omega)] at e; cases e
    · rw [List.getElem?_set_ne hj] at e
      obtain ⟨sv, h1, h2⟩ := h.slot j c e
      exact ⟨sv, by rw [List.getElem?_set_ne hj]; exact h1, h2⟩
  · have ne : ∀ {m : Nat} {c : Cell}, (ρ.set i (some (.d x)))[m]? = some (some c) → c.isOwn = true → i ≠ m := fun {m c} e o z => by
      subst z
      by_cases hi : i < ρ.length
      · rw [List.getElem?_set_self hi] at e
        cases e
        cases o
      · rw [List.getElem?_eq_none (by rw [List.length_set]; omega)] at e; cases e
    have n1 := ne e1 o1
    have n2 := ne e2 o2
    rw [List.getElem?_set_ne n1] at e1 e3
    rw [List.getElem?_set_ne n2] at e2 e4
    exact h.sep j k c c' a e1 o1 e2 o2 e3 e4
theorem Cell.own_ref {c : Cell} {sv : Option V} (x : Slot p G H sv c) (o : c.isOwn = true) : ∃ a u, sv = some (.ref a) ∧ Own p G a ∧ H a = some u := by
  cases c with
  | d x => cases o
  | ol xs => obtain ⟨a, vs, h1, h2, h3, _⟩ := x; exact ⟨a, _, h1, h2, h3⟩
  | ok xs => obtain ⟨a, vs, h1, h2, h3, _⟩ := x; exact ⟨a, _, h1, h2, h3⟩
  | ot xs => obtain ⟨a, vs, h1, h2, h3, _⟩ := x; exact ⟨a, _, h1, h2, h3⟩
  | rw a u => obtain ⟨h1, h2, h3, _⟩ := x; exact ⟨a, _, h1, h2, h3⟩
  | lk xs => obtain ⟨a, od, vs, h1, h2, h3, _⟩ := x; exact ⟨a, _, h1, h2, h3⟩
  | lt xs => obtain ⟨a, od, vs, h1, h2, h3, _⟩ := x; exact ⟨a, _, h1, h2, h3⟩
/-- a slot is given an object that no other slot owns -/
theorem Hold.setO (h : Hold p ρ G σ H) {i : Nat} {a : Addr} {c : Cell} (x : Slot p G H (some (.ref a)) c) (hf : ∀ (j : Nat) (c' : Cell), ρ[j]? = some (some c') → c'.isOwn = true → σ[j]? = some (some (.ref a)) → j = i) :
    Hold p (ρ.set i (some c)) G (σ.set i (some (.ref a))) H := by
  refine ⟨h.mem, by rw [List.length_set, List.length_set]; exact h.len, fun j c' e => ?_, fun j k c1 c2 b e1 o1 e2 o2 e3 e4 => ?_⟩
  · by_cases hj : i = j
    · subst hj
      by_cases hi : i < ρ.length
      · rw [List.getElem?_set_self hi] at e
        cases e
        exact ⟨some (.ref a), by rw [List.getElem?_set_self (by rw [h.len]; exact hi)], x⟩
      · rw [List.getElem?_eq_none (by rw [List.length_set]; omega)] at e; cases e
    · rw [List.getElem?_set_ne hj] at e
      obtain ⟨sv, h1, h2⟩ := h.slot j c' e
      exact ⟨sv, by rw [List.getElem?_set_ne hj]; exact h1, h2⟩
  · have at_i : ∀ {b}, (σ.set i (some (V.ref a)))[i]? = some (some (.ref b)) → b = a := fun {b} e => by
      by_cases hi : i < σ.length
      · rw [List.getElem?_set_self hi] at e; cases e; rfl
      · rw [List.getElem?_eq_none (by rw [List.length_set]; omega)] at e; cases e
    by_cases hj : i = j
    · by_cases hk : i = k
      · exact hj.symm.trans hk
      · subst hj
        have := at_i e3
        subst this
        rw [List.getElem?_set_ne hk] at e2 e4
        exact absurd (hf k c2 e2 o2 e4).symm hk
    · by_cases hk : i = k
      · subst hk
        have := at_i e4
        subst this
        rw [List.getElem?_set_ne hj] at e1 e3
        exact absurd (hf j c1 e1 o1 e3).symm hj
      · rw [List.getElem?_set_ne hj] at e1 e3
        rw [List.getElem?_set_ne hk] at e2 e4
        exact h.sep j k c1 c2 b e1 o1 e2 o2 e3 e4
theorem Hold.setNew (h : Hold p ρ G σ H) {i : Nat} {a : Addr} {c : Cell} (s : Stp p G H G1 H1) (n : H a = none) (x : Slot p G1 H1 (some (.ref a)) c) : Hold p (ρ.set i (some c)) G1 (σ.set i (some (.ref a))) H1 :=
  (h.step s).setO x fun j c' e o q => by
    obtain ⟨sv, h1, h2⟩ := h.slot j c' e
    obtain ⟨b, u, e1, _, e3⟩ := Cell.own_ref h2 o
    rw [h1] at q
    rw [e1] at q
    cases q
    rw [n] at e3; cases e3
/-- what slot i owns is changed -/
theorem Hold.write (h : Hold p ρ G σ H) {i : Nat} {c c' : Cell} {a : Addr} {o : HO} (e : ρ[i]? = some (some c)) (ho : c.isOwn = true) (q : σ[i]? = some (some (.ref a))) (ow : Own p G a) (x : Slot p G (upd H a o) (some (.ref a)) c') :
    Hold p (ρ.set i (some c')) G σ (upd H a o) := by
  have m : Mem p G (upd H a o) := ⟨fun b u z => by rw [upd_ne (ne_of_none z ow.1)]; exact h.mem.sub b u z, h.mem.gh, fun b u n z => by rw [upd_ne (ne_of_none z ow.2.1)]; exact h.mem.base b u n z, h.mem.g0, h.mem.new,
    h.mem.hand.mono (fun _ _ z => z) (upd_ne (Ne.symm ow.2.2))⟩
  refine ⟨m, by rw [List.length_set]; exact h.len, fun j c1 e1 => ?_, fun j k c1 c2 b e1 o1 e2 o2 e3 e4 => ?_⟩
  · by_cases hj : i = j
    · subst hj
      rw [List.getElem?_set_self (List.getElem?_eq_some_iff.mp e).1] at e1
      cases e1
      exact ⟨_, q, x⟩
    · rw [List.getElem?_set_ne hj] at e1
      obtain ⟨sv, h1, h2⟩ := h.slot j c1 e1
      refine ⟨sv, h1, ?_⟩
      have far : c1.isOwn = true → ∀ b, sv = some (.ref b) → b ≠ a := fun o1 b eb z => by
        subst z
        rw [eb] at h1
        exact hj (h.sep i j c c1 b e ho e1 o1 q h1)
      cases c1 with
      | d x => exact h2
      | ol xs => obtain ⟨b, vs, h3, h4, h5, h6⟩ := h2; exact ⟨b, vs, h3, h4, by rw [upd_ne (far rfl b h3)]; exact h5, h6⟩
      | ok xs => obtain ⟨b, vs, h3, h4, h5, h6⟩ := h2; exact ⟨b, vs, h3, h4, by rw [upd_ne (far rfl b h3)]; exact h5, h6⟩
      | ot xs => obtain ⟨b, vs, h3, h4, h5, h6⟩ := h2; exact ⟨b, vs, h3, h4, by rw [upd_ne (far rfl b h3)]; exact h5, h6⟩
      | rw b u => obtain ⟨h3, h4, h5, h6⟩ := h2; exact ⟨h3, h4, by rw [upd_ne (far rfl b h3)]; exact h5, h6⟩
      | lk xs => obtain ⟨b, od, vs, h3, h4, h5, h6⟩ := h2; exact ⟨b, od, vs, h3, h4, by rw [upd_ne (far rfl b h3)]; exact h5, h6⟩
      | lt xs => obtain ⟨b, od, vs, h3, h4, h5, h6⟩ := h2; exact ⟨b, od, vs, h3, h4, by rw [upd_ne (far rfl b h3)]; exact h5, h6⟩
  · have own : ∀ {m : Nat} {c1 : Cell}, (ρ.set i (some c'))[m]? = some (some c1) → c1.isOwn = true → ∃ c2, ρ[m]? = some (some c2) ∧ c2.isOwn = true := fun {m c1} e1 o1 => by
      by_cases hm : i = m
      · subst hm; exact ⟨c, e, ho⟩
      · rw [List.getElem?_set_ne hm] at e1; exact ⟨c1, e1, o1⟩
    obtain ⟨d1, f1, g1⟩ := own e1 o1
    obtain ⟨d2, f2, g2⟩ := own e2 o2
    exact h.sep j k d1 d2 b f1 g1 f2 g2 e3 e4
/-- what slot i owns is from now on known and no longer changed -/
theorem Hold.freeze (h : Hold p ρ G σ H) {i : Nat} {c : Cell} {a : Addr} {o : HO} {x : D} (e : ρ[i]? = some (some c)) (ho : c.isOwn = true) (q : σ[i]? = some (some (.ref a))) (ow : Own p G a) (ha : H a = some o) (r : Rp p.K p.h (upd G a o) (.ref a) x) :
    Hold p (ρ.set i (some (.d x))) (upd G a o) σ H ∧ Ex G (upd G a o) := by
  have ex : Ex G (upd G a o) := fun b u z => by rw [upd_ne (ne_of_none z ow.1)]; exact z
  have m : Mem p (upd G a o) H := ⟨fun b u z => by
      by_cases hb : b = a
      · subst hb; rw [upd_same] at z; cases z; exact ha
      · rw [upd_ne hb] at z; exact h.mem.sub b u z, by rw [upd_ne (Ne.symm ow.2.2)]; exact h.mem.gh, h.mem.base, fun b u z => ex b u (h.mem.g0 b u z), fun b u z => by
      by_cases hb : b = a
      · subst hb; exact .inr (.inl ow.2.1)
      · rw [upd_ne hb] at z; exact h.mem.new b u z, h.mem.hand.mono ex rfl⟩
  refine ⟨⟨m, by rw [List.length_set]; exact h.len, fun j c1 e1 => ?_, fun j k c1 c2 b e1 o1 e2 o2 e3 e4 => ?_⟩, ex⟩
  · by_cases hj : i = j
    · subst hj
      rw [List.getElem?_set_self (List.getElem?_eq_some_iff.mp e).1] at e1
      cases e1
      exact ⟨_, q, _, rfl, r⟩
    · rw [List.getElem?_set_ne hj] at e1
      obtain ⟨sv, h1, h2⟩ := h.slot j c1 e1
      refine ⟨sv, h1, ?_⟩
      have far : c1.isOwn = true → ∀ b, sv = some (.ref b) → Own p G b → Own p (upd G a o) b := fun o1 b eb ob => by
        refine ⟨?_, ob.2⟩
        rw [upd_ne]
        · exact ob.1
        · intro z
          subst z
          rw [eb] at h1
          exact hj (h.sep i j c c1 b e ho e1 o1 q h1)
      cases c1 with
      | d x => obtain ⟨v, h3, h4⟩ := h2; exact ⟨v, h3, rmono h4 ex⟩
      | ol xs => obtain ⟨b, vs, h3, h4, h5, h6⟩ := h2; exact ⟨b, vs, h3, far rfl b h3 h4, h5, lmono h6 ex⟩
      | ok xs => obtain ⟨b, vs, h3, h4, h5, h6⟩ := h2; exact ⟨b, vs, h3, far rfl b h3 h4, h5, RpK.mono ex _ _ h6⟩
      | ot xs => obtain ⟨b, vs, h3, h4, h5, h6⟩ := h2; exact ⟨b, vs, h3, far rfl b h3 h4, h5, RpT.mono ex _ _ h6⟩
      | rw b u => obtain ⟨h3, h4, h5⟩ := h2; exact ⟨h3, far rfl b h3 h4, h5⟩
      | lk xs => obtain ⟨b, od, vs, h3, h4, h5, h6⟩ := h2; exact ⟨b, od, vs, h3, far rfl b h3 h4, h5, RpK.mono ex _ _ h6⟩
      | lt xs => obtain ⟨b, od, vs, h3, h4, h5, h6⟩ := h2; exact ⟨b, od, vs, h3, far rfl b h3 h4, h5, RpT.mono ex _ _ h6⟩
  · have own : ∀ {m : Nat} {c1 : Cell}, (ρ.set i (some (.d x)))[m]? = some (some c1) → c1.isOwn = true → ρ[m]? = some (some c1) := fun {m c1} e1 o1 => by
      by_cases hm : i = m
      · subst hm
        rw [List.getElem?_set_self (List.getElem?_eq_some_iff.mp e).1] at e1
        cases e1; cases o1
      · rw [List.getElem?_set_ne hm] at e1; exact e1
    exact h.sep j k c1 c2 b (own e1 o1) o1 (own e2 o2) o2 e3 e4
/-- a slot is forgotten -/
theorem Hold.drop (h : Hold p ρ G σ H) (i : Nat) : Hold p (ρ.set i none) G σ H := by
  have un : ∀ {j : Nat} {c : Cell}, (ρ.set i none)[j]? = some (some c) → ρ[j]? = some (some c) := fun {j c} e => by
    by_cases hj : i = j
    · subst hj
      by_cases hi : i < ρ.length
      · rw [List.getElem?_set_self hi] at e; cases e
      · rw [List.getElem?_eq_none (by rw [List.length_set]; omega)] at e; cases e
    · rw [List.getElem?_set_ne hj] at e; exact e
  exact ⟨h.mem, by rw [List.length_set]; exact h.len, fun j c e => h.slot j c (un e), fun j k c c' a e1 o1 e2 o2 => h.sep j k c c' a (un e1) o1 (un e2) o2⟩
theorem Hold.forget (h : Hold p ρ G σ H) (i : Nat) (v : Option V) : Hold p (ρ.set i none) G (σ.set i v) H := by
  have un : ∀ {j : Nat} {c : Cell}, (ρ.set i none)[j]? = some (some c) → i ≠ j ∧ ρ[j]? = some (some c) := fun {j c} e => by
    by_cases hj : i = j
    · subst hj
      by_cases hi : i < ρ.length
      · rw [List.getElem?_set_self hi] at e; cases e
      · rw [List.getElem?_eq_none (by rw [List.length_set]; omega)] at e; cases e
    · rw [List.getElem?_set_ne hj] at e; exact ⟨hj, e⟩
  refine ⟨h.mem, by rw [List.length_set, List.length_set]; exact h.len, fun j c e => ?_, fun j k c c' a e1 o1 e2 o2 e3 e4 => ?_⟩
  · obtain ⟨n, e⟩ := un e
    rw [List.getElem?_set_ne n]
    exact h.slot j c e
  · obtain ⟨n1, e1⟩ := un e1
    obtain ⟨n2, e2⟩ := un e2
    rw [List.getElem?_set_ne n1] at e3
    rw [List.getElem?_set_ne n2] at e4
    exact h.sep j k c c' a e1 o1 e2 o2 e3 e4
end


/-! ### judgements: what must be true of the data so that a piece of the body runs to what is wanted -/
def WE (p : Par) (ρ : Rho) (te : TE) (Q : D → Prop) : Prop := ∀ G σ H, Hold p ρ G σ H → ∀ Qv : VK, (∀ d v G' H', Q d → Stp p G H G' H' → Rp p.K p.h G' v d → Qv v H') → te σ H Qv
def WT (p : Par) (ρ : Rho) (tt : TT) (Q : Bool → Prop) : Prop := ∀ G σ H, Hold p ρ G σ H → ∀ Qv : Bool → Hp → Prop, (∀ b G' H', Q b → Stp p G H G' H' → Qv b H') → tt σ H Qv
def WA (p : Par) (ρ : Rho) (ta : TA) (Q : List D → Prop) : Prop := ∀ G σ H, Hold p ρ G σ H → ∀ Qv : List V → Hp → Prop, (∀ ds vs G' H', Q ds → Stp p G H G' H' → RpL p.K p.h G' vs ds → Qv vs H') → ta σ H Qv
def WO (p : Par) (ρ : Rho) (to : TO) (Q : Option Int → Prop) : Prop := ∀ G σ H, Hold p ρ G σ H → ∀ Qv : Option Int → Hp → Prop, (∀ o G' H', Q o → Stp p G H G' H' → Qv o H') → to σ H Qv
/-- a new object that nobody else knows -/
def WF (p : Par) (ρ : Rho) (te : TE) (Q : Cell → Prop) : Prop := ∀ G σ H, Hold p ρ G σ H → ∀ Qv : VK, (∀ c a G' H', Q c → c.isOwn = true → Stp p G H G' H' → H a = none → Slot p G' H' (some (.ref a)) c → Qv (.ref a) H') → te σ H Qv
/-- an operation on values -/
def RO (p : Par) (r : R2) (x y : D) (Q : D → Prop) : Prop := ∀ G H v w, Mem p G H → Rp p.K p.h G v x → Rp p.K p.h G w y → ∀ Qv : VK, (∀ d u G' H', Q d → Stp p G H G' H' → Rp p.K p.h G' u d → Qv u H') → r v w H Qv
def RU (p : Par) (r : V → Hp → VK → Prop) (x : D) (Q : D → Prop) : Prop := ∀ G H v, Mem p G H → Rp p.K p.h G v x → ∀ Qv : VK, (∀ d u G' H', Q d → Stp p G H G' H' → Rp p.K p.h G' u d → Qv u H') → r v H Qv
def RC (p : Par) (r : List V → Hp → VK → Prop) (xs : List D) (Q : D → Prop) : Prop := ∀ G H vs, Mem p G H → RpL p.K p.h G vs xs → ∀ Qv : VK, (∀ d u G' H', Q d → Stp p G H G' H' → Rp p.K p.h G' u d → Qv u H') → r vs H Qv
structure Post where
  n : Rho → Prop
  r : D → Prop
  b : Rho → Prop := fun _ => False
  c : Rho → Prop := fun _ => False
def WS (p : Par) (ρ : Rho) (ts : TS) (P : Post) : Prop := ∀ G σ H, Hold p ρ G σ H → ∀ E : Ends,
  (∀ ρ' G' σ' H', P.n ρ' → Ex G G' → Hold p ρ' G' σ' H' → E.nx σ' H') → (∀ d v G' H', P.r d → Mem p G' H' → Rp p.K p.h G' v d → E.rt v H') →
  (∀ ρ' G' σ' H', P.b ρ' → Ex G G' → Hold p ρ' G' σ' H' → E.bk σ' H') → (∀ ρ' G' σ' H', P.c ρ' → Ex G G' → Hold p ρ' G' σ' H' → E.ct σ' H') → ts E σ H
def WG (p : Par) (ρ : Rho) (g : TG) (x : D) (N : Rho → Prop) : Prop := ∀ G σ H v, Hold p ρ G σ H → Rp p.K p.h G v x → ∀ Qs : L2.St → Hp → Prop, (∀ ρ' G' σ' H', N ρ' → Ex G G' → Hold p ρ' G' σ' H' → Qs σ' H') → g v σ H Qs
def WGs (p : Par) (ρ : Rho) (g : TGs) (xs : List D) (N : Rho → Prop) : Prop := ∀ G σ H vs, Hold p ρ G σ H → RpL p.K p.h G vs xs → ∀ Qs : L2.St → Hp → Prop, (∀ ρ' G' σ' H', N ρ' → Ex G G' → Hold p ρ' G' σ' H' → Qs σ' H') → g vs σ H Qs

section
variable {p : Par} {ρ : Rho} {Q : D → Prop} {ta tb te : TE} {tt tu : TT}
theorem WE.imp {Q' : D → Prop} (h : WE p ρ te Q') (k : ∀ d, Q' d → Q d) : WE p ρ te Q := fun G σ H hh Qv q => h G σ H hh Qv fun d v G' H' z => q d v G' H' (k d z)
theorem WT.imp {Q Q' : Bool → Prop} (h : WT p ρ tt Q') (k : ∀ d, Q' d → Q d) : WT p ρ tt Q := fun G σ H hh Qv q => h G σ H hh Qv fun d G' H' z => q d G' H' (k d z)
theorem WA.imp {ta : TA} {Q Q' : List D → Prop} (h : WA p ρ ta Q') (k : ∀ d, Q' d → Q d) : WA p ρ ta Q := fun G σ H hh Qv q => h G σ H hh Qv fun d v G' H' z => q d v G' H' (k d z)
theorem WS.imp {ts : TS} {P P' : Post} (h : WS p ρ ts P') (n : ∀ d, P'.n d → P.n d) (r : ∀ d, P'.r d → P.r d) (b : ∀ d, P'.b d → P.b d) (c : ∀ d, P'.c d → P.c d) : WS p ρ ts P := fun G σ H hh E kn kr kb kc =>
  h G σ H hh E (fun ρ' G' σ' H' z => kn ρ' G' σ' H' (n _ z)) (fun d v G' H' z => kr d v G' H' (r _ z)) (fun ρ' G' σ' H' z => kb ρ' G' σ' H' (b _ z)) (fun ρ' G' σ' H' z => kc ρ' G' σ' H' (c _ z))

/-! ### expressions -/
theorem we_var {i : Nat} {x : D} (e : ρ[i]? = some (some (.d x))) (q : Q x) : WE p ρ (tVar i) Q := fun G σ H h Qv k => by
  obtain ⟨sv, h1, v, h2, h3⟩ := h.slot i _ e
  subst h2
  exact ⟨v, h1, k x v G H q h.mem.refl h3⟩
theorem we_int {i : Int} (q : Q (.int i)) : WE p ρ (tC (.int i)) Q := fun G σ H h Qv k => k _ _ G H q h.mem.refl (.int i)
theorem we_bl {i : Bool} (q : Q (.bl i)) : WE p ρ (tC (.bl i)) Q := fun G σ H h Qv k => k _ _ G H q h.mem.refl (.bl i)
theorem we_non (q : Q .non) : WE p ρ (tC .non) Q := fun G σ H h Qv k => k _ _ G H q h.mem.refl .non
theorem we_str {i : Str} (q : Q (.str i)) : WE p ρ (tC (.str i)) Q := fun G σ H h Qv k => k _ _ G H q h.mem.refl (.str i)
theorem we_raw {v : V} (q : Q (.raw v)) : WE p ρ (tC v) Q := fun G σ H h Qv k => k _ _ G H q h.mem.refl (.raw v)
theorem we_op {r : R2} (h : WE p ρ ta fun x => WE p ρ tb fun y => RO p r x y Q) : WE p ρ (tOp r ta tb) Q := fun G σ H hh Qv k =>
  h G σ H hh _ fun x v G1 H1 hx s1 r1 => hx G1 σ H1 (hh.step s1) _ fun y w G2 H2 hy s2 r2 =>
    hy G2 H2 v w ((hh.step s1).step s2).mem (rmono r1 s2.ex) r2 Qv fun d u G3 H3 q s3 r3 => k d u G3 H3 q ((s1.trans s2).trans s3) r3
theorem we_un {r : V → Hp → VK → Prop} (h : WE p ρ ta fun x => RU p r x Q) : WE p ρ (tUn r ta) Q := fun G σ H hh Qv k =>
  h G σ H hh _ fun x v G1 H1 hx s1 r1 => hx G1 H1 v (hh.step s1).mem r1 Qv fun d u G3 H3 q s3 r3 => k d u G3 H3 q (s1.trans s3) r3
theorem we_cb {r : List V → Hp → VK → Prop} {ta : TA} (h : WA p ρ ta fun xs => RC p r xs Q) : WE p ρ (tCB r ta) Q := fun G σ H hh Qv k =>
  h G σ H hh _ fun x v G1 H1 hx s1 r1 => hx G1 H1 v (hh.step s1).mem r1 Qv fun d u G3 H3 q s3 r3 => k d u G3 H3 q (s1.trans s3) r3
theorem wa_nil {Q : List D → Prop} (q : Q []) : WA p ρ tNil Q := fun G σ H hh Qv k => k [] [] G H q hh.mem.refl .nil
theorem wa_cons {Q : List D → Prop} {tr : TA} (h : WE p ρ te fun x => WA p ρ tr fun xs => Q (x :: xs)) : WA p ρ (tCons te tr) Q := fun G σ H hh Qv k =>
  h G σ H hh _ fun x v G1 H1 hx s1 r1 => hx G1 σ H1 (hh.step s1) _ fun xs vs G2 H2 q s2 r2 => k (x :: xs) (v :: vs) G2 H2 q (s1.trans s2) (.cons (rmono r1 s2.ex) r2)

/-! ### scalars -/
/-- a scalar value as data -/
def inj : V → D
  | .non => .non
  | .bl b => .bl b
  | .int i => .int i
  | .str x => .str x
  | v => .raw v
theorem rp_inj {K : PySem.W.Frag} {h : Addr} {G : Hp} : ∀ v : V, Rp K h G v (inj v)
  | .non => .non
  | .bl b => .bl b
  | .int i => .int i
  | .str x => .str x
  | .byt b => .raw _
  | .flt b => .raw _
  | .ref a => .raw _
  | .ty n => .raw _
theorem rp_int {K : PySem.W.Frag} {h : Addr} {G : Hp} {v : V} {i : Int} (r : Rp K h G v (.int i)) : v = .int i := by cases r; rfl
theorem rp_bl {K : PySem.W.Frag} {h : Addr} {G : Hp} {v : V} {i : Bool} (r : Rp K h G v (.bl i)) : v = .bl i := by cases r; rfl
theorem rp_str {K : PySem.W.Frag} {h : Addr} {G : Hp} {v : V} {i : Str} (r : Rp K h G v (.str i)) : v = .str i := by cases r; rfl
theorem rp_non {K : PySem.W.Frag} {h : Addr} {G : Hp} {v : V} (r : Rp K h G v .non) : v = .non := by cases r; rfl
theorem we_I0 {g : Int → Int → V} (h : WE p ρ ta fun x => ∃ i, x = .int i ∧ WE p ρ tb fun y => ∃ j, y = .int j ∧ Q (inj (g i j))) : WE p ρ (tOp (rI0 g) ta tb) Q :=
  we_op (h.imp fun x ⟨i, e, h⟩ => h.imp fun y ⟨j, e2, q⟩ => fun G H v w m r1 r2 Qv k => by
    subst e e2
    exact ⟨i, j, rp_int r1, rp_int r2, k _ _ G H q m.refl (rp_inj _)⟩)
theorem we_I {C : Int → Int → Prop} {g : Int → Int → V} (h : WE p ρ ta fun x => ∃ i, x = .int i ∧ WE p ρ tb fun y => ∃ j, y = .int j ∧ C i j ∧ Q (inj (g i j))) : WE p ρ (tOp (rI C g) ta tb) Q :=
  we_op (h.imp fun x ⟨i, e, h⟩ => h.imp fun y ⟨j, e2, c, q⟩ => fun G H v w m r1 r2 Qv k => by
    subst e e2
    exact ⟨i, j, rp_int r1, rp_int r2, c, k _ _ G H q m.refl (rp_inj _)⟩)
theorem we_U {g : Int → V} (h : WE p ρ ta fun x => ∃ i, x = .int i ∧ Q (inj (g i))) : WE p ρ (tUn (rU g) ta) Q :=
  we_un (h.imp fun x ⟨i, e, q⟩ => fun G H v m r1 Qv k => by
    subst e
    exact ⟨i, rp_int r1, k _ _ G H q m.refl (rp_inj _)⟩)
theorem we_notV (h : WE p ρ ta fun x => ∃ b, x = .bl b ∧ Q (.bl (!b))) : WE p ρ (tNotV ta) Q := fun G σ H hh Qv k =>
  h G σ H hh _ fun x v G1 H1 ⟨b, e, q⟩ s1 r1 => by
    subst e
    exact ⟨b, rp_bl r1, k _ _ G1 H1 q s1 (.bl _)⟩
theorem we_andV (h : WE p ρ ta fun x => ∃ b, x = .bl b ∧ (b = true → WE p ρ tb Q) ∧ (b = false → Q (.bl false))) : WE p ρ (tAndV ta tb) Q := fun G σ H hh Qv k =>
  h G σ H hh _ fun x v G1 H1 ⟨b, e, q1, q2⟩ s1 r1 => by
    subst e
    refine ⟨b, rp_bl r1, ?_⟩
    cases b with
    | true => rw [if_pos rfl]; exact q1 rfl G1 σ H1 (hh.step s1) Qv fun d u G2 H2 q s2 r2 => k d u G2 H2 q (s1.trans s2) r2
    | false => rw [if_neg (by decide)]; exact k _ _ G1 H1 (q2 rfl) s1 (.bl _)
theorem we_orV (h : WE p ρ ta fun x => ∃ b, x = .bl b ∧ (b = false → WE p ρ tb Q) ∧ (b = true → Q (.bl true))) : WE p ρ (tOrV ta tb) Q := fun G σ H hh Qv k =>
  h G σ H hh _ fun x v G1 H1 ⟨b, e, q1, q2⟩ s1 r1 => by
    subst e
    refine ⟨b, rp_bl r1, ?_⟩
    cases b with
    | false => rw [if_neg (by decide)]; exact q1 rfl G1 σ H1 (hh.step s1) Qv fun d u G2 H2 q s2 r2 => k d u G2 H2 q (s1.trans s2) r2
    | true => rw [if_pos rfl]; exact k _ _ G1 H1 (q2 rfl) s1 (.bl _)
theorem we_if (h : WT p ρ tt fun b => if b = true then WE p ρ ta Q else WE p ρ tb Q) : WE p ρ (tIf tt ta tb) Q := fun G σ H hh Qv k =>
  h G σ H hh _ fun b G1 H1 q s1 => by
    cases b with
    | true => rw [if_pos rfl] at q ⊢; exact q G1 σ H1 (hh.step s1) Qv fun d u G2 H2 q s2 r2 => k d u G2 H2 q (s1.trans s2) r2
    | false => rw [if_neg (by decide)] at q ⊢; exact q G1 σ H1 (hh.step s1) Qv fun d u G2 H2 q s2 r2 => k d u G2 H2 q (s1.trans s2) r2
/-! ### tests -/
variable {R : Bool → Prop}
theorem wt_B (h : WE p ρ te fun x => ∃ b, x = .bl b ∧ R b) : WT p ρ (tB te) R := fun G σ H hh Qv k =>
  h G σ H hh _ fun x v G1 H1 ⟨b, e, q⟩ s1 r1 => by subst e; exact ⟨b, rp_bl r1, k b G1 H1 q s1⟩
theorem wt_T (h : WE p ρ te fun x => ∃ b, x = .bl b ∧ R b) : WT p ρ (tTest te) R := fun G σ H hh Qv k =>
  h G σ H hh _ fun x v G1 H1 ⟨b, e, q⟩ s1 r1 => by subst e; exact ⟨b, rp_bl r1, k b G1 H1 q s1⟩
theorem wt_not (h : WT p ρ tt fun b => R (!b)) : WT p ρ (tNot tt) R := fun G σ H hh Qv k => h G σ H hh _ fun b G1 H1 q s1 => k (!b) G1 H1 q s1
theorem wt_and (h : WT p ρ tt fun b => (b = true → WT p ρ tu R) ∧ (b = false → R false)) : WT p ρ (tAnd tt tu) R := fun G σ H hh Qv k => h G σ H hh _ fun b G1 H1 ⟨q1, q2⟩ s1 => by
  cases b with
  | true => show tu σ H1 Qv; exact q1 rfl G1 σ H1 (hh.step s1) Qv fun d G2 H2 q s2 => k d G2 H2 q (s1.trans s2)
  | false => show Qv false H1; exact k false G1 H1 (q2 rfl) s1
theorem wt_or (h : WT p ρ tt fun b => (b = false → WT p ρ tu R) ∧ (b = true → R true)) : WT p ρ (tOr tt tu) R := fun G σ H hh Qv k => h G σ H hh _ fun b G1 H1 ⟨q1, q2⟩ s1 => by
  cases b with
  | false => show tu σ H1 Qv; exact q1 rfl G1 σ H1 (hh.step s1) Qv fun d G2 H2 q s2 => k d G2 H2 q (s1.trans s2)
  | true => show Qv true H1; exact k true G1 H1 (q2 rfl) s1
theorem wt_yes (h : R true) : WT p ρ tYes R := fun G σ H hh Qv k => k true G H h hh.mem.refl
end

/-! ### tuples, lists -/
theorem sz {n : Nat} (h : n ≤ 4000000) : n ≤ sizeLine := Nat.le_trans h (by rw [sizeLine_eq]; decide)
section
variable {p : Par} {ρ : Rho} {Q : D → Prop} {ta tb te : TE} {tt tu : TT}
theorem we_tup {ta : TA} (h : WA p ρ ta fun ds => ds.length ≤ 4000000 ∧ Q (.tup ds)) : WE p ρ (tTup ta) Q := fun G σ H hh Qv k =>
  h G σ H hh _ fun ds vs G1 H1 ⟨hl, q⟩ s1 r1 => ⟨sz (by rw [r1.length]; exact hl), fun a ha => k _ _ _ _ q (s1.trans ((hh.step s1).mem.grow ha)) (.tup upd_same (lmono r1 ((hh.step s1).mem.grow (o := .tup vs) ha).ex))⟩
end
theorem Mem.back {p : Par} {G H G1 H1 : Hp} {a : Addr} (m : Mem p G H) (s : Stp p G H G1 H1) (n : H1 a = none) : H a = none := by
  cases z : H a with
  | none => rfl
  | some u =>
    by_cases hb : a = p.h
    · obtain ⟨u', hu⟩ := s.hand.some
      rw [hb] at n
      have hu' : H1 p.h = some u' := hu
      rw [n] at hu'; cases hu'
    · have := s.base a u hb z
      rw [n] at this; cases this
/-- frozen -/
def Cell.toD : Cell → D
  | .d x => x
  | .ol xs => .lst xs
  | .ok kvs => .dK kvs
  | .ot kvs => .dT kvs
  | .rw a _ => .raw (.ref a)
  | .lk kvs => .dK kvs
  | .lt kvs => .dT kvs
theorem Mem.know {p : Par} {G H : Hp} {a : Addr} {o : HO} (m : Mem p G H) (ow : Own p G a) (e : H a = some o) : Mem p (upd G a o) H ∧ Ex G (upd G a o) := by
  have ex : Ex G (upd G a o) := fun b u z => by rw [upd_ne (ne_of_none z ow.1)]; exact z
  exact ⟨⟨fun b u z => by
      by_cases hb : b = a
      · subst hb; rw [upd_same] at z; cases z; exact e
      · rw [upd_ne hb] at z; exact m.sub b u z, by rw [upd_ne (Ne.symm ow.2.2)]; exact m.gh, m.base, fun b u z => ex b u (m.g0 b u z), fun b u z => by
      by_cases hb : b = a
      · subst hb; exact .inr (.inl ow.2.1)
      · rw [upd_ne hb] at z; exact m.new b u z, m.hand.mono ex rfl⟩, ex⟩
theorem Slot.toD {p : Par} {G H : Hp} {a : Addr} {c : Cell} (x : Slot p G H (some (.ref a)) c) (ho : c.isOwn = true) : ∃ o, H a = some o ∧ Own p G a ∧ Rp p.K p.h (upd G a o) (.ref a) c.toD := by
  have ex : ∀ {o : HO}, Own p G a → Ex G (upd G a o) := fun {o} ow b u z => by rw [upd_ne (ne_of_none z ow.1)]; exact z
  cases c with
  | d x => cases ho
  | ol xs => obtain ⟨b, vs, h1, h2, h3, h4⟩ := x; cases h1; exact ⟨_, h3, h2, .lst upd_same (lmono h4 (ex h2))⟩
  | ok xs => obtain ⟨b, vs, h1, h2, h3, h4⟩ := x; cases h1; exact ⟨_, h3, h2, .dK (.inl upd_same) (RpK.mono (ex h2) _ _ h4)⟩
  | ot xs => obtain ⟨b, vs, h1, h2, h3, h4⟩ := x; cases h1; exact ⟨_, h3, h2, .dT (.inl upd_same) (RpT.mono (ex h2) _ _ h4)⟩
  | rw b o => obtain ⟨h1, h2, h3, _⟩ := x; cases h1; exact ⟨_, h3, h2, .raw _⟩
  | lk xs => obtain ⟨b, od, vs, h1, h2, h3, h4⟩ := x; cases h1; exact ⟨_, h3, h2, .dK (.inr ⟨od, upd_same⟩) (RpK.mono (ex h2) _ _ h4)⟩
  | lt xs => obtain ⟨b, od, vs, h1, h2, h3, h4⟩ := x; cases h1; exact ⟨_, h3, h2, .dT (.inr ⟨od, upd_same⟩) (RpT.mono (ex h2) _ _ h4)⟩
section
variable {p : Par} {ρ : Rho} {Q : D → Prop} {ta tb te : TE} {tt tu : TT}
theorem we_F (h : WF p ρ te fun c => Q c.toD) : WE p ρ te Q := fun G σ H hh Qv k =>
  h G σ H hh _ fun c a G1 H1 q ho s1 n x => by
    have m1 := (hh.step s1).mem
    -- told of the callee's own view: a is new to H
    obtain ⟨o, e, ow, r⟩ := x.toD ho
    have ow2 : Own ⟨p.K, p.h, H, G⟩ G1 a := ⟨ow.1, n, ow.2.2⟩
    exact k _ _ _ _ q (Mem.know s1 ow2 e).1 r
theorem wf_lst {Q : Cell → Prop} {ta : TA} (h : WA p ρ ta fun ds => ds.length ≤ 4000000 ∧ Q (.ol ds)) : WF p ρ (tLst ta) Q := fun G σ H hh Qv k =>
  h G σ H hh _ fun ds vs G1 H1 ⟨hl, q⟩ s1 r1 => ⟨sz (by rw [r1.length]; exact hl), fun a ha => by
    have m1 := (hh.step s1).mem
    exact k _ a _ _ q rfl (s1.trans (m1.growO ha)) (hh.mem.back s1 ha) ⟨a, vs, rfl, m1.fresh ha, upd_same, r1⟩⟩
theorem we_lst {ta : TA} (h : WA p ρ ta fun ds => ds.length ≤ 4000000 ∧ Q (.lst ds)) : WE p ρ (tLst ta) Q := we_F (wf_lst h)
theorem wf_dK {Q : Cell → Prop} (h : Q (.ok [])) : WF p ρ tDNewK Q := fun G σ H hh Qv k a ha => k _ a _ _ h rfl (hh.mem.growO ha) ha ⟨a, [], rfl, hh.mem.fresh ha, upd_same, .nil⟩
theorem wf_dT {Q : Cell → Prop} (h : Q (.ot [])) : WF p ρ tDNewT Q := fun G σ H hh Qv k a ha => k _ a _ _ h rfl (hh.mem.growO ha) ha ⟨a, [], rfl, hh.mem.fresh ha, upd_same, .nil⟩

/-! ### subscripts -/
theorem atI_rp {G : Hp} {vs : List V} {ds : List D} {i : Int} {d : D} (r : RpL p.K p.h G vs ds) (e : atI ds i = some d) : ∃ v, atI vs i = some v ∧ Rp p.K p.h G v d := by
  unfold atI at e ⊢
  rw [r.length]
  cases z : ixN ds.length i with
  | none => rw [z] at e; cases e
  | some j =>
    rw [z] at e
    obtain ⟨v, h1, h2⟩ := r.get (i := j) (d := d) e
    exact ⟨v, h1, h2⟩
theorem we_ixT (h : WE p ρ ta fun x => ∃ ds, x = .tup ds ∧ WE p ρ tb fun y => ∃ i d, y = .int i ∧ atI ds i = some d ∧ Q d) : WE p ρ (tOp (rIxT p.K) ta tb) Q :=
  we_op (h.imp fun x ⟨ds, e, h⟩ => h.imp fun y ⟨i, d, e2, c, q⟩ => fun G H v w m r1 r2 Qv k => by
    subst e e2
    obtain ⟨a, vs, ev, hs, hl⟩ := r1.tup_inv
    obtain ⟨u, h1, h2⟩ := atI_rp hl c
    exact ⟨a, vs, i, u, ev, rp_int r2, tq m.sub hs, h1, k _ _ G H q m.refl h2⟩)
theorem we_ixL (h : WE p ρ ta fun x => ∃ ds, x = .lst ds ∧ WE p ρ tb fun y => ∃ i d, y = .int i ∧ atI ds i = some d ∧ Q d) : WE p ρ (tOp (rIxL p.K) ta tb) Q :=
  we_op (h.imp fun x ⟨ds, e, h⟩ => h.imp fun y ⟨i, d, e2, c, q⟩ => fun G H v w m r1 r2 Qv k => by
    subst e e2
    obtain ⟨a, vs, ev, hs, hl⟩ := r1.lst_inv
    obtain ⟨u, h1, h2⟩ := atI_rp hl c
    exact ⟨a, vs, i, u, ev, rp_int r2, lq m.sub hs, h1, k _ _ G H q m.refl h2⟩)
/-- an item of a list that slot i owns -/
theorem we_ixO {i : Nat} {xs : List D} (e : ρ[i]? = some (some (.ol xs))) (h : WE p ρ tb fun y => ∃ i d, y = .int i ∧ atI xs i = some d ∧ Q d) : WE p ρ (tOp (rIxL p.K) (tVar i) tb) Q := fun G σ H hh Qv k => by
  obtain ⟨sv, h1, a, vs, h2, _, _, _⟩ := hh.slot i _ e
  subst h2
  refine ⟨.ref a, h1, h G σ H hh _ fun y w G1 H1 ⟨j, d, e2, c, q⟩ s1 r1 => ?_⟩
  obtain ⟨sv', h1', a', vs', h2', h3, h4, h5⟩ := (hh.step s1).slot i _ e
  subst h2'
  rw [h1] at h1'
  cases h1'
  subst e2
  obtain ⟨u, g1, g2⟩ := atI_rp h5 c
  exact ⟨a, vs', j, u, rfl, rp_int r1, sq_of h4, g1, k _ _ G1 H1 q s1 g2⟩
/-! ### len -/
theorem call_len_rc {xs : List D} (h : ∃ ds, (xs = [.lst ds] ∨ xs = [.tup ds]) ∧ Q (.int ds.length)) : RC p (fun xs H Q => ∃ q ys, xs = [.ref q] ∧ (SqL p.K H q ys ∨ SqT p.K H q ys) ∧ Q (.int ys.length) H) xs Q := fun G H vs m r Qv k => by
  obtain ⟨ds, e | e, q⟩ := h
  · subst e
    cases r with
    | cons r rn =>
      cases rn
      obtain ⟨a, us, ev, hs, hl⟩ := r.lst_inv
      subst ev
      refine ⟨a, us, rfl, .inl (lq m.sub hs), k _ _ G H q m.refl ?_⟩
      rw [hl.length]; exact .int _
  · subst e
    cases r with
    | cons r rn =>
      cases rn
      obtain ⟨a, us, ev, hs, hl⟩ := r.tup_inv
      subst ev
      refine ⟨a, us, rfl, .inr (tq m.sub hs), k _ _ G H q m.refl ?_⟩
      rw [hl.length]; exact .int _
theorem we_len (h : WE p ρ te fun x => ∃ ds, (x = .lst ds ∨ x = .tup ds) ∧ Q (.int ds.length)) : WE p ρ (tCB (fun xs H Q => ∃ q ys, xs = [.ref q] ∧ (SqL p.K H q ys ∨ SqT p.K H q ys) ∧ Q (.int ys.length) H) (tCons te tNil)) Q :=
  we_cb (wa_cons (h.imp fun x ⟨ds, e, q⟩ => wa_nil (call_len_rc ⟨ds, by rcases e with e | e; exact .inl (by rw [e]); exact .inr (by rw [e]), q⟩)))
theorem we_lenO {i : Nat} {xs : List D} (e : ρ[i]? = some (some (.ol xs))) (q : Q (.int xs.length)) : WE p ρ (tCB (fun xs H Q => ∃ q ys, xs = [.ref q] ∧ (SqL p.K H q ys ∨ SqT p.K H q ys) ∧ Q (.int ys.length) H) (tCons (tVar i) tNil)) Q := fun G σ H hh Qv k => by
  obtain ⟨sv, h1, a, vs, h2, _, h4, h5⟩ := hh.slot i _ e
  subst h2
  refine ⟨.ref a, h1, a, vs, rfl, .inl (sq_of h4), ?_⟩
  rw [h5.length]
  exact k _ _ G H q hh.mem.refl (.int _)
/-! ### calls of built-ins of ints -/
theorem we_int1 (h : WE p ρ te fun x => ∃ i, x = .int i ∧ Q (.int i)) : WE p ρ (tCB (fun xs H Q => (∃ i, xs = [V.int i] ∧ Q (.int i) H) ∨ ∃ k, xs = [V.bl k] ∧ Q (.int (if k then 1 else 0)) H) (tCons te tNil)) Q :=
  we_cb (wa_cons (h.imp fun x ⟨i, e, q⟩ => wa_nil fun G H vs m r Qv k => by
    subst e
    cases r with
    | cons r rn => cases rn; cases r; exact .inl ⟨i, rfl, k _ _ G H q m.refl (.int _)⟩))
def absI (i : Int) : Int := if i < 0 then -i else i
def maxI (i j : Int) : Int := if j > i then j else i
def minI (i j : Int) : Int := if j < i then j else i
theorem absI_nn (i : Int) : 0 ≤ absI i := by unfold absI; split <;> omega
theorem absI_eq (i : Int) : absI i = (i.natAbs : Int) := by unfold absI; split <;> omega
theorem we_abs (h : WE p ρ te fun x => ∃ i, x = .int i ∧ Q (.int (absI i))) : WE p ρ (tCB (fun xs H Q => ∃ i, xs = [V.int i] ∧ Q (.int (if i < 0 then -i else i)) H) (tCons te tNil)) Q :=
  we_cb (wa_cons (h.imp fun x ⟨i, e, q⟩ => wa_nil fun G H vs m r Qv k => by
    subst e
    cases r with
    | cons r rn => cases rn; cases r; exact ⟨i, rfl, k _ _ G H q m.refl (.int _)⟩))
theorem we_max2 (h : WE p ρ ta fun x => ∃ i, x = .int i ∧ WE p ρ tb fun y => ∃ j, y = .int j ∧ Q (.int (maxI i j))) : WE p ρ (tCB (fun xs H Q => ∃ i j, xs = [V.int i, V.int j] ∧ Q (.int (if j > i then j else i)) H) (tCons ta (tCons tb tNil))) Q :=
  we_cb (wa_cons (h.imp fun x ⟨i, e, h⟩ => wa_cons (h.imp fun y ⟨j, e2, q⟩ => wa_nil fun G H vs m r Qv k => by
    subst e e2
    cases r with
    | cons r rn => cases rn with | cons r2 rn => cases rn; cases r; cases r2; exact ⟨i, j, rfl, k _ _ G H q m.refl (.int _)⟩)))
theorem we_min2 (h : WE p ρ ta fun x => ∃ i, x = .int i ∧ WE p ρ tb fun y => ∃ j, y = .int j ∧ Q (.int (minI i j))) : WE p ρ (tCB (fun xs H Q => ∃ i j, xs = [V.int i, V.int j] ∧ Q (.int (if j < i then j else i)) H) (tCons ta (tCons tb tNil))) Q :=
  we_cb (wa_cons (h.imp fun x ⟨i, e, h⟩ => wa_cons (h.imp fun y ⟨j, e2, q⟩ => wa_nil fun G H vs m r Qv k => by
    subst e e2
    cases r with
    | cons r rn => cases rn with | cons r2 rn => cases rn; cases r; cases r2; exact ⟨i, j, rfl, k _ _ G H q m.refl (.int _)⟩)))
theorem we_gcd (h : WE p ρ ta fun x => ∃ i, x = .int i ∧ WE p ρ tb fun y => ∃ j, y = .int j ∧ Q (.int ((Nat.gcd i.natAbs j.natAbs : Nat) : Int))) : WE p ρ (tCB rGcd (tCons ta (tCons tb tNil))) Q :=
  we_cb (wa_cons (h.imp fun x ⟨i, e, h⟩ => wa_cons (h.imp fun y ⟨j, e2, q⟩ => wa_nil fun G H vs m r Qv k => by
    subst e e2
    cases r with
    | cons r rn => cases rn with | cons r2 rn => cases rn; cases r; cases r2; exact ⟨i, j, rfl, k _ _ G H q m.refl (.int _)⟩)))
/-- == and != of scalars -/
def D.sc : D → Bool
  | .non => true | .bl _ => true | .int _ => true | .str _ => true | _ => false
theorem we_eqI (h : WE p ρ ta fun x => ∃ i, x = .int i ∧ WE p ρ tb fun y => ∃ j, y = .int j ∧ Q (.bl (decide (i = j)))) : WE p ρ (tOp rEq ta tb) Q :=
  we_op (h.imp fun x ⟨i, e, h⟩ => h.imp fun y ⟨j, e2, q⟩ => fun G H v w m r1 r2 Qv k => by
    subst e e2
    rw [rp_int r1, rp_int r2]
    refine ⟨rfl, ?_⟩
    have z : decide (V.int i = V.int j) = decide (i = j) := by
      by_cases e : i = j
      · subst e; simp
      · rw [decide_eq_false e, decide_eq_false fun q => e (V.int.inj q)]
    rw [z]
    exact k _ _ G H q m.refl (.bl _))
theorem we_neI (h : WE p ρ ta fun x => ∃ i, x = .int i ∧ WE p ρ tb fun y => ∃ j, y = .int j ∧ Q (.bl (!decide (i = j)))) : WE p ρ (tOp rNe ta tb) Q :=
  we_op (h.imp fun x ⟨i, e, h⟩ => h.imp fun y ⟨j, e2, q⟩ => fun G H v w m r1 r2 Qv k => by
    subst e e2
    rw [rp_int r1, rp_int r2]
    refine ⟨rfl, ?_⟩
    have z : decide (V.int i = V.int j) = decide (i = j) := by
      by_cases e : i = j
      · subst e; simp
      · rw [decide_eq_false e, decide_eq_false fun q => e (V.int.inj q)]
    rw [z]
    exact k _ _ G H q m.refl (.bl _))
end

theorem Ex.rfl' {G : Hp} : Ex G G := fun _ _ e => e
theorem ex_tr {A B C : Hp} (a : Ex A B) (b : Ex B C) : Ex A C := fun x o e => b x o (a x o e)

/-! ### statements -/
section
variable {p : Par} {ρ : Rho} {Q : D → Prop} {ta tb te td ty : TE} {tt tu : TT} {P : Post} {ts tv : TS}
theorem ws_next (h : P.n ρ) : WS p ρ tNext P := fun G σ H hh E kn kr kb kc => kn ρ G σ H h Ex.rfl' hh
theorem ws_break (h : P.b ρ) : WS p ρ tBreak P := fun G σ H hh E kn kr kb kc => kb ρ G σ H h Ex.rfl' hh
theorem ws_cont (h : P.c ρ) : WS p ρ tCont P := fun G σ H hh E kn kr kb kc => kc ρ G σ H h Ex.rfl' hh
theorem ws_never (h : False) : WS p ρ ts P := h.elim
theorem ws_seq (h : WS p ρ ts { P with n := fun ρ' => WS p ρ' tv P }) : WS p ρ (tSeq ts tv) P := fun G σ H hh E kn kr kb kc =>
  h G σ H hh { E with nx := tv E } (fun ρ' G' σ' H' z e hh' => z G' σ' H' hh' E (fun ρ2 G2 σ2 H2 z2 e2 => kn ρ2 G2 σ2 H2 z2 (ex_tr e e2)) kr (fun ρ2 G2 σ2 H2 z2 e2 => kb ρ2 G2 σ2 H2 z2 (ex_tr e e2)) (fun ρ2 G2 σ2 H2 z2 e2 => kc ρ2 G2 σ2 H2 z2 (ex_tr e e2))) kr kb kc
theorem ws_drop (h : WE p ρ te fun _ => P.n ρ) : WS p ρ (tDrop te) P := fun G σ H hh E kn kr kb kc => h G σ H hh _ fun d v G' H' z s r => kn ρ G' σ H' z s.ex (hh.step s)
theorem ws_ret (h : WE p ρ te P.r) : WS p ρ (tRet te) P := fun G σ H hh E kn kr kb kc => h G σ H hh _ fun d v G' H' z s r => kr d v G' H' z (hh.step s).mem r
theorem ws_retN (h : P.r .non) : WS p ρ tRetN P := fun G σ H hh E kn kr kb kc => kr .non .non G H h hh.mem .non
theorem ws_if (h : WT p ρ tt fun b => if b = true then WS p ρ ts P else WS p ρ tv P) : WS p ρ (tIfS tt ts tv) P := fun G σ H hh E kn kr kb kc =>
  h G σ H hh _ fun b G1 H1 q s1 => by
    cases b with
    | true =>
      rw [if_pos rfl] at q ⊢
      exact q G1 σ H1 (hh.step s1) E (fun ρ2 G2 σ2 H2 z2 e2 => kn ρ2 G2 σ2 H2 z2 (ex_tr s1.ex e2)) kr (fun ρ2 G2 σ2 H2 z2 e2 => kb ρ2 G2 σ2 H2 z2 (ex_tr s1.ex e2)) (fun ρ2 G2 σ2 H2 z2 e2 => kc ρ2 G2 σ2 H2 z2 (ex_tr s1.ex e2))
    | false =>
      rw [if_neg (by decide)] at q ⊢
      exact q G1 σ H1 (hh.step s1) E (fun ρ2 G2 σ2 H2 z2 e2 => kn ρ2 G2 σ2 H2 z2 (ex_tr s1.ex e2)) kr (fun ρ2 G2 σ2 H2 z2 e2 => kb ρ2 G2 σ2 H2 z2 (ex_tr s1.ex e2)) (fun ρ2 G2 σ2 H2 z2 e2 => kc ρ2 G2 σ2 H2 z2 (ex_tr s1.ex e2))
/-! ### targets -/
theorem wg_name {i : Nat} {x : D} {N : Rho → Prop} (h : N (ρ.set i (some (.d x)))) : WG p ρ (gName i) x N := fun G σ H v hh r Qs k => k _ G _ H h Ex.rfl' (hh.setD r)
theorem wgs_nil {xs : List D} {N : Rho → Prop} (h : xs = [] ∧ N ρ) : WGs p ρ gNil xs N := fun G σ H vs hh r Qs k => by
  obtain ⟨e, h⟩ := h
  subst e
  cases r
  exact ⟨rfl, k _ G σ H h Ex.rfl' hh⟩
theorem wgs_cons {g : TG} {gs : TGs} {xs : List D} {N : Rho → Prop} (h : ∃ x r, xs = x :: r ∧ WG p ρ g x fun ρ' => WGs p ρ' gs r N) : WGs p ρ (gCons g gs) xs N := fun G σ H vs hh r Qs k => by
  obtain ⟨x, xr, e, h⟩ := h
  subst e
  cases r with
  | @cons v vs _ _ a b =>
    exact ⟨v, vs, rfl, h G σ H v hh a _ fun ρ1 G1 σ1 H1 z e1 hh1 => z G1 σ1 H1 vs hh1 (lmono b e1) Qs fun ρ2 G2 σ2 H2 z2 e2 => k ρ2 G2 σ2 H2 z2 (ex_tr e1 e2)⟩
theorem wg_tup {n : Nat} {gs : TGs} {x : D} {N : Rho → Prop} (h : ∃ xs, x = .tup xs ∧ xs.length = n ∧ WGs p ρ gs xs N) : WG p ρ (gTup p.K n gs) x N := fun G σ H v hh r Qs k => by
  obtain ⟨xs, e, hl, h⟩ := h
  subst e
  obtain ⟨a, vs, ev, hs, hr⟩ := r.tup_inv
  exact ⟨a, vs, ev, tq hh.mem.sub hs, by rw [hr.length]; exact hl, h G σ H vs hh hr Qs k⟩
theorem ws_asgG {g : TG} (h : WE p ρ te fun x => WG p ρ g x P.n) : WS p ρ (tAsg te g) P := fun G σ H hh E kn kr kb kc =>
  h G σ H hh _ fun d v G' H' z s r => z G' σ H' v (hh.step s) r E.nx fun ρ2 G2 σ2 H2 z2 e2 => kn ρ2 G2 σ2 H2 z2 (ex_tr s.ex e2)
theorem ws_asg {i : Nat} (h : WE p ρ te fun x => P.n (ρ.set i (some (.d x)))) : WS p ρ (tAsg te (gName i)) P := ws_asgG (h.imp fun _ z => wg_name z)
/-- a new list, a new dict, from now on the slot's own -/
theorem ws_asgF {i : Nat} (h : WF p ρ te fun c => P.n (ρ.set i (some c))) : WS p ρ (tAsg te (gName i)) P := fun G σ H hh E kn kr kb kc =>
  h G σ H hh _ fun c a G' H' z ho s n x => kn _ G' _ H' z s.ex (hh.setNew s n x)
/-- x = y, both names of one object that y owned: x owns it from now on, y is forgotten -/
theorem ws_move {i j : Nat} {c : Cell} (e : ρ[j]? = some (some c)) (ho : c.isOwn = true) (h : P.n ((ρ.set j none).set i (some c))) : WS p ρ (tAsg (tVar j) (gName i)) P := fun G σ H hh E kn kr kb kc => by
  obtain ⟨sv, h1, h2⟩ := hh.slot j _ e
  obtain ⟨a, u, h3, h4, h5⟩ := Cell.own_ref h2 ho
  subst h3
  refine ⟨.ref a, h1, kn _ G _ H h Ex.rfl' ((hh.drop j).setO h2 fun m c' em o q => ?_)⟩
  by_cases hm : j = m
  · subst hm
    rw [List.getElem?_set_self (List.getElem?_eq_some_iff.mp e).1] at em
    cases em
  · rw [List.getElem?_set_ne hm] at em
    exact absurd (hh.sep j m c c' a e ho em o h1 q) hm
/-- what slot i owns is from now on plain data -/
theorem ws_freeze (i : Nat) {c : Cell} (e : ρ[i]? = some (some c)) (ho : c.isOwn = true) (h : WS p (ρ.set i (some (.d c.toD))) ts P) : WS p ρ ts P := fun G σ H hh E kn kr kb kc => by
  obtain ⟨sv, h1, h2⟩ := hh.slot i _ e
  obtain ⟨a, u, h3, _, _⟩ := Cell.own_ref h2 ho
  subst h3
  obtain ⟨o, ha, ow, r⟩ := h2.toD ho
  obtain ⟨hh2, ex⟩ := hh.freeze e ho h1 ow ha r
  exact h _ σ H hh2 E (fun ρ2 G2 σ2 H2 z2 e2 => kn ρ2 G2 σ2 H2 z2 (ex_tr ex e2)) kr (fun ρ2 G2 σ2 H2 z2 e2 => kb ρ2 G2 σ2 H2 z2 (ex_tr ex e2)) (fun ρ2 G2 σ2 H2 z2 e2 => kc ρ2 G2 σ2 H2 z2 (ex_tr ex e2))
theorem we_freeze (i : Nat) {c : Cell} (e : ρ[i]? = some (some c)) (ho : c.isOwn = true) (h : WS p (ρ.set i (some (.d c.toD))) (tRet te) P) : WS p ρ (tRet te) P := ws_freeze i e ho h
theorem ws_drop1 (i : Nat) (h : WS p (ρ.set i none) ts P) : WS p ρ ts P := fun G σ H hh => h G σ H (hh.drop i)
theorem ws_par {i j : Nat} {ta : TA} (h : WA p ρ ta fun ds => ∃ x y, ds = [x, y] ∧ P.n ((ρ.set i (some (.d x))).set j (some (.d y)))) : WS p ρ (tPar i j ta) P := fun G σ H hh E kn kr kb kc =>
  h G σ H hh _ fun ds vs G' H' ⟨x, y, e, z⟩ s r => by
    subst e
    cases r with
    | @cons v _ _ _ r1 rn => cases rn with | @cons w _ _ _ r2 rn => cases rn; exact ⟨v, w, rfl, kn _ G' _ H' z s.ex (((hh.step s).setD r1).setD r2)⟩
theorem ws_aug {i : Nat} {f : Int → Int → Int} {a : Int} (e : ρ[i]? = some (some (.d (.int a)))) (h : WE p ρ te fun y => ∃ b, y = .int b ∧ P.n (ρ.set i (some (.d (.int (f a b)))))) : WS p ρ (tAug i te (ipI f)) P := fun G σ H hh E kn kr kb kc => by
  obtain ⟨sv, h1, v, h2, r⟩ := hh.slot i _ e
  subst h2
  cases r
  exact ⟨_, h1, h G σ H hh _ fun d w G' H' ⟨b, eb, z⟩ s r => by
    subst eb
    exact ⟨a, b, rfl, rp_int r, kn _ G' _ H' z s.ex ((hh.step s).setD (.int _))⟩⟩
/-- xs.append(e), xs slot i's own -/
theorem ws_append {i : Nat} {xs : List D} (e : ρ[i]? = some (some (.ol xs))) (hl : xs.length < 4000000) (h : WE p ρ te fun x => P.n (ρ.set i (some (.ol (xs ++ [x]))))) : WS p ρ (tDrop (tBM p.K "list" rAppend (tVar i) (tCons te tNil))) P := fun G σ H hh E kn kr kb kc => by
  obtain ⟨sv, h1, a, vs, h2, ow, h4, h5⟩ := hh.slot i _ e
  subst h2
  refine ⟨.ref a, h1, Or.inl ⟨rfl, vs, sq_of h4⟩, h G σ H hh _ fun d w G' H' z s r => ?_⟩
  obtain ⟨sv', h1', a', vs', h2', ow', h4', h5'⟩ := (hh.step s).slot i _ e
  subst h2'
  rw [h1] at h1'
  cases h1'
  have hz := h5'.length
  exact ⟨a, vs', w, rfl, rfl, h4', by rw [sizeLine_eq]; omega, kn _ G' σ _ z s.ex ((hh.step s).write e rfl h1 ow' ⟨a, _, rfl, ow', upd_same, h5'.append (.cons r .nil)⟩)⟩

/-! ### dicts that a slot owns -/
/-- a key as data -/
def kD : Key → D
  | .inl i => .int i
  | .inr x => .str x
theorem kD_rp {G : Hp} {v : V} : ∀ {k : Key}, Rp p.K p.h G v (kD k) → v = kV k
  | .inl i, r => by cases r; rfl
  | .inr x, r => by cases r; rfl
theorem rp_kD {G : Hp} : ∀ {k : Key}, Rp p.K p.h G (kV k) (kD k)
  | .inl i => .int i
  | .inr x => .str x
/-- d[k] = e -/
theorem ws_dput {i : Nat} {kvs : List (Key × D)} (e : ρ[i]? = some (some (.ok kvs))) (hl : kvs.length < 4000000) (h : WE p ρ te fun x => WE p ρ ty fun y => ∃ k, y = kD k ∧ P.n (ρ.set i (some (.ok (dPut kvs k x))))) : WS p ρ (sDPut (tVar i) ty te) P := fun G σ H hh E kn kr kb kc =>
  h G σ H hh _ fun x v G1 H1 q1 s1 r1 => by
    obtain ⟨sv, h1, a, vs, h2, ow, h4, h5⟩ := (hh.step s1).slot i _ e
    subst h2
    refine ⟨.ref a, h1, q1 G1 σ H1 (hh.step s1) _ fun y w G2 H2 ⟨k, ek, z⟩ s2 r2 => ?_⟩
    subst ek
    have hh2 := (hh.step s1).step s2
    obtain ⟨sv', h1', a', vs', h2', ow', h4', h5'⟩ := hh2.slot i _ e
    subst h2'
    rw [h1] at h1'
    cases h1'
    have hz := h5'.length
    refine ⟨a, _, rfl, .inl ⟨vs', k, h4', kD_rp r2, by rw [sizeLine_eq]; omega, rfl⟩, kn _ G2 σ _ z (ex_tr s1.ex s2.ex) (hh2.write e rfl h1 ow' ⟨a, _, rfl, ow', upd_same, h5'.put k (rmono r1 s2.ex)⟩)⟩
theorem dget_own {i : Nat} {kvs : List (Key × D)} {G : Hp} {σ : L2.St} {H : Hp} (hh : Hold p ρ G σ H) (e : ρ[i]? = some (some (.ok kvs))) : ∃ a vs, σ[i]? = some (some (.ref a)) ∧ H a = some (.dK vs) ∧ RpK p.K p.h G vs kvs := by
  obtain ⟨sv, h1, a, vs, h2, ow, h4, h5⟩ := hh.slot i _ e
  subst h2
  exact ⟨a, vs, h1, h4, h5⟩
/-- d[k], there -/
theorem we_dget {i : Nat} {kvs : List (Key × D)} (e : ρ[i]? = some (some (.ok kvs))) (h : WE p ρ ty fun y => ∃ k x, y = kD k ∧ dGet kvs k = some x ∧ Q x) : WE p ρ (tDGet (tVar i) ty) Q := fun G σ H hh Qv kk => by
  obtain ⟨a, vs, h1, _, _⟩ := dget_own hh e
  refine ⟨.ref a, h1, h G σ H hh _ fun y w G1 H1 ⟨k, x, ey, ex, q⟩ s1 r1 => ?_⟩
  subst ey
  obtain ⟨a', vs', h1', h2', h3'⟩ := dget_own (hh.step s1) e
  rw [h1] at h1'
  cases h1'
  rcases h3'.find k with ⟨_, z⟩ | ⟨v, d, z1, z2, z3⟩
  · rw [ex] at z; cases z
  · rw [ex] at z2; cases z2
    exact ⟨a, v, rfl, .inl ⟨vs', k, .inl h2', kD_rp r1, z1.symm⟩, kk _ _ G1 H1 q s1 z3⟩
/-- k in d, k not in d -/
theorem we_din {i : Nat} {kvs : List (Key × D)} (e : ρ[i]? = some (some (.ok kvs))) (h : WE p ρ ty fun y => ∃ k, y = kD k ∧ Q (.bl (dGet kvs k).isSome)) : WE p ρ (tDIn ty (tVar i)) Q := fun G σ H hh Qv kk =>
  h G σ H hh _ fun y w G1 H1 ⟨k, ey, q⟩ s1 r1 => by
    subst ey
    obtain ⟨a, vs, h1, h2, h3⟩ := dget_own (hh.step s1) e
    refine ⟨.ref a, h1, a, valV vs k, rfl, .inl ⟨vs, k, .inl h2, kD_rp r1, rfl⟩, ?_⟩
    have z : (valV vs k).isSome = (dGet kvs k).isSome := by
      rcases h3.find k with ⟨z1, z2⟩ | ⟨v, d, z1, z2, _⟩ <;> rw [z1, z2] <;> rfl
    rw [z]
    exact kk _ _ G1 H1 q s1 (.bl _)
theorem we_dnotin {i : Nat} {kvs : List (Key × D)} (e : ρ[i]? = some (some (.ok kvs))) (h : WE p ρ ty fun y => ∃ k, y = kD k ∧ Q (.bl (!(dGet kvs k).isSome))) : WE p ρ (tDNotIn ty (tVar i)) Q := fun G σ H hh Qv kk =>
  h G σ H hh _ fun y w G1 H1 ⟨k, ey, q⟩ s1 r1 => by
    subst ey
    obtain ⟨a, vs, h1, h2, h3⟩ := dget_own (hh.step s1) e
    refine ⟨.ref a, h1, a, valV vs k, rfl, .inl ⟨vs, k, .inl h2, kD_rp r1, rfl⟩, ?_⟩
    have z : (valV vs k).isSome = (dGet kvs k).isSome := by
      rcases h3.find k with ⟨z1, z2⟩ | ⟨v, d, z1, z2, _⟩ <;> rw [z1, z2] <;> rfl
    rw [z]
    exact kk _ _ G1 H1 q s1 (.bl _)
/-- d.get(k, x) -/
theorem we_dget2 {i : Nat} {kvs : List (Key × D)} {tx : TE} (e : ρ[i]? = some (some (.ok kvs))) (h : WE p ρ ty fun y => ∃ k, y = kD k ∧ WE p ρ tx fun x => Q ((dGet kvs k).getD x)) : WE p ρ (tDGet2 (tVar i) ty tx) Q := fun G σ H hh Qv kk => by
  obtain ⟨a, vs, h1, h2, h3⟩ := dget_own hh e
  refine ⟨.ref a, h1, a, rfl, .inl ⟨vs, .inl h2⟩, h G σ H hh _ fun y w G1 H1 ⟨k, ey, q⟩ s1 r1 => q G1 σ H1 (hh.step s1) _ fun x u G2 H2 q2 s2 r2 => ?_⟩
  subst ey
  obtain ⟨a', vs', h1', h2', h3'⟩ := dget_own ((hh.step s1).step s2) e
  rw [h1] at h1'
  cases h1'
  refine ⟨valV vs' k, .inl ⟨vs', k, .inl h2', kD_rp r1, rfl⟩, ?_⟩
  rcases h3'.find k with ⟨z1, z2⟩ | ⟨v, d, z1, z2, z3⟩
  · rw [z1]; rw [z2] at q2; exact kk _ _ G2 H2 q2 (s1.trans s2) r2
  · rw [z1]; rw [z2] at q2; exact kk _ _ G2 H2 q2 (s1.trans s2) z3

/-! ### loops -/
theorem ws_while (I : Nat → Rho → Prop) (m0 : Nat) (h0 : I m0 ρ)
    (hs : ∀ m ρ', I m ρ' → WT p ρ' tt fun b => if b = true then WS p ρ' ts ⟨fun ρ2 => ∃ m', m' < m ∧ I m' ρ2, P.r, P.n, fun ρ2 => ∃ m', m' < m ∧ I m' ρ2⟩ else P.n ρ') : WS p ρ (tWhile tt ts) P := fun G σ H hh E kn kr kb kc => by
  refine ⟨fun m σ' H' => ∃ ρ' G', I m ρ' ∧ Ex G G' ∧ Hold p ρ' G' σ' H', ⟨m0, ρ, G, h0, Ex.rfl', hh⟩, ?_⟩
  rintro m σ' H' ⟨ρ', G', hi, e, hh'⟩
  refine hs m ρ' hi G' σ' H' hh' _ fun b G1 H1 q s1 => ?_
  cases b with
  | false =>
    rw [if_neg (by decide)] at q ⊢
    exact kn ρ' G1 σ' H1 q (ex_tr e s1.ex) (hh'.step s1)
  | true =>
    rw [if_pos rfl] at q ⊢
    refine ⟨fun σ2 H2 => ∃ m', m' < m ∧ ∃ ρ2 G2, I m' ρ2 ∧ Ex G G2 ∧ Hold p ρ2 G2 σ2 H2, fun σ2 H2 ⟨m', l, z⟩ => ⟨m', l, z⟩, ?_⟩
    exact q G1 σ' H1 (hh'.step s1) _ (fun ρ2 G2 σ2 H2 ⟨m', l, z⟩ e2 hh2 => ⟨m', l, ρ2, G2, z, ex_tr (ex_tr e s1.ex) e2, hh2⟩) kr (fun ρ2 G2 σ2 H2 z e2 hh2 => kn ρ2 G2 σ2 H2 z (ex_tr (ex_tr e s1.ex) e2) hh2)
      (fun ρ2 G2 σ2 H2 ⟨m', l, z⟩ e2 hh2 => ⟨m', l, ρ2, G2, z, ex_tr (ex_tr e s1.ex) e2, hh2⟩)
/-- for over a range: the item is lo + k -/
theorem for_rng {g : TG} {lo : Int} {n : Nat} {G : Hp} {σ : L2.St} {H : Hp} {E : Ends} (I : Nat → Rho → Prop) (h0 : I 0 ρ) (hh : Hold p ρ G σ H)
    (hs : ∀ k ρ', k < n → I k ρ' → WG p ρ' g (.int (lo + (k : Int))) fun ρ2 => WS p ρ2 ts ⟨I (k + 1), P.r, P.n, I (k + 1)⟩) (hd : ∀ ρ', I n ρ' → P.n ρ')
    (kn : ∀ ρ' G' σ' H', P.n ρ' → Ex G G' → Hold p ρ' G' σ' H' → E.nx σ' H') (kr : ∀ d v G' H', P.r d → Mem p G' H' → Rp p.K p.h G' v d → E.rt v H') :
    ∃ W : Nat → Nat → L2.St → Hp → Prop, (∃ m, W 0 m σ H) ∧ ∀ i m σ H, W i m σ H →
      ((Itr lo n).stop i H ∧ E.nx σ H) ∨ ((Itr lo n).go i H ∧ ∃ N : L2.St → Hp → Prop, (∀ σ' H', N σ' H' → ∃ m', m' < m ∧ W (i + 1) m' σ' H') ∧ ∀ x H', (Itr lo n).yld i H x H' → g x σ H' fun σ2 H2 => ts { E with nx := N, ct := N, bk := E.nx } σ2 H2) :=
  for_range (lo := lo) (n := n) (fun k σ' H' => ∃ ρ' G', I k ρ' ∧ Ex G G' ∧ Hold p ρ' G' σ' H') ⟨ρ, G, h0, Ex.rfl', hh⟩ (fun k σ' H' hk ⟨ρ', G', hi, e, hh'⟩ =>
    hs k ρ' hk hi G' σ' H' _ hh' (.int _) _ fun ρ2 G2 σ2 H2 z e2 hh2 => z G2 σ2 H2 hh2 _ (fun ρ3 G3 σ3 H3 z3 e3 hh3 => ⟨ρ3, G3, z3, ex_tr (ex_tr e e2) e3, hh3⟩) kr (fun ρ3 G3 σ3 H3 z3 e3 hh3 => kn ρ3 G3 σ3 H3 z3 (ex_tr (ex_tr e e2) e3) hh3)
      (fun ρ3 G3 σ3 H3 z3 e3 hh3 => ⟨ρ3, G3, z3, ex_tr (ex_tr e e2) e3, hh3⟩)) fun σ' H' ⟨ρ', G', hi, e, hh'⟩ => kn ρ' G' σ' H' (hd ρ' hi) e hh'
theorem ws_for1 {g : TG} {ta : TA} (h : WA p ρ ta fun ds => ∃ n : Int, ds = [.int n] ∧ n < 2 ^ 62 ∧ -(2 ^ 62) ≤ n ∧ ∃ I : Nat → Rho → Prop, I 0 ρ ∧
    (∀ k ρ', k < n.toNat → I k ρ' → WG p ρ' g (.int (k : Int)) fun ρ2 => WS p ρ2 ts ⟨I (k + 1), P.r, P.n, I (k + 1)⟩) ∧ ∀ ρ', I n.toNat ρ' → P.n ρ') : WS p ρ (tFor (iRng1 ta) g ts) P := fun G σ H hh E kn kr kb kc =>
  h G σ H hh _ fun ds vs G' H' ⟨n, e, l1, l2, I, h0, hs, hd⟩ s r => by
    subst e
    cases r with
    | cons r rn =>
      cases rn; cases r
      refine ⟨n, rfl, l2, l1, for_rng (P := P) I h0 (hh.step s) (fun k ρ' hk hi => ?_) hd (fun ρ2 G2 σ2 H2 z2 e2 => kn ρ2 G2 σ2 H2 z2 (ex_tr s.ex e2)) kr⟩
      rw [Int.zero_add]
      exact hs k ρ' hk hi
theorem ws_for2 {g : TG} {ta : TA} (h : WA p ρ ta fun ds => ∃ lo n : Int, ds = [.int lo, .int n] ∧ (-(2 ^ 62) ≤ lo ∧ lo < 2 ^ 62 ∧ -(2 ^ 62) ≤ n ∧ n < 2 ^ 62) ∧ ∃ I : Nat → Rho → Prop, I 0 ρ ∧
    (∀ k ρ', k < (n - lo).toNat → I k ρ' → WG p ρ' g (.int (lo + (k : Int))) fun ρ2 => WS p ρ2 ts ⟨I (k + 1), P.r, P.n, I (k + 1)⟩) ∧ ∀ ρ', I (n - lo).toNat ρ' → P.n ρ') : WS p ρ (tFor (iRng2 ta) g ts) P := fun G σ H hh E kn kr kb kc =>
  h G σ H hh _ fun ds vs G' H' ⟨lo, n, e, l, I, h0, hs, hd⟩ s r => by
    subst e
    cases r with
    | cons r rn =>
      cases rn with
      | cons r2 rn =>
        cases rn; cases r; cases r2
        exact ⟨lo, n, rfl, l, for_rng (P := P) I h0 (hh.step s) hs hd (fun ρ2 G2 σ2 H2 z2 e2 => kn ρ2 G2 σ2 H2 z2 (ex_tr s.ex e2)) kr⟩
theorem ws_forL {g : TG} (h : WE p ρ te fun x => ∃ xs, x = .lst xs ∧ ∃ I : Nat → Rho → Prop, I 0 ρ ∧
    (∀ k x ρ', xs[k]? = some x → I k ρ' → WG p ρ' g x fun ρ2 => WS p ρ2 ts ⟨I (k + 1), P.r, P.n, I (k + 1)⟩) ∧ ∀ ρ', I xs.length ρ' → P.n ρ') : WS p ρ (tFor (iList p.K te) g ts) P := fun G σ H hh E kn kr kb kc =>
  h G σ H hh _ fun x v G0 H0 ⟨xs, e, I, h0, hs, hd⟩ s r => by
    subst e
    obtain ⟨a, vs, ev, hq, hl⟩ := r.lst_inv
    have hh0 := hh.step s
    refine ⟨a, ev, ⟨vs, lq hh0.mem.sub hq⟩, for_list (xs := vs) (fun k σ' H' => ∃ ρ' G', I k ρ' ∧ Ex G0 G' ∧ Hold p ρ' G' σ' H') ⟨ρ, G0, h0, Ex.rfl', hh0⟩ (fun k σ' H' _ ⟨ρ', G', hi, e, hh'⟩ => lq hh'.mem.sub (e _ _ hq)) (fun k x σ' H' hk ⟨ρ', G', hi, e, hh'⟩ => ?_)
      fun σ' H' ⟨ρ', G', hi, e, hh'⟩ => kn ρ' G' σ' H' (hd ρ' (by rw [← hl.length]; exact hi)) (ex_tr s.ex e) hh'⟩
    obtain ⟨d, hd1, hd2⟩ := hl.get' hk
    exact hs k d ρ' hd1 hi G' σ' H' _ hh' (rmono hd2 e) _ fun ρ2 G2 σ2 H2 z e2 hh2 => z G2 σ2 H2 hh2 _ (fun ρ3 G3 σ3 H3 z3 e3 hh3 => ⟨ρ3, G3, z3, ex_tr (ex_tr e e2) e3, hh3⟩) kr (fun ρ3 G3 σ3 H3 z3 e3 hh3 => kn ρ3 G3 σ3 H3 z3 (ex_tr s.ex (ex_tr (ex_tr e e2) e3)) hh3)
      (fun ρ3 G3 σ3 H3 z3 e3 hh3 => ⟨ρ3, G3, z3, ex_tr (ex_tr e e2) e3, hh3⟩)
theorem ws_forT {g : TG} (h : WE p ρ te fun x => ∃ xs, x = .tup xs ∧ ∃ I : Nat → Rho → Prop, I 0 ρ ∧
    (∀ k x ρ', xs[k]? = some x → I k ρ' → WG p ρ' g x fun ρ2 => WS p ρ2 ts ⟨I (k + 1), P.r, P.n, I (k + 1)⟩) ∧ ∀ ρ', I xs.length ρ' → P.n ρ') : WS p ρ (tFor (iTup p.K te) g ts) P := fun G σ H hh E kn kr kb kc =>
  h G σ H hh _ fun x v G0 H0 ⟨xs, e, I, h0, hs, hd⟩ s r => by
    subst e
    obtain ⟨a, vs, ev, hq, hl⟩ := r.tup_inv
    have hh0 := hh.step s
    refine ⟨a, ev, ⟨vs, tq hh0.mem.sub hq⟩, for_tup (xs := vs) (fun k σ' H' => ∃ ρ' G', I k ρ' ∧ Ex G0 G' ∧ Hold p ρ' G' σ' H') ⟨ρ, G0, h0, Ex.rfl', hh0⟩ (fun k σ' H' _ ⟨ρ', G', hi, e, hh'⟩ => tq hh'.mem.sub (e _ _ hq)) (fun k x σ' H' hk ⟨ρ', G', hi, e, hh'⟩ => ?_)
      fun σ' H' ⟨ρ', G', hi, e, hh'⟩ => kn ρ' G' σ' H' (hd ρ' (by rw [← hl.length]; exact hi)) (ex_tr s.ex e) hh'⟩
    obtain ⟨d, hd1, hd2⟩ := hl.get' hk
    exact hs k d ρ' hd1 hi G' σ' H' _ hh' (rmono hd2 e) _ fun ρ2 G2 σ2 H2 z e2 hh2 => z G2 σ2 H2 hh2 _ (fun ρ3 G3 σ3 H3 z3 e3 hh3 => ⟨ρ3, G3, z3, ex_tr (ex_tr e e2) e3, hh3⟩) kr (fun ρ3 G3 σ3 H3 z3 e3 hh3 => kn ρ3 G3 σ3 H3 z3 (ex_tr s.ex (ex_tr (ex_tr e e2) e3)) hh3)
      (fun ρ3 G3 σ3 H3 z3 e3 hh3 => ⟨ρ3, G3, z3, ex_tr (ex_tr e e2) e3, hh3⟩)
end


/-! ### defs -/
/-- a def's promise by data: from S ds R it hands back some d with R d -/
def spD (K : PySem.W.Frag) (S : List D → (D → Prop) → Prop) : Sp := fun vs H Q _ => ∃ h G ds R, RpL K h G vs ds ∧ Mem ⟨K, h, H, G⟩ G H ∧ S ds R ∧ ∀ d v G' H', R d → Mem ⟨K, h, H, G⟩ G' H' → Rp K h G' v d → Q v H'
def rho0 (N : List Str) (ds : List D) : Rho := ds.map (fun d => some (.d d)) ++ List.replicate (N.length - ds.length) none
theorem hold0 {p : Par} {N : List Str} {G H : Hp} {vs : List V} {ds : List D} (m : Mem p G H) (r : RpL p.K p.h G vs ds) : Hold p (rho0 N ds) G (L2.start N vs) H := by
  have hl := r.length
  refine ⟨m, by simp [rho0, L2.start, hl], fun i c e => ?_, fun i j c c' a e1 o1 e2 o2 e3 e4 => ?_⟩
  · unfold rho0 at e
    unfold L2.start
    by_cases hi : i < ds.length
    · rw [List.getElem?_append_left (by rw [List.length_map]; exact hi), List.getElem?_map, List.getElem?_eq_getElem hi] at e
      cases e
      obtain ⟨v, h1, h2⟩ := r.get (List.getElem?_eq_getElem hi)
      refine ⟨some v, ?_, v, rfl, h2⟩
      rw [List.getElem?_append_left (by rw [List.length_map, hl]; exact hi), List.getElem?_map, h1] <;> rfl
    · rw [List.getElem?_append_right (by rw [List.length_map]; omega)] at e
      rw [List.getElem?_replicate] at e
      split at e <;> cases e
  · exfalso
    have dd : ∀ {i : Nat} {c : Cell}, (rho0 N ds)[i]? = some (some c) → c.isOwn = true → False := fun {i c} e o => by
      unfold rho0 at e
      by_cases hi : i < ds.length
      · rw [List.getElem?_append_left (by rw [List.length_map]; exact hi), List.getElem?_map, List.getElem?_eq_getElem hi] at e
        cases e
        cases o
      · rw [List.getElem?_append_right (by rw [List.length_map]; omega)] at e
        rw [List.getElem?_replicate] at e
        split at e <;> cases e
    exact dd e1 o1
/-- where a def of the text stands -/
structure Src (K : PySem.W.Frag) (mg : Str → Option Value) (x : Str) (st : Stmt) : Prop where
  ex : ∃ f fd, mg x = some (.ref f) ∧ Fun K x x st f fd
/-- a def that keeps the promise S, by at most level k -/
structure Dfn (P : Program) (w : World) (K : PySem.W.Frag) (mg : Str → Option Value) (base : Heap) (k : Nat) (x : Str) (ps : List Str) (S : List D → (D → Prop) → Prop) : Prop where
  ex : ∃ f fd, mg x = some (.ref f) ∧ PySem.W.keepIn K (.ref f) = true ∧ FnOk P w K mg base CX0 k f fd ps (spD K S) ∧ Binds K fd ps []
theorem Dfn.mono {P : Program} {w : World} {K : PySem.W.Frag} {mg : Str → Option Value} {base : Heap} {j k : Nat} {x : Str} {ps : List Str} {S : List D → (D → Prop) → Prop} (F : Dfn P w K mg base j x ps S) (h : j ≤ k) : Dfn P w K mg base k x ps S := by
  obtain ⟨f, fd, h1, h2, h3, h4⟩ := F.ex
  exact ⟨f, fd, h1, h2, h3.mono h, h4⟩
theorem Dfn.imp {P : Program} {w : World} {K : PySem.W.Frag} {mg : Str → Option Value} {base : Heap} {k : Nat} {x : Str} {ps : List Str} {S S' : List D → (D → Prop) → Prop} (F : Dfn P w K mg base k x ps S) (h : ∀ ds R, S' ds R → S ds R) : Dfn P w K mg base k x ps S' := by
  obtain ⟨f, fd, h1, h2, h3, h4⟩ := F.ex
  exact ⟨f, fd, h1, h2, h3.imp fun vs H Q E ⟨hd, G, ds, R, a, b, c, d⟩ => ⟨hd, G, ds, R, a, b, h ds R c, d⟩, h4⟩
def retP (R : D → Prop) : Post := ⟨fun _ => R .non, R, fun _ => False, fun _ => False⟩
section
variable {P : Program} {w : World} {K : PySem.W.Frag} {mg : Str → Option Value} {base : Heap}
theorem mkD {x : Str} {st : Stmt} {N ps : List Str} {k : Nat} {S : List D → (D → Prop) → Prop} (F : Src K mg x st) (sc : FnScope N ps (defScope st))
    (hb : ∀ (kV doc pm : Value) (an : Option Addr) (cdv ct : Value) (us : List Value), us.length = ps.length → bindArgs (PySem.W.fnOf x x (defArgs st) (defBody st) (defScope st) .none kV doc pm an cdv ct) ⟨us, []⟩ = pure (ps.zip us))
    (len : ∀ ds R, S ds R → ds.length = ps.length)
    (body : ∀ (f : Addr) (cdv : Value) (A : Around) (outer : List Env) (s : Shared) (H : Hp) (E : XK), Room k (A.deeper (envOfC x (defScope st) s.heap.objs.size f cdv)) →
      ∃ t, PSs (cxOf CX0 P w K mg base N x (defScope st) f cdv A outer s H E).nox (defBody st) t ∧ ∀ (h : Addr) (H0 G0 : Hp) ds R, S ds R → WS ⟨K, h, H0, G0⟩ (rho0 N ds) t (retP R)) : Dfn P w K mg base (k + 1) x ps S := by
  obtain ⟨f, fd, hm, F⟩ := F.ex
  refine ⟨f, fd, hm, F.kp, F.ok sc (fun vs H Q E h => ?_) (fun cdv A outer s H vs Q E hr h => ?_), F.binds hb⟩
  · obtain ⟨hd, G, ds, R, r, m, hs, q⟩ := h
    rw [r.length]
    exact len ds R hs
  · obtain ⟨hd, G, ds, R, r, m, hs, q⟩ := h
    obtain ⟨t, ht, hw⟩ := body f cdv A outer s H E hr
    refine ⟨t, ht, hw hd H G ds R hs G _ H (hold0 m r) _ (fun ρ' G' σ' H' z e hh => q .non .non G' H' z hh.mem .non) (fun d v G' H' z m' r' => q d v G' H' z m' r') (fun _ _ _ _ z => z.elim) fun _ _ _ _ z => z.elim⟩
/-- a def handled by its own reading -/
theorem mkS {x : Str} {st : Stmt} {N ps : List Str} {k : Nat} {S : List D → (D → Prop) → Prop} (F : Src K mg x st) (sc : FnScope N ps (defScope st))
    (hb : ∀ (kV doc pm : Value) (an : Option Addr) (cdv ct : Value) (us : List Value), us.length = ps.length → bindArgs (PySem.W.fnOf x x (defArgs st) (defBody st) (defScope st) .none kV doc pm an cdv ct) ⟨us, []⟩ = pure (ps.zip us))
    (len : ∀ ds R, S ds R → ds.length = ps.length)
    (body : ∀ (f : Addr) (cdv : Value) (A : Around) (outer : List Env) (s : Shared) (H : Hp) (E : XK), Room k (A.deeper (envOfC x (defScope st) s.heap.objs.size f cdv)) →
      ∃ t, PSs (cxOf CX0 P w K mg base N x (defScope st) f cdv A outer s H E).nox (defBody st) t ∧ ∀ vs Q, spD K S vs H Q E → t { nx := fun _ H' => Q .non H', rt := Q } (L2.start N vs) H) : Dfn P w K mg base (k + 1) x ps S := by
  obtain ⟨f, fd, hm, F⟩ := F.ex
  refine ⟨f, fd, hm, F.kp, F.ok sc (fun vs H Q E h => ?_) (fun cdv A outer s H vs Q E hr h => ?_), F.binds hb⟩
  · obtain ⟨hd, G, ds, R, r, m, hs, q⟩ := h
    rw [r.length]
    exact len ds R hs
  · obtain ⟨t, ht, hw⟩ := body f cdv A outer s H E hr
    exact ⟨t, ht, hw vs Q h⟩
end
section
variable {X : Cx} {x : Str} {p pos : Pos} {e : Expr} {es : List Expr} {t : TA} {k : Nat} {ps : List Str} {S : List D → (D → Prop) → Prop}
theorem pe_callD (F : Dfn X.prog X.w X.K X.mg X.base k x ps S) (hr : Room k X.A) (ha : PA X (e :: es) t) (hg : Gl X x := by rfl) (hdb : (x == ("__debug__" : Str)) = false := by decide)
    (he : starEach (e :: es) X.env = (false, eval e X.env) :: starEach es X.env := by rfl) (hpl : (backTo pos (starEach es X.env)).any (·.1) = false := by rfl) : PE X (.Call (.Name x p) (e :: es) [] pos) (tCall (spD X.K S) [] E0 t) := by
  obtain ⟨f, fd, h1, h2, h3, h4⟩ := F.ex
  exact pe_call h3 hr hg h1 h2 h4 .nil pass0 ha hdb he hpl
theorem pe_call0D (F : Dfn X.prog X.w X.K X.mg X.base k x ps S) (hr : Room k X.A) (hg : Gl X x := by rfl) (hdb : (x == ("__debug__" : Str)) = false := by decide) : PE X (.Call (.Name x p) [] [] pos) (tCall (spD X.K S) [] E0 tNil) := by
  obtain ⟨f, fd, h1, h2, h3, h4⟩ := F.ex
  exact pe_call0 h3 hr hg h1 h2 h4 .nil pass0 hdb
end
section
variable {p : Par} {ρ : Rho} {Q : D → Prop} {ta tb te tl th : TE} {tt tu : TT} {P : Post} {ts tv : TS}
theorem we_call {S : List D → (D → Prop) → Prop} {ta : TA} {E : XK} (h : WA p ρ ta fun ds => S ds Q) : WE p ρ (tCall (spD p.K S) [] E ta) Q := fun G σ H hh Qv k =>
  h G σ H hh _ fun ds vs G1 H1 q s1 r1 => by
    rw [List.append_nil]
    have hh1 := hh.step s1
    exact ⟨p.h, G1, ds, Q, r1, hh1.mem.refl, q, fun d v G' H' z m r => k d v G' H' z (s1.trans m) r⟩

/-! ### slices, sums of tuples and lists -/
def cutD {α : Type} (xs : List α) (lo hi : Option Int) : List α := (xs.drop (HT.sIx xs.length 0 lo)).take (HT.sIx xs.length xs.length hi - HT.sIx xs.length 0 lo)
theorem cut_rp {G : Hp} {vs : List V} {ds : List D} (r : RpL p.K p.h G vs ds) (lo hi : Option Int) : RpL p.K p.h G (cutV vs lo hi) (cutD ds lo hi) := by
  unfold cutV cutD
  rw [r.length]
  exact (r.drop _).take _
theorem cut_whole {α : Type} {xs : List α} {lo hi : Option Int} (h : HT.sIx xs.length 0 lo = 0 ∧ HT.sIx xs.length xs.length hi = xs.length) : cutD xs lo hi = xs := by
  unfold cutD
  rw [h.1, h.2]
  simp
theorem wo_none {Q : Option Int → Prop} (q : Q none) : WO p ρ tNoPart Q := fun G σ H hh Qv k => k none G H q hh.mem.refl
theorem wo_some {Q : Option Int → Prop} (h : WE p ρ te fun x => ∃ i, x = .int i ∧ Q (some i)) : WO p ρ (tPart te) Q := fun G σ H hh Qv k => h G σ H hh _ fun x v G1 H1 ⟨i, e, q⟩ s r => by
  subst e
  exact ⟨i, rp_int r, k _ G1 H1 q s⟩
/-- t[lo:hi] of a tuple -/
theorem we_slT {tl th : TO} (h : WE p ρ te fun x => ∃ xs, x = .tup xs ∧ WO p ρ tl fun lo => WO p ρ th fun hi => Q (.tup (cutD xs lo hi))) : WE p ρ (tSl (rSlA p.K) te tl th) Q := fun G σ H hh Qv k =>
  h G σ H hh _ fun x v G1 H1 ⟨xs, e, q1⟩ s1 r1 => q1 G1 σ H1 (hh.step s1) _ fun lo G2 H2 q2 s2 => q2 G2 σ H2 ((hh.step s1).step s2) _ fun hi G3 H3 q3 s3 => by
    subst e
    obtain ⟨a, vs, ev, hs, hl⟩ := r1.tup_inv
    have hh3 := ((hh.step s1).step s2).step s3
    have ex := ex_tr s2.ex s3.ex
    refine ⟨a, vs, ev, tq hh3.mem.sub (ex _ _ hs), fun hw => ?_, fun hw q hq => ?_⟩
    · rw [hl.length] at hw
      have q3' : Q (.tup (cutD xs lo hi)) := q3
      rw [cut_whole hw] at q3'
      exact k _ _ G3 H3 q3' ((s1.trans s2).trans s3) (.tup (ex _ _ hs) (lmono hl ex))
    · exact k _ _ _ _ q3 (((s1.trans s2).trans s3).trans (hh3.mem.grow hq)) (.tup upd_same (lmono (cut_rp (lmono hl ex) lo hi) (hh3.mem.grow (o := .tup (cutV vs lo hi)) hq).ex))
/-- xs[lo:hi] of a list: a new one -/
theorem wf_slL {Q : Cell → Prop} {tl th : TO} (h : WE p ρ te fun x => ∃ xs, x = .lst xs ∧ WO p ρ tl fun lo => WO p ρ th fun hi => Q (.ol (cutD xs lo hi))) : WF p ρ (tSl (rSlL p.K) te tl th) Q := fun G σ H hh Qv k =>
  h G σ H hh _ fun x v G1 H1 ⟨xs, e, q1⟩ s1 r1 => q1 G1 σ H1 (hh.step s1) _ fun lo G2 H2 q2 s2 => q2 G2 σ H2 ((hh.step s1).step s2) _ fun hi G3 H3 q3 s3 => by
    subst e
    obtain ⟨a, vs, ev, hs, hl⟩ := r1.lst_inv
    have hh3 := ((hh.step s1).step s2).step s3
    have ex := ex_tr s2.ex s3.ex
    refine ⟨a, vs, ev, lq hh3.mem.sub (ex _ _ hs), fun q hq => ?_⟩
    have s := (s1.trans s2).trans s3
    exact k _ q _ _ q3 rfl (s.trans (hh3.mem.growO hq)) (hh.mem.back s hq) ⟨q, _, rfl, hh3.mem.fresh hq, upd_same, cut_rp (lmono hl ex) lo hi⟩
theorem we_slL {tl th : TO} (h : WE p ρ te fun x => ∃ xs, x = .lst xs ∧ WO p ρ tl fun lo => WO p ρ th fun hi => Q (.lst (cutD xs lo hi))) : WE p ρ (tSl (rSlL p.K) te tl th) Q := we_F (wf_slL h)
/-- t + u of tuples -/
theorem we_catT (h : WE p ρ ta fun x => ∃ xs, x = .tup xs ∧ WE p ρ tb fun y => ∃ ys, y = .tup ys ∧ xs.length + ys.length ≤ 4000000 ∧ Q (.tup (xs ++ ys))) : WE p ρ (tOp (rCatA p.K) ta tb) Q :=
  we_op (h.imp fun x ⟨xs, e, h⟩ => h.imp fun y ⟨ys, e2, hz, q⟩ => fun G H v w m r1 r2 Qv k => by
    subst e e2
    obtain ⟨a, vs, ev, hs, hl⟩ := r1.tup_inv
    obtain ⟨b, ws, ew, ht, hm⟩ := r2.tup_inv
    refine ⟨a, b, vs, ws, ev, ew, tq m.sub hs, tq m.sub ht, sz (by rw [hl.length, hm.length]; exact hz), fun e0 => ?_, fun _ e0 => ?_, fun _ _ q' hq => ?_⟩
    · subst e0
      have z := hl.length
      cases xs with
      | nil => exact k _ _ G H q m.refl (.tup ht hm)
      | cons x xs => cases z
    · subst e0
      have z := hm.length
      cases ys with
      | nil => rw [List.append_nil] at q; exact k _ _ G H q m.refl (.tup hs hl)
      | cons x xs => cases z
    · exact k _ _ _ _ q (m.grow hq) (.tup upd_same (lmono (hl.append hm) (m.grow (o := .tup (vs ++ ws)) hq).ex)))
/-- xs + ys of lists: a new one -/
theorem wf_catL {Q : Cell → Prop} (h : WE p ρ ta fun x => ∃ xs, x = .lst xs ∧ WE p ρ tb fun y => ∃ ys, y = .lst ys ∧ xs.length + ys.length ≤ 4000000 ∧ Q (.ol (xs ++ ys))) :
    WF p ρ (tOp rCat ta tb) Q := fun G σ H hh Qv k =>
  h G σ H hh _ fun x v G1 H1 ⟨xs, e, q1⟩ s1 r1 => q1 G1 σ H1 (hh.step s1) _ fun y w G2 H2 ⟨ys, e2, hz, q⟩ s2 r2 => by
    subst e e2
    obtain ⟨a, vs, ev, hs, hl⟩ := r1.lst_inv
    obtain ⟨b, ws, ew, ht, hm⟩ := r2.lst_inv
    have hh2 := (hh.step s1).step s2
    have s := s1.trans s2
    refine ⟨a, b, vs, ws, ev, ew, hh2.mem.sub _ _ (s2.ex _ _ hs), hh2.mem.sub _ _ ht, sz (by rw [hl.length, hm.length]; exact hz), fun q' hq => ?_⟩
    exact k _ q' _ _ q rfl (s.trans (hh2.mem.growO hq)) (hh.mem.back s hq) ⟨q', _, rfl, hh2.mem.fresh hq, upd_same, (lmono hl s2.ex).append hm⟩
/-- tuple(xs) -/
theorem we_tupleOf (h : WE p ρ te fun x => ∃ xs, (x = .lst xs ∨ x = .tup xs) ∧ Q (.tup xs)) :
    WE p ρ (tCB (fun xs H Q => ∃ q ys, xs = [V.ref q] ∧ ((SqL p.K H q ys ∧ ∀ l, H l = none → Q (.ref l) (upd H l (.tup ys))) ∨ (SqT p.K H q ys ∧ Q (.ref q) H))) (tCons te tNil)) Q :=
  we_cb (wa_cons (h.imp fun x ⟨xs, e, q⟩ => wa_nil fun G H vs m r Qv k => by
    cases r with
    | cons r rn =>
      cases rn
      rcases e with e | e
      · subst e
        obtain ⟨a, us, ev, hs, hl⟩ := r.lst_inv
        subst ev
        exact ⟨a, us, rfl, .inl ⟨lq m.sub hs, fun l hq => k _ _ _ _ q (m.grow hq) (.tup upd_same (lmono hl (m.grow (o := .tup us) hq).ex))⟩⟩
      · subst e
        obtain ⟨a, us, ev, hs, hl⟩ := r.tup_inv
        subst ev
        exact ⟨a, us, rfl, .inr ⟨tq m.sub hs, k _ _ G H q m.refl (.tup hs hl)⟩⟩))
/-- list(xs): a new one -/
theorem wf_listOf {Q : Cell → Prop} (h : WE p ρ te fun x => ∃ xs, (x = .lst xs ∨ x = .tup xs) ∧ Q (.ol xs)) :
    WF p ρ (tCB (fun xs H Q => ∃ q ys, xs = [V.ref q] ∧ (SqL p.K H q ys ∨ SqT p.K H q ys) ∧ ∀ l, H l = none → Q (.ref l) (upd H l (.lst ys))) (tCons te tNil)) Q := fun G σ H hh Qv k =>
  h G σ H hh _ fun x v G1 H1 ⟨xs, e, q⟩ s1 r1 => by
    have hh1 := hh.step s1
    rcases e with e | e
    · subst e
      obtain ⟨a, us, ev, hs, hl⟩ := r1.lst_inv
      subst ev
      exact ⟨a, us, rfl, .inl (lq hh1.mem.sub hs), fun l hq => k _ l _ _ q rfl (s1.trans (hh1.mem.growO hq)) (hh.mem.back s1 hq) ⟨l, _, rfl, hh1.mem.fresh hq, upd_same, hl⟩⟩
    · subst e
      obtain ⟨a, us, ev, hs, hl⟩ := r1.tup_inv
      subst ev
      exact ⟨a, us, rfl, .inr (tq hh1.mem.sub hs), fun l hq => k _ l _ _ q rfl (s1.trans (hh1.mem.growO hq)) (hh.mem.back s1 hq) ⟨l, _, rfl, hh1.mem.fresh hq, upd_same, hl⟩⟩
end

/-! ### comprehensions -/
def wipeR (ρ : Rho) : List Nat → Rho
  | [] => ρ
  | v :: vs => (wipeR ρ vs).set v none
section
variable {p : Par} {ρ : Rho} {te : TE} {tt : TT} {g : TG}
theorem Hold.wipe {G H : Hp} {σ : L2.St} (hh : Hold p ρ G σ H) : ∀ vs : List Nat, Hold p (wipeR ρ vs) G (L2.wipe σ vs) H
  | [] => hh
  | v :: vs => (Hold.wipe hh vs).forget v none
theorem wipe_get {σ : L2.St} {j : Nat} : ∀ {vs : List Nat}, (L2.wipe σ vs)[j]? = if j ∈ vs then (if j < σ.length then some none else none) else σ[j]?
  | [] => by simp [L2.wipe]
  | v :: vs => by
    have ih := wipe_get (σ := σ) (j := j) (vs := vs)
    show ((L2.wipe σ vs).set v none)[j]? = _
    by_cases hv : v = j
    · subst hv
      rw [if_pos (by simp)]
      by_cases hl : v < σ.length
      · rw [if_pos hl, List.getElem?_set_self (by rw [L2.wipe_length]; exact hl)]
      · rw [if_neg hl, List.getElem?_eq_none (by rw [List.length_set, L2.wipe_length]; omega)]
    · rw [List.getElem?_set_ne hv, ih]
      by_cases hm : j ∈ vs
      · rw [if_pos hm, if_pos (List.mem_cons_of_mem _ hm)]
      · rw [if_neg hm, if_neg (fun z => by rcases List.mem_cons.mp z with e | e; exact hv e.symm; exact hm e)]
theorem wipe_set {σ : L2.St} {j : Nat} {x : Option V} {vs : List Nat} (h : j ∈ vs) : L2.wipe (σ.set j x) vs = L2.wipe σ vs := by
  refine List.ext_getElem? fun i => ?_
  rw [wipe_get, wipe_get, List.length_set]
  by_cases hm : i ∈ vs
  · rw [if_pos hm, if_pos hm]
  · rw [if_neg hm, if_neg hm, List.getElem?_set_ne (fun z => hm (by rw [← z]; exact h))]
theorem wipe_wipe {σ : L2.St} {vs : List Nat} : L2.wipe (L2.wipe σ vs) vs = L2.wipe σ vs := by
  refine List.ext_getElem? fun i => ?_
  rw [wipe_get, wipe_get, L2.wipe_length]
  by_cases hm : i ∈ vs
  · rw [if_pos hm, if_pos hm]
  · rw [if_neg hm, if_neg hm]
/-- a target that stores into the slots vs alone -/
def WGp (p : Par) (vs : List Nat) (ρ : Rho) (g : TG) (x : D) (N : Rho → Prop) : Prop := ∀ G σ H v, Hold p ρ G σ H → Rp p.K p.h G v x → ∀ Qs : L2.St → Hp → Prop, (∀ ρ' σ', N ρ' → Hold p ρ' G σ' H → L2.wipe σ' vs = L2.wipe σ vs → Qs σ' H) → g v σ H Qs
def WGps (p : Par) (vs : List Nat) (ρ : Rho) (g : TGs) (xs : List D) (N : Rho → Prop) : Prop := ∀ G σ H us, Hold p ρ G σ H → RpL p.K p.h G us xs → ∀ Qs : L2.St → Hp → Prop, (∀ ρ' σ', N ρ' → Hold p ρ' G σ' H → L2.wipe σ' vs = L2.wipe σ vs → Qs σ' H) → g us σ H Qs
theorem wgp_name {vs : List Nat} {i : Nat} {x : D} {N : Rho → Prop} (hi : i ∈ vs) (h : N (ρ.set i (some (.d x)))) : WGp p vs ρ (gName i) x N := fun G σ H v hh r Qs k => k _ _ h (hh.setD r) (wipe_set hi)
theorem wgps_nil {vs : List Nat} {xs : List D} {N : Rho → Prop} (h : xs = [] ∧ N ρ) : WGps p vs ρ gNil xs N := fun G σ H us hh r Qs k => by
  obtain ⟨e, h⟩ := h
  subst e
  cases r
  exact ⟨rfl, k _ σ h hh rfl⟩
theorem wgps_cons {vs : List Nat} {g : TG} {gs : TGs} {xs : List D} {N : Rho → Prop} (h : ∃ x r, xs = x :: r ∧ WGp p vs ρ g x fun ρ' => WGps p vs ρ' gs r N) : WGps p vs ρ (gCons g gs) xs N := fun G σ H us hh r Qs k => by
  obtain ⟨x, xr, e, h⟩ := h
  subst e
  cases r with
  | @cons v us _ _ a b => exact ⟨v, us, rfl, h G σ H v hh a _ fun ρ1 σ1 z hh1 e1 => z G σ1 H us hh1 b Qs fun ρ2 σ2 z2 hh2 e2 => k ρ2 σ2 z2 hh2 (e2.trans e1)⟩
theorem wgp_tup {vs : List Nat} {n : Nat} {gs : TGs} {x : D} {N : Rho → Prop} (h : ∃ xs, x = .tup xs ∧ xs.length = n ∧ WGps p vs ρ gs xs N) : WGp p vs ρ (gTup p.K n gs) x N := fun G σ H v hh r Qs k => by
  obtain ⟨xs, e, hl, h⟩ := h
  subst e
  obtain ⟨a, us, ev, hs, hr⟩ := r.tup_inv
  exact ⟨a, us, ev, tq hh.mem.sub hs, by rw [hr.length]; exact hl, h G σ H us hh hr Qs k⟩
theorem Stp.updO {G H G' H' : Hp} {a : Addr} {o : HO} (s : Stp p G H G' H') (n : H a = none) (ow : Own p G' a) : Stp p G H G' (upd H' a o) :=
  ⟨fun b u z => by rw [upd_ne (ne_of_none z ow.1)]; exact s.sub b u z, s.gh, fun b u hb z => by
    show upd H' a o b = some u
    rw [upd_ne (ne_of_none z n)]
    exact s.base b u hb z, s.g0, s.new, s.hand.mono (fun _ _ z => z) (upd_ne (Ne.symm ow.2.2))⟩
theorem Own.step {G H G' H' : Hp} {a : Addr} {o : HO} (nt : NT o) (ow : Own p G a) (e : H a = some o) (s : Stp p G H G' H') : Own p G' a ∧ H' a = some o := by
  refine ⟨⟨?_, ow.2⟩, s.base a o ow.2.2 e⟩
  cases z : G' a with
  | none => rfl
  | some u =>
    rcases s.new a u z with r | r | ⟨⟨xs, t⟩, r⟩
    · have r' : G a = some u := r
      rw [ow.1] at r'; cases r'
    · have r' : H a = none := r
      rw [e] at r'; cases r'
    · have r' : H a = some u := r
      rw [e] at r'; cases r'
      exact (nt xs t).elim
/-- what stands between two turns: the list at Dl holds acc -/
def Lc (p : Par) (G1 H1 : Hp) (Dl : Addr) (I : Nat → List D → Prop) (k : Nat) (H' : Hp) : Prop := ∃ acc av G', I k acc ∧ acc.length ≤ k ∧ Stp p G1 H1 G' H' ∧ H' Dl = some (.lst av) ∧ Own p G' Dl ∧ RpL p.K p.h G' av acc
theorem lc_turn {vs : List Nat} {G1 H1 H' : Hp} {σ : L2.St} {Dl : Addr} {I : Nat → List D → Prop} {k : Nat} {x : D} {v : V} (hh : Hold p ρ G1 σ H1) (hn : H1 Dl = none) (hk : k < 4000000) (L : Lc p G1 H1 Dl I k H')
    (hr : ∀ G', Stp p G1 H1 G' H' → ∃ G2, Stp p G' H' G2 H' ∧ Rp p.K p.h G2 v x)
    (h : ∀ acc, I k acc → acc.length ≤ k → WGp p vs (wipeR ρ vs) g x fun ρ2 => WT p ρ2 tt fun b => if b = true then WE p ρ2 te fun y => I (k + 1) (acc ++ [y]) else I (k + 1) acc) :
    g v (L2.wipe σ vs) H' fun σ2 H2 => L2.wipe σ2 vs = L2.wipe σ vs ∧ tt σ2 H2 fun b H3 =>
      if b = true then te σ2 H3 fun y H4 => ∃ acc, H4 Dl = some (.lst acc) ∧ acc.length < sizeLine ∧ Lc p G1 H1 Dl I (k + 1) (upd H4 Dl (.lst (acc ++ [y]))) else Lc p G1 H1 Dl I (k + 1) H3 := by
  obtain ⟨acc, av, G0, hi, hl, s0, e0, ow0, r0⟩ := L
  obtain ⟨G', s00, rx⟩ := hr G0 s0
  have s := s0.trans s00
  obtain ⟨ow, e⟩ := Own.step (by intro _ z; cases z) ow0 e0 s00
  have r := lmono r0 s00.ex
  refine h acc hi hl G' _ H' v ((hh.step s).wipe vs) rx _ fun ρ2 σ2 z hh2 ew => ⟨by rw [ew, wipe_wipe], z G' σ2 H' hh2 _ fun b G2 H2 q s2 => ?_⟩
  obtain ⟨ow2, e2⟩ := Own.step (by intro _ z; cases z) ow e s2
  cases b with
  | false =>
    rw [if_neg (by decide)] at q ⊢
    exact ⟨acc, av, G2, q, Nat.le_succ_of_le hl, s.trans s2, e2, ow2, lmono r s2.ex⟩
  | true =>
    rw [if_pos rfl] at q ⊢
    refine q G2 σ2 H2 (hh2.step s2) _ fun d y G3 H3 q3 s3 r3 => ?_
    obtain ⟨ow3, e3⟩ := Own.step (by intro _ z; cases z) ow2 e2 s3
    have hz := r.length
    refine ⟨av, e3, by rw [sizeLine_eq]; omega, acc ++ [d], av ++ [y], G3, q3, by rw [List.length_append, List.length_singleton]; omega, ((s.trans s2).trans s3).updO hn ow3, upd_same, ow3, (lmono r (ex_tr s2.ex s3.ex)).append (.cons r3 .nil)⟩
theorem lc_start {G1 H1 : Hp} {σ : L2.St} {Dl : Addr} {I : Nat → List D → Prop} (hh : Hold p ρ G1 σ H1) (hn : H1 Dl = none) (h0 : I 0 []) : Lc p G1 H1 Dl I 0 (upd H1 Dl (.lst [])) :=
  ⟨[], [], G1, h0, Nat.le_refl _, hh.mem.growO hn, upd_same, hh.mem.fresh hn, .nil⟩
theorem wf_lcL {tl : TE} {vs : List Nat} {Q : Cell → Prop} (h : WE p ρ tl fun x => ∃ xs, x = .lst xs ∧ xs.length ≤ 4000000 ∧ ∃ I : Nat → List D → Prop, I 0 [] ∧
    (∀ k x acc, xs[k]? = some x → I k acc → acc.length ≤ k → WGp p vs (wipeR ρ vs) g x fun ρ2 => WT p ρ2 tt fun b => if b = true then WE p ρ2 te fun y => I (k + 1) (acc ++ [y]) else I (k + 1) acc) ∧ ∀ acc, I xs.length acc → Q (.ol acc)) :
    WF p ρ (tLc (iList p.K tl) g tt te vs) Q := fun G σ H hh Qv kk =>
  h G σ H hh _ fun x v G1 H1 ⟨xs, e, hz, I, h0, hs, hd⟩ s1 r1 => by
    subst e
    obtain ⟨a, us, ev, hq, hl⟩ := r1.lst_inv
    have hh1 := hh.step s1
    refine ⟨a, ev, ⟨us, lq hh1.mem.sub hq⟩, fun Dl hn => lc_list (xs := us) (Lc p G1 H1 Dl I) (lc_start hh1 hn h0) (fun k H' _ L => ?_) (fun k y H' hk L => ?_) fun H' L => ?_⟩
    · obtain ⟨acc, av, G', _, _, s, _⟩ := L
      exact lq s.sub (s.ex _ _ hq)
    · obtain ⟨d, hd1, hd2⟩ := hl.get' hk
      have hk' : k < us.length := (List.getElem?_eq_some_iff.mp hk).1
      exact lc_turn hh1 hn (by have := hl.length; omega) L (fun G' s => ⟨G', (hh1.step s).mem.refl, rmono hd2 s.ex⟩) fun acc hi hle => hs k d acc hd1 hi hle
    · obtain ⟨acc, av, G', hi, _, s, e, ow, r⟩ := L
      rw [hl.length] at hi
      exact kk _ Dl G' H' (hd acc hi) rfl (s1.trans s) (hh.mem.back s1 hn) ⟨Dl, av, rfl, ow, e, r⟩
theorem wf_lcT {tl : TE} {vs : List Nat} {Q : Cell → Prop} (h : WE p ρ tl fun x => ∃ xs, x = .tup xs ∧ xs.length ≤ 4000000 ∧ ∃ I : Nat → List D → Prop, I 0 [] ∧
    (∀ k x acc, xs[k]? = some x → I k acc → acc.length ≤ k → WGp p vs (wipeR ρ vs) g x fun ρ2 => WT p ρ2 tt fun b => if b = true then WE p ρ2 te fun y => I (k + 1) (acc ++ [y]) else I (k + 1) acc) ∧ ∀ acc, I xs.length acc → Q (.ol acc)) :
    WF p ρ (tLc (iTup p.K tl) g tt te vs) Q := fun G σ H hh Qv kk =>
  h G σ H hh _ fun x v G1 H1 ⟨xs, e, hz, I, h0, hs, hd⟩ s1 r1 => by
    subst e
    obtain ⟨a, us, ev, hq, hl⟩ := r1.tup_inv
    have hh1 := hh.step s1
    refine ⟨a, ev, ⟨us, tq hh1.mem.sub hq⟩, fun Dl hn => lc_tup (xs := us) (Lc p G1 H1 Dl I) (lc_start hh1 hn h0) (fun k H' _ L => ?_) (fun k y H' hk L => ?_) fun H' L => ?_⟩
    · obtain ⟨acc, av, G', _, _, s, _⟩ := L
      exact tq s.sub (s.ex _ _ hq)
    · obtain ⟨d, hd1, hd2⟩ := hl.get' hk
      have hk' : k < us.length := (List.getElem?_eq_some_iff.mp hk).1
      exact lc_turn hh1 hn (by have := hl.length; omega) L (fun G' s => ⟨G', (hh1.step s).mem.refl, rmono hd2 s.ex⟩) fun acc hi hle => hs k d acc hd1 hi hle
    · obtain ⟨acc, av, G', hi, _, s, e, ow, r⟩ := L
      rw [hl.length] at hi
      exact kk _ Dl G' H' (hd acc hi) rfl (s1.trans s) (hh.mem.back s1 hn) ⟨Dl, av, rfl, ow, e, r⟩
theorem wf_lc1 {ta : TA} {vs : List Nat} {Q : Cell → Prop} (h : WA p ρ ta fun ds => ∃ n : Int, ds = [.int n] ∧ n ≤ 4000000 ∧ -(2 ^ 62) ≤ n ∧ ∃ I : Nat → List D → Prop, I 0 [] ∧
    (∀ k acc, k < n.toNat → I k acc → acc.length ≤ k → WGp p vs (wipeR ρ vs) g (.int (k : Int)) fun ρ2 => WT p ρ2 tt fun b => if b = true then WE p ρ2 te fun y => I (k + 1) (acc ++ [y]) else I (k + 1) acc) ∧ ∀ acc, I n.toNat acc → Q (.ol acc)) :
    WF p ρ (tLc (iRng1 ta) g tt te vs) Q := fun G σ H hh Qv kk =>
  h G σ H hh _ fun ds ws G1 H1 ⟨n, e, hz, hz2, I, h0, hs, hd⟩ s1 r1 => by
    subst e
    cases r1 with
    | cons r1 rn =>
      cases rn; cases r1
      have hh1 := hh.step s1
      refine ⟨n, rfl, hz2, by omega, fun Dl hn => lc_range (lo := 0) (n := n.toNat) (Lc p G1 H1 Dl I) (lc_start hh1 hn h0) (fun k H' hk L => ?_) fun H' L => ?_⟩
      · rw [Int.zero_add]
        exact lc_turn hh1 hn (by omega) L (fun G' s => ⟨G', (hh1.step s).mem.refl, .int _⟩) fun acc hi hle => hs k acc hk hi hle
      · obtain ⟨acc, av, G', hi, _, s, e, ow, r⟩ := L
        exact kk _ Dl G' H' (hd acc hi) rfl (s1.trans s) (hh.mem.back s1 hn) ⟨Dl, av, rfl, ow, e, r⟩
theorem wf_lc2 {ta : TA} {vs : List Nat} {Q : Cell → Prop} (h : WA p ρ ta fun ds => ∃ lo n : Int, ds = [.int lo, .int n] ∧ n - lo ≤ 4000000 ∧ (-(2 ^ 62) ≤ lo ∧ lo < 2 ^ 62 ∧ -(2 ^ 62) ≤ n ∧ n < 2 ^ 62) ∧ ∃ I : Nat → List D → Prop, I 0 [] ∧
    (∀ k acc, k < (n - lo).toNat → I k acc → acc.length ≤ k → WGp p vs (wipeR ρ vs) g (.int (lo + (k : Int))) fun ρ2 => WT p ρ2 tt fun b => if b = true then WE p ρ2 te fun y => I (k + 1) (acc ++ [y]) else I (k + 1) acc) ∧ ∀ acc, I (n - lo).toNat acc → Q (.ol acc)) :
    WF p ρ (tLc (iRng2 ta) g tt te vs) Q := fun G σ H hh Qv kk =>
  h G σ H hh _ fun ds ws G1 H1 ⟨lo, n, e, hz, hz2, I, h0, hs, hd⟩ s1 r1 => by
    subst e
    cases r1 with
    | cons r1 rn =>
      cases rn with
      | cons r2 rn =>
        cases rn; cases r1; cases r2
        have hh1 := hh.step s1
        refine ⟨lo, n, rfl, hz2, fun Dl hn => lc_range (lo := lo) (n := (n - lo).toNat) (Lc p G1 H1 Dl I) (lc_start hh1 hn h0) (fun k H' hk L => ?_) fun H' L => ?_⟩
        · exact lc_turn hh1 hn (by omega) L (fun G' s => ⟨G', (hh1.step s).mem.refl, .int _⟩) fun acc hi hle => hs k acc hk hi hle
        · obtain ⟨acc, av, G', hi, _, s, e, ow, r⟩ := L
          exact kk _ Dl G' H' (hd acc hi) rfl (s1.trans s) (hh.mem.back s1 hn) ⟨Dl, av, rfl, ow, e, r⟩
end
section
variable {p : Par}
/-- a tuple that stands in H may be taken into what is known -/
theorem Mem.learn {G H : Hp} {q : Addr} {xs : List V} (m : Mem p G H) (e : H q = some (.tup xs)) : ∃ G', Stp p G H G' H ∧ G' q = some (.tup xs) := by
  cases hg : G q with
  | some u =>
    have := m.sub q u hg
    rw [e] at this; cases this
    exact ⟨G, m.refl, hg⟩
  | none =>
    have hq2 : q ≠ p.h := fun z => by
      obtain ⟨c, ns, i', r', n', h1', _⟩ := m.hand
      rw [← z, e] at h1'
      cases h1'
    have ex : Ex G (upd G q (.tup xs)) := fun b u z => by rw [upd_ne (ne_of_none z hg)]; exact z
    refine ⟨upd G q (.tup xs), ⟨fun b u z => ?_, ?_, fun _ _ _ z => z, ex, fun b u z => ?_, m.hand.mono ex rfl⟩, upd_same⟩
    · by_cases hb : b = q
      · subst hb; rw [upd_same] at z; cases z; exact e
      · rw [upd_ne hb] at z; exact m.sub b u z
    · show upd G q (.tup xs) p.h = none
      rw [upd_ne (Ne.symm hq2)]; exact m.gh
    · by_cases hb : b = q
      · subst hb; rw [upd_same] at z; cases z; exact .inr (.inr ⟨⟨_, rfl⟩, e⟩)
      · rw [upd_ne hb] at z; exact .inl z
end
end Cal
set_option Elab.async false
set_option linter.all false
set_option maxRecDepth 100000
set_option maxHeartbeats 2000000
namespace Cal
open PySem L2 PyProof.Rows
open Evl (Ex ex_l ex_t ex_rd sq_of st_of)

/-! ### sum(d.values()) -/
section
variable {X : Cx} {o : Expr} {p pos apos mpos : Pos} {td : TE}
def tSumVals (td : TE) : TE := fun σ H Q => td σ H fun x H1 => ∃ a kvs is, x = V.ref a ∧ H1 a = some (.dK kvs) ∧ kvs.map (·.2) = is.map V.int ∧ Q (.int (List.sum is)) H1
theorem preSum_list : ∀ (is : List Int), PySem.preSum (fun i => is.getD i 0) is.length = is.sum
  | [] => rfl
  | x :: r => by
    have e := PySem.W.kdu_shift (fun i => (x :: r).getD i 0) r.length
    have ih := preSum_list r
    show PySem.preSum (fun i => (x :: r).getD i 0) (r.length + 1) = (x :: r).sum
    rw [e, List.sum_cons]
    have e2 : (fun i => (x :: r).getD (i + 1) 0) = fun i => r.getD i 0 := by funext i; simp
    rw [e2, ih]
    simp
theorem pe_sumVals (hc : X.calm = true) (hg : Gl X "sum") (hm : X.mg "sum" = none) (hd : PE X o td) (hbase : attributeBase o "values" X.env (eval o X.env) = eval o X.env := by rfl) (hline : (apos.endLine == mpos.line) = true := by rfl)
    (hse : starEach [Expr.Call (.Attribute o "values" apos) [] [] mpos] X.env = [(false, eval (Expr.Call (.Attribute o "values" apos) [] [] mpos) X.env)] := by rfl) :
    PE X (.Call (.Name "sum" p) [.Call (.Attribute o "values" apos) [] [] mpos] [] pos) (tSumVals td) := by
  refine ⟨fun pins s σ H Q I h => ?_⟩
  refine wpAny_Call_Name_kw (ld_blt I hg hm (u := .builtin "sum") (by first | rfl | decide +kernel) ?_ (by first | decide +kernel | decide) (by first | decide +kernel | decide))
  rw [hse]
  refine PySem.callWith_builtin1 (wpAny_Call_method0_late hbase hline (thn (hd.run pins s σ H _ I h) fun v s1 ⟨x, H1, I1, r1, a, kvs, is, ex, ha, hv, q⟩ => ?_))
  subst ex
  obtain rfl : v = Value.ref a := r1
  obtain ⟨_, hsys, vs, rel, dof⟩ := dk_of I1.hok ha
  obtain ⟨ep, dat⟩ := dof.dictAt
  have dat' := dat
  obtain ⟨ob, es, ho, ex, hdat, hko, hpr, hnd⟩ := dat'
  refine ⟨"dict", "dict.values", F.plainAttrs_dict, F.slot_dict_values, F.type_dict_values, ⟨ob, ho, ex.1⟩, fun b e => ?_, Calls.callWith_builtin rfl (PySem.evalArgs_none ?_)⟩
  · cases e
    exact ⟨ob, ho, ex.2.1⟩
  refine call_meetsIn F.slot_dict_values ⟨ob, ho, ex.1⟩ F.entry_dict_values (F.args_dict_values_1 _) (meets_dict_values (mixKind X.prog X.w) a hsys) ⟨⟨vs, dof⟩, ?_⟩
  have k1 : ∀ b u, s1.heap.get? b = some u → (s1.heap.push { cls := .type "dict_values", data := .fields #[.ref a] }).get? b = some u := fun b u e => Heap.get?_push_of_some _ e
  have dat1 : (s1.heap.push { cls := .type "dict_values", data := .fields #[.ref a] }).DictAt (mixKind X.prog X.w) a vs ep := dat.keep k1
  have hlv : vs.length = is.length := by
    have e1 := congrArg List.length hv
    rw [List.length_map, List.length_map] at e1
    rw [← e1]
    exact (KV.length rel).symm
  have hval : ∀ (i : Nat) (v : Value), (∃ k, vs[i]? = some (k, v)) → ∃ t, v = Value.int (is.getD i 0) t := fun i v ⟨k, hk⟩ => by
    obtain ⟨x, h1, h2⟩ := KV.at' rel hk
    have e1 : (kvs.map (·.2))[i]? = some x := by rw [List.getElem?_map, h1] <;> rfl
    rw [hv, List.getElem?_map] at e1
    obtain ⟨j, hj, e2⟩ := Option.map_eq_some_iff.mp e1
    subst e2
    obtain ⟨t, e3⟩ := h2
    refine ⟨t, ?_⟩
    rw [e3, List.getD_eq_getElem?_getD, hj] <;> rfl
  refine PySem.call_sum_walkAnyS ?_
  have K := PySem.W.kdl_values (prog := X.prog) (w := X.w) (knd := mixKind X.prog X.w) (r := s1.heap.objs.size) (d := a) (kvs := vs) (ep := ep)
  obtain ⟨oI, St, hit, W, st⟩ := K.iter X.A.in1 { s1 with heap := s1.heap.push { cls := .type "dict_values", data := .fields #[.ref a] } } (I.ok.hd hc) ⟨⟨_, Heap.get?_push_size _ rfl, rfl, rfl⟩, dat1⟩
  have hsz : (s1.heap.push { cls := .type "dict_values", data := .fields #[.ref a] }).objs.size = s1.heap.objs.size + 1 := Heap.size_push _ _
  have hlt : a < s1.heap.objs.size := Heap.lt_size ho
  refine hit _ _ ⟨(s1.heap.push { cls := .type "dict_values", data := .fields #[.ref a] }).objs.size, _, _, _, vs.length, _, _, (fun i => is.getD i 0), rfl, W.toS, st, fun b hb => ?_, hval, fun s' t' hm => ?_⟩
  · show b < ((s1.heap.push _).push oI).objs.size
    rw [Heap.size_push, Heap.size_push]
    rw [hsz] at hb
    rcases List.mem_cons.mp hb with e | hb
    · rw [e]
      exact Nat.lt_succ_self _
    · have e : b = a := List.mem_singleton.mp hb
      rw [e]
      exact Nat.lt_succ_of_lt (Nat.lt_succ_of_lt hlt)
  · have hk : ∀ b o, s1.heap.get? b = some o → s'.heap.get? b = some o := fun b o e =>
      hm.heap b o (fun hI => by
        have e1 : b = (s1.heap.push { cls := .type "dict_values", data := .fields #[.ref a] }).objs.size := List.mem_singleton.mp hI
        have e2 := Heap.lt_size e
        rw [hsz] at e1
        rw [e1] at e2
        exact absurd e2 (Nat.not_lt.mpr (Nat.le_succ _))) (Heap.get?_push_of_some _ (k1 b o e))
    rw [Moved.eq_with hm]
    have e : PySem.preSum (fun i => is.getD i 0) vs.length = is.sum := by rw [hlv]; exact preSum_list is
    rw [e]
    exact ⟨.int _, H1, I1.kept (t' := s'.toks) hk, ⟨t', rfl⟩, q⟩
end
section
variable {p : Par} {ρ : Rho} {Q : D → Prop} {ta tb te td ty : TE} {tt tu : TT} {P : Post} {ts tv : TS}
theorem RpK.vals {K : PySem.W.Frag} {h : Addr} {G : Hp} : ∀ {vs : List (Key × V)} {ds : List (Key × D)} {is : List Int}, RpK K h G vs ds → ds.map (·.2) = is.map D.int → vs.map (·.2) = is.map V.int
  | [], [], [], _, _ => rfl
  | [], [], i :: is, _, e => by cases e
  | x :: vs, y :: ds, [], r, e => by cases e
  | x :: vs, y :: ds, i :: is, r, e => by
    cases r with
    | cons a b =>
      rw [List.map_cons, List.map_cons] at e
      injection e with e1 e2
      have e1' := e1
      subst e1'
      cases a
      rw [List.map_cons, List.map_cons, RpK.vals b e2]
  | [], d :: ds, _, r, _ => by cases r
  | v :: vs, [], _, r, _ => by cases r
theorem we_sumVals {i : Nat} {kvs : List (Key × D)} {is : List Int} (e : ρ[i]? = some (some (.ok kvs))) (he : kvs.map (·.2) = is.map D.int) (q : Q (.int is.sum)) : WE p ρ (tSumVals (tVar i)) Q := fun G σ H hh Qv k => by
  obtain ⟨a, vs, h1, h2, h3⟩ := dget_own hh e
  exact ⟨.ref a, h1, a, vs, is, rfl, h2, h3.vals he, k _ _ G H q hh.mem.refl (.int _)⟩
/-- {k: v} -/
theorem wf_disp1 {Q : Cell → Prop} {tk tx : TE} (h : WE p ρ tk fun y => ∃ k, y = kD k ∧ WE p ρ tx fun x => Q (.ok [(k, x)])) : WF p ρ (tDisp [(tk, tx)]) Q := fun G σ H hh Qv kk a ha => by
  have s0 := hh.mem.growO (o := .dK []) ha
  have hh0 := hh.step s0
  refine h G σ _ hh0 _ fun y w G1 H1 ⟨k, ey, q⟩ s1 r1 => q G1 σ H1 (hh0.step s1) _ fun x u G2 H2 q2 s2 r2 => ?_
  subst ey
  have ow := hh.mem.fresh ha
  obtain ⟨ow1, e1⟩ := Own.step (by intro _ z; cases z) ow upd_same s1
  obtain ⟨ow2, e2⟩ := Own.step (by intro _ z; cases z) ow1 e1 s2
  refine ⟨e2, [(k, u)], ?_, by show 1 ≤ 15; decide, ?_⟩
  · rw [kD_rp r1] <;> rfl
  · refine kk _ a G2 _ q2 rfl (Stp.updO ((s0.trans s1).trans s2) ha ow2) ha ⟨a, _, rfl, ow2, upd_same, ?_⟩
    show RpK p.K p.h G2 (putK [] k u) [(k, x)]
    exact .cons r2 .nil
/-! ### dicts with tuple keys, a slot's own -/
theorem kDs_rp {G : Hp} : ∀ {ks : List Key} {vs : List V}, RpL p.K p.h G vs (ks.map kD) → vs = ks.map kV
  | [], [], _ => rfl
  | k :: ks, v :: vs, r => by
    cases r with
    | cons a b => rw [List.map_cons, kD_rp a, kDs_rp b]
  | [], v :: vs, r => by cases r
  | k :: ks, [], r => by cases r
theorem rp_kDs {G : Hp} : ∀ (ks : List Key), RpL p.K p.h G (ks.map kV) (ks.map kD)
  | [] => .nil
  | k :: ks => .cons rp_kD (rp_kDs ks)
theorem key_at {G H : Hp} {v : V} {ks : List Key} (e : Ex G H) (r : Rp p.K p.h G v (.tup (ks.map kD))) : ∃ b, v = .ref b ∧ H b = some (.tup (ks.map kV)) := by
  obtain ⟨a, vs, ev, h1, h2⟩ := r.tup_inv
  rw [kDs_rp h2] at h1
  exact ⟨a, ev, e _ _ h1⟩
theorem dgetT_own {i : Nat} {kvs : List (List Key × D)} {G : Hp} {σ : L2.St} {H : Hp} (hh : Hold p ρ G σ H) (e : ρ[i]? = some (some (.ot kvs))) : ∃ a vs, σ[i]? = some (some (.ref a)) ∧ H a = some (.dT vs) ∧ RpT p.K p.h G vs kvs := by
  obtain ⟨sv, h1, a, vs, h2, ow, h4, h5⟩ := hh.slot i _ e
  subst h2
  exact ⟨a, vs, h1, h4, h5⟩
theorem we_dgetT {i : Nat} {kvs : List (List Key × D)} (e : ρ[i]? = some (some (.ot kvs))) (h : WE p ρ ty fun y => ∃ k x, y = .tup (k.map kD) ∧ dGet kvs k = some x ∧ Q x) : WE p ρ (tDGet (tVar i) ty) Q := fun G σ H hh Qv kk => by
  obtain ⟨a, vs, h1, _, _⟩ := dgetT_own hh e
  refine ⟨.ref a, h1, h G σ H hh _ fun y w G1 H1 ⟨k, x, ey, ex, q⟩ s1 r1 => ?_⟩
  subst ey
  obtain ⟨a', vs', h1', h2', h3'⟩ := dgetT_own (hh.step s1) e
  rw [h1] at h1'
  cases h1'
  obtain ⟨b, eb, hb⟩ := key_at s1.sub r1
  rcases h3'.find k with ⟨_, z⟩ | ⟨v, d, z1, z2, z3⟩
  · rw [ex] at z; cases z
  · rw [ex] at z2; cases z2
    exact ⟨a, v, rfl, .inr ⟨vs', k, b, .inl h2', eb, hb, z1.symm⟩, kk _ _ G1 H1 q s1 z3⟩
theorem we_dinT {i : Nat} {kvs : List (List Key × D)} (e : ρ[i]? = some (some (.ot kvs))) (h : WE p ρ ty fun y => ∃ k : List Key, y = .tup (k.map kD) ∧ Q (.bl (dGet kvs k).isSome)) : WE p ρ (tDIn ty (tVar i)) Q := fun G σ H hh Qv kk =>
  h G σ H hh _ fun y w G1 H1 ⟨k, ey, q⟩ s1 r1 => by
    subst ey
    obtain ⟨a, vs, h1, h2, h3⟩ := dgetT_own (hh.step s1) e
    obtain ⟨b, eb, hb⟩ := key_at s1.sub r1
    refine ⟨.ref a, h1, a, valV vs k, rfl, .inr ⟨vs, k, b, .inl h2, eb, hb, rfl⟩, ?_⟩
    have z : (valV vs k).isSome = (dGet kvs k).isSome := by
      rcases h3.find k with ⟨z1, z2⟩ | ⟨v, d, z1, z2, _⟩ <;> rw [z1, z2] <;> rfl
    rw [z]
    exact kk _ _ G1 H1 q s1 (.bl _)
theorem we_dnotinT {i : Nat} {kvs : List (List Key × D)} (e : ρ[i]? = some (some (.ot kvs))) (h : WE p ρ ty fun y => ∃ k : List Key, y = .tup (k.map kD) ∧ Q (.bl (!(dGet kvs k).isSome))) : WE p ρ (tDNotIn ty (tVar i)) Q := fun G σ H hh Qv kk =>
  h G σ H hh _ fun y w G1 H1 ⟨k, ey, q⟩ s1 r1 => by
    subst ey
    obtain ⟨a, vs, h1, h2, h3⟩ := dgetT_own (hh.step s1) e
    obtain ⟨b, eb, hb⟩ := key_at s1.sub r1
    refine ⟨.ref a, h1, a, valV vs k, rfl, .inr ⟨vs, k, b, .inl h2, eb, hb, rfl⟩, ?_⟩
    have z : (valV vs k).isSome = (dGet kvs k).isSome := by
      rcases h3.find k with ⟨z1, z2⟩ | ⟨v, d, z1, z2, _⟩ <;> rw [z1, z2] <;> rfl
    rw [z]
    exact kk _ _ G1 H1 q s1 (.bl _)
theorem we_dget2T {i : Nat} {kvs : List (List Key × D)} {tx : TE} (e : ρ[i]? = some (some (.ot kvs))) (h : WE p ρ ty fun y => ∃ k : List Key, y = .tup (k.map kD) ∧ WE p ρ tx fun x => Q ((dGet kvs k).getD x)) : WE p ρ (tDGet2 (tVar i) ty tx) Q := fun G σ H hh Qv kk => by
  obtain ⟨a, vs, h1, h2, h3⟩ := dgetT_own hh e
  refine ⟨.ref a, h1, a, rfl, .inr ⟨vs, .inl h2⟩, h G σ H hh _ fun y w G1 H1 ⟨k, ey, q⟩ s1 r1 => q G1 σ H1 (hh.step s1) _ fun x u G2 H2 q2 s2 r2 => ?_⟩
  subst ey
  obtain ⟨a', vs', h1', h2', h3'⟩ := dgetT_own ((hh.step s1).step s2) e
  rw [h1] at h1'
  cases h1'
  obtain ⟨b, eb, hb⟩ := key_at s2.sub (rmono r1 s2.ex)
  refine ⟨valV vs' k, .inr ⟨vs', k, b, .inl h2', eb, hb, rfl⟩, ?_⟩
  rcases h3'.find k with ⟨z1, z2⟩ | ⟨v, d, z1, z2, z3⟩
  · rw [z1]; rw [z2] at q2; exact kk _ _ G2 H2 q2 (s1.trans s2) r2
  · rw [z1]; rw [z2] at q2; exact kk _ _ G2 H2 q2 (s1.trans s2) z3
theorem ws_dputT {i : Nat} {kvs : List (List Key × D)} (e : ρ[i]? = some (some (.ot kvs))) (hl : kvs.length < 4000000) (h : WE p ρ te fun x => WE p ρ ty fun y => ∃ k : List Key, y = .tup (k.map kD) ∧ P.n (ρ.set i (some (.ot (dPut kvs k x))))) : WS p ρ (sDPut (tVar i) ty te) P := fun G σ H hh E kn kr kb kc =>
  h G σ H hh _ fun x v G1 H1 q1 s1 r1 => by
    obtain ⟨sv, h1, a, vs, h2, ow, h4, h5⟩ := (hh.step s1).slot i _ e
    subst h2
    refine ⟨.ref a, h1, q1 G1 σ H1 (hh.step s1) _ fun y w G2 H2 ⟨k, ek, z⟩ s2 r2 => ?_⟩
    subst ek
    have hh2 := (hh.step s1).step s2
    obtain ⟨sv', h1', a', vs', h2', ow', h4', h5'⟩ := hh2.slot i _ e
    subst h2'
    rw [h1] at h1'
    cases h1'
    have hz := h5'.length
    obtain ⟨b, eb, hb⟩ := key_at s2.sub r2
    refine ⟨a, _, rfl, .inr ⟨vs', k, b, h4', eb, hb, by rw [sizeLine_eq]; omega, rfl⟩, kn _ G2 σ _ z (ex_tr s1.ex s2.ex) (hh2.write e rfl h1 ow' ⟨a, _, rfl, ow', upd_same, h5'.put k (rmono r1 s2.ex)⟩)⟩

/-! ### walks over a dict that a slot owns, locked meanwhile -/
theorem Hold.lock {G : Hp} {σ : L2.St} {H : Hp} (hh : Hold p ρ G σ H) {i : Nat} {c : Cell} {a : Addr} {o : HO} (e : ρ[i]? = some (some c)) (ho : c.isOwn = true) (q : σ[i]? = some (some (.ref a))) (ow : Own p G a) (nt : NT o) :
    Hold p (ρ.set i (some (.rw a o))) G σ (upd H a o) := hh.write e ho q ow ⟨rfl, ow, upd_same, nt⟩
theorem set_set {α : Type} (l : List α) (i : Nat) (a b : α) : (l.set i a).set i b = l.set i b := by simp
/-- for k, v in d.items(): .., d slot i's own; meanwhile nothing is known of slot i -/
theorem ws_items {i : Nat} {g : TG} {kvs : List (Key × D)} (e : ρ[i]? = some (some (.ok kvs))) (I : Nat → Rho → Prop) (hl : ∀ k ρ', I k ρ' → ρ'.length = ρ.length) (h0 : I 0 (ρ.set i none))
    (hs : ∀ (k : Nat) (key : Key) (x : D) (c : Cell) (ρ' : Rho), kvs[k]? = some (key, x) → I k ρ' → WG p (ρ'.set i (some c)) g (.tup [kD key, x]) fun ρ2 => WS p ρ2 ts ⟨fun ρ3 => ρ3[i]? = some (some c) ∧ I (k + 1) (ρ3.set i none), fun _ => False, fun _ => False, fun ρ3 => ρ3[i]? = some (some c) ∧ I (k + 1) (ρ3.set i none)⟩)
    (hd : ∀ ρ', I kvs.length ρ' → P.n (ρ'.set i (some (.ok kvs)))) : WS p ρ (tLock (tFor (iItems (tVar i)) g ts)) P := fun G σ H hh E kn kr kb kc => by
  obtain ⟨sv, h1, a, vs, h2, ow, h4, h5⟩ := hh.slot i _ e
  subst h2
  refine ⟨a, .dK vs, h4, trivial, fun od => ?_⟩
  have hi : i < ρ.length := (List.getElem?_eq_some_iff.mp e).1
  refine ⟨.ref a, h1, a, od, vs, rfl, upd_same, ?_⟩
  -- the word of the walk: slot i holds the locked dict
  have key : ∀ (k : Nat) (ρ' : Rho) (G' : Hp) (σ' : L2.St) (H' : Hp), I k ρ' → Ex G G' → Hold p (ρ'.set i (some (.rw a (.frz od (.dK vs))))) G' σ' H' → H' a = some (.frz od (.dK vs)) ∧ σ'[i]? = some (some (.ref a)) ∧ Own p G' a := fun k ρ' G' σ' H' hi' ex hh' => by
    obtain ⟨sv, q1, q2, q3, q4, _⟩ := hh'.slot i (.rw a (.frz od (.dK vs))) (by rw [List.getElem?_set_self (by rw [hl k ρ' hi']; exact hi)])
    subst q2
    exact ⟨q4, q1, q3⟩
  refine ⟨fun k m σ' H' => m = vs.length - k ∧ k ≤ vs.length ∧ ∃ ρ' G', I k ρ' ∧ Ex G G' ∧ Hold p (ρ'.set i (some (.rw a (.frz od (.dK vs))))) G' σ' H', ⟨vs.length, by simp, Nat.zero_le _, ρ.set i none, G, h0, Ex.rfl', by rw [set_set]; exact hh.lock e rfl h1 ow (by intro _ z; cases z)⟩, ?_⟩
  rintro k m σ' H' ⟨rfl, hk, ρ', G', hi', ex, hh'⟩
  obtain ⟨w1, w2, w3⟩ := key k ρ' G' σ' H' hi' ex hh'
  by_cases hlt : k < vs.length
  · refine .inr ⟨⟨w1, hlt⟩, fun σ2 H2 => ∃ ρ2 G2, I (k + 1) ρ2 ∧ Ex G G2 ∧ Hold p (ρ2.set i (some (.rw a (.frz od (.dK vs))))) G2 σ2 H2, fun σ2 H2 z => ⟨vs.length - (k + 1), by omega, rfl, hlt, z⟩, fun x H2 y => ?_⟩
    obtain ⟨T, ky, v, hx, ex1, hT, eH⟩ := y
    subst ex1 eH
    obtain ⟨d, hd1, hd2⟩ := h5.get' hx
    have s := hh'.mem.grow (o := .tup [kV ky, v]) hT
    have r : Rp p.K p.h (upd G' T (.tup [kV ky, v])) (.ref T) (.tup [kD ky, d]) := .tup upd_same (.cons rp_kD (.cons (rmono (rmono hd2 ex) s.ex) .nil))
    have back : ∀ {ρ3 : Rho}, ρ3[i]? = some (some (.rw a (.frz od (.dK vs)))) → (ρ3.set i none).set i (some (.rw a (.frz od (.dK vs)))) = ρ3 := fun {ρ3} q => by
      rw [set_set]
      refine List.ext_getElem? fun j => ?_
      by_cases hj : i = j
      · subst hj
        rw [List.getElem?_set_self (List.getElem?_eq_some_iff.mp q).1, q]
      · rw [List.getElem?_set_ne hj]
    exact hs k ky d _ ρ' hd1 hi' _ σ' _ _ (hh'.step s) r _ fun ρ2 G2 σ2 H2 z e2 hh2 => z G2 σ2 H2 hh2 _
      (fun ρ3 G3 σ3 H3 ⟨z3, z4⟩ e3 hh3 => ⟨ρ3.set i none, G3, z4, ex_tr (ex_tr ex s.ex) (ex_tr e2 e3), by rw [back z3]; exact hh3⟩)
      (fun d v G3 H3 z3 _ _ => z3.elim) (fun _ _ _ _ z3 => z3.elim)
      (fun ρ3 G3 σ3 H3 ⟨z3, z4⟩ e3 hh3 => ⟨ρ3.set i none, G3, z4, ex_tr (ex_tr ex s.ex) (ex_tr e2 e3), by rw [back z3]; exact hh3⟩)
  · have ek : k = vs.length := by omega
    subst ek
    refine .inl ⟨⟨w1, Nat.le_refl _⟩, w1, ?_⟩
    have hh2 : Hold p ((ρ'.set i (some (.rw a (.frz od (.dK vs))))).set i (some (.ok kvs))) G' σ' (upd H' a (.dK vs)) :=
      hh'.write (c := .rw a (.frz od (.dK vs))) (by rw [List.getElem?_set_self (by rw [hl _ ρ' hi']; exact hi)]) rfl w2 w3 ⟨a, vs, rfl, w3, upd_same, RpK.mono ex _ _ h5⟩
    rw [set_set] at hh2
    exact kn _ G' σ' _ (hd ρ' (by rw [← h5.length]; exact hi')) ex hh2
end
/-! ### comprehensions over a dict that a slot owns -/
section
variable {p : Par} {ρ : Rho} {Q : D → Prop} {ta tb te td ty : TE} {tt tu : TT} {P : Post} {ts tv : TS} {g : TG}
theorem we_dgetLT {i : Nat} {kvs : List (List Key × D)} (e : ρ[i]? = some (some (.lt kvs))) (h : WE p ρ ty fun y => ∃ k x, y = .tup (k.map kD) ∧ dGet kvs k = some x ∧ Q x) : WE p ρ (tDGet (tVar i) ty) Q := fun G σ H hh Qv kk => by
  obtain ⟨sv, h1, a, od, vs, h2, _⟩ := hh.slot i _ e
  subst h2
  refine ⟨.ref a, h1, h G σ H hh _ fun y w G1 H1 ⟨k, x, ey, ex, q⟩ s1 r1 => ?_⟩
  subst ey
  obtain ⟨sv', h1', a', od', vs', h2', ow', h4', h5'⟩ := (hh.step s1).slot i _ e
  subst h2'
  rw [h1] at h1'
  cases h1'
  obtain ⟨b, eb, hb⟩ := key_at s1.sub r1
  rcases h5'.find k with ⟨_, z⟩ | ⟨v, d, z1, z2, z3⟩
  · rw [ex] at z; cases z
  · rw [ex] at z2; cases z2
    exact ⟨a, v, rfl, .inr ⟨vs', k, b, .inr ⟨_, h4'⟩, eb, hb, z1.symm⟩, kk _ _ G1 H1 q s1 z3⟩
theorem we_dgetLK {i : Nat} {kvs : List (Key × D)} (e : ρ[i]? = some (some (.lk kvs))) (h : WE p ρ ty fun y => ∃ k x, y = kD k ∧ dGet kvs k = some x ∧ Q x) : WE p ρ (tDGet (tVar i) ty) Q := fun G σ H hh Qv kk => by
  obtain ⟨sv, h1, a, od, vs, h2, _⟩ := hh.slot i _ e
  subst h2
  refine ⟨.ref a, h1, h G σ H hh _ fun y w G1 H1 ⟨k, x, ey, ex, q⟩ s1 r1 => ?_⟩
  subst ey
  obtain ⟨sv', h1', a', od', vs', h2', ow', h4', h5'⟩ := (hh.step s1).slot i _ e
  subst h2'
  rw [h1] at h1'
  cases h1'
  rcases h5'.find k with ⟨_, z⟩ | ⟨v, d, z1, z2, z3⟩
  · rw [ex] at z; cases z
  · rw [ex] at z2; cases z2
    exact ⟨a, v, rfl, .inl ⟨vs', k, .inr ⟨_, h4'⟩, kD_rp r1, z1.symm⟩, kk _ _ G1 H1 q s1 z3⟩
/-- the walk over the keys of a locked dict with tuple keys, told as a new list -/
theorem lcKeysT {i : Nat} {vs : List Nat} {kvs : List (List Key × D)} {G : Hp} {σ : L2.St} {H : Hp} {Qv : VK} {a : Addr} {od : Obj} {us : List (List Key × V)} (hh : Hold p ρ G σ H) (hq : σ[i]? = some (some (.ref a))) (ha : H a = some (.frz od (.dT us))) (oa : Own p G a) (hl : RpT p.K p.h G us kvs) (hz : kvs.length ≤ 4000000)
    (I : Nat → List D → Prop) (h0 : I 0 [])
    (hs : ∀ (k : Nat) (key : List Key) (x : D) acc, kvs[k]? = some (key, x) → I k acc → acc.length ≤ k → WGp p vs (wipeR ρ vs) g (.tup (key.map kD)) fun ρ2 => WT p ρ2 tt fun b => if b = true then WE p ρ2 te fun y => I (k + 1) (acc ++ [y]) else I (k + 1) acc)
    (kk : ∀ acc Dl G' H', I kvs.length acc → Stp p G H G' H' → H Dl = none → Slot p G' H' (some (.ref Dl)) (.ol acc) → Qv (.ref Dl) H') : tLc (iKeys (tVar i)) g tt te vs σ H Qv := by
  refine ⟨.ref a, hq, a, od, rfl, .inr ⟨us, ha, fun Dl hn => ?_⟩⟩
  refine ⟨fun k m H' => m = us.length - k ∧ k ≤ us.length ∧ Lc p G H Dl I k H', ⟨us.length, by simp, Nat.zero_le _, lc_start hh hn h0⟩, ?_⟩
  rintro k m H' ⟨rfl, hk, L⟩
  have hfrz : H' a = some (.frz od (.dT us)) := by
    obtain ⟨acc, av, G', _, _, s, _⟩ := L
    exact s.base a _ oa.2.2 ha
  by_cases hlt : k < us.length
  · refine .inr ⟨⟨hfrz, hlt⟩, Lc p G H Dl I (k + 1), fun H2 z => ⟨us.length - (k + 1), by omega, rfl, hlt, z⟩, fun x H2 y => ?_⟩
    obtain ⟨eH, ky, v, q, hx, ex, hT⟩ := y
    subst ex eH
    obtain ⟨d, hd1, hd2⟩ := hl.get' hx
    have hlen := hl.length
    exact lc_turn hh hn (by omega) L (fun G' s => by
      obtain ⟨G2, s2, hq2⟩ := Mem.learn (p := p) (hh.step s).mem hT
      exact ⟨G2, s2, .tup hq2 (rp_kDs ky)⟩) fun acc hi hle => hs k ky d acc hd1 hi hle
  · have ek : k = us.length := by omega
    subst ek
    obtain ⟨acc, av, G', hi, _, s, e, ow, r⟩ := L
    exact .inl ⟨⟨hfrz, Nat.le_refl _⟩, kk acc Dl G' H' (by rw [← hl.length]; exact hi) s hn ⟨Dl, av, rfl, ow, e, r⟩⟩
/-- y = [.. for k in d ..], d slot i's own with tuple keys -/
theorem ws_lcKeysT {i j : Nat} {vs : List Nat} {kvs : List (List Key × D)} (e : ρ[i]? = some (some (.ot kvs))) (hz : kvs.length ≤ 4000000) (I : Nat → List D → Prop) (h0 : I 0 [])
    (hs : ∀ (k : Nat) (key : List Key) (x : D) acc, kvs[k]? = some (key, x) → I k acc → acc.length ≤ k → WGp p vs (wipeR (ρ.set i (some (.lt kvs))) vs) g (.tup (key.map kD)) fun ρ2 => WT p ρ2 tt fun b => if b = true then WE p ρ2 te fun y => I (k + 1) (acc ++ [y]) else I (k + 1) acc)
    (hd : ∀ acc, I kvs.length acc → P.n (ρ.set j (some (.ol acc)))) (hij : i ≠ j) : WS p ρ (tLock (tAsg (tLc (iKeys (tVar i)) g tt te vs) (gName j))) P := fun G σ H hh E kn kr kb kc => by
  obtain ⟨sv, h1, a, us, h2, ow, h4, h5⟩ := hh.slot i _ e
  subst h2
  refine ⟨a, .dT us, h4, trivial, fun od => ?_⟩
  have hi : i < ρ.length := (List.getElem?_eq_some_iff.mp e).1
  have hh1 : Hold p (ρ.set i (some (.lt kvs))) G σ (upd H a (.frz od (.dT us))) := hh.write e rfl h1 ow ⟨a, od, us, rfl, ow, upd_same, h5⟩
  refine lcKeysT hh1 h1 upd_same ow h5 hz I h0 hs fun acc Dl G' H' hacc s hn x => ?_
  have hfr : H' a = some (.frz od (.dT us)) := s.base a _ ow.2.2 upd_same
  refine ⟨hfr, ?_⟩
  have hh2 := hh1.setNew (i := j) s hn x
  have hlt : (ρ.set i (some (.lt kvs)) : Rho)[i]? = some (some (.lt kvs)) := List.getElem?_set_self hi
  have ow2 : Own p G' a := (Own.step (by intro _ z; cases z) ow (upd_same (H := H) (o := .frz od (.dT us))) s).1
  have hh3 : Hold p (((ρ.set i (some (.lt kvs))).set j (some (.ol acc))).set i (some (.ot kvs))) G' (σ.set j (some (.ref Dl))) (upd H' a (.dT us)) :=
    hh2.write (c := .lt kvs) (by rw [List.getElem?_set_ne (Ne.symm hij)]; exact hlt) rfl (by rw [List.getElem?_set_ne (Ne.symm hij)]; exact h1) ow2 ⟨a, us, rfl, ow2, upd_same, RpT.mono s.ex _ _ h5⟩
  have er : (((ρ.set i (some (.lt kvs))).set j (some (.ol acc))).set i (some (.ot kvs))) = ρ.set j (some (.ol acc)) := by
    rw [List.set_comm _ _ (Ne.symm hij), set_set]
    congr 1
    refine List.ext_getElem? fun m => ?_
    by_cases hm : i = m
    · subst hm
      rw [List.getElem?_set_self hi, e]
    · rw [List.getElem?_set_ne hm]
  rw [er] at hh3
  exact kn _ G' _ _ (hd acc hacc) s.ex hh3
end
end Cal
set_option Elab.async false
set_option linter.all false
set_option maxRecDepth 100000
set_option maxHeartbeats 2000000
namespace Cal
open PySem L2 PyProof.Rows
open Evl (Ex ex_l ex_t ex_rd sq_of st_of)
/-! ### isinstance -/
def tyD : D → Option String
  | .non => some "NoneType" | .bl _ => some "bool" | .int _ => some "int" | .str _ => some "str" | .tup _ => some "tuple" | .lst _ => some "list" | .dK _ => some "dict" | _ => none
section
variable {p : Par} {ρ : Rho} {Q : D → Prop} {ta tb te td ty : TE} {tt tu : TT} {P : Post} {ts tv : TS} {g : TG}
theorem tyD_x {G H : Hp} {v : V} {t : String} (e : Ex G H) : ∀ {x : D}, Rp p.K p.h G v x → tyD x = some t → TyX p.K H v (.type t)
  | .non, r, h => by cases r; cases h; exact .base .non
  | .bl b, r, h => by cases r; cases h; exact .base (.bl b)
  | .int i, r, h => by cases r; cases h; exact .base (.int i)
  | .str x, r, h => by cases r; cases h; exact .base (.str x)
  | .tup xs, r, h => by
    cases h
    obtain ⟨a, vs, ev, h1, _⟩ := r.tup_inv
    subst ev
    exact .base (.tup (e _ _ h1))
  | .lst xs, r, h => by
    cases h
    obtain ⟨a, vs, ev, h1, _⟩ := r.lst_inv
    subst ev
    exact .base (.lst (e _ _ h1))
  | .dK kvs, r, h => by
    cases h
    cases r with
    | dK q _ =>
      rcases ex_rd e q with q | ⟨o, q⟩
      · exact .base (.dK q)
      · exact .fDict q
  | .hand, _, h => by cases h
  | .dT _, _, h => by cases h
  | .raw _, _, h => by cases h
theorem we_isi {T : String} (h : WE p ρ te fun x => ∃ t b, tyD x = some t ∧ kitB t T = some b ∧ Q (.bl b)) : WE p ρ (tCB (rIsi p.K) (tCons te (tCons (tC (.ty T)) tNil))) Q := fun G σ H hh Qv k =>
  h G σ H hh _ fun x v G1 H1 ⟨t, b, e1, e2, q⟩ s r => ⟨v, .ty T, .type t, .type T, b, rfl, .ty T, tyD_x s.sub r e1, kit_ty e2, k _ _ G1 H1 q s (.bl _)⟩
end
theorem kb_int_int : kitB "int" "int" = some true := by decide +kernel
theorem kb_bool_int : kitB "bool" "int" = some true := by decide +kernel
theorem kb_tuple_int : kitB "tuple" "int" = some false := by decide +kernel
theorem kb_list_int : kitB "list" "int" = some false := by decide +kernel
theorem kb_str_int : kitB "str" "int" = some false := by decide +kernel
theorem kb_none_int : kitB "NoneType" "int" = some false := by decide +kernel
theorem kb_dict_int : kitB "dict" "int" = some false := by decide +kernel
theorem kb_int_bool : kitB "int" "bool" = some false := by decide +kernel
theorem kb_bool_bool : kitB "bool" "bool" = some true := by decide +kernel
theorem kb_tuple_bool : kitB "tuple" "bool" = some false := by decide +kernel
theorem kb_list_bool : kitB "list" "bool" = some false := by decide +kernel
theorem kb_str_bool : kitB "str" "bool" = some false := by decide +kernel
theorem kb_none_bool : kitB "NoneType" "bool" = some false := by decide +kernel
theorem kb_dict_bool : kitB "dict" "bool" = some false := by decide +kernel
theorem kb_int_tuple : kitB "int" "tuple" = some false := by decide +kernel
theorem kb_bool_tuple : kitB "bool" "tuple" = some false := by decide +kernel
theorem kb_tuple_tuple : kitB "tuple" "tuple" = some true := by decide +kernel
theorem kb_list_tuple : kitB "list" "tuple" = some false := by decide +kernel
theorem kb_str_tuple : kitB "str" "tuple" = some false := by decide +kernel
theorem kb_none_tuple : kitB "NoneType" "tuple" = some false := by decide +kernel
theorem kb_dict_tuple : kitB "dict" "tuple" = some false := by decide +kernel
theorem kb_int_list : kitB "int" "list" = some false := by decide +kernel
theorem kb_int_dict : kitB "int" "dict" = some false := by decide +kernel

/-! ### ints -/
theorem ix0 {α : Type} {xs : List α} {n : Nat} {x : α} (h : xs[n]? = some x) : atI xs (n : Int) = some x := by
  unfold atI ixN
  have hl : n < xs.length := (List.getElem?_eq_some_iff.mp h).1
  rw [if_pos (by omega), if_pos (by omega)]
  simpa using h
theorem atI_of {α : Type} {xs : List α} {i : Int} (h0 : 0 ≤ i) (h : i < xs.length) : ∃ x, atI xs i = some x ∧ xs[i.toNat]? = some x := by
  have hl : i.toNat < xs.length := by omega
  refine ⟨xs[i.toNat], ?_, List.getElem?_eq_getElem hl⟩
  unfold atI ixN
  rw [if_pos h0, if_pos h]
  exact List.getElem?_eq_getElem hl
/-- products of ints below 2 ^ 500000 -/
theorem mulOk {i j : Int} (hi : i.natAbs < 2 ^ 499999) (hj : j.natAbs < 2 ^ 499999) : CMulW i j := wide_mul (a := 499999) (b := 499999) hi hj (by decide) (by decide) (by decide)
theorem mulS {i j : Int} (a b : Nat) (hi : i.natAbs < 2 ^ a) (hj : j.natAbs < 2 ^ b) (h0 : 0 < a) (h1 : 0 < b) (h : a + b ≤ 1000000) : CMulW i j := wide_mul hi hj h0 h1 h
theorem big {n : Nat} {k : Nat} (h : n < 18446744073709551616) (hk : 64 ≤ k) : n < 2 ^ k := Nat.lt_of_lt_of_le (show n < 2 ^ 64 from h) (Nat.pow_le_pow_right (by decide) hk)
theorem natAbs_lt {i : Int} {n : Nat} (h1 : -(n : Int) < i) (h2 : i < n) : i.natAbs < n := by omega
/-- products of ints below 2 ^ 64 -/
theorem mul64 {i j : Int} (hi : i.natAbs < 18446744073709551616) (hj : j.natAbs < 18446744073709551616) : CMulW i j := mulS 64 64 hi hj (by decide) (by decide) (by decide)
theorem div64 {j : Int} (i : Int) (h : 0 < j) (hj : j < 18446744073709551616) : CDivW i j := by
  refine wide_div (b := 64) h ?_ (by decide) (by decide)
  have e : (2 : Nat) ^ 64 = 18446744073709551616 := by decide
  rw [e]
  omega
/-- a product: one side below 2 ^ 64, or both together not too long -/
def CMulA (i j : Int) : Prop := (-18446744073709551616 < i ∧ i < 18446744073709551616) ∨ (-18446744073709551616 < j ∧ j < 18446744073709551616) ∨ CMulW i j
def CDivA (_ j : Int) : Prop := 0 < j ∧ (j < 18446744073709551616 ∨ j.natAbs.log2 < 9000)
theorem op_mulA {X : Cx} : OpR X (binaryOp .Mult) (rI CMulA fun i j => .int (i * j)) := by
  intro pins s σ H x y v u Q I rx ry h
  obtain ⟨i, j, ex, ey, c, q⟩ := h
  have e : (2 : Int) ^ 64 = 18446744073709551616 := by decide
  rcases c with c | c | c
  · exact op_mul pins s σ H x y v u Q I rx ry ⟨i, j, ex, ey, .inl (by rw [e]; exact c), q⟩
  · exact op_mul pins s σ H x y v u Q I rx ry ⟨i, j, ex, ey, .inr (by rw [e]; exact c), q⟩
  · exact op_mulW pins s σ H x y v u Q I rx ry ⟨i, j, ex, ey, c, q⟩
theorem op_divA {X : Cx} : OpR X (binaryOp .FloorDiv) (rI CDivA fun i j => .int (i / j)) := by
  intro pins s σ H x y v u Q I rx ry h
  obtain ⟨i, j, ex, ey, ⟨c1, c2⟩, q⟩ := h
  refine op_fdivW pins s σ H x y v u Q I rx ry ⟨i, j, ex, ey, ?_, q⟩
  rcases c2 with c | c
  · exact div64 i c1 c
  · exact ⟨c1, c⟩
/-! ### the hand -/
section
variable {p : Par} {ρ : Rho} {Q : D → Prop} {ta tb te td ty : TE} {tt tu : TT} {P : Post} {ts tv : TS} {g : TG}
theorem we_hand0 (h : WE p ρ ta fun x => x = .hand ∧ ∀ ns : List Int, ns.length ≤ 63 → Q (.lst (ns.map D.int))) : WE p ρ (tOp (rIxL p.K) ta (tC (.int 0))) Q := fun G σ H hh Qv k =>
  h G σ H hh _ fun x v G1 H1 ⟨e, q⟩ s1 r1 => by
    subst e
    cases r1
    obtain ⟨c, ns, i, r, n, h1, h2, h3, _⟩ := s1.hand
    exact ⟨p.h, _, 0, .ref c, rfl, rfl, sq_of h1, rfl, k _ _ G1 H1 (q ns h3) s1 (.lst h2 (RpL.ofInts ns))⟩
theorem we_handN {j : Int} (hj : j = 1 ∨ j = 2 ∨ j = 3) (h : WE p ρ ta fun x => x = .hand ∧ ∀ i : Int, 0 ≤ i → Q (.int i)) : WE p ρ (tOp (rIxL p.K) ta (tC (.int j))) Q := fun G σ H hh Qv k =>
  h G σ H hh _ fun x v G1 H1 ⟨e, q⟩ s1 r1 => by
    subst e
    cases r1
    obtain ⟨c, ns, i, r, n, h1, h2, h3, h4, h5, h6⟩ := s1.hand
    rcases hj with e | e | e
    · subst e; exact ⟨p.h, _, 1, .int i, rfl, rfl, sq_of h1, rfl, k _ _ G1 H1 (q i h4) s1 (.int _)⟩
    · subst e; exact ⟨p.h, _, 2, .int r, rfl, rfl, sq_of h1, rfl, k _ _ G1 H1 (q r h5) s1 (.int _)⟩
    · subst e; exact ⟨p.h, _, 3, .int n, rfl, rfl, sq_of h1, rfl, k _ _ G1 H1 (q n h6) s1 (.int _)⟩
theorem Hold.handed {G : Hp} {σ : L2.St} {H H' : Hp} (hh : Hold p ρ G σ H) (hne : ∀ a, a ≠ p.h → H' a = H a) (hd : Hand p.K G H' p.h) : Hold p ρ G σ H' := by
  refine ⟨⟨fun b u z => ?_, hh.mem.gh, fun b u n z => by rw [hne b n]; exact hh.mem.base b u n z, hh.mem.g0, hh.mem.new, hd⟩, hh.len, fun j c e => ?_, hh.sep⟩
  · rw [hne b (fun y => by rw [y, hh.mem.gh] at z; cases z)]; exact hh.mem.sub b u z
  · obtain ⟨sv, h1, h2⟩ := hh.slot j c e
    refine ⟨sv, h1, ?_⟩
    cases c with
    | d x => exact h2
    | ol xs => obtain ⟨b, vs, h3, h4, h5, h6⟩ := h2; exact ⟨b, vs, h3, h4, by rw [hne b h4.2.2]; exact h5, h6⟩
    | ok xs => obtain ⟨b, vs, h3, h4, h5, h6⟩ := h2; exact ⟨b, vs, h3, h4, by rw [hne b h4.2.2]; exact h5, h6⟩
    | ot xs => obtain ⟨b, vs, h3, h4, h5, h6⟩ := h2; exact ⟨b, vs, h3, h4, by rw [hne b h4.2.2]; exact h5, h6⟩
    | rw b u => obtain ⟨h3, h4, h5, h6⟩ := h2; exact ⟨h3, h4, by rw [hne b h4.2.2]; exact h5, h6⟩
    | lk xs => obtain ⟨b, od, vs, h3, h4, h5, h6⟩ := h2; exact ⟨b, od, vs, h3, h4, by rw [hne b h4.2.2]; exact h5, h6⟩
    | lt xs => obtain ⟨b, od, vs, h3, h4, h5, h6⟩ := h2; exact ⟨b, od, vs, h3, h4, by rw [hne b h4.2.2]; exact h5, h6⟩
theorem ws_handN {j : Int} (hj : j = 1 ∨ j = 2 ∨ j = 3) (h : WE p ρ te fun y => ∃ i, y = .int i ∧ 0 ≤ i ∧ WE p ρ ta fun x => x = .hand ∧ P.n ρ) : WS p ρ (tAsg te (gSub ta (tC (.int j)) rSetL)) P := fun G σ H hh E kn kr kb kc =>
  h G σ H hh _ fun y w G1 H1 ⟨z, e, hz, q⟩ s1 r1 => q G1 σ H1 (hh.step s1) _ fun x v G2 H2 ⟨e2, q2⟩ s2 r2 => by
    subst e e2
    cases r1
    cases r2
    have hh2 := (hh.step s1).step s2
    obtain ⟨c, ns, i, r, n, h1, h2, h3, h4, h5, h6⟩ := s2.hand
    have go : ∀ (jn : Nat) (xs' : List V), Hand p.K G2 (upd H2 p.h (.lst xs')) p.h → E.nx σ (upd H2 p.h (.lst xs')) := fun jn xs' hd =>
      kn ρ G2 σ _ q2 (ex_tr s1.ex s2.ex) (hh2.handed (fun a ha => upd_ne ha) hd)
    rcases hj with e | e | e
    · subst e
      exact ⟨p.h, _, 1, 1, rfl, rfl, h1, rfl, go 1 _ ⟨c, ns, z, r, n, upd_same, h2, h3, hz, h5, h6⟩⟩
    · subst e
      exact ⟨p.h, _, 2, 2, rfl, rfl, h1, rfl, go 2 _ ⟨c, ns, i, z, n, upd_same, h2, h3, h4, hz, h6⟩⟩
    · subst e
      exact ⟨p.h, _, 3, 3, rfl, rfl, h1, rfl, go 3 _ ⟨c, ns, i, r, z, upd_same, h2, h3, h4, h5, hz⟩⟩
end
/-! ### chains, truth -/
section
variable {p : Par} {ρ : Rho} {Q : D → Prop} {ta tb tc te td ty : TE} {tt tu : TT} {P : Post} {ts tv : TS} {g : TG}
theorem we_chain {f f' : Int → Int → Bool} (h : WE p ρ ta fun x => ∃ i, x = .int i ∧ WE p ρ tb fun y => ∃ j, y = .int j ∧ (f i j = true → WE p ρ tc fun z => ∃ k, z = .int k ∧ Q (.bl (f' j k))) ∧ (f i j = false → Q (.bl false))) :
    WE p ρ (tChain (rI0 fun i j => .bl (f i j)) (rI0 fun i j => .bl (f' i j)) ta tb tc) Q := fun G σ H hh Qv k =>
  h G σ H hh _ fun x v G1 H1 ⟨i, e1, h2⟩ s1 r1 => h2 G1 σ H1 (hh.step s1) _ fun y w G2 H2 ⟨j, e2, q1, q2⟩ s2 r2 => by
    subst e1 e2
    refine ⟨i, j, rp_int r1, rp_int r2, f i j, rfl, ?_⟩
    cases hb : f i j with
    | false => rw [if_neg (by decide)]; exact k _ _ G2 H2 (q2 hb) (s1.trans s2) (.bl _)
    | true =>
      rw [if_pos rfl]
      refine q1 hb G2 σ H2 ((hh.step s1).step s2) _ fun z u G3 H3 ⟨l, e3, q⟩ s3 r3 => ?_
      subst e3
      exact ⟨j, l, rp_int r2, rp_int r3, k _ _ G3 H3 q ((s1.trans s2).trans s3) (.bl _)⟩
end
/-! ### kinds -/
def isIB : D → Bool | .int _ => true | .bl _ => true | _ => false
def isBl : D → Bool | .bl _ => true | _ => false
def isI : D → Bool | .int _ => true | _ => false
def isTu : D → Bool | .tup _ => true | _ => false
def isLs : D → Bool | .lst _ => true | _ => false
theorem kb_int : ∀ {x : D} {t : String}, tyD x = some t → kitB t "int" = some (isIB x)
  | .non, _, h => by cases h; exact kb_none_int
  | .bl _, _, h => by cases h; exact kb_bool_int
  | .int _, _, h => by cases h; exact kb_int_int
  | .str _, _, h => by cases h; exact kb_str_int
  | .tup _, _, h => by cases h; exact kb_tuple_int
  | .lst _, _, h => by cases h; exact kb_list_int
  | .dK _, _, h => by cases h; exact kb_dict_int
  | .hand, _, h => by cases h
  | .dT _, _, h => by cases h
  | .raw _, _, h => by cases h
theorem kb_bool : ∀ {x : D} {t : String}, tyD x = some t → kitB t "bool" = some (isBl x)
  | .non, _, h => by cases h; exact kb_none_bool
  | .bl _, _, h => by cases h; exact kb_bool_bool
  | .int _, _, h => by cases h; exact kb_int_bool
  | .str _, _, h => by cases h; exact kb_str_bool
  | .tup _, _, h => by cases h; exact kb_tuple_bool
  | .lst _, _, h => by cases h; exact kb_list_bool
  | .dK _, _, h => by cases h; exact kb_dict_bool
  | .hand, _, h => by cases h
  | .dT _, _, h => by cases h
  | .raw _, _, h => by cases h
theorem kb_tuple : ∀ {x : D} {t : String}, tyD x = some t → kitB t "tuple" = some (isTu x)
  | .non, _, h => by cases h; exact kb_none_tuple
  | .bl _, _, h => by cases h; exact kb_bool_tuple
  | .int _, _, h => by cases h; exact kb_int_tuple
  | .str _, _, h => by cases h; exact kb_str_tuple
  | .tup _, _, h => by cases h; exact kb_tuple_tuple
  | .lst _, _, h => by cases h; exact kb_list_tuple
  | .dK _, _, h => by cases h; exact kb_dict_tuple
  | .hand, _, h => by cases h
  | .dT _, _, h => by cases h
  | .raw _, _, h => by cases h
/-! ### more built-ins -/
section
variable {p : Par} {ρ : Rho} {Q : D → Prop} {ta tb tc te td ty : TE} {tt tu : TT} {P : Post} {ts tv : TS} {g : TG}
theorem we_isiT {A B : String} (h : WE p ρ te fun x => ∃ t a b, tyD x = some t ∧ kitB t A = some a ∧ kitB t B = some b ∧ Q (.bl (a || b))) : WE p ρ (tCB (rIsiT p.K) (tCons te (tCons (tTup (tCons (tC (.ty A)) (tCons (tC (.ty B)) tNil))) tNil))) Q := fun G σ H hh Qv k =>
  h G σ H hh _ fun x v G1 H1 ⟨t, a, b, e1, e2, e3, q⟩ s r => ⟨sz (Nat.le_of_ble_eq_true rfl), fun tp hp => by
    have s2 := (hh.step s).mem.grow (o := .tup [.ty A, .ty B]) hp
    refine ⟨v, tp, [.ty A, .ty B], .type t, [.type A, .type B], a || b, rfl, upd_same, .cons (.ty A) (.cons (.ty B) .nil), tyD_x s2.sub (rmono r s2.ex) e1, ?_, k _ _ _ _ q (s.trans s2) (.bl _)⟩
    refine kitAny_cons (kit_ty e2) (fun ha => ?_) (fun ha => by rw [ha]; rfl)
    rw [ha]
    refine kitAny_cons (kit_ty e3) (fun hb => ?_) (fun hb => by rw [hb]; rfl)
    rw [hb]
    exact kitAny_nil⟩
theorem we_eqB (h : WE p ρ ta fun x => ∃ i, x = .bl i ∧ WE p ρ tb fun y => ∃ j, y = .bl j ∧ Q (.bl (i == j))) : WE p ρ (tOp rEq ta tb) Q :=
  we_op (h.imp fun x ⟨i, e, h⟩ => h.imp fun y ⟨j, e2, q⟩ => fun G H v w m r1 r2 Qv k => by
    subst e e2
    rw [rp_bl r1, rp_bl r2]
    refine ⟨rfl, ?_⟩
    rw [dec_bl]
    exact k _ _ G H q m.refl (.bl _))
theorem we_sum (h : WE p ρ te fun x => ∃ ns : List Int, x = .lst (ns.map D.int) ∧ Q (.int ns.sum)) : WE p ρ (tCB (rSum p.K) (tCons te tNil)) Q :=
  we_cb (wa_cons (h.imp fun x ⟨ns, e, q⟩ => wa_nil fun G H vs m r Qv k => by
    subst e
    cases r with
    | cons r rn =>
      cases rn
      obtain ⟨a, us, ev, hs, hl⟩ := r.lst_inv
      subst ev
      rw [hl.ints] at hs
      exact ⟨a, ns, rfl, lq m.sub hs, k _ _ G H q m.refl (.int _)⟩))
end
/-! ### the law's own start -/
/-- a def by a promise of its own -/
structure DfnR (P : Program) (w : World) (K : PySem.W.Frag) (mg : Str → Option Value) (base : Heap) (k : Nat) (x : Str) (ps : List Str) (sp : Sp) : Prop where
  ex : ∃ f fd, mg x = some (.ref f) ∧ PySem.W.keepIn K (.ref f) = true ∧ FnOk P w K mg base CX0 k f fd ps sp ∧ Binds K fd ps []
section
variable {X : Cx} {x : Str} {p pos : Pos} {e : Expr} {es : List Expr} {t : TA} {k : Nat} {ps : List Str} {sp : Sp}
theorem pe_callR (F : DfnR X.prog X.w X.K X.mg X.base k x ps sp) (hr : Room k X.A) (ha : PA X (e :: es) t) (hg : Gl X x := by rfl) (hdb : (x == ("__debug__" : Str)) = false := by decide)
    (he : starEach (e :: es) X.env = (false, eval e X.env) :: starEach es X.env := by rfl) (hpl : (backTo pos (starEach es X.env)).any (·.1) = false := by rfl) : PE X (.Call (.Name x p) (e :: es) [] pos) (tCall sp [] E0 t) := by
  obtain ⟨f, fd, h1, h2, h3, h4⟩ := F.ex
  exact pe_call h3 hr hg h1 h2 h4 .nil pass0 ha hdb he hpl
end
section
variable {P : Program} {w : World} {K : PySem.W.Frag} {mg : Str → Option Value} {base : Heap}
theorem mkR {x : Str} {st : Stmt} {N ps : List Str} {k : Nat} {sp : Sp} (F : Src K mg x st) (sc : FnScope N ps (defScope st))
    (hb : ∀ (kV doc pm : Value) (an : Option Addr) (cdv ct : Value) (us : List Value), us.length = ps.length → bindArgs (PySem.W.fnOf x x (defArgs st) (defBody st) (defScope st) .none kV doc pm an cdv ct) ⟨us, []⟩ = pure (ps.zip us))
    (len : ∀ vs H Q E, sp vs H Q E → vs.length = ps.length)
    (body : ∀ (f : Addr) (cdv : Value) (A : Around) (outer : List Env) (s : Shared) (H : Hp) (E : XK), Room k (A.deeper (envOfC x (defScope st) s.heap.objs.size f cdv)) →
      ∃ t, PSs (cxOf CX0 P w K mg base N x (defScope st) f cdv A outer s H E).nox (defBody st) t ∧ ∀ vs Q, sp vs H Q E → t { nx := fun _ H' => Q .non H', rt := Q } (L2.start N vs) H) : DfnR P w K mg base (k + 1) x ps sp := by
  obtain ⟨f, fd, hm, F⟩ := F.ex
  refine ⟨f, fd, hm, F.kp, F.ok sc len (fun cdv A outer s H vs Q E hr h => ?_), F.binds hb⟩
  obtain ⟨t, ht, hw⟩ := body f cdv A outer s H E hr
  exact ⟨t, ht, hw vs Q h⟩
end
/-- _law_hand's promise -/
def spHand (K : PySem.W.Frag) : Sp := fun vs H Q _ => ∃ (a : Addr) (ns : List Int), vs = [.ref a] ∧ SqL K H a (ns.map V.int) ∧ ns.length ≤ 63 ∧
  ∀ (h c : Addr) (H' : Hp), Ex H H' → h ≠ c → H' h = some (.lst [.ref c, .int 0, .int 0, .int 0]) → H' c = some (.lst (ns.map V.int)) → Q (.ref h) H'
def spLaw (K : PySem.W.Frag) : Sp := fun vs H Q _ => ∃ (a : Addr) (ns : List Int), vs = [.ref a] ∧ SqL K H a (ns.map V.int) ∧ ns.length ≤ 63 ∧ ∀ H', Q (.bl true) H'
def lawP : Post := ⟨fun _ => False, fun d => d = .bl true, fun _ => False, fun _ => False⟩
theorem law_go {K : PySem.W.Frag} {H : Hp} {h c : Addr} {ns : List Int} {σ : L2.St} {ts : TS} {E : Ends} (ρ : Rho) (hne : h ≠ c) (hl : ns.length ≤ 63) (hh : H h = some (.lst [.ref c, .int 0, .int 0, .int 0])) (hc : H c = some (.lst (ns.map V.int)))
    (len : σ.length = ρ.length) (hρ : ∀ (i : Nat) (x : Cell), ρ[i]? = some (some x) → x = .d .hand ∧ σ[i]? = some (some (.ref h))) (hw : ∀ H0 G0, WS ⟨K, h, H0, G0⟩ ρ ts lawP) (hE : ∀ H', E.rt (.bl true) H') : ts E σ H := by
  let G : Hp := fun a => if a = h then none else H a
  have hG : ∀ a o, G a = some o → H a = some o ∧ a ≠ h := fun a o e => by
    by_cases ha : a = h
    · have : G a = none := if_pos ha
      rw [this] at e; cases e
    · have : G a = H a := if_neg ha
      rw [this] at e; exact ⟨e, ha⟩
  have m : Mem ⟨K, h, H, G⟩ G H := ⟨fun a o e => (hG a o e).1, if_pos rfl, fun _ _ _ e => e, fun _ _ e => e, fun _ _ e => .inl e, ⟨c, ns, 0, 0, 0, hh, by show (if c = h then none else H c) = _; rw [if_neg (Ne.symm hne)]; exact hc, hl, by omega, by omega, by omega⟩⟩
  refine hw H G G σ H ⟨m, len, fun i x e => ?_, fun i j x x' a e1 o1 e2 o2 _ _ => ?_⟩ E (fun _ _ _ _ z => z.elim) (fun d v G' H' z _ r => ?_) (fun _ _ _ _ z => z.elim) fun _ _ _ _ z => z.elim
  · obtain ⟨rfl, q⟩ := hρ i x e
    exact ⟨_, q, _, rfl, .hand⟩
  · obtain ⟨rfl, _⟩ := hρ i x e1
    cases o1
  · have z' : d = .bl true := z
    subst z'
    rw [rp_bl r]
    exact hE H'
/-- behind a statement what slot i owns is plain data -/
theorem ws_endfreeze {p : Par} {ρ : Rho} {ts : TS} {P : Post} (i : Nat) (h : WS p ρ ts { P with n := fun ρ' => ∃ c, ρ'[i]? = some (some c) ∧ c.isOwn = true ∧ P.n (ρ'.set i (some (.d c.toD))) }) : WS p ρ ts P := fun G σ H hh E kn kr kb kc =>
  h G σ H hh E (fun ρ' G' σ' H' ⟨c, e, ho, z⟩ ex hh' => by
    obtain ⟨sv, h1, h2⟩ := hh'.slot i _ e
    obtain ⟨a, u, h3, _, _⟩ := Cell.own_ref h2 ho
    subst h3
    obtain ⟨o, ha, ow, r⟩ := h2.toD ho
    obtain ⟨hh2, ex2⟩ := hh'.freeze e ho h1 ow ha r
    exact kn _ _ σ' H' z (ex_tr ex ex2) hh2) kr kb kc
theorem law_go1 {K : PySem.W.Frag} {H : Hp} {h c a : Addr} {ns : List Int} {ts : TS} {E : Ends} (k : Nat) (hne : h ≠ c) (hl : ns.length ≤ 63) (hh : H h = some (.lst [.ref c, .int 0, .int 0, .int 0])) (hc : H c = some (.lst (ns.map V.int)))
    (hw : ∀ H0 G0, WS ⟨K, h, H0, G0⟩ (none :: some (.d .hand) :: List.replicate k none) ts lawP) (hE : ∀ H', E.rt (.bl true) H') : ts E (some (.ref a) :: some (.ref h) :: List.replicate k none) H := by
  refine law_go (none :: some (.d .hand) :: List.replicate k none) hne hl hh hc (by simp) (fun i x e => ?_) hw hE
  match i, e with
  | 0, e => simp at e
  | 1, e =>
    simp only [List.getElem?_cons_succ, List.getElem?_cons_zero, Option.some.injEq] at e
    subst e
    exact ⟨rfl, rfl⟩
  | i + 2, e =>
    simp only [List.getElem?_cons_succ, List.getElem?_replicate] at e
    split at e <;> cases e
/-! ### the rules with the written part by its name -/
section
variable {X : Cx} {K0 : PySem.W.Frag}
theorem ix_tupK (hK : X.K = K0) : IxR X (rIxT K0) := hK ▸ ix_tup
theorem ix_listK (hK : X.K = K0) : IxR X (rIxL K0) := hK ▸ ix_list
theorem sl_tupK (hK : X.K = K0) : SlR X (rSlA K0) := hK ▸ sl_tupA
theorem sl_listK (hK : X.K = K0) : SlR X (rSlL K0) := hK ▸ sl_list
theorem op_catK (hK : X.K = K0) : OpR X (binaryOp .Add) (rCatA K0) := hK ▸ op_catA
theorem op_eqK (hK : X.K = K0) (hu : X.A.units + 64 < cLine) : OpR X (compareOp .Eq) (rEqD K0) := hK ▸ op_eqD hu
theorem op_neK (hK : X.K = K0) (hu : X.A.units + 64 < cLine) : OpR X (compareOp .NotEq) (rNeD K0) := hK ▸ op_neD hu
theorem call_lenK (hK : X.K = K0) : CallR X (.builtin "len") (fun xs H Q => ∃ q ys, xs = [V.ref q] ∧ (SqL K0 H q ys ∨ SqT K0 H q ys) ∧ Q (.int ys.length) H) := hK ▸ call_len_seq
theorem call_tupleK (hK : X.K = K0) : CallR X (.type "tuple") (fun xs H Q => ∃ q ys, xs = [V.ref q] ∧ ((SqL K0 H q ys ∧ ∀ l, H l = none → Q (.ref l) (upd H l (.tup ys))) ∨ (SqT K0 H q ys ∧ Q (.ref q) H))) := hK ▸ call_tuple_of
theorem call_listK (hK : X.K = K0) : CallR X (.type "list") (fun xs H Q => ∃ q ys, xs = [V.ref q] ∧ (SqL K0 H q ys ∨ SqT K0 H q ys) ∧ ∀ l, H l = none → Q (.ref l) (upd H l (.lst ys))) := hK ▸ call_list_of
theorem call_isiK0 (hK : X.K = K0) : CallR X (.builtin "isinstance") (rIsi K0) := hK ▸ call_isi
theorem call_isiTK (hK : X.K = K0) : CallR X (.builtin "isinstance") (rIsiT K0) := hK ▸ call_isiT
theorem cr_sumK (hK : X.K = K0) (hc : X.calm = true) : CallR X (.builtin "sum") (rSum K0) := hK ▸ cr_sum hc
variable {x : Str} {p pos : Pos} {e : Expr} {es : List Expr} {t : TA} {k : Nat} {ps : List Str} {S : List D → (D → Prop) → Prop}
theorem pe_callK0 (hK : X.K = K0) (F : Dfn X.prog X.w K0 X.mg X.base k x ps S) (hr : Room k X.A) (ha : PA X (e :: es) t) (hg : Gl X x := by rfl) (hdb : (x == ("__debug__" : Str)) = false := by decide)
    (he : starEach (e :: es) X.env = (false, eval e X.env) :: starEach es X.env := by rfl) (hpl : (backTo pos (starEach es X.env)).any (·.1) = false := by rfl) : PE X (.Call (.Name x p) (e :: es) [] pos) (tCall (spD K0 S) [] E0 t) := by
  subst hK
  exact pe_callD F hr ha hg hdb he hpl
theorem pe_call00 (hK : X.K = K0) (F : Dfn X.prog X.w K0 X.mg X.base k x ps S) (hr : Room k X.A) (hg : Gl X x := by rfl) (hdb : (x == ("__debug__" : Str)) = false := by decide) : PE X (.Call (.Name x p) [] [] pos) (tCall (spD K0 S) [] E0 tNil) := by
  subst hK
  exact pe_call0D F hr hg hdb
variable {tg l : Expr} {tl : TE}
theorem pi_listK (hK : X.K = K0) (hl : PE X l tl) : PI X tg l (iList K0 tl) := by subst hK; exact pi_list hl
theorem pi_tupK (hK : X.K = K0) (hl : PE X l tl) : PI X tg l (iTup K0 tl) := by subst hK; exact pi_tup hl
end
end Cal
set_option Elab.async false
set_option linter.all false
set_option maxRecDepth 100000
set_option maxHeartbeats 4000000
namespace Cal
open PySem L2 PyProof.Rows
section
variable {X : Cx} {x : Str} {C : Addr} {e : Expr} {es : List Expr} {ta : TA} {te : TE} {p p1 p2 pos : Pos}
/-- C.__init__(e, ..) of a class of the program that has ValueError's own __init__ -/
theorem pe_cinit {pl : Sem Bool} (hm : X.mg x = some (.ref C)) (hga : PySem.W.specialIn X.K (.ref C) "__getattribute__" = some (some (.builtin "type.__getattribute__"))) (hr : PySem.W.readsIn X.K C (.type "type") = true)
    (hv : PySem.W.findCls X.K (.ref C) (.type "type") "__init__" = some (.val (.builtin "ValueError.__init__"))) (ha : PA X (e :: es) ta) (hg : Gl X x := by rfl) (hdb : (x == ("__debug__" : Str)) = false := by decide)
    (hc : eval (.Call (.Attribute (.Name x p1) "__init__" p2) (e :: es) [] pos) X.env = (do let ov ← eval (.Name x p1) X.env; standAt p2.atName; let (f, first) ← holding [ov] (getMethod ov "__init__" pl); callWith pos f first (backTo pos (starEach (e :: es) X.env)) (backToKw pos (keywordEach [] X.env))) := by rfl)
    (he : starEach (e :: es) X.env = (false, eval e X.env) :: starEach es X.env := by rfl) (hpl : (backTo pos (starEach es X.env)).any (·.1) = false := by rfl) : PE X (.Call (.Attribute (.Name x p1) "__init__" p2) (e :: es) [] pos) (tVeI X.K ta) := by
  refine ⟨fun pins s σ H Q I h => PySem.W.methodCall_KW (ld_glob I hg hm ?_ hdb) hc⟩
  refine PySem.W.method_cls I.kIn hga (PySem.W.cls_value I.kIn hr hv rfl ?_)
  show wpAny _ _ (callWith pos (Value.builtin "ValueError.__init__") [] (backTo pos (starEach (e :: es) X.env)) []) _ _ _
  refine PyProof.Rows.callWith_method1 (thn (ha.run pos pins _ σ H _ ((I.tok _).tok _) h) fun us s1 hh => ?_) he hpl
  obtain ⟨vs, H1, I1, r1, a, C', ws, ev, hl, T, ea, q⟩ := hh
  subst ev
  cases r1 with
  | @cons _ u0 _ ur ra rw' =>
    have eu : u0 = Value.ref a := ra
    subst eu
    exact oinit_ok T I1 ea (by rw [← Paired.length rw', sizeLine_eq]; omega) fun s' J => ⟨.non, H1, J, rfl, q⟩

/-- behind C(): the exception, that has no dict, is let go -/
theorem mk_endN {X : Cx} {pins : List (Addr × Obj)} {σ : L2.St} {H1 H2 : Hp} {Q : XK} {hp hp2 h2 : Heap} {g1 g2 : Array GenState} {d1 d2 : Drawn} {t1 t2 : Nat} {os1 os2 : OsState} {a C : Addr} (T : Raises X (.ref C)) (I1 : Inv X pins σ H1 ⟨hp, g1, d1, t1, os1⟩)
    (ha : hp.objs.size ≤ a) (k : ∀ b o, hp.get? b = some o → hp2.get? b = some o) (un : Un (frs X.stack) [] (upd H1 a (exo a C none)) H2 hp2 h2) (hok : HOk X.prog X.w H2 h2) (ho : os2 = os1) (hb : AllBare g2) (ea : H2 a = some (exo a C none)) (q : Q (.ref C) none (del H2 a)) :
    MkP X pins σ Q (.ref a) ⟨h2, g2, d2, t2, os2⟩ := by
  obtain ⟨t0, hoe⟩ := exo_at hok ea
  have hn : H1 a = none := I1.hok.fresh ha
  obtain ⟨G, gk0, ge0⟩ := restrict h2 fun b => decide (b ≠ a)
  have gk : ∀ b, b ≠ a → G.get? b = h2.get? b := fun b hb' => gk0 b (decide_eq_true hb')
  have ge : G.get? a = none := ge0 a (by simp)
  have nha : ∀ {b : Addr} {o : Obj}, hp.get? b = some o → b ≠ a := fun {b o} z => Nat.ne_of_lt (Nat.lt_of_lt_of_le (Heap.lt_size z) ha)
  have up : ∀ {b : Addr}, b ≠ a → H1 b = none → upd H1 a (exo a C none) b = none := fun {b} hb' n => (upd_ne hb').trans n
  have U : Un (frs X.stack) [] H1 (del H2 a) hp G := by
    constructor
    · intro b o z n hf hx; rw [gk b (nha z)]; exact un.keep b o (k b o z) (up (nha z) n) hf hx
    · intro b o z n hf hx; rw [gk b (nha z)]; exact un.slot b o (k b o z) (up (nha z) n) hf hx
    · intro b o z n hx; rw [del_ne (nha z)]; exact un.free b o (k b o z) (up (nha z) n) hx
    · intro b o z hx; rw [gk b (nha z)]; exact un.there b o (k b o z) hx
    · intro b xs z; rw [del_ne (ne_of_none z hn)]; exact un.tups b xs ((upd_ne (ne_of_none z hn)).trans z)
    · intro b o v z; rw [del_ne (ne_of_none z hn)]; exact un.frzs b o v ((upd_ne (ne_of_none z hn)).trans z)
    · intro b ps z; rw [del_ne (ne_of_none z hn)]; exact un.tbls b ps ((upd_ne (ne_of_none z hn)).trans z)
  have hok3 : HOk X.prog X.w (del H2 a) G := by
    intro b o z
    have hba : b ≠ a := fun e' => by rw [e', del_same] at z; cases z
    rw [del_ne hba] at z
    have noa : ∀ {c : Addr}, H2 c = some (.own b) → c ≠ a := fun {c} hc => at_ne ea hc exo_own
    refine (hok b o z).stay (fun c v hc y => ?_) (fun c hc => (del_ne (noa hc)).trans hc) fun c xs hc => (del_ne (at_ne ea hc exo_tup)).trans hc
    have hca : c ≠ a := by rcases hc with rfl | hc <;> first | exact hba | exact noa hc
    rw [gk c hca]; exact y
  have J : Inv X pins σ (del H2 a) ⟨G, g2, d2, t2, os2⟩ := I1.call' (ch := []) ho U hok3 hb fun b z => absurd z (by simp)
  refine ⟨a, _, _, ⟨G, g2, d2, t2, os2⟩, _, .ref C, none, rfl, J, fun b o z => ?_, ge, hoe, ⟨rfl, rfl⟩, rfl, rfl, del_same, rfl, hb, T, q⟩
  by_cases hba : b = a
  · rw [hba, ge] at z; cases z
  · exact (gk b hba).symm.trans z
/-- C() of an own exception class whose __init__ keeps nothing -/
def tMk0 (C : Addr) (sp : Sp) : L2.St → Hp → XK → Prop := fun _ H Q => ∀ a, H a = none → sp [.ref a] (upd H a (exo a C none)) (fun v H2 => v = .non ∧ H2 a = some (exo a C none) ∧ Q (.ref C) none (del H2 a)) E0
theorem pmk_oe0 {CX : CXT} {fI : Addr} {k : Nat} {fd : FuncData} {ps : List Str} {sp : Sp} (T : OexC X.K C) (iC : PySem.W.findIn X.K (.ref C) "__init__" = some (some (.ref fI))) (tI : PySem.W.typeIn X.K (.ref fI) = some (.type "function"))
    (F1 : FnOk X.prog X.w X.K X.mg X.base CX k fI fd ps sp) (hr : Room (k + 1) X.A) (hb : Binds X.K fd ps []) (hx : Passes CX X E0) (hm : X.mg x = some (.ref C)) (hg : Gl X x := by rfl) (hdb : (x == ("__debug__" : Str)) = false := by decide) :
    PMk X (.Call (.Name x p) [] [] pos) (tMk0 C sp) := by
  intro pins s σ H Q I h
  obtain ⟨nm, q, N, bs, bm, sn, sub, ab, col, dd, k0, k1, k2, k3, k5, hC, hbm⟩ := T.cls
  refine wpAny_Call_Name_kw (ld_glob I hg hm ?_ hdb)
  refine PySem.W.callWith_K0 I.kIn T.kC ?_
  show wpAny _ _ (call (.ref C) []) _ _ _
  obtain ⟨hp, g, dr, tk, os⟩ := s
  have hsz : hp.objs.size ≤ hp.objs.size + 1 := Nat.le_succ _
  have hq := h (hp.objs.size + 1) (I.hok.fresh hsz)
  have kk : ∀ b o, hp.get? b = some o → ((hp.push (PySem.W.kdv_tup [])).push (PySem.HandSPX.excO C hp.objs.size)).get? b = some o := fun b o e' => Heap.get?_push_of_some _ (Heap.get?_push_of_some _ e')
  have hget : ((hp.push (PySem.W.kdv_tup [])).push (PySem.HandSPX.excO C hp.objs.size)).get? (hp.objs.size + 1) = some (PySem.HandSPX.excO C hp.objs.size) := by heap_get
  have I2 : Inv X pins σ (upd H (hp.objs.size + 1) (exo (hp.objs.size + 1) C none)) ⟨(hp.push (PySem.W.kdv_tup [])).push (PySem.HandSPX.excO C hp.objs.size), g, dr, tk, os⟩ := I.laid (t' := tk) kk hsz (exo_ok hget)
  have r2 : Vals [V.ref (hp.objs.size + 1)] [Value.ref (hp.objs.size + 1)] := .cons rfl .nil
  have hl : ([Value.ref (hp.objs.size + 1)] ++ []).length = ps.length := (F1.len _ _ _ _ hq)
  refine wpAny_call (PySem.HandSPX.call_own F.excBase_ValueError (fun Y => PySem.HandSPX.refsVE_contains Y bm hbm) (I.kIn _ _ hC) (PySem.W.looks_findIn I.kIn iC) (fun self => PySem.W.bind_fn I.kIn self tI) (Nat.zero_le _)
    (codeAny_mono (F1.run _ X.stack _ _ ⟨[Value.ref (hp.objs.size + 1)], []⟩ [Value.ref (hp.objs.size + 1)] _ _ E0 (hr.make C [] []) (I2.env0.make C [] []) (hb _ [Value.ref (hp.objs.size + 1)] I2.kIn hl) r2 hq) fun r s' hq' => ?_))
  cases r with
  | error er => exact hx pins σ _ _ er s' I2 hq'
  | ok fl =>
    cases fl with
    | ret u =>
      obtain ⟨v, H2, os2, bare2, un2, hok2, rv, ev, ea, q2⟩ := hq'
      subst ev
      obtain ⟨h2, g2, d2, t2, os'⟩ := s'
      exact ⟨rv, mk_endN (raises_own T.exC T.tyC) I hsz kk un2 hok2 os2 bare2 ea q2⟩
    | next => exact False.elim hq'
    | brk => exact False.elim hq'
    | cont => exact False.elim hq'
end
end Cal
set_option Elab.async false
set_option linter.all false
set_option maxRecDepth 100000
set_option maxHeartbeats 4000000
namespace Cal
open PySem L2 PyProof.Rows
open Evl (Ex)
/-! ### outcomes: a value, or an error of the class of a name with its fields -/
inductive Out where
  | ok (d : D) | ex (x : Str) (fs : List (Str × D))
  /-- a new object that nobody else knows -/
  | new (c : Cell)
def Out.cas (Q : D → Prop) (X : Str → List (Str × D) → Prop) : Out → Prop
  | .ok d => Q d
  | .ex x fs => X x fs
  | .new c => Q c.toD
/-- only what is new is handed back -/
def Out.casN (Q : Cell → Prop) (X : Str → List (Str × D) → Prop) : Out → Prop
  | .ok _ => False
  | .ex x fs => X x fs
  | .new c => Q c
/-- the dict of an error -/
def XR (K : PySem.W.Frag) (h : Addr) (G : Hp) (d : Option Addr) (fs : List (Str × D)) : Prop :=
  (fs = [] ∧ d = none) ∨ ∃ dd vfs, d = some dd ∧ G dd = some (.xd vfs) ∧ vfs.map (·.1) = fs.map (·.1) ∧ RpL K h G (vfs.map (·.2)) (fs.map (·.2))
theorem XR.mono {K : PySem.W.Frag} {h : Addr} {G G' : Hp} {d : Option Addr} {fs : List (Str × D)} (x : XR K h G d fs) (e : Ex G G') : XR K h G' d fs := by
  rcases x with x | ⟨dd, vfs, h1, h2, h3, h4⟩
  · exact .inl x
  · exact .inr ⟨dd, vfs, h1, e _ _ h2, h3, lmono h4 e⟩
theorem lookup_if {α : Type} (f g : Str) (y : α) (fs : List (Str × α)) : ((f, y) :: fs).lookup g = if g = f then some y else fs.lookup g := by
  by_cases h : g = f
  · rw [if_pos h, h]; simp [List.lookup]
  · have e : (g == f) = false := by simpa using h
    rw [if_neg h]; simp [List.lookup, e]
theorem lookup_of {K : PySem.W.Frag} {h : Addr} {G : Hp} {f : Str} {y : D} : ∀ {vfs : List (Str × V)} {fs : List (Str × D)}, vfs.map (·.1) = fs.map (·.1) → RpL K h G (vfs.map (·.2)) (fs.map (·.2)) → fs.lookup f = some y → ∃ v, vfs.lookup f = some v ∧ Rp K h G v y
  | [], [], _, _, e => by cases e
  | [], p :: fs, e, _, _ => by cases e
  | p :: vfs, [], e, _, _ => by cases e
  | (g, v) :: vfs, (g', d) :: fs, e, r, l => by
    have e1 : g = g' := (List.cons.inj e).1
    have e2 := (List.cons.inj e).2
    subst e1
    cases r with
    | cons a b =>
      rw [lookup_if] at l ⊢
      by_cases hf : f = g
      · rw [if_pos hf] at l ⊢
        cases l
        exact ⟨v, rfl, a⟩
      · rw [if_neg hf] at l ⊢
        exact lookup_of e2 b l
/-- what is wished of the errors that leave a piece of a body -/
def XW (mg : Str → Option Value) (p : Par) (Xp : Rho → Str → List (Str × D) → Prop) (W : WX) : Prop := ∀ ρ G σ H x fs C d, Xp ρ x fs → mg x = some (.ref C) → Hold p ρ G σ H → XR p.K p.h G d fs → W (.ref C) d σ H
/-- the promise of a def that may raise -/
def spX (K : PySem.W.Frag) (mg : Str → Option Value) (S : List D → (Out → Prop) → Prop) : Sp := fun vs H Q E => ∃ h G ds R, RpL K h G vs ds ∧ Mem ⟨K, h, H, G⟩ G H ∧ S ds R ∧ (∀ d v G' H', R (.ok d) → Mem ⟨K, h, H, G⟩ G' H' → Rp K h G' v d → Q v H') ∧
  (∀ c a G' H', R (.new c) → c.isOwn = true → Mem ⟨K, h, H, G⟩ G' H' → Slot ⟨K, h, H, G⟩ G' H' (some (.ref a)) c → Q (.ref a) H') ∧ ∀ x fs C d G' H', R (.ex x fs) → mg x = some (.ref C) → Mem ⟨K, h, H, G⟩ G' H' → XR K h G' d fs → E (.ref C) d H'
/-- as WS, with what is handed back new -/
def WSO (p : Par) (ρ : Rho) (ts : TS) (P : Post) (O : Cell → Prop) : Prop := ∀ G σ H, Hold p ρ G σ H → ∀ E : Ends,
  (∀ ρ' G' σ' H', P.n ρ' → Ex G G' → Hold p ρ' G' σ' H' → E.nx σ' H') → (∀ d v G' H', P.r d → Mem p G' H' → Rp p.K p.h G' v d → E.rt v H') →
  (∀ ρ' G' σ' H', P.b ρ' → Ex G G' → Hold p ρ' G' σ' H' → E.bk σ' H') → (∀ ρ' G' σ' H', P.c ρ' → Ex G G' → Hold p ρ' G' σ' H' → E.ct σ' H') →
  (∀ c a G' H', O c → c.isOwn = true → Mem p G' H' → Slot p G' H' (some (.ref a)) c → E.rt (.ref a) H') → ts E σ H
theorem WS.o {p : Par} {ρ : Rho} {ts : TS} {P : Post} {O : Cell → Prop} (h : WS p ρ ts P) : WSO p ρ ts P O := fun G σ H hh E kn kr kb kc _ => h G σ H hh E kn kr kb kc
theorem wso_seq {p : Par} {ρ : Rho} {ts tv : TS} {P : Post} {O : Cell → Prop} (h : WS p ρ ts { P with n := fun ρ' => WSO p ρ' tv P O, r := P.r }) : WSO p ρ (tSeq ts tv) P O := fun G σ H hh E kn kr kb kc ko =>
  h G σ H hh { E with nx := tv E } (fun ρ' G' σ' H' z e hh' => z G' σ' H' hh' E (fun ρ2 G2 σ2 H2 z2 e2 => kn ρ2 G2 σ2 H2 z2 (ex_tr e e2)) kr (fun ρ2 G2 σ2 H2 z2 e2 => kb ρ2 G2 σ2 H2 z2 (ex_tr e e2)) (fun ρ2 G2 σ2 H2 z2 e2 => kc ρ2 G2 σ2 H2 z2 (ex_tr e e2)) ko) kr kb kc
theorem wso_retF {p : Par} {ρ : Rho} {te : TE} {P : Post} {O : Cell → Prop} (h : WF p ρ te O) : WSO p ρ (tRet te) P O := fun G σ H hh E kn kr kb kc ko =>
  h G σ H hh _ fun c a G' H' z ho s n x => ko c a G' H' z ho (hh.step s).mem x
theorem wso_freeze {p : Par} {ρ : Rho} {ts : TS} {P : Post} {O : Cell → Prop} (i : Nat) {c : Cell} (e : ρ[i]? = some (some c)) (ho : c.isOwn = true) (h : WSO p (ρ.set i (some (.d c.toD))) ts P O) : WSO p ρ ts P O := fun G σ H hh E kn kr kb kc ko => by
  obtain ⟨sv, h1, h2⟩ := hh.slot i _ e
  obtain ⟨a, u, e1, ow, e3⟩ := Cell.own_ref h2 ho
  subst e1
  obtain ⟨o, e4, _, r⟩ := h2.toD ho
  obtain ⟨hh', ex⟩ := hh.freeze e ho h1 ow e4 r
  exact h _ σ H hh' E (fun ρ' G' σ' H' z e' => kn ρ' G' σ' H' z (ex_tr ex e')) kr (fun ρ' G' σ' H' z e' => kb ρ' G' σ' H' z (ex_tr ex e')) (fun ρ' G' σ' H' z e' => kc ρ' G' σ' H' z (ex_tr ex e')) ko
theorem Slot.up {p : Par} {G H G' H' : Hp} {a : Addr} {c : Cell} (m : Mem p G H) (x : Slot ⟨p.K, p.h, H, G⟩ G' H' (some (.ref a)) c) (ho : c.isOwn = true) : Slot p G' H' (some (.ref a)) c ∧ H a = none := by
  have up : ∀ {b : Addr}, Own ⟨p.K, p.h, H, G⟩ G' b → Own p G' b := fun {b} o => ⟨o.1, (m.fresh o.2.1).2.1, o.2.2⟩
  cases c with
  | d x => cases ho
  | ol xs => obtain ⟨b, vs, h1, h2, h3⟩ := x; cases h1; exact ⟨⟨a, vs, rfl, up h2, h3⟩, h2.2.1⟩
  | ok xs => obtain ⟨b, vs, h1, h2, h3⟩ := x; cases h1; exact ⟨⟨a, vs, rfl, up h2, h3⟩, h2.2.1⟩
  | ot xs => obtain ⟨b, vs, h1, h2, h3⟩ := x; cases h1; exact ⟨⟨a, vs, rfl, up h2, h3⟩, h2.2.1⟩
  | rw b o => obtain ⟨h1, h2, h3⟩ := x; cases h1; exact ⟨⟨rfl, up h2, h3⟩, h2.2.1⟩
  | lk xs => obtain ⟨b, od, vs, h1, h2, h3⟩ := x; cases h1; exact ⟨⟨a, od, vs, rfl, up h2, h3⟩, h2.2.1⟩
  | lt xs => obtain ⟨b, od, vs, h1, h2, h3⟩ := x; cases h1; exact ⟨⟨a, od, vs, rfl, up h2, h3⟩, h2.2.1⟩
structure DfnX (P : Program) (w : World) (K : PySem.W.Frag) (mg : Str → Option Value) (base : Heap) (k : Nat) (x : Str) (ps : List Str) (S : List D → (Out → Prop) → Prop) : Prop where
  ex : ∃ f fd, mg x = some (.ref f) ∧ PySem.W.keepIn K (.ref f) = true ∧ FnOk P w K mg base (L2.CX P w) k f fd ps (spX K mg S) ∧ Binds K fd ps []
section
variable {P : Program} {w : World} {K : PySem.W.Frag} {mg : Str → Option Value} {base : Heap}
theorem DfnX.mono {j k : Nat} {x : Str} {ps : List Str} {S : List D → (Out → Prop) → Prop} (F : DfnX P w K mg base j x ps S) (h : j ≤ k) : DfnX P w K mg base k x ps S := by
  obtain ⟨f, fd, h1, h2, h3, h4⟩ := F.ex
  exact ⟨f, fd, h1, h2, h3.mono h, h4⟩
theorem DfnX.imp {k : Nat} {x : Str} {ps : List Str} {S S' : List D → (Out → Prop) → Prop} (F : DfnX P w K mg base k x ps S) (h : ∀ ds R, S' ds R → S ds R) : DfnX P w K mg base k x ps S' := by
  obtain ⟨f, fd, h1, h2, h3, h4⟩ := F.ex
  exact ⟨f, fd, h1, h2, h3.imp fun vs H Q E ⟨hd, G, ds, R, a, b, c, d⟩ => ⟨hd, G, ds, R, a, b, h ds R c, d⟩, h4⟩
/-- a def that raises nothing, among those that may -/
theorem Dfn.toX {k : Nat} {x : Str} {ps : List Str} {S : List D → (D → Prop) → Prop} (F : Dfn P w K mg base k x ps S) : DfnX P w K mg base k x ps fun ds R => S ds fun d => R (.ok d) := by
  obtain ⟨f, fd, h1, h2, h3, h4⟩ := F.ex
  refine ⟨f, fd, h1, h2, ⟨fun vs H Q E ⟨hd, G, ds, R, a, b, c, d, eo, e⟩ => h3.len vs H Q E ⟨hd, G, ds, _, a, b, c, d⟩, fun A outer s H args us vs Q E hr he hb hv ⟨hd, G, ds, R, a, b, c, d, eo, e⟩ => ?_⟩, h4⟩
  refine codeAny_mono (h3.run A outer s H args us vs Q E hr he hb hv ⟨hd, G, ds, _, a, b, c, d⟩) fun r s' q => ?_
  cases r with
  | error z => exact (show False from q).elim
  | ok fl =>
    cases fl with
    | ret u => exact q
    | next => exact (show False from q).elim
    | brk => exact (show False from q).elim
    | cont => exact (show False from q).elim
theorem mkX {x : Str} {st : Stmt} {N ps : List Str} {k : Nat} {S : List D → (Out → Prop) → Prop} (F : Src K mg x st) (sc : FnScope N ps (defScope st))
    (hb : ∀ (kV doc pm : Value) (an : Option Addr) (cdv ct : Value) (us : List Value), us.length = ps.length → bindArgs (PySem.W.fnOf x x (defArgs st) (defBody st) (defScope st) .none kV doc pm an cdv ct) ⟨us, []⟩ = pure (ps.zip us))
    (len : ∀ ds R, S ds R → ds.length = ps.length)
    (body : ∀ (f : Addr) (cdv : Value) (A : Around) (outer : List Env) (s : Shared) (H : Hp) (E : XK), Room k (A.deeper (envOfC x (defScope st) s.heap.objs.size f cdv)) →
      ∃ t, PSs (cxOf (L2.CX P w) P w K mg base N x (defScope st) f cdv A outer s H E) (defBody st) t ∧ ∀ (h : Addr) (H0 G0 : Hp) ds R, S ds R → XW mg ⟨K, h, H0, G0⟩ (fun _ x fs => R (.ex x fs)) (fun cls d _ H => E cls d H) → WSO ⟨K, h, H0, G0⟩ (rho0 N ds) t (retP fun d => R (.ok d)) fun c => R (.new c)) :
    DfnX P w K mg base (k + 1) x ps S := by
  obtain ⟨f, fd, hm, F⟩ := F.ex
  refine ⟨f, fd, hm, F.kp, F.okX sc (fun vs H Q E h => ?_) (fun cdv A outer s H vs Q E hr h => ?_), F.binds hb⟩
  · obtain ⟨hd, G, ds, R, r, m, hs, q⟩ := h
    rw [r.length]; exact len ds R hs
  · obtain ⟨hd, G, ds, R, r, m, hs, q, qo, qx⟩ := h
    obtain ⟨t, ht, hw⟩ := body f cdv A outer s H E hr
    exact ⟨t, ht, hw hd H G ds R hs (fun ρ G' σ H' x fs C d z hm hh xr => qx x fs C d G' H' z hm hh.mem xr) G _ H (hold0 m r) _ (fun ρ' G' σ' H' z e hh => q .non .non G' H' z hh.mem .non) (fun d v G' H' z m' r' => q d v G' H' z m' r') (fun _ _ _ _ z => z.elim) (fun _ _ _ _ z => z.elim) fun c a G' H' z ho m' x => qo c a G' H' z ho m' x⟩
end
section
variable {X : Cx} {x : Str} {p pos : Pos} {e : Expr} {es : List Expr} {t : TA} {k : Nat} {ps : List Str} {S : List D → (Out → Prop) → Prop} {W : WX}
theorem pe_callX (F : DfnX X.prog X.w X.K X.mg X.base k x ps S) (hr : Room k X.A) (tk : Takes X W) (ha : PA X (e :: es) t) (hg : Gl X x := by rfl) (hdb : (x == ("__debug__" : Str)) = false := by decide)
    (he : starEach (e :: es) X.env = (false, eval e X.env) :: starEach es X.env := by rfl) (hpl : (backTo pos (starEach es X.env)).any (·.1) = false := by rfl) : PE X (.Call (.Name x p) (e :: es) [] pos) (tCallS (spX X.K X.mg S) (L2.WE W) t) := by
  obtain ⟨f, fd, h1, h2, h3, h4⟩ := F.ex
  exact pe_callS h3 hr hg h1 h2 h4 (fun σ => passAt tk σ) ha hdb he hpl
end
section
variable {p : Par} {ρ : Rho} {Q : D → Prop} {ta tb te tl th : TE} {tt tu : TT} {P : Post} {ts tv : TS} {mg : Str → Option Value} {Xp : Rho → Str → List (Str × D) → Prop} {W : WX}
theorem we_callX {S : List D → (Out → Prop) → Prop} {ta : TA} (hW : XW mg p Xp W) (h : WA p ρ ta fun ds => S ds (Out.cas Q (Xp ρ))) : WE p ρ (tCallS (spX p.K mg S) (L2.WE W) ta) Q := fun G σ H hh Qv k =>
  h G σ H hh _ fun ds vs G1 H1 q s1 r1 => by
    have hh1 := hh.step s1
    exact ⟨p.h, G1, ds, _, r1, hh1.mem.refl, q, fun d v G' H' z m r => k d v G' H' z (s1.trans m) r, fun c a G' H' z ho m x => by
      obtain ⟨x', n⟩ := x.up hh1.mem ho
      have hh2 := hh1.step m
      obtain ⟨o, e4, ow, r⟩ := x'.toD ho
      obtain ⟨o2, e5, ow2, _⟩ := x.toD ho
      have m2 := Mem.know (p := ⟨p.K, p.h, H1, G1⟩) m ow2 e4
      exact k _ _ _ _ z (s1.trans m2.1) r, fun x fs C d G' H' z hm m xr => hW ρ G' σ H' x fs C d z hm (hh1.step m) xr⟩
theorem wf_callX {S : List D → (Out → Prop) → Prop} {Qc : Cell → Prop} {ta : TA} (hW : XW mg p Xp W) (h : WA p ρ ta fun ds => S ds (Out.casN Qc (Xp ρ))) : WF p ρ (tCallS (spX p.K mg S) (L2.WE W) ta) Qc := fun G σ H hh Qv k =>
  h G σ H hh _ fun ds vs G1 H1 q s1 r1 => by
    have hh1 := hh.step s1
    exact ⟨p.h, G1, ds, _, r1, hh1.mem.refl, q, fun d v G' H' z m r => z.elim, fun c a G' H' z ho m x => by
      obtain ⟨x', n⟩ := x.up hh1.mem ho
      exact k c a G' H' z ho (s1.trans m) (hh.mem.back s1 n) x', fun x fs C d G' H' z hm m xr => hW ρ G' σ H' x fs C d z hm (hh1.step m) xr⟩

/-! ### errors that are made -/
/-- __init__ of a class with one field -/
def spI1 (C : Addr) (f : Str) : Sp := fun vs H Q _ => ∃ a y, vs = [.ref a, y] ∧ H a = some (exo a C none) ∧ ∀ dx, H dx = none → dx ≠ a → Q .non (upd (upd H dx (exd dx [(f, y)])) a (exo a C (some dx)))
/-- .. with none -/
def spI0 (C : Addr) : Sp := fun vs H Q _ => ∃ a, vs = [.ref a] ∧ H a = some (exo a C none) ∧ Q .non H
theorem ws_raise1 {x : Str} {C : Addr} {f : Str} (hW : XW mg p Xp W) (hm : mg x = some (.ref C)) (h : WE p ρ te fun y => Xp ρ x [(f, y)]) : WS p ρ (fun _ σ H => tMkO C (spI1 C f) [] (tCons te tNil) σ H fun cls d H' => W cls d σ H') P := fun G σ H hh E kn kr kb kc => by
  refine h G σ H hh _ fun d v G1 H1 hx s1 r1 => ?_
  have hh1 := hh.step s1
  refine ⟨by show 1 ≤ 1000; decide, fun a ha => ⟨a, v, rfl, upd_same, fun dx hdx hne => ⟨rfl, dx, [(f, v)], upd_same, ?_, ?_, ?_⟩⟩⟩
  · rw [upd_ne hne, upd_same]
  · rw [upd_ne hne] at hdx; exact hdx
  · rw [upd_ne hne] at hdx
    have e : upd (del (upd (upd (upd H1 a (exo a C none)) dx (exd dx [(f, v)])) a (exo a C (some dx))) a) dx (.xd [(f, v)]) = upd H1 dx (.xd [(f, v)]) := by
      funext b
      by_cases hb : b = dx
      · rw [hb, upd_same, upd_same]
      · rw [upd_ne hb, upd_ne hb]
        by_cases hba : b = a
        · rw [hba, del_same, ha]
        · rw [del_ne hba, upd_ne hba, upd_ne hb, upd_ne hba]
    rw [e]
    have g := hh1.mem.grow (o := .xd [(f, v)]) hdx
    exact hW ρ _ σ _ x [(f, d)] C (some dx) hx hm (hh1.step g) (.inr ⟨dx, [(f, v)], rfl, upd_same, rfl, .cons (rmono r1 g.ex) .nil⟩)
theorem ws_raise0 {x : Str} {C : Addr} (hW : XW mg p Xp W) (hm : mg x = some (.ref C)) (h : Xp ρ x []) : WS p ρ (fun _ σ H => tMk0 C (spI0 C) σ H fun cls d H' => W cls d σ H') P := fun G σ H hh E kn kr kb kc => by
  refine fun a ha => ⟨a, rfl, upd_same, rfl, upd_same, ?_⟩
  have e : del (upd H a (exo a C none)) a = H := by
    funext b
    by_cases hba : b = a
    · rw [hba, del_same, ha]
    · rw [del_ne hba, upd_ne hba]
  rw [e]
  exact hW ρ G σ H x [] C none h hm hh (.inl ⟨rfl, rfl⟩)
/-! ### errors that are caught -/
/-- with what is known from some state on -/
def WSg (p : Par) (G1 : Hp) (ρ : Rho) (ts : TS) (P : Post) : Prop := ∀ G σ H, Ex G1 G → Hold p ρ G σ H → ∀ E : Ends,
  (∀ ρ' G' σ' H', P.n ρ' → Ex G G' → Hold p ρ' G' σ' H' → E.nx σ' H') → (∀ d v G' H', P.r d → Mem p G' H' → Rp p.K p.h G' v d → E.rt v H') →
  (∀ ρ' G' σ' H', P.b ρ' → Ex G G' → Hold p ρ' G' σ' H' → E.bk σ' H') → (∀ ρ' G' σ' H', P.c ρ' → Ex G G' → Hold p ρ' G' σ' H' → E.ct σ' H') → ts E σ H
theorem WS.g {G1 : Hp} (h : WS p ρ ts P) : WSg p G1 ρ ts P := fun G σ H _ hh E kn kr kb kc => h G σ H hh E kn kr kb kc
/-- a suite that hands back -/
def outP (R : D → Prop) : Post := ⟨fun _ => False, R, fun _ => False, fun _ => False⟩
theorem ws_try_as {tb : WX → TS} {tsu : Addr → Value → Option Addr → TS} {Wout : WX} {c : Value} {i : Nat} (Xb : Rho → Str → List (Str × D) → Prop) (hc : ∀ ρ' x fs C, Xb ρ' x fs → mg x = some (.ref C) → PySem.W.exmOne p.K (.ref C) c = some true)
    (hb : ∀ W, XW mg p Xb W → WS p ρ (tb W) P) (hs : ∀ ρ' x fs a C d G1, Xb ρ' x fs → mg x = some (.ref C) → XR p.K p.h G1 d fs → WSg p G1 (ρ'.set i (some (.d (.raw (.ref a))))) (tsu a (.ref C) d) (outP P.r)) :
    WS p ρ (fun D σ H => tb (wAs p.K c i tsu Wout D) D σ H) P := fun G σ H hh D kn kr kb kc => by
  refine hb (wAs p.K c i tsu Wout D) (fun ρ' G' σ' H' x fs C d z hm hh' xr => ⟨true, hc ρ' x fs C z hm, fun _ a na => ?_, fun q => Bool.noConfusion q⟩) G σ H hh D kn kr kb kc
  exact hs ρ' x fs a C d G' z hm xr G' _ H' (fun _ _ e => e) (hh'.setD (.raw (.ref a))) _ (fun _ _ _ _ z => z.elim) kr (fun _ _ _ _ z => z.elim) fun _ _ _ _ z => z.elim
theorem wso_try_as {tb : WX → TS} {tsu : Addr → Value → Option Addr → TS} {Wout : WX} {c : Value} {i : Nat} {O : Cell → Prop} (Xb : Rho → Str → List (Str × D) → Prop) (hc : ∀ ρ' x fs C, Xb ρ' x fs → mg x = some (.ref C) → PySem.W.exmOne p.K (.ref C) c = some true)
    (hb : ∀ W, XW mg p Xb W → WSO p ρ (tb W) P O) (hs : ∀ ρ' x fs a C d G1, Xb ρ' x fs → mg x = some (.ref C) → XR p.K p.h G1 d fs → WSg p G1 (ρ'.set i (some (.d (.raw (.ref a))))) (tsu a (.ref C) d) (outP P.r)) :
    WSO p ρ (fun D σ H => tb (wAs p.K c i tsu Wout D) D σ H) P O := fun G σ H hh D kn kr kb kc ko => by
  refine hb (wAs p.K c i tsu Wout D) (fun ρ' G' σ' H' x fs C d z hm hh' xr => ⟨true, hc ρ' x fs C z hm, fun _ a na => ?_, fun q => Bool.noConfusion q⟩) G σ H hh D kn kr kb kc ko
  exact hs ρ' x fs a C d G' z hm xr G' _ H' (fun _ _ e => e) (hh'.setD (.raw (.ref a))) _ (fun _ _ _ _ z => z.elim) kr (fun _ _ _ _ z => z.elim) fun _ _ _ _ z => z.elim
theorem ws_try_only {tb : WX → TS} {tsu : Addr → Value → Option Addr → TS} {Wout : WX} {c : Value} (Xb : Rho → Str → List (Str × D) → Prop) (hc : ∀ ρ' x fs C, Xb ρ' x fs → mg x = some (.ref C) → PySem.W.exmOne p.K (.ref C) c = some true)
    (hb : ∀ W, XW mg p Xb W → WS p ρ (tb W) P) (hs : ∀ ρ' x fs a C d G1, Xb ρ' x fs → mg x = some (.ref C) → XR p.K p.h G1 d fs → WSg p G1 ρ' (tsu a (.ref C) d) (outP P.r)) :
    WS p ρ (fun D σ H => tb (wOnly p.K c tsu Wout D) D σ H) P := fun G σ H hh D kn kr kb kc => by
  refine hb (wOnly p.K c tsu Wout D) (fun ρ' G' σ' H' x fs C d z hm hh' xr => ⟨true, hc ρ' x fs C z hm, fun _ a na => ?_, fun q => Bool.noConfusion q⟩) G σ H hh D kn kr kb kc
  exact hs ρ' x fs a C d G' z hm xr G' _ H' (fun _ _ e => e) hh' _ (fun _ _ _ _ z => z.elim) kr (fun _ _ _ _ z => z.elim) fun _ _ _ _ z => z.elim
/-- return e.f -/
theorem wsg_retf {G1 : Hp} {R : D → Prop} {a C : Addr} {d : Option Addr} {f : Str} {i : Nat} {fs : List (Str × D)} {y : D} (e : ρ[i]? = some (some (.d (.raw (.ref a))))) (xr : XR p.K p.h G1 d fs) (hf : fs.lookup f = some y) (hR : R y) :
    WSg p G1 ρ (tRet (tXf a (.ref C) d C f (tVar i))) (outP R) := fun G σ H ex hh E kn kr kb kc => by
  obtain ⟨sv, h1, v, h2, h3⟩ := hh.slot i _ e
  subst h2
  have hv : v = .ref a := by cases h3; rfl
  subst hv
  rcases xr.mono ex with ⟨rfl, _⟩ | ⟨dd, vfs, q1, q2, q3, q4⟩
  · cases hf
  · obtain ⟨v, l1, l2⟩ := lookup_of q3 q4 hf
    exact ⟨_, h1, rfl, rfl, dd, vfs, v, q1, hh.mem.sub _ _ q2, l1, kr y v G H hR hh.mem l2⟩
end
end Cal
set_option Elab.async false
set_option linter.all false
set_option maxRecDepth 100000
set_option maxHeartbeats 4000000
namespace Cal
open PySem L2 PyProof.Rows
open Evl (Ex)
/-! ### the classes of errors in the text -/
/-- an error class with its __init__ -/
structure XSrc (K : PySem.W.Frag) (mg : Str → Option Value) (x : Str) (fl : List Str) (st : Stmt) (q : Str) : Prop where
  ex : ∃ C fI fd, mg x = some (.ref C) ∧ OexC K C ∧ PySem.W.findIn K (.ref C) "__init__" = some (some (.ref fI)) ∧ PySem.W.typeIn K (.ref fI) = some (.type "function") ∧ Fun K "__init__" q st fI fd ∧
    PySem.W.exmOne K (.ref C) (.ref C) = some true ∧ XfC K C ∧ ∀ f, f ∈ fl → PySem.W.findIn K (.ref C) f = some none
/-- a class that has ValueError's own __init__ -/
structure XBase (K : PySem.W.Frag) (mg : Str → Option Value) (x : Str) : Prop where
  ex : ∃ C, mg x = some (.ref C) ∧ PySem.W.specialIn K (.ref C) "__getattribute__" = some (some (.builtin "type.__getattribute__")) ∧ PySem.W.readsIn K C (.type "type") = true ∧
    PySem.W.findCls K (.ref C) (.type "type") "__init__" = some (.val (.builtin "ValueError.__init__"))
/-- an error of a class is what a clause that names the class takes -/
theorem exm_same {K : PySem.W.Frag} {C : Addr} (h1 : PySem.W.subIn K (.ref C) (.type "BaseException") = some true) (h2 : PySem.W.isClsIn K C = true) (h3 : PySem.W.typeIn K (.ref C) = some (.type "type")) (h4 : PySem.W.subIn K (.ref C) (.ref C) = some true) : PySem.W.exmOne K (.ref C) (.ref C) = some true := by
  have h2' : (PySem.W.clsIn K C).isSome = true := h2
  have e1 : (PySem.W.subIn K (.ref C) (.type "BaseException") == some true) = true := by rw [h1]; rfl
  have e2 : ((PySem.W.clsIn K C).isSome && PySem.W.typeIn K (.ref C) == some (.type "type")) = true := by rw [h2', h3]; rfl
  refine Eq.trans (b := if (PySem.W.subIn K (.ref C) (.type "BaseException") == some true) = true then (if ((PySem.W.clsIn K C).isSome && PySem.W.typeIn K (.ref C) == some (.type "type")) = true then PySem.W.subIn K (.ref C) (.ref C) else none) else none) rfl ?_
  rw [if_pos e1, if_pos e2, h4]
/-- an error class that can be made: sp its __init__'s promise -/
structure XDef (P : Program) (w : World) (K : PySem.W.Frag) (mg : Str → Option Value) (base : Heap) (k : Nat) (x : Str) (fl : List Str) (sp : Addr → Sp) (C : Addr) : Prop where
  gC : mg x = some (.ref C)
  ox : OexC K C
  te : PySem.W.exmOne K (.ref C) (.ref C) = some true
  xf : XfC K C
  no : ∀ f, f ∈ fl → PySem.W.findIn K (.ref C) f = some none
  ini : ∃ fI fd ps, PySem.W.findIn K (.ref C) "__init__" = some (some (.ref fI)) ∧ PySem.W.typeIn K (.ref fI) = some (.type "function") ∧ FnOk P w K mg base CX0 k fI fd ps (sp C) ∧ Binds K fd ps []
section
variable {P : Program} {w : World} {K : PySem.W.Frag} {mg : Str → Option Value} {base : Heap}
theorem xdef1 {x q f y : Str} {m : PySem.Str} {st : Stmt} (S : XSrc K mg x [f] st q) (B : XBase K mg b) (sc : FnScope ["self", y] ["self", y] (defScope st))
    (hb : ∀ (kV doc pm : Value) (an : Option Addr) (cdv ct : Value) (us : List Value), us.length = 2 → bindArgs (PySem.W.fnOf "__init__" q (defArgs st) (defBody st) (defScope st) .none kV doc pm an cdv ct) ⟨us, []⟩ = pure ((["self", y] : List Str).zip us))
    (body : ∀ (C f' : Addr) (cdv : Value) (A : Around) (outer : List Env) (s : Shared) (H : Hp) (E : XK), mg b = some (.ref C) → PySem.W.specialIn K (.ref C) "__getattribute__" = some (some (.builtin "type.__getattribute__")) → PySem.W.readsIn K C (.type "type") = true →
      PySem.W.findCls K (.ref C) (.type "type") "__init__" = some (.val (.builtin "ValueError.__init__")) →
      PSs (cxOf CX0 P w K mg base ["self", y] q (defScope st) f' cdv A outer s H E).nox (defBody st) (tSeq (tDrop (tVeI K (tCons (tVar 0) (tCons (tC (.str m)) tNil)))) (tOst K f (tVar 0) (tVar 1)))) :
    ∃ C, XDef P w K mg base 1 x [f] (fun C => spI1 C f) C := by
  obtain ⟨C, fI, fd, h1, h2, h3, h4, F, h6, h7, h8⟩ := S.ex
  obtain ⟨CB, b1, b2, b3, b4⟩ := B.ex
  refine ⟨C, h1, h2, h6, h7, h8, fI, fd, ["self", y], h3, h4, F.ok sc (fun vs H Q E h => ?_) (fun cdv A outer s H vs Q E hr h => ⟨_, body CB fI cdv A outer s H E b1 b2 b3 b4, ?_⟩), F.binds hb⟩
  · obtain ⟨a, z, rfl, _⟩ := h; rfl
  · obtain ⟨a, z, rfl, ha, hQ⟩ := h
    have hn := h8 f (List.mem_singleton.mpr rfl)
    refine ⟨_, rfl, a, C, [.str m], rfl, by show 1 ≤ 1000; decide, h2, ha, ?_⟩
    refine ⟨_, rfl, _, rfl, a, C, rfl, h2, hn, .inl ⟨ha, fun dx n1 n2 => hQ dx n1 n2⟩⟩
theorem xdef0 {x q : Str} {m : PySem.Str} {st : Stmt} (S : XSrc K mg x [] st q) (B : XBase K mg b) (sc : FnScope ["self"] ["self"] (defScope st))
    (hb : ∀ (kV doc pm : Value) (an : Option Addr) (cdv ct : Value) (us : List Value), us.length = 1 → bindArgs (PySem.W.fnOf "__init__" q (defArgs st) (defBody st) (defScope st) .none kV doc pm an cdv ct) ⟨us, []⟩ = pure ((["self"] : List Str).zip us))
    (body : ∀ (C f' : Addr) (cdv : Value) (A : Around) (outer : List Env) (s : Shared) (H : Hp) (E : XK), mg b = some (.ref C) → PySem.W.specialIn K (.ref C) "__getattribute__" = some (some (.builtin "type.__getattribute__")) → PySem.W.readsIn K C (.type "type") = true →
      PySem.W.findCls K (.ref C) (.type "type") "__init__" = some (.val (.builtin "ValueError.__init__")) →
      PSs (cxOf CX0 P w K mg base ["self"] q (defScope st) f' cdv A outer s H E).nox (defBody st) (tDrop (tVeI K (tCons (tVar 0) (tCons (tC (.str m)) tNil))))) :
    ∃ C, XDef P w K mg base 1 x [] (fun C => spI0 C) C := by
  obtain ⟨C, fI, fd, h1, h2, h3, h4, F, h6, h7, h8⟩ := S.ex
  obtain ⟨CB, b1, b2, b3, b4⟩ := B.ex
  refine ⟨C, h1, h2, h6, h7, h8, fI, fd, ["self"], h3, h4, F.ok sc (fun vs H Q E h => ?_) (fun cdv A outer s H vs Q E hr h => ⟨_, body CB fI cdv A outer s H E b1 b2 b3 b4, ?_⟩), F.binds hb⟩
  · obtain ⟨a, rfl, _⟩ := h; rfl
  · obtain ⟨a, rfl, ha, hQ⟩ := h
    exact ⟨_, rfl, a, C, [.str m], rfl, by show 1 ≤ 1000; decide, h2, ha, hQ⟩
end
section
variable {X : Cx} {x : Str} {C : Addr} {fl : List Str} {f : Str} {k : Nat} {W : WX} {e : Expr} {te : TE} {p p1 pos pos' : Pos}
/-- raise C(e) -/
theorem ps_rz1 (D : XDef X.prog X.w X.K X.mg X.base k x fl (fun C => spI1 C f) C) (hr : Room (k + 1) X.A) (tk : Takes X W) (he : PE X e te) (hc : X.calm = true := by rfl) (hg : Gl X x := by rfl) (hdb : (x == ("__debug__" : Str)) = false := by decide)
    (hs : starEach [e] X.env = (false, eval e X.env) :: starEach [] X.env := by rfl) : PS X (.Raise (some (.Call (.Name x p) [e] [] pos)) none pos') (fun _ σ H => tMkO C (spI1 C f) [] (tCons te tNil) σ H fun cls d H' => W cls d σ H') := by
  obtain ⟨fI, fd, ps, h1, h2, h3, h4⟩ := D.ini
  exact ps_raise hc tk (pmk_oex D.ox h1 h2 h3 hr h4 .nil pass0 hg D.gC (pa_cons he pa_nil hs) hdb hs rfl)
/-- raise C() -/
theorem ps_rz0 (D : XDef X.prog X.w X.K X.mg X.base k x fl (fun C => spI0 C) C) (hr : Room (k + 1) X.A) (tk : Takes X W) (hc : X.calm = true := by rfl) (hg : Gl X x := by rfl) (hdb : (x == ("__debug__" : Str)) = false := by decide) :
    PS X (.Raise (some (.Call (.Name x p) [] [] pos)) none pos') (fun _ σ H => tMk0 C (spI0 C) σ H fun cls d H' => W cls d σ H') := by
  obtain ⟨fI, fd, ps, h1, h2, h3, h4⟩ := D.ini
  exact ps_raise hc tk (pmk_oe0 D.ox h1 h2 h3 hr h4 pass0 D.gC hg hdb)
end
end Cal
set_option Elab.async false
set_option linter.all false
set_option maxRecDepth 100000
set_option maxHeartbeats 4000000
namespace Cal
open PySem L2 PyProof.Rows
open Evl (Ex)
/-! ### loops over reversed(..), enumerate(..), zip(..) of lists; xs[::-1] -/
theorem for_any {T : It} {n : Nat} {g : TG} {tb : TS} {D : Ends} {σ : L2.St} {H : Hp} (Pv : Nat → L2.St → Hp → Prop) (h0 : Pv 0 σ H) (hgo : ∀ i σ H, i < n → Pv i σ H → T.go i H) (hst : ∀ σ H, Pv n σ H → T.stop n H)
    (hs : ∀ i x σ H H', i < n → Pv i σ H → T.yld i H x H' → g x σ H' fun σ2 H2 => tb { D with nx := Pv (i + 1), ct := Pv (i + 1), bk := D.nx } σ2 H2) (hd : ∀ σ H, Pv n σ H → D.nx σ H) :
    ∃ W : Nat → Nat → L2.St → Hp → Prop, (∃ m, W 0 m σ H) ∧ ∀ i m σ H, W i m σ H →
      (T.stop i H ∧ D.nx σ H) ∨ (T.go i H ∧ ∃ N : L2.St → Hp → Prop, (∀ σ' H', N σ' H' → ∃ m', m' < m ∧ W (i + 1) m' σ' H') ∧ ∀ x H', T.yld i H x H' → g x σ H' fun σ2 H2 => tb { D with nx := N, ct := N, bk := D.nx } σ2 H2) := by
  refine ⟨fun i m σ H => m = n - i ∧ i ≤ n ∧ Pv i σ H, ⟨n, rfl, Nat.zero_le _, h0⟩, fun i m σ H ⟨e, hi, q⟩ => ?_⟩
  by_cases hlt : i < n
  · exact .inr ⟨hgo i σ H hlt q, Pv (i + 1), fun σ' H' q' => ⟨n - (i + 1), by omega, rfl, hlt, q'⟩, fun x H' y => hs i x σ H H' hlt q y⟩
  · have hi' : i = n := by omega
    subst hi'
    exact .inl ⟨hst σ H q, hd σ H q⟩
section
variable {p : Par} {ρ : Rho} {Q : D → Prop} {ta tb te tl th : TE} {tt tu : TT} {P : Post} {ts tv : TS}
theorem ws_forRev {g : TG} {ta : TA} (h : WA p ρ ta fun ds => ∃ xs, ds = [.lst xs] ∧ ∃ I : Nat → Rho → Prop, I 0 ρ ∧
    (∀ k x ρ', xs.reverse[k]? = some x → I k ρ' → WG p ρ' g x fun ρ2 => WS p ρ2 ts ⟨I (k + 1), P.r, P.n, I (k + 1)⟩) ∧ ∀ ρ', I xs.length ρ' → P.n ρ') : WS p ρ (tFor (iRev p.K ta) g ts) P := fun G σ H hh E kn kr kb kc =>
  h G σ H hh _ fun ds vs0 G0 H0 ⟨xs, e, I, h0, hs, hd⟩ s r => by
    subst e
    cases r with
    | cons r rn =>
    cases rn
    obtain ⟨a, vs, ev, hq, hl⟩ := r.lst_inv
    subst ev
    have hh0 := hh.step s
    have hn := hl.length
    have sq : ∀ {G' H'}, Ex G0 G' → Ex G' H' → SqL p.K H' a vs := fun e1 e2 => lq e2 (e1 _ _ hq)
    refine ⟨a, vs, rfl, lq hh0.mem.sub hq, for_any (n := vs.length) (fun k σ' H' => ∃ ρ' G', I k ρ' ∧ Ex G0 G' ∧ Hold p ρ' G' σ' H') ⟨ρ, G0, h0, Ex.rfl', hh0⟩ (fun k σ' H' hk ⟨ρ', G', hi, e, hh'⟩ => ?_) (fun σ' H' _ => Nat.le_refl _) (fun k x σ' H' H2 hk ⟨ρ', G', hi, e, hh'⟩ hy => ?_) fun σ' H' ⟨ρ', G', hi, e, hh'⟩ => kn ρ' G' σ' H' (hd ρ' (by rw [← hn]; exact hi)) (ex_tr s.ex e) hh'⟩
    · exact ⟨hk, vs, vs[vs.length - 1 - k], sq e hh'.mem.sub, List.getElem?_eq_getElem (by omega)⟩
    · obtain ⟨e2, hx⟩ := hy
      subst e2
      have hx' := hx vs (sq e hh'.mem.sub)
      obtain ⟨d, hd1, hd2⟩ := hl.get' hx'
      refine hs k d ρ' ?_ hi G' σ' _ _ hh' (rmono hd2 e) _ fun ρ2 G2 σ2 H2 z e2 hh2 => z G2 σ2 H2 hh2 _ (fun ρ3 G3 σ3 H3 z3 e3 hh3 => ⟨ρ3, G3, z3, ex_tr (ex_tr e e2) e3, hh3⟩) kr (fun ρ3 G3 σ3 H3 z3 e3 hh3 => kn ρ3 G3 σ3 H3 z3 (ex_tr s.ex (ex_tr (ex_tr e e2) e3)) hh3)
        (fun ρ3 G3 σ3 H3 z3 e3 hh3 => ⟨ρ3, G3, z3, ex_tr (ex_tr e e2) e3, hh3⟩)
      rw [List.getElem?_reverse (by omega), ← hn]
      exact hd1
theorem ws_forEnum {g : TG} {ta : TA} (h : WA p ρ ta fun ds => ∃ xs, ds = [.lst xs] ∧ ∃ I : Nat → Rho → Prop, I 0 ρ ∧
    (∀ k x ρ', xs[k]? = some x → I k ρ' → WG p ρ' g (.tup [.int (k : Int), x]) fun ρ2 => WS p ρ2 ts ⟨I (k + 1), P.r, P.n, I (k + 1)⟩) ∧ ∀ ρ', I xs.length ρ' → P.n ρ') : WS p ρ (tFor (iEnum p.K ta) g ts) P := fun G σ H hh E kn kr kb kc =>
  h G σ H hh _ fun ds vs0 G0 H0 ⟨xs, e, I, h0, hs, hd⟩ s r => by
    subst e
    cases r with
    | cons r rn =>
    cases rn
    obtain ⟨a, vs, ev, hq, hl⟩ := r.lst_inv
    subst ev
    have hh0 := hh.step s
    have hn := hl.length
    have sq : ∀ {G' H'}, Ex G0 G' → Ex G' H' → SqL p.K H' a vs := fun e1 e2 => lq e2 (e1 _ _ hq)
    refine ⟨a, vs, rfl, lq hh0.mem.sub hq, for_any (n := vs.length) (fun k σ' H' => ∃ ρ' G', I k ρ' ∧ Ex G0 G' ∧ Hold p ρ' G' σ' H') ⟨ρ, G0, h0, Ex.rfl', hh0⟩ (fun k σ' H' hk ⟨ρ', G', hi, e, hh'⟩ => ?_) (fun σ' H' ⟨ρ', G', hi, e, hh'⟩ => ⟨vs, sq e hh'.mem.sub, Nat.le_refl _⟩) (fun k x σ' H' H2 hk ⟨ρ', G', hi, e, hh'⟩ hy => ?_) fun σ' H' ⟨ρ', G', hi, e, hh'⟩ => kn ρ' G' σ' H' (hd ρ' (by rw [← hn]; exact hi)) (ex_tr s.ex e) hh'⟩
    · exact ⟨vs, vs[k], sq e hh'.mem.sub, List.getElem?_eq_getElem hk⟩
    · obtain ⟨T, x', e1, hT, e2, hx⟩ := hy
      subst e1 e2
      have hx' := hx vs (sq e hh'.mem.sub)
      obtain ⟨d, hd1, hd2⟩ := hl.get' hx'
      have gr := hh'.mem.grow (o := .tup [.int (k : Int), x']) hT
      have e4 := ex_tr e gr.ex
      refine hs k d ρ' hd1 hi _ σ' _ _ (hh'.step gr) (.tup upd_same (.cons (.int _) (.cons (rmono hd2 e4) .nil))) _ fun ρ2 G2 σ2 H2 z e2 hh2 => z G2 σ2 H2 hh2 _ (fun ρ3 G3 σ3 H3 z3 e3 hh3 => ⟨ρ3, G3, z3, ex_tr (ex_tr e4 e2) e3, hh3⟩) kr
        (fun ρ3 G3 σ3 H3 z3 e3 hh3 => kn ρ3 G3 σ3 H3 z3 (ex_tr s.ex (ex_tr (ex_tr e4 e2) e3)) hh3) (fun ρ3 G3 σ3 H3 z3 e3 hh3 => ⟨ρ3, G3, z3, ex_tr (ex_tr e4 e2) e3, hh3⟩)
theorem wf_revL {Q : Cell → Prop} (h : WE p ρ te fun x => ∃ xs, x = .lst xs ∧ Q (.ol xs.reverse)) : WF p ρ (tRevL p.K te) Q := fun G σ H hh Qv k =>
  h G σ H hh _ fun x v G1 H1 ⟨xs, e, q⟩ s1 r1 => by
    subst e
    obtain ⟨a, vs, ev, hq, hl⟩ := r1.lst_inv
    have m1 := (hh.step s1).mem
    refine ⟨a, vs, ev, lq m1.sub hq, fun b hb => k _ b _ _ q rfl (s1.trans (m1.growO hb)) (hh.mem.back s1 hb) ⟨b, vs.reverse, rfl, m1.fresh hb, upd_same, ?_⟩⟩
    have rev : ∀ {us : List V} {es : List D}, RpL p.K p.h G1 us es → RpL p.K p.h G1 us.reverse es.reverse := by
      intro us
      induction us with
      | nil => intro es r; cases r; exact .nil
      | cons u us ih =>
        intro es r
        cases r with
        | cons a b => rw [List.reverse_cons, List.reverse_cons]; exact (ih b).append (.cons a .nil)
    exact rev hl
theorem we_revL (h : WE p ρ te fun x => ∃ xs, x = .lst xs ∧ Q (.lst xs.reverse)) : WE p ρ (tRevL p.K te) Q := we_F (wf_revL h)
end
end Cal
set_option Elab.async false
set_option linter.all false
set_option maxRecDepth 100000
set_option maxHeartbeats 4000000
namespace Cal
open PySem L2 PyProof.Rows
open Evl (Ex)
/-! ### comprehensions over zip(..), all(..), any(..), != of flags -/
theorem lc_any {J : It} {n : Nat} {g : TG} {tt : TT} {te : TE} {vs : List Nat} {σ : L2.St} {H1 : Hp} {Dl : Addr} {Qd : Hp → Prop} (Pv : Nat → Hp → Prop) (h0 : Pv 0 (upd H1 Dl (.lst []))) (hgo : ∀ i H, i < n → Pv i H → J.go i H) (hst : ∀ H, Pv n H → J.stop n H)
    (hs : ∀ i x H H', i < n → Pv i H → J.yld i H x H' → g x (L2.wipe σ vs) H' fun σ2 H2 => L2.wipe σ2 vs = L2.wipe σ vs ∧ tt σ2 H2 fun b H3 => if b = true then te σ2 H3 fun y H4 => ∃ acc, H4 Dl = some (.lst acc) ∧ acc.length < sizeLine ∧ Pv (i + 1) (upd H4 Dl (.lst (acc ++ [y]))) else Pv (i + 1) H3)
    (hd : ∀ H, Pv n H → Qd H) : ∃ W : Nat → Nat → Hp → Prop, (∃ m, W 0 m (upd H1 Dl (.lst []))) ∧ ∀ i m H, W i m H →
      (J.stop i H ∧ Qd H) ∨ (J.go i H ∧ ∃ Nx : Hp → Prop, (∀ H', Nx H' → ∃ m', m' < m ∧ W (i + 1) m' H') ∧ ∀ x H', J.yld i H x H' → g x (L2.wipe σ vs) H' fun σ2 H2 => L2.wipe σ2 vs = L2.wipe σ vs ∧ tt σ2 H2 fun b H3 =>
        if b = true then te σ2 H3 fun y H4 => ∃ acc, H4 Dl = some (.lst acc) ∧ acc.length < sizeLine ∧ Nx (upd H4 Dl (.lst (acc ++ [y]))) else Nx H3) := by
  refine ⟨fun i m H => m = n - i ∧ i ≤ n ∧ Pv i H, ⟨n, rfl, Nat.zero_le _, h0⟩, fun i m H ⟨e, hi, q⟩ => ?_⟩
  by_cases hlt : i < n
  · exact .inr ⟨hgo i H hlt q, Pv (i + 1), fun H' q' => ⟨n - (i + 1), by omega, rfl, hlt, q'⟩, fun x H' y => hs i x H H' hlt q y⟩
  · have hi' : i = n := by omega
    subst hi'
    exact .inl ⟨hst H q, hd H q⟩
section
variable {p : Par} {ρ : Rho} {Q : D → Prop} {ta tb te tl th : TE} {tt tu : TT} {P : Post} {ts tv : TS} {g : TG}
theorem lc_grow {G1 H1 H' : Hp} {σ : L2.St} {Dl T : Addr} {o : HO} {I : Nat → List D → Prop} {k : Nat} (hh : Hold p ρ G1 σ H1) (L : Lc p G1 H1 Dl I k H') (hT : H' T = none) : Lc p G1 H1 Dl I k (upd H' T o) := by
  obtain ⟨acc, av, G', hi, hle, s, e, ow, r⟩ := L
  exact ⟨acc, av, G', hi, hle, s.trans ((hh.step s).mem.growO hT), by rw [upd_ne (ne_of_none e hT)]; exact e, ow, r⟩
theorem wf_lcZip {ta : TA} {vs : List Nat} {Q : Cell → Prop} (h : WA p ρ ta fun ds => ∃ xs ys, (ds = [.lst xs, .lst ys] ∨ ds = [.tup xs, .tup ys]) ∧ xs.length = ys.length ∧ xs.length ≤ 4000000 ∧ ∃ I : Nat → List D → Prop, I 0 [] ∧
    (∀ k x y acc, xs[k]? = some x → ys[k]? = some y → I k acc → acc.length ≤ k → WGp p vs (wipeR ρ vs) g (.tup [x, y]) fun ρ2 => WT p ρ2 tt fun b => if b = true then WE p ρ2 te fun y => I (k + 1) (acc ++ [y]) else I (k + 1) acc) ∧ ∀ acc, I xs.length acc → Q (.ol acc)) :
    WF p ρ (tLc (RZ.iZipA p.K ta) g tt te vs) Q := fun G σ H hh Qv kk =>
  h G σ H hh _ fun ds vv G1 H1 ⟨xs, ys, e, hxy, hz, I, h0, hs, hd⟩ s1 r1 => by
    have hh1 := hh.step s1
    rcases e with e | e
    · subst e
      cases r1 with
      | cons r rn =>
      cases rn with
      | cons r' rn =>
      cases rn
      obtain ⟨a, us, ev, hq, hl⟩ := r.lst_inv
      obtain ⟨b, ws, ev', hq', hl'⟩ := r'.lst_inv
      subst ev ev'
      have n1 := hl.length
      have n2 := hl'.length
      have sq : ∀ {H' : Hp} {Dl : Addr} {k : Nat}, Lc p G1 H1 Dl I k H' → SqL p.K H' a us ∧ SqL p.K H' b ws := fun {H'} {Dl} {k} L => by
        obtain ⟨acc, av, G', _, _, s, _⟩ := L
        exact ⟨lq s.sub (s.ex _ _ hq), lq s.sub (s.ex _ _ hq')⟩
      refine ⟨a, b, us, ws, rfl, .inl ⟨lq hh1.mem.sub hq, lq hh1.mem.sub hq', fun Dl hn => lc_any (n := us.length) (Lc p G1 H1 Dl I) (lc_start hh1 hn h0) (fun k H' hk L => ?_) (fun H' L => ?_) (fun k v H' H2 hk L hy => ?_) fun H' L => ?_⟩⟩
      · obtain ⟨q1, q2⟩ := sq L
        exact ⟨us, ws, us[k], ws[k]'(by omega), q1, q2, List.getElem?_eq_getElem hk, List.getElem?_eq_getElem (by omega)⟩
      · obtain ⟨q1, q2⟩ := sq L
        exact ⟨us, ws, q1, q2, .inl (Nat.le_refl _)⟩
      · obtain ⟨q1, q2⟩ := sq L
        obtain ⟨T, x', y', e1, hT, e2, hx, hy'⟩ := hy
        subst e1 e2
        obtain ⟨dx, hx1, hx2⟩ := hl.get' (hx us q1)
        obtain ⟨dy, hy1, hy2⟩ := hl'.get' (hy' ws q2)
        refine lc_turn hh1 hn (by omega) (lc_grow hh1 L hT) (fun G' s => ?_) fun acc hi hle => hs k dx dy acc hx1 hy1 hi hle
        obtain ⟨G2, s2, hq2⟩ := Mem.learn (p := p) (hh1.step s).mem upd_same
        exact ⟨G2, s2, .tup hq2 (.cons (rmono hx2 (ex_tr s.ex s2.ex)) (.cons (rmono hy2 (ex_tr s.ex s2.ex)) .nil))⟩
      · obtain ⟨acc, av, G', hi, _, s, e, ow, r⟩ := L
        rw [n1] at hi
        exact kk _ Dl G' H' (hd acc hi) rfl (s1.trans s) (hh.mem.back s1 hn) ⟨Dl, av, rfl, ow, e, r⟩
    · subst e
      cases r1 with
      | cons r rn =>
      cases rn with
      | cons r' rn =>
      cases rn
      obtain ⟨a, us, ev, hq, hl⟩ := r.tup_inv
      obtain ⟨b, ws, ev', hq', hl'⟩ := r'.tup_inv
      subst ev ev'
      have n1 := hl.length
      have n2 := hl'.length
      have sq : ∀ {H' : Hp} {Dl : Addr} {k : Nat}, Lc p G1 H1 Dl I k H' → SqT p.K H' a us ∧ SqT p.K H' b ws := fun {H'} {Dl} {k} L => by
        obtain ⟨acc, av, G', _, _, s, _⟩ := L
        exact ⟨tq s.sub (s.ex _ _ hq), tq s.sub (s.ex _ _ hq')⟩
      refine ⟨a, b, us, ws, rfl, .inr ⟨tq hh1.mem.sub hq, tq hh1.mem.sub hq', fun Dl hn => lc_any (n := us.length) (Lc p G1 H1 Dl I) (lc_start hh1 hn h0) (fun k H' hk L => ?_) (fun H' L => ?_) (fun k v H' H2 hk L hy => ?_) fun H' L => ?_⟩⟩
      · obtain ⟨q1, q2⟩ := sq L
        exact ⟨us, ws, us[k], ws[k]'(by omega), q1, q2, List.getElem?_eq_getElem hk, List.getElem?_eq_getElem (by omega)⟩
      · obtain ⟨q1, q2⟩ := sq L
        exact ⟨us, ws, q1, q2, .inl (Nat.le_refl _)⟩
      · obtain ⟨q1, q2⟩ := sq L
        obtain ⟨T, x', y', e1, hT, e2, hx, hy'⟩ := hy
        subst e1 e2
        obtain ⟨dx, hx1, hx2⟩ := hl.get' (hx us q1)
        obtain ⟨dy, hy1, hy2⟩ := hl'.get' (hy' ws q2)
        refine lc_turn hh1 hn (by omega) (lc_grow hh1 L hT) (fun G' s => ?_) fun acc hi hle => hs k dx dy acc hx1 hy1 hi hle
        obtain ⟨G2, s2, hq2⟩ := Mem.learn (p := p) (hh1.step s).mem upd_same
        exact ⟨G2, s2, .tup hq2 (.cons (rmono hx2 (ex_tr s.ex s2.ex)) (.cons (rmono hy2 (ex_tr s.ex s2.ex)) .nil))⟩
      · obtain ⟨acc, av, G', hi, _, s, e, ow, r⟩ := L
        rw [n1] at hi
        exact kk _ Dl G' H' (hd acc hi) rfl (s1.trans s) (hh.mem.back s1 hn) ⟨Dl, av, rfl, ow, e, r⟩
theorem RpL.bls {K : PySem.W.Frag} {h : Addr} {G : Hp} : ∀ {vs : List V} {bs : List Bool}, RpL K h G vs (bs.map D.bl) → vs = bs.map V.bl
  | [], [], _ => rfl
  | v :: vs, b :: bs, r => by
    cases r with
    | cons a c => cases a; rw [List.map_cons, RpL.bls c]
  | [], d :: ds, r => by cases r
  | v :: vs, [], r => by cases r
theorem we_all (h : WE p ρ te fun x => ∃ bs : List Bool, x = .lst (bs.map D.bl) ∧ Q (.bl (bs.all id))) : WE p ρ (tCB (rAll p.K) (tCons te tNil)) Q :=
  we_cb (wa_cons (h.imp fun x ⟨bs, e, q⟩ => wa_nil fun G H vs m r Qv k => by
    subst e
    cases r with
    | cons r rn =>
      cases rn
      obtain ⟨a, us, ev, hs, hl⟩ := r.lst_inv
      subst ev
      rw [hl.bls] at hs
      exact ⟨a, bs, rfl, lq m.sub hs, k _ _ G H q m.refl (.bl _)⟩))
theorem we_anyB (h : WE p ρ te fun x => ∃ bs : List Bool, x = .lst (bs.map D.bl) ∧ Q (.bl (bs.any id))) : WE p ρ (tCB (rAny p.K) (tCons te tNil)) Q :=
  we_cb (wa_cons (h.imp fun x ⟨bs, e, q⟩ => wa_nil fun G H vs m r Qv k => by
    subst e
    cases r with
    | cons r rn =>
      cases rn
      obtain ⟨a, us, ev, hs, hl⟩ := r.lst_inv
      subst ev
      rw [hl.bls] at hs
      exact ⟨a, bs, rfl, lq m.sub hs, k _ _ G H q m.refl (.bl _)⟩))
theorem we_neB (h : WE p ρ ta fun x => ∃ i, x = .bl i ∧ WE p ρ tb fun y => ∃ j, y = .bl j ∧ Q (.bl (!(i == j)))) : WE p ρ (tOp rNe ta tb) Q :=
  we_op (h.imp fun x ⟨i, e, h⟩ => h.imp fun y ⟨j, e2, q⟩ => fun G H v w m r1 r2 Qv k => by
    subst e e2
    rw [rp_bl r1, rp_bl r2]
    refine ⟨rfl, ?_⟩
    rw [dec_bl]
    exact k _ _ G H q m.refl (.bl _))
end
/-- nothing is promised -/
theorem Dfn.none {P : Program} {w : World} {K : PySem.W.Frag} {mg : Str → Option Value} {base : Heap} {x : Str} {st : Stmt} {ps : List Str} (F : Src K mg x st) (k : Nat)
    (hb : ∀ (kV doc pm : Value) (an : Option Addr) (cdv ct : Value) (us : List Value), us.length = ps.length → bindArgs (PySem.W.fnOf x x (defArgs st) (defBody st) (defScope st) .none kV doc pm an cdv ct) ⟨us, []⟩ = pure (ps.zip us)) :
    Dfn P w K mg base k x ps fun _ _ => False := by
  obtain ⟨f, fd, hm, F⟩ := F.ex
  exact ⟨f, fd, hm, F.kp, ⟨fun vs H Q E ⟨_, _, _, _, _, _, z, _⟩ => z.elim, fun A outer s H args us vs Q E _ _ _ _ ⟨_, _, _, _, _, _, z, _⟩ => z.elim⟩, F.binds hb⟩
/-! ### data that the laws compare -/
theorem kb_tuple_list : kitB "tuple" "list" = some false := by decide +kernel
theorem kb_list_list : kitB "list" "list" = some true := by decide +kernel
mutual
/-- whether two things are the same, tuples being no lists -/
def isD : D → D → Bool
  | .int i, .int j => decide (i = j)
  | .tup xs, .tup ys => isDL xs ys
  | .lst xs, .lst ys => isDL xs ys
  | _, _ => false
def isDL : List D → List D → Bool
  | [], [] => true
  | x :: xs, y :: ys => isD x y && isDL xs ys
  | _, _ => false
end
/-- of integers, tuples and lists, nested at most n deep, of like kinds at like places -/
inductive P2 : Nat → D → D → Prop
  | int (n : Nat) (i j : Int) : P2 n (.int i) (.int j)
  | tup {n : Nat} {xs ys : List D} : xs.length ≤ 4000000 → (xs.length = ys.length → ∀ (k : Nat) (x y : D), xs[k]? = some x → ys[k]? = some y → P2 n x y) → P2 (n + 1) (.tup xs) (.tup ys)
  | lst {n : Nat} {xs ys : List D} : xs.length ≤ 4000000 → (xs.length = ys.length → ∀ (k : Nat) (x y : D), xs[k]? = some x → ys[k]? = some y → P2 n x y) → P2 (n + 1) (.lst xs) (.lst ys)
theorem isDL_ne : ∀ {xs ys : List D}, xs.length ≠ ys.length → isDL xs ys = false
  | [], [], h => absurd rfl h
  | x :: xs, y :: ys, h => by
    rw [isDL, isDL_ne (xs := xs) (ys := ys) fun e => h (by rw [List.length_cons, List.length_cons, e]), Bool.and_false]
  | [], y :: ys, h => by rw [isDL]; all_goals (intros; simp_all)
  | x :: xs, [], h => by rw [isDL]; all_goals (intros; simp_all)
theorem isDL_all : ∀ {xs ys : List D}, xs.length = ys.length → isDL xs ys = ((xs.zip ys).map fun z => isD z.1 z.2).all id
  | [], [], _ => by rw [isDL]; rfl
  | x :: xs, y :: ys, h => by
    rw [isDL, isDL_all (by simpa using h)]
    rfl
  | [], y :: ys, h => by cases h
  | x :: xs, [], h => by cases h
mutual
theorem isD_self {n : Nat} : ∀ x : D, P2 n x x → isD x x = true
  | .int i, _ => by rw [isD]; exact decide_eq_true rfl
  | .tup xs, h => by
    rw [isD]
    cases h with
    | tup _ q => exact isDL_self xs (fun k x e => q rfl k x x e e)
  | .lst xs, h => by
    rw [isD]
    cases h with
    | lst _ q => exact isDL_self xs (fun k x e => q rfl k x x e e)
  | .non, h => by cases h
  | .bl _, h => by cases h
  | .str _, h => by cases h
  | .hand, h => by cases h
  | .dK _, h => by cases h
  | .dT _, h => by cases h
  | .raw _, h => by cases h
theorem isDL_self {n : Nat} : ∀ xs : List D, (∀ (k : Nat) (x : D), xs[k]? = some x → P2 n x x) → isDL xs xs = true
  | [], _ => by rw [isDL]
  | x :: xs, h => by
    rw [isDL, isD_self x (h 0 x rfl), isDL_self xs fun k y e => h (k + 1) y (by simpa using e)]
    rfl
end
end Cal
set_option Elab.async false
set_option linter.all false
set_option maxRecDepth 100000
set_option maxHeartbeats 4000000
namespace Cal
open PySem L2 PyProof.Rows
open Evl (Ex sq_of)
section
variable {p : Par} {ρ : Rho} {Q : D → Prop} {ta tb te tl th : TE} {tt tu : TT} {P : Post} {ts tv : TS} {g : TG}
/-- xs.extend(ys), xs slot i's own -/
theorem ws_extend {i : Nat} {xs : List D} (e : ρ[i]? = some (some (.ol xs))) (h : WE p ρ te fun x => ∃ ys, x = .lst ys ∧ xs.length + ys.length ≤ 4000000 ∧ P.n (ρ.set i (some (.ol (xs ++ ys))))) :
    WS p ρ (tDrop (tBM p.K "list" rExtend (tVar i) (tCons te tNil))) P := fun G σ H hh E kn kr kb kc => by
  obtain ⟨sv, h1, a, vs, h2, ow, h4, h5⟩ := hh.slot i _ e
  subst h2
  refine ⟨.ref a, h1, Or.inl ⟨rfl, vs, sq_of h4⟩, h G σ H hh _ fun d w G' H' ⟨ys, ey, hl, z⟩ s r => ?_⟩
  subst ey
  obtain ⟨b, ws, ew, hb, hlr⟩ := r.lst_inv
  subst ew
  have hh' := hh.step s
  obtain ⟨sv', h1', a', vs', h2', ow', h4', h5'⟩ := hh'.slot i _ e
  subst h2'
  rw [h1] at h1'
  cases h1'
  have n1 := h5'.length
  have n2 := hlr.length
  exact ⟨a, b, vs', ws, rfl, rfl, h4', hh'.mem.sub _ _ hb, by rw [sizeLine_eq]; omega, kn _ G' σ _ z s.ex (hh'.write e rfl h1 ow' ⟨a, _, rfl, ow', upd_same, h5'.append hlr⟩)⟩
end
end Cal
set_option Elab.async false
set_option linter.all false
set_option maxRecDepth 100000
set_option maxHeartbeats 4000000
namespace Cal
open PySem L2 PyProof.Rows
open Evl (Ex sq_of)
section
variable {κ : Type} [DecidableEq κ]
theorem dPut_new {kvs : List (κ × D)} {k : κ} {v : D} (h : dGet kvs k = none) : dPut kvs k v = kvs ++ [(k, v)] := by
  unfold dPut
  rw [if_neg]
  intro z
  unfold dGet at h
  rw [Option.map_eq_none_iff, List.find?_eq_none] at h
  obtain ⟨x, hx, e⟩ := List.any_eq_true.mp z
  exact h x hx e
theorem dGet_new {kvs : List (κ × D)} {k : κ} {v : D} (h : dGet kvs k = none) : dGet (kvs ++ [(k, v)]) k = some v := by
  unfold dGet at h ⊢
  rw [Option.map_eq_none_iff] at h
  rw [List.find?_append, h]
  simp
theorem dGet_mem {kvs : List (κ × D)} {k : κ} {v : D} (h : dGet kvs k = some v) : (k, v) ∈ kvs := by
  unfold dGet at h
  obtain ⟨x, hx, e⟩ := Option.map_eq_some_iff.mp h
  have h1 := List.mem_of_find?_eq_some hx
  have h2 := List.find?_some hx
  have h3 : x.1 = k := of_decide_eq_true h2
  rw [← h3, ← e]
  exact h1
theorem dGet_no {kvs : List (κ × D)} {k : κ} (h : dGet kvs k = none) : k ∉ kvs.map (·.1) := by
  intro z
  obtain ⟨x, hx, e⟩ := List.mem_map.mp z
  unfold dGet at h
  rw [Option.map_eq_none_iff, List.find?_eq_none] at h
  exact h x hx (decide_eq_true e)
theorem dGet_not {kvs : List (κ × D)} {k : κ} (h : k ∉ kvs.map (·.1)) : dGet kvs k = none := by
  cases e : dGet kvs k with
  | none => rfl
  | some v => exact (h (List.mem_map.mpr ⟨_, dGet_mem e, rfl⟩)).elim
end
section
variable {p : Par} {ρ : Rho} {Q : D → Prop} {ta tb te tl th : TE} {tt tu : TT} {P : Post} {ts tv : TS} {g : TG}
/-- a, b, c, d = [], x, {}, {}: the dicts with tuples for keys -/
theorem ws_new4T {i j k l r0 : Nat} {x : D} (e : ρ[r0]? = some (some (.d x))) (h : P.n ((((ρ.set i (some (.ol []))).set j (some (.d x))).set k (some (.ot []))).set l (some (.ot [])))) :
    WS p ρ (tAsg (tTup (tCons (tLst tNil) (tCons (tVar r0) (tCons tDNewT (tCons tDNewT tNil))))) (gTup p.K 4 (gCons (gName i) (gCons (gName j) (gCons (gName k) (gCons (gName l) gNil)))))) P := fun G σ H hh E kn kr kb kc => by
  obtain ⟨sv, h1, v, h2, h3⟩ := hh.slot r0 _ e
  subst h2
  refine ⟨sz (Nat.zero_le _), fun a ha => ⟨v, h1, fun b hb c hc => ⟨sz (by show 4 ≤ 4000000; decide), fun t ht => ?_⟩⟩⟩
  have s1 := hh.mem.growO (o := .lst []) ha
  have h1 := hh.setNew (i := i) (c := .ol []) s1 ha ⟨a, [], rfl, hh.mem.fresh ha, upd_same, .nil⟩
  have h2 := h1.setD (i := j) h3
  have s3 := h2.mem.growO (o := .dT []) hb
  have h4 := h2.setNew (i := k) (c := .ot []) s3 hb ⟨b, [], rfl, h2.mem.fresh hb, upd_same, .nil⟩
  have s5 := h4.mem.growO (o := .dT []) hc
  have h6 := h4.setNew (i := l) (c := .ot []) s5 hc ⟨c, [], rfl, h4.mem.fresh hc, upd_same, .nil⟩
  have h7 := h6.step (h6.mem.growO (o := .tup [.ref a, v, .ref b, .ref c]) ht)
  refine ⟨t, _, rfl, Evl.st_of upd_same, rfl, ⟨_, _, rfl, ⟨_, _, rfl, ⟨_, _, rfl, ⟨_, _, rfl, rfl, ?_⟩⟩⟩⟩⟩
  exact kn _ G _ _ h Ex.rfl' h7
end
end Cal
set_option Elab.async false
set_option linter.all false
set_option maxRecDepth 100000
set_option maxHeartbeats 4000000
namespace Cal
open PySem L2 PyProof.Rows
open Evl (Ex sq_of st_of)
/-! ### == and != of nested data -/
mutual
/-- as the data of the comparison of nested things (what has no such data: None) -/
def toPy : D → PyData
  | .non => .none
  | .bl b => .bool b
  | .int i => .int i
  | .str x => .str x
  | .tup xs => .tuple (toPyL xs)
  | .lst xs => .list (toPyL xs)
  | _ => .none
def toPyL : List D → List PyData
  | [] => []
  | x :: xs => toPy x :: toPyL xs
end
/-- None, flags, integers, texts, tuples and lists of such -/
inductive Cmp : D → Prop
  | non : Cmp .non
  | bl (b : Bool) : Cmp (.bl b)
  | int (i : Int) : Cmp (.int i)
  | str (x : Str) : Cmp (.str x)
  | tup {xs : List D} : (∀ x ∈ xs, Cmp x) → Cmp (.tup xs)
  | lst {xs : List D} : (∀ x ∈ xs, Cmp x) → Cmp (.lst xs)
section
variable {K : PySem.W.Frag} {h : Addr} {G H : Hp}
mutual
theorem dp_of (e : Ex G H) : ∀ (x : D) (v : V), Cmp x → Rp K h G v x → Dp K H v (toPy x)
  | .non, _, _, r => by cases r; exact .non
  | .bl b, _, _, r => by cases r; exact .bl b
  | .int i, _, _, r => by cases r; exact .int i
  | .str x, _, _, r => by cases r; exact .str x
  | .tup xs, _, c, r => by
    obtain ⟨a, vs, ev, hs, hl⟩ := r.tup_inv
    subst ev
    rw [toPy]
    cases c with
    | tup cs => exact .tup (tq e hs) (dpl_of e xs vs cs hl)
  | .lst xs, _, c, r => by
    obtain ⟨a, vs, ev, hs, hl⟩ := r.lst_inv
    subst ev
    rw [toPy]
    cases c with
    | lst cs => exact .lst (lq e hs) (dpl_of e xs vs cs hl)
  | .hand, _, c, _ => by cases c
  | .dK _, _, c, _ => by cases c
  | .dT _, _, c, _ => by cases c
  | .raw _, _, c, _ => by cases c
theorem dpl_of (e : Ex G H) : ∀ (xs : List D) (vs : List V), (∀ x ∈ xs, Cmp x) → RpL K h G vs xs → DpAll K H vs (toPyL xs)
  | [], _, _, r => by cases r; rw [toPyL]; exact .nil
  | x :: xs, _, c, r => by
    cases r with
    | cons a b =>
      rw [toPyL]
      exact .cons (dp_of e x _ (c x List.mem_cons_self) a) (dpl_of e xs _ (fun y hy => c y (List.mem_cons_of_mem _ hy)) b)
end
end
section
variable {p : Par} {ρ : Rho} {Q : D → Prop} {ta tb te tl th : TE} {tt tu : TT} {P : Post} {ts tv : TS} {g : TG}
theorem we_eqD (h : WE p ρ ta fun x => Cmp x ∧ SeqAt.shaped (toPy x) = true ∧ WE p ρ tb fun y => Cmp y ∧ SeqAt.shaped (toPy y) = true ∧ Q (.bl (PyData.eqv (toPy x) (toPy y)))) : WE p ρ (tOp (rEqD p.K) ta tb) Q :=
  we_op (h.imp fun x ⟨c1, s1, h⟩ => h.imp fun y ⟨c2, s2, q⟩ => fun G H v w m r1 r2 Qv k =>
    ⟨_, _, dp_of m.sub x v c1 r1, dp_of m.sub y w c2 r2, s1, s2, k _ _ G H q m.refl (.bl _)⟩)
theorem we_neD (h : WE p ρ ta fun x => Cmp x ∧ SeqAt.shaped (toPy x) = true ∧ WE p ρ tb fun y => Cmp y ∧ SeqAt.shaped (toPy y) = true ∧ Q (.bl (!PyData.eqv (toPy x) (toPy y)))) : WE p ρ (tOp (rNeD p.K) ta tb) Q :=
  we_op (h.imp fun x ⟨c1, s1, h⟩ => h.imp fun y ⟨c2, s2, q⟩ => fun G H v w m r1 r2 Qv k =>
    ⟨_, _, dp_of m.sub x v c1 r1, dp_of m.sub y w c2 r2, s1, s2, k _ _ G H q m.refl (.bl _)⟩)
/-- max(ns), min(ns) of a list of integers -/
theorem we_maxL (h : WE p ρ te fun x => ∃ ns : List Int, x = .lst (ns.map D.int) ∧ 0 < ns.length ∧ ∀ m, m ∈ ns → (∀ y, y ∈ ns → y ≤ m) → Q (.int m)) : WE p ρ (tCB (rMax p.K) (tCons te tNil)) Q :=
  we_cb (wa_cons (h.imp fun x ⟨ns, e, hn, q⟩ => wa_nil fun G H vs m r Qv k => by
    subst e
    cases r with
    | cons r rn =>
      cases rn
      obtain ⟨a, us, ev, hs, hl⟩ := r.lst_inv
      subst ev
      rw [hl.ints] at hs
      exact ⟨a, ns, rfl, lq m.sub hs, hn, fun z h1 h2 => k _ _ G H (q z h1 h2) m.refl (.int _)⟩))
theorem we_minL (h : WE p ρ te fun x => ∃ ns : List Int, x = .lst (ns.map D.int) ∧ 0 < ns.length ∧ ∀ m, m ∈ ns → (∀ y, y ∈ ns → m ≤ y) → Q (.int m)) : WE p ρ (tCB (rMin p.K) (tCons te tNil)) Q :=
  we_cb (wa_cons (h.imp fun x ⟨ns, e, hn, q⟩ => wa_nil fun G H vs m r Qv k => by
    subst e
    cases r with
    | cons r rn =>
      cases rn
      obtain ⟨a, us, ev, hs, hl⟩ := r.lst_inv
      subst ev
      rw [hl.ints] at hs
      exact ⟨a, ns, rfl, lq m.sub hs, hn, fun z h1 h2 => k _ _ G H (q z h1 h2) m.refl (.int _)⟩))
theorem any_toPy {x : D} {ys : List D} : ((toPyL ys).any fun z => PyData.eqv z (toPy x)) = ys.any fun y => PyData.eqv (toPy y) (toPy x) := by
  induction ys with
  | nil => rw [toPyL]; rfl
  | cons y ys ih => rw [toPyL, List.any_cons, List.any_cons, ih]
theorem we_inD (h : WE p ρ ta fun x => Cmp x ∧ SeqAt.shaped (toPy x) = true ∧ WE p ρ tb fun y => ∃ ys, y = .lst ys ∧ Cmp y ∧ SeqAt.shaped (toPy y) = true ∧ Q (.bl (ys.any fun z => PyData.eqv (toPy z) (toPy x)))) : WE p ρ (tOp (rInD p.K) ta tb) Q :=
  we_op (h.imp fun x ⟨c1, s1, h⟩ => h.imp fun y ⟨ys, ey, c2, s2, q⟩ => fun G H v w m r1 r2 Qv k => by
    subst ey
    have d2 := dp_of m.sub _ w c2 r2
    rw [toPy] at d2 s2
    refine ⟨_, _, dp_of m.sub x v c1 r1, d2, s1, s2, ?_⟩
    rw [any_toPy]
    exact k _ _ G H q m.refl (.bl _))
theorem we_notInD (h : WE p ρ ta fun x => Cmp x ∧ SeqAt.shaped (toPy x) = true ∧ WE p ρ tb fun y => ∃ ys, y = .lst ys ∧ Cmp y ∧ SeqAt.shaped (toPy y) = true ∧ Q (.bl (!ys.any fun z => PyData.eqv (toPy z) (toPy x)))) : WE p ρ (tOp (rNotInD p.K) ta tb) Q :=
  we_op (h.imp fun x ⟨c1, s1, h⟩ => h.imp fun y ⟨ys, ey, c2, s2, q⟩ => fun G H v w m r1 r2 Qv k => by
    subst ey
    have d2 := dp_of m.sub _ w c2 r2
    rw [toPy] at d2 s2
    refine ⟨_, _, dp_of m.sub x v c1 r1, d2, s1, s2, ?_⟩
    rw [any_toPy]
    exact k _ _ G H q m.refl (.bl _))
theorem rep_rp {G : Hp} {vs : List V} {ds : List D} (r : RpL p.K p.h G vs ds) : ∀ n : Nat, RpL p.K p.h G (List.replicate n vs).flatten (List.replicate n ds).flatten
  | 0 => .nil
  | n + 1 => by
    rw [List.replicate_succ, List.replicate_succ, List.flatten_cons, List.flatten_cons]
    exact r.append (rep_rp r n)
/-- xs * n -/
theorem we_repL (h : WE p ρ ta fun x => ∃ xs, x = .lst xs ∧ WE p ρ tb fun y => ∃ n : Int, y = .int n ∧ -(2 ^ 63) ≤ n ∧ n < 2 ^ 63 ∧ xs.length * n.toNat ≤ 4000000 ∧ Q (.lst (List.replicate n.toNat xs).flatten)) : WE p ρ (tOp rRep ta tb) Q :=
  we_op (h.imp fun x ⟨xs, ex, h⟩ => h.imp fun y ⟨n, ey, n1, n2, n3, q⟩ => fun G H v w m r1 r2 Qv k => by
    subst ex ey
    obtain ⟨a, vs, ev, hs, hl⟩ := r1.lst_inv
    subst ev
    have hz := hl.length
    refine ⟨a, n, vs, rfl, rp_int r2, m.sub _ _ hs, n1, n2, by rw [hz, sizeLine_eq]; omega, fun b hb => ?_⟩
    have g := m.grow (o := .lst (List.replicate n.toNat vs).flatten) hb
    exact k _ _ _ _ q g (.lst upd_same (lmono (rep_rp hl _) g.ex)))
theorem we_repT (h : WE p ρ ta fun x => ∃ xs, x = .tup xs ∧ xs ≠ [] ∧ xs.length ≤ 1000 ∧ WE p ρ tb fun y => ∃ n : Int, y = .int n ∧ 2 ≤ n ∧ n ≤ 1000 ∧ Q (.tup (List.replicate n.toNat xs).flatten)) : WE p ρ (tOp (rRepT p.K) ta tb) Q :=
  we_op (h.imp fun x ⟨xs, ex, hne, hxl, h⟩ => h.imp fun y ⟨n, ey, n1, n2, q⟩ => fun G H v w m r1 r2 Qv k => by
    subst ex ey
    obtain ⟨a, vs, ev, hs, hl⟩ := r1.tup_inv
    subst ev
    have hz := hl.length
    refine ⟨a, n, vs, rfl, rp_int r2, tq m.sub hs, fun z => hne ?_, n1, n2, by omega, fun b hb => ?_⟩
    · rw [z] at hz
      exact List.length_eq_zero_iff.mp hz.symm
    · have g := m.grow (o := .tup (List.replicate n.toNat vs).flatten) hb
      exact k _ _ _ _ q g (.tup upd_same (lmono (rep_rp hl _) g.ex)))
end
section
variable {X : Cx} {K0 : PySem.W.Frag}
theorem cr_maxK (hK : X.K = K0) (hc : X.calm = true) : CallR X (.builtin "max") (rMax K0) := hK ▸ cr_max hc
theorem cr_minK (hK : X.K = K0) (hc : X.calm = true) : CallR X (.builtin "min") (rMin K0) := hK ▸ cr_min hc
theorem op_inDK (hK : X.K = K0) (hu : X.A.units + 65 < cLine) : OpR X (compareOp .In) (rInD K0) := hK ▸ op_inD hu
theorem op_notInDK (hK : X.K = K0) (hu : X.A.units + 65 < cLine) : OpR X (compareOp .NotIn) (rNotInD K0) := hK ▸ op_notInD hu
theorem op_repTK (hK : X.K = K0) : OpR X (binaryOp .Mult) (rRepT K0) := hK ▸ op_repT
theorem room65 {A : Around} {k : Nat} (hr : Room k A) : A.units + 65 < cLine := by have := hr.un; omega
end
end Cal
set_option Elab.async false
set_option linter.all false
set_option maxRecDepth 100000
set_option maxHeartbeats 4000000
namespace Cal
open PySem L2 PyProof.Rows
open Evl (Ex sq_of st_of)
/-! ### an owned list, lent to an expression that tells a scalar -/
theorem rp_sc {K : PySem.W.Frag} {h : Addr} {G G' : Hp} {v : V} : ∀ {d : D}, d.sc = true → Rp K h G v d → Rp K h G' v d
  | .non, _, r => by cases r; exact .non
  | .bl b, _, r => by cases r; exact .bl b
  | .int i, _, r => by cases r; exact .int i
  | .str x, _, r => by cases r; exact .str x
  | .hand, h, _ => by cases h
  | .tup _, h, _ => by cases h
  | .lst _, h, _ => by cases h
  | .dK _, h, _ => by cases h
  | .dT _, h, _ => by cases h
  | .raw _, h, _ => by cases h
/-- no list of integers alone -/
def D.nonInt : List D → Bool
  | .tup _ :: _ => true | .lst _ :: _ => true | .non :: _ => true | .str _ :: _ => true | .bl _ :: _ => true | _ => false
theorem lent {p : Par} {ρ : Rho} {G G' H H' : Hp} {σ : L2.St} {a : Addr} {vs : List V} {xs : List D} (hh : Hold p ρ G σ H) (ow : Own p G a) (ha : H a = some (.lst vs)) (hl : RpL p.K p.h G vs xs) (hn : D.nonInt xs = true) (s : Stp p (upd G a (.lst vs)) H G' H') :
    Stp p G H (fun b => if b = a then none else G' b) H' := by
  have ne : ∀ {b : Addr} {o : HO}, (if b = a then none else G' b) = some o → b ≠ a ∧ G' b = some o := fun {b o} z => by
    by_cases hb : b = a
    · rw [if_pos hb] at z; cases z
    · rw [if_neg hb] at z; exact ⟨hb, z⟩
  refine ⟨fun b o z => s.sub b o (ne z).2, ?_, s.base, fun b o z => ?_, fun b o z => ?_, ?_⟩
  · show (if p.h = a then none else G' p.h) = none
    rw [if_neg (Ne.symm ow.2.2)]; exact s.gh
  · have hb : b ≠ a := ne_of_none z ow.1
    show (if b = a then none else G' b) = some o
    rw [if_neg hb]
    exact s.g0 b o ((upd_ne hb).trans z)
  · obtain ⟨hb, z2⟩ := ne z
    rcases s.new b o z2 with q | q
    · exact .inl ((upd_ne hb).symm.trans q)
    · exact .inr q
  · obtain ⟨c, ns, i, r, n, h1, h2, h3⟩ := s.hand
    have hc : c ≠ a := fun e => by
      have e1 : G' a = some (.lst vs) := s.g0 a _ upd_same
      have h2' : G' c = some (.lst (ns.map V.int)) := h2
      rw [e, e1] at h2'
      have ev : vs = ns.map V.int := by injection h2' with h2'; injection h2'
      subst ev
      cases ns with
      | nil => cases hl; cases hn
      | cons m ns =>
        cases hl with
        | @cons _ _ d ds r1 r2 => cases r1 <;> first | cases hn | skip
    exact ⟨c, ns, i, r, n, h1, by show (if c = a then none else G' c) = _; rw [if_neg hc]; exact h2, h3⟩
section
variable {p : Par} {ρ : Rho} {Q : D → Prop} {ta tb te : TE} {tt tu : TT}
theorem we_lend (i : Nat) {xs : List D} (e : ρ[i]? = some (some (.ol xs))) (hn : D.nonInt xs = true) (h : WE p (ρ.set i (some (.d (.lst xs)))) te fun d => d.sc = true ∧ Q d) : WE p ρ te Q := fun G σ H hh Qv k => by
  obtain ⟨sv, h1, a, vs, h2, ow, h4, h5⟩ := hh.slot i _ e
  subst h2
  obtain ⟨hh', ex⟩ := hh.freeze e rfl h1 ow h4 (x := .lst xs) (.lst upd_same (lmono h5 fun b u z => by rw [upd_ne (ne_of_none z ow.1)]; exact z))
  refine h _ σ H hh' Qv fun d v G' H' ⟨hd, q⟩ s r => ?_
  exact k d v _ H' q (lent hh ow h4 h5 hn s) (rp_sc hd r)
theorem wt_lend (i : Nat) {xs : List D} {R : Bool → Prop} (e : ρ[i]? = some (some (.ol xs))) (hn : D.nonInt xs = true) (h : WT p (ρ.set i (some (.d (.lst xs)))) tt R) : WT p ρ tt R := fun G σ H hh Qv k => by
  obtain ⟨sv, h1, a, vs, h2, ow, h4, h5⟩ := hh.slot i _ e
  subst h2
  obtain ⟨hh', ex⟩ := hh.freeze e rfl h1 ow h4 (x := .lst xs) (.lst upd_same (lmono h5 fun b u z => by rw [upd_ne (ne_of_none z ow.1)]; exact z))
  exact h _ σ H hh' Qv fun b G' H' q s => k b _ H' q (lent hh ow h4 h5 hn s)
end
end Cal
set_option Elab.async false
set_option linter.all false
set_option maxRecDepth 100000
set_option maxHeartbeats 4000000
namespace Lk04
open PySem L2 PyProof.Rows Cal
open Evl (Ex)
def top (i : Nat) : Stmt := PySem.Challenge.pw_anywriting_k04_whole_beginnings.main.body.getD i (.Pass ⟨0, 0, 0, 0⟩)
abbrev s_is_integer : Stmt := top 8
abbrev N_is_integer : List Str := ["thing"]
theorem sc_is_integer : FnScope N_is_integer ["thing"] (defScope s_is_integer) := ⟨rfl, rfl, rfl, by decide +kernel, rfl, by decide +kernel, by decide +kernel⟩
abbrev s_is_integer_within : Stmt := top 9
abbrev N_is_integer_within : List Str := ["thing", "low", "high"]
theorem sc_is_integer_within : FnScope N_is_integer_within ["thing", "low", "high"] (defScope s_is_integer_within) := ⟨rfl, rfl, rfl, by decide +kernel, rfl, by decide +kernel, by decide +kernel⟩
abbrev s_is_base : Stmt := top 10
abbrev N_is_base : List Str := ["thing"]
theorem sc_is_base : FnScope N_is_base ["thing"] (defScope s_is_base) := ⟨rfl, rfl, rfl, by decide +kernel, rfl, by decide +kernel, by decide +kernel⟩
abbrev s_is_tuple_of : Stmt := top 11
abbrev N_is_tuple_of : List Str := ["thing", "many"]
theorem sc_is_tuple_of : FnScope N_is_tuple_of ["thing", "many"] (defScope s_is_tuple_of) := ⟨rfl, rfl, rfl, by decide +kernel, rfl, by decide +kernel, by decide +kernel⟩
abbrev s_is_fraction : Stmt := top 15
abbrev N_is_fraction : List Str := ["thing", "top", "bottom"]
theorem sc_is_fraction : FnScope N_is_fraction ["thing"] (defScope s_is_fraction) := ⟨rfl, rfl, rfl, by decide +kernel, rfl, by decide +kernel, by decide +kernel⟩
abbrev s_is_number : Stmt := top 16
abbrev N_is_number : List Str := ["thing"]
theorem sc_is_number : FnScope N_is_number ["thing"] (defScope s_is_number) := ⟨rfl, rfl, rfl, by decide +kernel, rfl, by decide +kernel, by decide +kernel⟩
abbrev s_check_base : Stmt := top 17
abbrev N_check_base : List Str := ["thing"]
theorem sc_check_base : FnScope N_check_base ["thing"] (defScope s_check_base) := ⟨rfl, rfl, rfl, by decide +kernel, rfl, by decide +kernel, by decide +kernel⟩
abbrev s_check_number : Stmt := top 18
abbrev N_check_number : List Str := ["thing"]
theorem sc_check_number : FnScope N_check_number ["thing"] (defScope s_check_number) := ⟨rfl, rfl, rfl, by decide +kernel, rfl, by decide +kernel, by decide +kernel⟩
abbrev s_check_many : Stmt := top 19
abbrev N_check_many : List Str := ["thing"]
theorem sc_check_many : FnScope N_check_many ["thing"] (defScope s_check_many) := ⟨rfl, rfl, rfl, by decide +kernel, rfl, by decide +kernel, by decide +kernel⟩
abbrev s_least_digit : Stmt := top 20
abbrev N_least_digit : List Str := ["base", "top", "bottom"]
theorem sc_least_digit : FnScope N_least_digit ["base", "top", "bottom"] (defScope s_least_digit) := ⟨rfl, rfl, rfl, by decide +kernel, rfl, by decide +kernel, by decide +kernel⟩
abbrev s_greatest_digit : Stmt := top 21
abbrev N_greatest_digit : List Str := ["base", "top", "bottom"]
theorem sc_greatest_digit : FnScope N_greatest_digit ["base", "top", "bottom"] (defScope s_greatest_digit) := ⟨rfl, rfl, rfl, by decide +kernel, rfl, by decide +kernel, by decide +kernel⟩
abbrev s_next_digits : Stmt := top 22
abbrev N_next_digits : List Str := ["base", "top", "bottom", "low", "high", "digit"]
theorem sc_next_digits : FnScope N_next_digits ["base", "top", "bottom"] (defScope s_next_digits) := ⟨rfl, rfl, rfl, by decide +kernel, rfl, by decide +kernel, by decide +kernel⟩
abbrev s_beginnings : Stmt := top 23
abbrev N_beginnings : List Str := ["base", "x", "many", "levels", "tops", "_", "level", "at", "top", "digit", "left", "last"]
theorem sc_beginnings : FnScope N_beginnings ["base", "x", "many"] (defScope s_beginnings) := ⟨rfl, rfl, rfl, by decide +kernel, rfl, by decide +kernel, by decide +kernel⟩
abbrev s_traced_back : Stmt := top 24
abbrev N_traced_back : List Str := ["levels", "last", "at", "digits", "level", "digit", "_"]
theorem sc_traced_back : FnScope N_traced_back ["levels", "last"] (defScope s_traced_back) := ⟨rfl, rfl, rfl, by decide +kernel, rfl, by decide +kernel, by decide +kernel⟩
abbrev s_many_beginnings : Stmt := top 25
abbrev N_many_beginnings : List Str := ["base", "x", "many", "counts", "_", "after", "top", "count", "left"]
theorem sc_many_beginnings : FnScope N_many_beginnings ["base", "x", "many"] (defScope s_many_beginnings) := ⟨rfl, rfl, rfl, by decide +kernel, rfl, by decide +kernel, by decide +kernel⟩
abbrev s_law_hand : Stmt := top 27
abbrev N_law_hand : List Str := ["script", "cell"]
theorem sc_law_hand : FnScope N_law_hand ["script"] (defScope s_law_hand) := ⟨rfl, rfl, rfl, by decide +kernel, rfl, by decide +kernel, by decide +kernel⟩
abbrev s_law_mixed : Stmt := top 28
abbrev N_law_mixed : List Str := ["cell", "turn", "number"]
theorem sc_law_mixed : FnScope N_law_mixed ["cell", "turn"] (defScope s_law_mixed) := ⟨rfl, rfl, rfl, by decide +kernel, rfl, by decide +kernel, by decide +kernel⟩
abbrev s_law_draw : Stmt := top 29
abbrev N_law_draw : List Str := ["hand", "many", "found", "cells", "at", "cell"]
theorem sc_law_draw : FnScope N_law_draw ["hand", "many"] (defScope s_law_draw) := ⟨rfl, rfl, rfl, by decide +kernel, rfl, by decide +kernel, by decide +kernel⟩
abbrev s_law_any : Stmt := top 30
abbrev N_law_any : List Str := ["hand", "some"]
theorem sc_law_any : FnScope N_law_any ["hand", "some"] (defScope s_law_any) := ⟨rfl, rfl, rfl, by decide +kernel, rfl, by decide +kernel, by decide +kernel⟩
abbrev s_law_low : Stmt := top 31
abbrev N_law_low : List Str := ["top", "bottom", "one", "other"]
theorem sc_law_low : FnScope N_law_low ["top", "bottom"] (defScope s_law_low) := ⟨rfl, rfl, rfl, by decide +kernel, rfl, by decide +kernel, by decide +kernel⟩
abbrev s_law_minus : Stmt := top 32
abbrev N_law_minus : List Str := ["one", "other"]
theorem sc_law_minus : FnScope N_law_minus ["one", "other"] (defScope s_law_minus) := ⟨rfl, rfl, rfl, by decide +kernel, rfl, by decide +kernel, by decide +kernel⟩
abbrev s_law_times : Stmt := top 33
abbrev N_law_times : List Str := ["one", "other"]
theorem sc_law_times : FnScope N_law_times ["one", "other"] (defScope s_law_times) := ⟨rfl, rfl, rfl, by decide +kernel, rfl, by decide +kernel, by decide +kernel⟩
abbrev s_law_goes : Stmt := top 34
abbrev N_law_goes : List Str := ["base", "rest", "found", "digit", "later"]
theorem sc_law_goes : FnScope N_law_goes ["base", "rest"] (defScope s_law_goes) := ⟨rfl, rfl, rfl, by decide +kernel, rfl, by decide +kernel, by decide +kernel⟩
abbrev s_law_writing : Stmt := top 35
abbrev N_law_writing : List Str := ["hand", "base", "x", "digits", "rest", "firm", "places", "turn", "digit"]
theorem sc_law_writing : FnScope N_law_writing ["hand", "base", "x"] (defScope s_law_writing) := ⟨rfl, rfl, rfl, by decide +kernel, rfl, by decide +kernel, by decide +kernel⟩
abbrev s_law_number : Stmt := top 36
abbrev N_law_number : List Str := ["hand", "bottom"]
theorem sc_law_number : FnScope N_law_number ["hand"] (defScope s_law_number) := ⟨rfl, rfl, rfl, by decide +kernel, rfl, by decide +kernel, by decide +kernel⟩
abbrev s_law_is : Stmt := top 37
abbrev N_law_is : List Str := ["one", "other", "here", "there", "key"]
theorem sc_law_is : FnScope N_law_is ["one", "other"] (defScope s_law_is) := ⟨rfl, rfl, rfl, by decide +kernel, rfl, by decide +kernel, by decide +kernel⟩
abbrev s_law_all : Stmt := top 38
abbrev N_law_all : List Str := ["base", "x", "many", "found", "turn", "longer", "one", "rest", "digit", "later"]
theorem sc_law_all : FnScope N_law_all ["base", "x", "many"] (defScope s_law_all) := ⟨rfl, rfl, rfl, by decide +kernel, rfl, by decide +kernel, by decide +kernel⟩
abbrev s_law_integer : Stmt := top 39
abbrev N_law_integer : List Str := ["base", "digits", "found", "digit"]
theorem sc_law_integer : FnScope N_law_integer ["base", "digits"] (defScope s_law_integer) := ⟨rfl, rfl, rfl, by decide +kernel, rfl, by decide +kernel, by decide +kernel⟩
abbrev s_law_told : Stmt := top 40
abbrev N_law_told : List Str := ["base", "x", "many", "e"]
theorem sc_law_told : FnScope N_law_told ["base", "x", "many"] (defScope s_law_told) := ⟨rfl, rfl, rfl, by decide +kernel, rfl, by decide +kernel, by decide +kernel⟩
abbrev s_law : Stmt := top 41
abbrev N_law : List Str := ["script", "hand", "turn", "base", "x", "many", "due", "told", "whole", "one", "row", "end", "some", "counted"]
theorem sc_law : FnScope N_law ["script"] (defScope s_law) := ⟨rfl, rfl, rfl, by decide +kernel, rfl, by decide +kernel, by decide +kernel⟩
def inClass : Stmt → Nat → Stmt
  | .ClassDef _ _ _ b _ _ _ _ _ _ _, i => b.getD i (.Pass ⟨0, 0, 0, 0⟩)
  | _, _ => .Pass ⟨0, 0, 0, 0⟩
abbrev si_TooMany : Stmt := inClass (top 6) 0
theorem sci_TooMany : FnScope ["self", "most"] ["self", "most"] (defScope si_TooMany) := ⟨rfl, rfl, rfl, by decide +kernel, rfl, by decide +kernel, by decide +kernel⟩
structure Txt (K : PySem.W.Frag) (mg : Str → Option Value) : Prop where
  w_WritingError : XBase K mg "WritingError"
  x_TooMany : XSrc K mg "TooMany" ["most"] si_TooMany "TooMany.__init__"
  s_is_integer : Src K mg "is_integer" s_is_integer
  s_is_integer_within : Src K mg "is_integer_within" s_is_integer_within
  s_is_base : Src K mg "is_base" s_is_base
  s_is_tuple_of : Src K mg "is_tuple_of" s_is_tuple_of
  s_is_fraction : Src K mg "is_fraction" s_is_fraction
  s_is_number : Src K mg "is_number" s_is_number
  s_check_base : Src K mg "check_base" s_check_base
  s_check_number : Src K mg "check_number" s_check_number
  s_check_many : Src K mg "check_many" s_check_many
  s_least_digit : Src K mg "least_digit" s_least_digit
  s_greatest_digit : Src K mg "greatest_digit" s_greatest_digit
  s_next_digits : Src K mg "next_digits" s_next_digits
  s_beginnings : Src K mg "beginnings" s_beginnings
  s_traced_back : Src K mg "traced_back" s_traced_back
  s_many_beginnings : Src K mg "many_beginnings" s_many_beginnings
  s_law_hand : Src K mg "_law_hand" s_law_hand
  s_law_mixed : Src K mg "_law_mixed" s_law_mixed
  s_law_draw : Src K mg "_law_draw" s_law_draw
  s_law_any : Src K mg "_law_any" s_law_any
  s_law_low : Src K mg "_law_low" s_law_low
  s_law_minus : Src K mg "_law_minus" s_law_minus
  s_law_times : Src K mg "_law_times" s_law_times
  s_law_goes : Src K mg "_law_goes" s_law_goes
  s_law_writing : Src K mg "_law_writing" s_law_writing
  s_law_number : Src K mg "_law_number" s_law_number
  s_law_is : Src K mg "_law_is" s_law_is
  s_law_all : Src K mg "_law_all" s_law_all
  s_law_integer : Src K mg "_law_integer" s_law_integer
  s_law_told : Src K mg "_law_told" s_law_told
  s_law : Src K mg "law" s_law
  n_ValueError : mg "ValueError" = none
  n_abs : mg "abs" = none
  n_all : mg "all" = none
  n_bool : mg "bool" = none
  n_dict : mg "dict" = none
  n_enumerate : mg "enumerate" = none
  n_int : mg "int" = none
  n_isinstance : mg "isinstance" = none
  n_len : mg "len" = none
  n_list : mg "list" = none
  n_max : mg "max" = none
  n_min : mg "min" = none
  n_range : mg "range" = none
  n_reversed : mg "reversed" = none
  n_sum : mg "sum" = none
  n_tuple : mg "tuple" = none
  n_zip : mg "zip" = none
  g_gcd : mg "gcd" = some (.builtin "math.gcd")
  c_MOST_BEGINNINGS : ∃ t, mg "MOST_BEGINNINGS" = some (.int 2000 t)
  c_MOST_DIGITS : ∃ t, mg "MOST_DIGITS" = some (.int 1000 t)
section
variable {P : Program} {w : World} {K : PySem.W.Frag} {mg : Str → Option Value} {bs : Heap}
theorem x_TooMany (T : Txt K mg) : ∃ C, XDef P w K mg bs 1 "TooMany" ["most"] (fun C => spI1 C "most") C := xdef1 T.x_TooMany T.w_WritingError sci_TooMany (fun _ _ _ _ _ _ us hl => match us, hl with | [_, _], _ => rfl)
  (fun C f' cdv A outer s H E b1 b2 b3 b4 => by exact pss_cons (ps_expr (pe_cinit b1 b2 b3 b4 (pa_cons (pv 0) (pa_cons pe_str pa_nil)))) (pss_one (ps_ost (pv 0) (pv 1))))
end
section
variable {P : Program} {w : World} {K : PySem.W.Frag} {mg : Str → Option Value} {bs : Heap}
local macro_rules | `(tactic| walk_at "arith") => `(tactic| first
  | decide | omega | assumption
  | (refine Or.inl ⟨?_, ?_⟩ <;> first | decide | omega) | (refine Or.inr (Or.inl ⟨?_, ?_⟩) <;> first | decide | omega)
  | (refine ⟨?_, Or.inl ?_⟩ <;> first | decide | omega))
/-- one step of a reading -/
local macro_rules | `(tactic| walk_at "st") => `(tactic| first
  | refine we_var rfl ?_ | refine we_int ?_ | refine we_bl ?_ | refine we_str ?_ | refine we_non ?_ | refine we_I0 ?_ | refine we_I ?_ | refine we_U ?_ | refine we_eqI ?_ | refine we_neI ?_
  | refine ⟨_, rfl, ?_⟩ | refine ⟨by walk_at "arith", ?_⟩ | refine we_int1 ?_ | refine we_abs ?_ | refine we_max2 ?_ | refine we_min2 ?_ | refine we_gcd ?_ | refine we_ixT ?_ | refine we_ixL ?_ | refine wa_cons ?_ | refine wa_nil ?_
  | refine we_call ?_ | refine we_tup ?_ | refine we_lst ?_ | refine we_len ?_ | refine we_isi ?_ | refine wt_T ?_ | refine wt_B ?_ | refine wt_not ?_ | refine wt_yes ?_
  | refine ws_seq ?_ | refine ws_ret ?_ | refine ws_if ?_ | refine ws_drop ?_ | refine ws_par ?_ | refine ws_next ?_ | refine ws_asg ?_ | refine ws_asgG ?_ | refine we_notV ?_
  | refine wg_name ?_ | refine wg_tup ?_ | refine wgs_cons ?_ | refine wgs_nil ?_)
/-! ### the mathematics: how many ways on -/
/-- sums over a stretch of ints -/
def Sm (F : Int → Int) (a : Int) : Nat → Int
  | 0 => 0
  | n + 1 => Sm F a n + F (a + (n : Int))
theorem Sm_map (F : Int → Int) (a : Int) : ∀ n : Nat, ((List.range n).map fun (k : Nat) => F (a + (k : Int))).sum = Sm F a n
  | 0 => rfl
  | n + 1 => by rw [List.range_succ, List.map_append, List.sum_append, Sm_map F a n]; simp [Sm]
theorem Sm_add (F : Int → Int) (a : Int) (m : Nat) : ∀ n : Nat, Sm F a (m + n) = Sm F a m + Sm F (a + (m : Int)) n
  | 0 => by simp [Sm]
  | n + 1 => by
    show Sm F a (m + n) + F (a + ((m + n : Nat) : Int)) = _
    rw [Sm_add F a m n]
    show _ = Sm F a m + (Sm F (a + (m : Int)) n + F (a + (m : Int) + (n : Int)))
    have e : a + ((m + n : Nat) : Int) = a + (m : Int) + (n : Int) := by omega
    rw [e, Int.add_assoc]
theorem Sm_congr {F G : Int → Int} {a : Int} : ∀ {n : Nat}, (∀ k : Nat, k < n → F (a + (k : Int)) = G (a + (k : Int))) → Sm F a n = Sm G a n
  | 0, _ => rfl
  | n + 1, h => by
    show Sm F a n + F (a + (n : Int)) = Sm G a n + G (a + (n : Int))
    rw [Sm_congr fun k hk => h k (by omega), h n (by omega)]
theorem Sm_zero {F : Int → Int} {a : Int} : ∀ {n : Nat}, (∀ k : Nat, k < n → F (a + (k : Int)) = 0) → Sm F a n = 0
  | 0, _ => rfl
  | n + 1, h => by
    show Sm F a n + F (a + (n : Int)) = 0
    rw [Sm_zero fun k hk => h k (by omega), h n (by omega)]
    rfl
/-- the sum over the digits from lo to hi alone -/
theorem Sm_part {G : Int → Int} {a lo hi : Int} {n : Nat} (h1 : a ≤ lo) (h2 : lo ≤ hi + 1) (h3 : hi + 1 ≤ a + n) : Sm (fun d => if lo ≤ d ∧ d ≤ hi then G d else 0) a n = Sm G lo (hi + 1 - lo).toNat := by
  have e : n = (lo - a).toNat + ((hi + 1 - lo).toNat + (a + n - (hi + 1)).toNat) := by omega
  rw [e, Sm_add, Sm_add]
  have ea : a + ((lo - a).toNat : Int) = lo := by omega
  rw [ea]
  have z1 : Sm (fun d => if lo ≤ d ∧ d ≤ hi then G d else 0) a (lo - a).toNat = 0 := Sm_zero fun k hk => if_neg (by omega)
  have z2 : Sm (fun d => if lo ≤ d ∧ d ≤ hi then G d else 0) (lo + ((hi + 1 - lo).toNat : Int)) (a + n - (hi + 1)).toNat = 0 := Sm_zero fun k hk => if_neg (by omega)
  have z3 : Sm (fun d => if lo ≤ d ∧ d ≤ hi then G d else 0) lo (hi + 1 - lo).toNat = Sm G lo (hi + 1 - lo).toNat := Sm_congr fun k hk => if_pos (by omega)
  rw [z1, z2, z3]
  omega
/-- turned about -/
theorem Sm_head (F : Int → Int) (a : Int) : ∀ n : Nat, Sm F a (n + 1) = F a + Sm F (a + 1) n := fun n => by
  have h := Sm_add F a 1 n
  rw [Nat.add_comm] at h
  rw [h]
  show Sm F a 0 + F (a + ((0 : Nat) : Int)) + Sm F (a + ((1 : Nat) : Int)) n = _
  have e : a + ((0 : Nat) : Int) = a := by omega
  have e2 : a + ((1 : Nat) : Int) = a + 1 := by omega
  rw [e, e2]
  show 0 + F a + _ = _
  omega
theorem Sm_neg (F : Int → Int) : ∀ (n : Nat) (a : Int), Sm (fun d => F (-d)) a n = Sm F (1 - a - (n : Int)) n
  | 0, _ => rfl
  | n + 1, a => by
    show Sm (fun d => F (-d)) a n + F (-(a + (n : Int))) = _
    rw [Sm_head, Sm_neg F n a]
    have e : 1 - a - ((n + 1 : Nat) : Int) + 1 = 1 - a - (n : Int) := by omega
    have e2 : 1 - a - ((n + 1 : Nat) : Int) = -(a + (n : Int)) := by omega
    rw [e, e2]
    omega
/-- how many tuples of n digits begin a writing of t / b -/
def Pn (base b : Int) : Nat → Int → Int
  | 0, _ => 1
  | n + 1, t => Sm (fun d => if -b ≤ base * t - d * b ∧ base * t - d * b ≤ b then Pn base b n (base * t - d * b) else 0) (1 - base) (2 * base - 1).toNat
theorem Pn_neg (base b : Int) (hb : 2 ≤ base) : ∀ (n : Nat) (t : Int), Pn base b n (-t) = Pn base b n t
  | 0, _ => rfl
  | n + 1, t => by
    have ih := Pn_neg base b hb n
    show Sm _ _ _ = Sm _ _ _
    have e : (fun d : Int => if -b ≤ base * -t - d * b ∧ base * -t - d * b ≤ b then Pn base b n (base * -t - d * b) else 0) = fun d => (fun d' => if -b ≤ base * t - d' * b ∧ base * t - d' * b ≤ b then Pn base b n (base * t - d' * b) else 0) (-d) := by
      funext d
      have e1 : base * -t - d * b = -(base * t - -d * b) := by rw [Int.mul_neg, Int.neg_mul]; omega
      show (if -b ≤ base * -t - d * b ∧ base * -t - d * b ≤ b then Pn base b n (base * -t - d * b) else 0) = if -b ≤ base * t - -d * b ∧ base * t - -d * b ≤ b then Pn base b n (base * t - -d * b) else 0
      rw [e1, ih]
      by_cases h : -b ≤ base * t - -d * b ∧ base * t - -d * b ≤ b
      · rw [if_pos h, if_pos (by omega)]
      · rw [if_neg h, if_neg (by omega)]
    have key := Sm_neg (fun d' => if -b ≤ base * t - d' * b ∧ base * t - d' * b ≤ b then Pn base b n (base * t - d' * b) else 0) (2 * base - 1).toNat (1 - base)
    rw [e]
    refine key.trans ?_
    have e2 : 1 - (1 - base) - ((2 * base - 1).toNat : Int) = 1 - base := by omega
    rw [e2]
/-- two ways of writing one number -/
theorem Pn_sim (base : Int) : ∀ (n : Nat) {t b t' b' : Int}, 0 < b → 0 < b' → t * b' = t' * b → Pn base b n t = Pn base b' n t'
  | 0, _, _, _, _, _, _, _ => rfl
  | n + 1, t, b, t', b', hb, hb', h => by
    show Sm _ _ _ = Sm _ _ _
    refine Sm_congr fun k _ => ?_
    generalize (1 - base + (k : Int)) = d
    have hx : (base * t - d * b) * b' = (base * t' - d * b') * b := by
      rw [Int.sub_mul, Int.sub_mul, Int.mul_assoc, h, ← Int.mul_assoc base, Int.mul_right_comm d b b']
    have ih := Pn_sim base n (t := base * t - d * b) (t' := base * t' - d * b') hb hb' hx
    have c : (-b ≤ base * t - d * b ∧ base * t - d * b ≤ b) ↔ (-b' ≤ base * t' - d * b' ∧ base * t' - d * b' ≤ b') := by
      generalize base * t - d * b = u at hx
      generalize base * t' - d * b' = v at hx
      constructor
      · rintro ⟨h1, h2⟩
        constructor
        · refine Int.le_of_mul_le_mul_right (a := b) ?_ hb
          rw [← hx, Int.neg_mul, Int.mul_comm b' b, ← Int.neg_mul]
          exact Int.mul_le_mul_of_nonneg_right h1 (by omega)
        · refine Int.le_of_mul_le_mul_right (a := b) ?_ hb
          rw [← hx, Int.mul_comm b' b]
          exact Int.mul_le_mul_of_nonneg_right h2 (by omega)
      · rintro ⟨h1, h2⟩
        constructor
        · refine Int.le_of_mul_le_mul_right (a := b') ?_ hb'
          rw [hx, Int.neg_mul, Int.mul_comm b b', ← Int.neg_mul]
          exact Int.mul_le_mul_of_nonneg_right h1 (by omega)
        · refine Int.le_of_mul_le_mul_right (a := b') ?_ hb'
          rw [hx, Int.mul_comm b b']
          exact Int.mul_le_mul_of_nonneg_right h2 (by omega)
    show (if -b ≤ base * t - d * b ∧ base * t - d * b ≤ b then Pn base b n (base * t - d * b) else 0) = if -b' ≤ base * t' - d * b' ∧ base * t' - d * b' ≤ b' then Pn base b' n (base * t' - d * b') else 0
    by_cases hc : -b ≤ base * t - d * b ∧ base * t - d * b ≤ b
    · rw [if_pos hc, if_pos (c.mp hc), ih]
    · rw [if_neg hc, if_neg fun z => hc (c.mpr z)]
theorem Pn_end (base b : Int) (hb1 : 2 ≤ base) (hb : 0 < b) : ∀ n : Nat, Pn base b n b = 1
  | 0 => rfl
  | n + 1 => by
    have ih := Pn_end base b hb1 hb n
    show Sm _ _ _ = 1
    obtain ⟨m, hm⟩ : ∃ m : Nat, (2 * base - 1).toNat = m + 1 := ⟨(2 * base - 2).toNat, by omega⟩
    rw [hm]
    show Sm _ _ m + _ = 1
    have e0 : Sm (fun d => if -b ≤ base * b - d * b ∧ base * b - d * b ≤ b then Pn base b n (base * b - d * b) else 0) (1 - base) m = 0 := by
      refine Sm_zero fun k hk => if_neg ?_
      rintro ⟨_, h2⟩
      have : base * b - (1 - base + (k : Int)) * b = (2 * base - 1 - (k : Int)) * b := by rw [← Int.sub_mul]; congr 1; omega
      rw [this] at h2
      have h3 : 2 * b ≤ (2 * base - 1 - (k : Int)) * b := Int.mul_le_mul_of_nonneg_right (by omega) (by omega)
      omega
    rw [e0]
    have ed : 1 - base + (m : Int) = base - 1 := by omega
    show 0 + (if -b ≤ base * b - (1 - base + (m : Int)) * b ∧ base * b - (1 - base + (m : Int)) * b ≤ b then Pn base b n (base * b - (1 - base + (m : Int)) * b) else 0) = 1
    rw [ed]
    have e1 : base * b - (base - 1) * b = b := by rw [← Int.sub_mul]; have : base - (base - 1) = 1 := by omega
                                                  rw [this, Int.one_mul]
    rw [e1, if_pos ⟨by omega, by omega⟩, ih]
    rfl
/-! ### tables of counts -/
section
variable {α κ : Type} [DecidableEq α] [DecidableEq κ]
def aAdd : List (α × Int) → α → Int → List (α × Int)
  | [], k, c => [(k, c)]
  | x :: r, k, c => if x.1 = k then (x.1, x.2 + c) :: r else x :: aAdd r k c
def aGet : List (α × Int) → α → Int
  | [], _ => 0
  | x :: r, k => if x.1 = k then x.2 else aGet r k
def encA (e : α → κ) (L : List (α × Int)) : List (κ × D) := L.map fun x => (e x.1, .int x.2)
def aW (f : α → Int) : List (α × Int) → Int
  | [] => 0
  | x :: r => x.2 * f x.1 + aW f r
theorem aW_app (f : α → Int) : ∀ L M : List (α × Int), aW f (L ++ M) = aW f L + aW f M
  | [], M => by simp [aW]
  | x :: r, M => by
    show x.2 * f x.1 + aW f (r ++ M) = x.2 * f x.1 + aW f r + aW f M
    rw [aW_app f r M, Int.add_assoc]
theorem aW_add (f : α → Int) (k : α) (c : Int) : ∀ L : List (α × Int), aW f (aAdd L k c) = aW f L + c * f k
  | [] => by show c * f k + 0 = 0 + c * f k; omega
  | x :: r => by
    unfold aAdd
    by_cases h : x.1 = k
    · rw [if_pos h]
      show (x.2 + c) * f x.1 + aW f r = x.2 * f x.1 + aW f r + c * f k
      rw [h, Int.add_mul]
      omega
    · rw [if_neg h]
      show x.2 * f x.1 + aW f (aAdd r k c) = x.2 * f x.1 + aW f r + c * f k
      rw [aW_add f k c r]
      omega
theorem aW_one (L : List (α × Int)) : aW (fun _ => 1) L = (L.map (·.2)).sum := by
  induction L with
  | nil => rfl
  | cons x r ih =>
    show x.2 * 1 + aW (fun _ => 1) r = _
    rw [ih, List.map_cons, List.sum_cons, Int.mul_one]
theorem aW_congr {f g : α → Int} : ∀ {L : List (α × Int)}, (∀ x ∈ L, f x.1 = g x.1) → aW f L = aW g L
  | [], _ => rfl
  | x :: r, h => by
    show x.2 * f x.1 + aW f r = x.2 * g x.1 + aW g r
    rw [h x (by simp), aW_congr fun y hy => h y (List.mem_cons_of_mem _ hy)]
theorem keys_add (k : α) (c : Int) : ∀ L : List (α × Int), (aAdd L k c).map (·.1) = if k ∈ L.map (·.1) then L.map (·.1) else L.map (·.1) ++ [k]
  | [] => by simp [aAdd]
  | x :: r => by
    unfold aAdd
    by_cases h : x.1 = k
    · rw [if_pos h, if_pos (by simp [h])] <;> rfl
    · rw [if_neg h, List.map_cons, keys_add k c r]
      by_cases hm : k ∈ r.map (·.1)
      · rw [if_pos hm, if_pos (by simp only [List.map_cons, List.mem_cons]; exact .inr hm)] <;> rfl
      · rw [if_neg hm, if_neg (by simp only [List.map_cons, List.mem_cons]; rintro (e | e); exact h e.symm; exact hm e)] <;> rfl
theorem nodup_add {k : α} {c : Int} {L : List (α × Int)} (h : (L.map (·.1)).Nodup) : ((aAdd L k c).map (·.1)).Nodup := by
  rw [keys_add]
  split
  · exact h
  · rename_i hm
    rw [List.nodup_append]
    exact ⟨h, by simp, fun a ha b hb e => hm (by rw [List.mem_singleton] at hb; rw [← hb, ← e]; exact ha)⟩
theorem mem_add {k : α} {c : Int} {L : List (α × Int)} {x : α} (h : x ∈ (aAdd L k c).map (·.1)) : x ∈ L.map (·.1) ∨ x = k := by
  rw [keys_add] at h
  split at h
  · exact .inl h
  · rcases List.mem_append.mp h with h | h
    · exact .inl h
    · exact .inr (List.mem_singleton.mp h)
theorem enc_get {e : α → κ} (inj : ∀ a b, e a = e b → a = b) (k : α) : ∀ L : List (α × Int), (dGet (encA e L) (e k)).getD (.int 0) = .int (aGet L k)
  | [] => rfl
  | x :: r => by
    have ih := enc_get inj k r
    unfold aGet
    by_cases h : x.1 = k
    · rw [if_pos h]
      simp [dGet, encA, List.find?_cons, h]
    · rw [if_neg h, ← ih]
      have : e x.1 ≠ e k := fun z => h (inj _ _ z)
      simp [dGet, encA, List.find?_cons, this]
theorem enc_find {e : α → κ} (inj : ∀ a b, e a = e b → a = b) {k : α} {n : Int} : ∀ {L : List (α × Int)}, (L.map (·.1)).Nodup → (k, n) ∈ L → dGet (encA e L) (e k) = some (.int n)
  | [], _, h => by cases h
  | x :: r, nd, h => by
    rw [List.map_cons, List.nodup_cons] at nd
    rcases List.mem_cons.mp h with h | h
    · subst h
      simp [dGet, encA, List.find?_cons]
    · have hx : x.1 ≠ k := fun z => nd.1 (by rw [z]; exact List.mem_map.mpr ⟨_, h, rfl⟩)
      have : e x.1 ≠ e k := fun z => hx (inj _ _ z)
      have ih := enc_find inj nd.2 h
      rw [← ih]
      simp [dGet, encA, List.find?_cons, this]
theorem map_id_of {e : α → κ} {k : κ} {v : D} : ∀ {L : List (α × Int)}, (∀ x ∈ L, e x.1 ≠ k) → (encA e L).map (fun kv => if kv.1 = k then (kv.1, v) else kv) = encA e L
  | [], _ => rfl
  | x :: r, h => by
    show (if e x.1 = k then (e x.1, v) else (e x.1, D.int x.2)) :: _ = (e x.1, D.int x.2) :: _
    rw [if_neg (h x (by simp))]
    congr 1
    exact map_id_of fun y hy => h y (List.mem_cons_of_mem _ hy)
theorem enc_put {e : α → κ} (inj : ∀ a b, e a = e b → a = b) (k : α) (c : Int) : ∀ {L : List (α × Int)}, (L.map (·.1)).Nodup → dPut (encA e L) (e k) (.int (aGet L k + c)) = encA e (aAdd L k c)
  | [], _ => by
    show [(e k, D.int (0 + c))] = [(e k, D.int c)]
    rw [Int.zero_add]
  | x :: r, nd => by
    rw [List.map_cons, List.nodup_cons] at nd
    have ih := enc_put inj k c nd.2
    unfold aAdd aGet
    by_cases h : x.1 = k
    · rw [if_pos h, if_pos h]
      unfold dPut
      rw [if_pos (by show (decide (e x.1 = e k) || _) = true; rw [decide_eq_true (by rw [h])]; rfl)]
      show (if e x.1 = e k then (e x.1, D.int (x.2 + c)) else (e x.1, D.int x.2)) :: (encA e r).map _ = (e x.1, D.int (x.2 + c)) :: encA e r
      rw [if_pos (by rw [h]), map_id_of fun y hy z => nd.1 (by rw [h, ← inj _ _ z]; exact List.mem_map.mpr ⟨_, hy, rfl⟩)]
    · rw [if_neg h, if_neg h]
      have hx : e x.1 ≠ e k := fun z => h (inj _ _ z)
      show dPut ((e x.1, D.int x.2) :: encA e r) (e k) (.int (aGet r k + c)) = (e x.1, D.int x.2) :: encA e (aAdd r k c)
      rw [← ih]
      unfold dPut
      have ha : (((e x.1, D.int x.2) :: encA e r).any fun kv => decide (kv.1 = e k)) = ((encA e r).any fun kv => decide (kv.1 = e k)) := by
        rw [List.any_cons, decide_eq_false hx, Bool.false_or]
      rw [ha]
      split
      · rw [List.map_cons, if_neg hx]
      · rw [List.cons_append]
end
/-- no more ints than a stretch has -/
theorem len_range : ∀ (n : Nat) (a : Int) {L : List Int}, L.Nodup → (∀ x ∈ L, a ≤ x ∧ x < a + n) → L.length ≤ n
  | 0, a, L, _, h => by
    cases L with
    | nil => exact Nat.le_refl _
    | cons x r => have := h x (by simp); omega
  | n + 1, a, L, nd, h => by
    have nd2 : (L.filter fun x => decide (x ≠ a + (n : Int))).Nodup := nd.filter _
    have ih := len_range n a nd2 fun x hx => by
      obtain ⟨h1, h2⟩ := List.mem_filter.mp hx
      have h3 := h x h1
      have h4 : x ≠ a + (n : Int) := of_decide_eq_true h2
      omega
    have hc : L.length ≤ (L.filter fun x => decide (x ≠ a + (n : Int))).length + 1 := by
      clear ih nd2 h
      induction L with
      | nil => simp
      | cons x r ih =>
        rw [List.nodup_cons] at nd
        rw [List.filter_cons]
        by_cases hx : x = a + (n : Int)
        · have he : (r.filter fun x => decide (x ≠ a + (n : Int))) = r := List.filter_eq_self.mpr fun y hy => decide_eq_true fun z => nd.1 (by rw [hx, ← z]; exact hy)
          rw [if_neg (by simp [hx]), he, List.length_cons]
          exact Nat.le_refl _
        · rw [if_pos (by simp [hx]), List.length_cons, List.length_cons]
          have := ih nd.2
          omega
    omega
/-! ### the drawing -/
def S_law_mixed : List D → (D → Prop) → Prop := fun ds R => ∃ c t : Int, ds = [.int c, .int t] ∧ ∀ k : Int, R (.int k)
theorem l_law_mixed : ∀ ds R, S_law_mixed ds R → ds.length = 2 := fun ds R ⟨_, _, e, _⟩ => by rw [e]; rfl
theorem d_law_mixed (T : Txt K mg) : Dfn P w K mg bs 1 "_law_mixed" ["cell", "turn"] S_law_mixed := by
  refine mkD (k := 0) T.s_law_mixed sc_law_mixed (fun _ _ _ _ _ _ us hl => match us, hl with | [_, _], _ => rfl) l_law_mixed fun f cdv A outer s H E hr => ?_
  have hu := hu_of hr
  refine ⟨_, (pss_cons (ps_set (i := 2) sc_law_mixed.nd rfl (Or.inl rfl) (pe_op op_mod (pe_callTy call_int1 (by rfl) T.n_int (by decide +kernel) (pa_cons (pe_op op_mulA (pe_op op_add (pe_op op_add (pe_op op_mod (pe_callTy call_int1 (by rfl) T.n_int (by decide +kernel) (pa_cons (pv 0) pa_nil)) pe_int) (pe_op op_mulA pe_int (pv 1))) pe_int) pe_int) pa_nil)) pe_int))
      (pss_cons (ps_set (i := 2) sc_law_mixed.nd rfl (Or.inl rfl) (pe_op op_mod (pe_callTy call_int1 (by rfl) T.n_int (by decide +kernel) (pa_cons (pe_op op_mulA (pv 2) (pe_op op_add (pe_op op_divA (pv 2) pe_int) pe_int)) pa_nil)) pe_int))
      (pss_one (ps_ret (pe_op op_divA (pe_op op_mod (pe_callTy call_int1 (by rfl) T.n_int (by decide +kernel) (pa_cons (pe_op op_mulA (pv 2) (pe_op op_add (pe_op op_divA (pv 2) pe_int) pe_int)) pa_nil)) pe_int) pe_int))))), fun h H0 G0 ds R hS => ?_⟩
  obtain ⟨c, t, rfl, hR⟩ := hS
  repeat walk_at "st"
  exact hR _
def S_law_draw : List D → (D → Prop) → Prop := fun ds R => ∃ m : Int, ds = [.hand, .int m] ∧ 0 < m ∧ m < 18446744073709551616 ∧ ∀ k : Int, 0 ≤ k → k < m → R (.int k)
theorem l_law_draw : ∀ ds R, S_law_draw ds R → ds.length = 2 := fun ds R ⟨_, e, _⟩ => by rw [e]; rfl
theorem d_law_draw (T : Txt K mg) : Dfn P w K mg bs 2 "_law_draw" ["hand", "many"] S_law_draw := by
  have D_law_mixed := d_law_mixed (P := P) (w := w) (bs := bs) T
  refine mkD (k := 1) T.s_law_draw sc_law_draw (fun _ _ _ _ _ _ us hl => match us, hl with | [_, _], _ => rfl) l_law_draw fun f cdv A outer s H E hr => ?_
  have hu := hu_of hr
  refine ⟨_, (pss_cons (ps_asg (pe_op op_add (pe_ix (ix_listK (K0 := K) (by rfl)) (pv 0) pe_int (fun _ _ => rfl)) pe_int) (pg_sub (pv 0) pe_int set_list))
      (pss_cons (ps_if (pt_cmpR op_gt (pe_ix (ix_listK (K0 := K) (by rfl)) (pv 0) pe_int (fun _ _ => rfl)) pe_int (nomark _)) (pss_cons (ps_set (i := 2) sc_law_draw.nd rfl (Or.inl rfl) (pe_op op_mod (pe_callTy call_int1 (by rfl) T.n_int (by decide +kernel) (pa_cons (pe_ix (ix_listK (K0 := K) (by rfl)) (pv 0) pe_int (fun _ _ => rfl)) pa_nil)) (pv 1)))
      (pss_cons (ps_asg (pe_op op_divA (pe_ix (ix_listK (K0 := K) (by rfl)) (pv 0) pe_int (fun _ _ => rfl)) (pv 1)) (pg_sub (pv 0) pe_int set_list))
      (pss_one (ps_ret (pv 2))))) pss_nil)
      (pss_cons (ps_par (i := 3) (j := 4) (by rfl) sc_law_draw.nd rfl rfl (by decide) rfl rfl (pa_cons (pe_ix (ix_listK (K0 := K) (by rfl)) (pv 0) pe_int (fun _ _ => rfl)) (pa_cons (pe_ix (ix_listK (K0 := K) (by rfl)) (pv 0) pe_int (fun _ _ => rfl)) pa_nil)) (by rfl))
      (pss_cons (ps_asg (pe_op op_add (pv 4) pe_int) (pg_sub (pv 0) pe_int set_list))
      (pss_cons (ps_if (pt_cmpR op_eq (pe_callB (call_lenK (K0 := K) (by rfl)) (by rfl) T.n_len (by decide +kernel) (pa_cons (pv 3) pa_nil)) pe_int (nomark _)) (pss_one (ps_ret (pe_op op_mod (pe_callTy call_int1 (by rfl) T.n_int (by decide +kernel) (pa_cons (pe_callK0 (K0 := K) (by rfl) D_law_mixed (hr.mono (by decide)) (pa_cons pe_int (pa_cons (pe_ix (ix_listK (K0 := K) (by rfl)) (pv 0) pe_int (fun _ _ => rfl)) pa_nil))) pa_nil)) (pv 1)))) pss_nil)
      (pss_cons (ps_set (i := 5) sc_law_draw.nd rfl (Or.inl rfl) (pe_ix (ix_listK (K0 := K) (by rfl)) (pv 3) (pe_op op_mod (pe_callTy call_int1 (by rfl) T.n_int (by decide +kernel) (pa_cons (pv 4) pa_nil)) (pe_callB (call_lenK (K0 := K) (by rfl)) (by rfl) T.n_len (by decide +kernel) (pa_cons (pv 3) pa_nil))) (fun _ _ => rfl)))
      (pss_cons (ps_if (PW.pt (pw_and (pt_cmpR op_lt (pv 4) (pe_callB (call_lenK (K0 := K) (by rfl)) (by rfl) T.n_len (by decide +kernel) (pa_cons (pv 3) pa_nil)) (nomark _)) (pw_and1 (pt_cmpR op_ge (pe_callB call_abs (by rfl) T.n_abs (by decide +kernel) (pa_cons (pv 5) pa_nil)) (pe_op op_pow pe_int pe_int) (nomark _))))) (pss_cons (ps_asg (pe_op op_divA (pe_callB call_abs (by rfl) T.n_abs (by decide +kernel) (pa_cons (pv 5) pa_nil)) (pv 1)) (pg_sub (pv 0) pe_int set_list))
      (pss_one (ps_ret (pe_op op_mod (pe_callTy call_int1 (by rfl) T.n_int (by decide +kernel) (pa_cons (pe_callB call_abs (by rfl) T.n_abs (by decide +kernel) (pa_cons (pv 5) pa_nil)) pa_nil)) (pv 1))))) pss_nil)
      (pss_one (ps_ret (pe_op op_mod (pe_callTy call_int1 (by rfl) T.n_int (by decide +kernel) (pa_cons (pe_callK0 (K0 := K) (by rfl) D_law_mixed (hr.mono (by decide)) (pa_cons (pv 5) (pa_cons (pe_ix (ix_listK (K0 := K) (by rfl)) (pv 0) pe_int (fun _ _ => rfl)) pa_nil))) pa_nil)) (pv 1))))))))))), fun h H0 G0 ds R hS => ?_⟩
  obtain ⟨m, rfl, hm, hm2, hR⟩ := hS
  have fin : ∀ k : Int, R (.int (k % m)) := fun k => hR _ (Int.emod_nonneg _ (by omega)) (Int.emod_lt_of_pos _ hm)
  have hmd : ∀ i, CDivA i m := fun i => ⟨hm, .inl hm2⟩
  -- hand[3] = hand[3] + 1
  refine ws_seq (ws_handN (.inr (.inr rfl)) (we_I0 (we_handN (.inr (.inr rfl)) (we_var rfl ⟨rfl, fun n hn => ⟨_, rfl, we_int ⟨_, rfl, _, rfl, by omega, we_var rfl ⟨rfl, ?_⟩⟩⟩⟩))))
  -- if hand[2] > 0
  refine ws_seq (ws_if (wt_T (we_I0 (we_handN (.inr (.inl rfl)) (we_var rfl ⟨rfl, fun r hr' => ⟨_, rfl, we_int ⟨_, rfl, _, rfl, ?_⟩⟩⟩)))))
  refine ite2 (fun hb => ?_) (fun hb => ?_)
  · refine ws_seq (ws_asg (we_I (we_int1 (we_handN (.inr (.inl rfl)) (we_var rfl ⟨rfl, fun r2 hr2 => ⟨_, rfl, _, rfl, we_var rfl ⟨_, rfl, hm, ?_⟩⟩⟩)))))
    refine ws_seq (ws_handN (.inr (.inl rfl)) (we_I (we_handN (.inr (.inl rfl)) (we_var rfl ⟨rfl, fun r3 hr3 => ⟨_, rfl, we_var rfl ⟨_, rfl, hmd _, _, rfl, Int.ediv_nonneg hr3 (by omega), we_var rfl ⟨rfl, ?_⟩⟩⟩⟩))))
    exact ws_ret (we_var rfl (fin _))
  · refine ws_next ?_
    refine ws_seq (ws_par (wa_cons (we_hand0 (we_var rfl ⟨rfl, fun ns hns => wa_cons (we_handN (.inl rfl) (we_var rfl ⟨rfl, fun i hi => wa_nil ⟨_, _, rfl, ?_⟩⟩))⟩))))
    refine ws_seq (ws_handN (.inl rfl) (we_I0 (we_var rfl ⟨_, rfl, we_int ⟨_, rfl, _, rfl, by omega, we_var rfl ⟨rfl, ?_⟩⟩⟩)))
    refine ws_seq (ws_if (wt_T (we_eqI (we_len (we_var rfl ⟨_, .inl rfl, _, rfl, we_int ⟨_, rfl, _, rfl, ?_⟩⟩)))))
    refine ite2 (fun hb => ?_) (fun hne => ?_)
    · refine ws_ret (we_I (we_int1 (we_call (wa_cons ?_))))
      refine we_int (wa_cons (we_handN (.inr (.inr rfl)) (we_var rfl ⟨rfl, fun n2 hn2 => wa_nil ?_⟩)))
      exact ⟨_, _, rfl, fun k => ⟨_, rfl, _, rfl, we_var rfl ⟨_, rfl, hm, fin _⟩⟩⟩
    · rw [List.length_map] at hne
      have hlen : 0 < (ns.length : Int) := by
        have : ¬ ((ns.length : Int) = 0) := by simpa using hne
        omega
      refine ws_next ?_
      have hi0 := Int.emod_nonneg i (b := (ns.length : Int)) (by omega)
      have hi1 := Int.emod_lt_of_pos i hlen
      obtain ⟨x, hx1, hx2⟩ := atI_of (xs := ns.map D.int) hi0 (by rw [List.length_map]; exact hi1)
      obtain ⟨c, rfl⟩ : ∃ c, x = D.int c := by
        rw [List.getElem?_map] at hx2
        obtain ⟨c, _, e⟩ := Option.map_eq_some_iff.mp hx2
        exact ⟨c, e.symm⟩
      refine ws_seq (ws_asg (we_ixL (we_var rfl ⟨_, rfl, we_I (we_int1 (we_var rfl ⟨_, rfl, _, rfl, we_len (we_var rfl ⟨_, .inl rfl, _, rfl, by rw [List.length_map]; exact hlen, _, D.int c, rfl, by rw [List.length_map]; exact hx1, ?_⟩)⟩))⟩)))
      refine ws_seq (ws_if (wt_and (wt_T (we_I0 (we_var rfl ⟨_, rfl, we_len (we_var rfl ⟨_, .inl rfl, _, rfl, _, rfl, fun _ => ?_, fun hb => ?_⟩)⟩)))))
      · refine wt_T (we_I0 (we_abs (we_var rfl ⟨_, rfl, _, rfl, we_I (we_int ⟨_, rfl, we_int ⟨_, rfl, by refine ⟨by decide, by decide, ?_⟩; decide, _, rfl, _, rfl, ?_⟩⟩)⟩)))
        refine ite2 (fun hb => ?_) (fun hb => ?_)
        · refine ws_seq (ws_handN (.inr (.inl rfl)) (we_I (we_abs (we_var rfl ⟨_, rfl, _, rfl, we_var rfl ⟨_, rfl, hmd _, _, rfl, Int.ediv_nonneg (absI_nn c) (by omega), we_var rfl ⟨rfl, ?_⟩⟩⟩))))
          exact ws_ret (we_I (we_int1 (we_abs (we_var rfl ⟨_, rfl, _, rfl, _, rfl, we_var rfl ⟨_, rfl, hm, fin _⟩⟩))))
        · refine ws_next ?_
          refine ws_ret (we_I (we_int1 (we_call (wa_cons ?_))))
          refine we_var rfl (wa_cons (we_handN (.inr (.inr rfl)) (we_var rfl ⟨rfl, fun n2 hn2 => wa_nil ?_⟩)))
          exact ⟨_, _, rfl, fun k => ⟨_, rfl, _, rfl, we_var rfl ⟨_, rfl, hm, fin _⟩⟩⟩
      · refine ws_next ?_
        refine ws_ret (we_I (we_int1 (we_call (wa_cons ?_))))
        refine we_var rfl (wa_cons (we_handN (.inr (.inr rfl)) (we_var rfl ⟨rfl, fun n2 hn2 => wa_nil ?_⟩)))
        exact ⟨_, _, rfl, fun k => ⟨_, rfl, _, rfl, we_var rfl ⟨_, rfl, hm, fin _⟩⟩⟩
def S_law_any : List D → (D → Prop) → Prop := fun ds R => ∃ xs : List D, ds = [.hand, .lst xs] ∧ xs ≠ [] ∧ xs.length < 4000000 ∧ ∀ x ∈ xs, R x
theorem l_law_any : ∀ ds R, S_law_any ds R → ds.length = 2 := fun ds R ⟨_, e, _⟩ => by rw [e]; rfl
theorem d_law_any (T : Txt K mg) : Dfn P w K mg bs 3 "_law_any" ["hand", "some"] S_law_any := by
  have D_law_draw := d_law_draw (P := P) (w := w) (bs := bs) T
  refine mkD (k := 2) T.s_law_any sc_law_any (fun _ _ _ _ _ _ us hl => match us, hl with | [_, _], _ => rfl) l_law_any fun f cdv A outer s H E hr => ?_
  have hu := hu_of hr
  refine ⟨_, (pss_one (ps_ret (pe_ix (ix_listK (K0 := K) (by rfl)) (pv 1) (pe_callK0 (K0 := K) (by rfl) D_law_draw (hr.mono (by decide)) (pa_cons (pv 0) (pa_cons (pe_callB (call_lenK (K0 := K) (by rfl)) (by rfl) T.n_len (by decide +kernel) (pa_cons (pv 1) pa_nil)) pa_nil))) (fun _ _ => rfl)))), fun h H0 G0 ds R hS => ?_⟩
  obtain ⟨xs, rfl, hne, hl, hR⟩ := hS
  have hpos : 0 < xs.length := List.length_pos_iff.mpr hne
  refine ws_ret (we_ixL (we_var rfl ⟨_, rfl, we_call (wa_cons (we_var rfl (wa_cons (we_len (we_var rfl ⟨_, .inl rfl, wa_nil ⟨_, rfl, by omega, by omega, fun k h0 h1 => ?_⟩⟩)))))⟩))
  obtain ⟨x, hx1, hx2⟩ := atI_of h0 h1
  exact ⟨k, x, rfl, hx1, hR x (List.mem_of_getElem? hx2)⟩
theorem l_law_hand : ∀ vs H Q E, spHand K vs H Q E → vs.length = 1 := fun vs H Q E ⟨_, _, e, _⟩ => by rw [e]; rfl
theorem d_law_hand (T : Txt K mg) : DfnR P w K mg bs 1 "_law_hand" ["script"] (spHand K) := by
  refine mkR (k := 0) T.s_law_hand sc_law_hand (fun _ _ _ _ _ _ us hl => match us, hl with | [_], _ => rfl) l_law_hand fun f cdv A outer s H E hr => ?_
  have hu := hu_of hr
  refine ⟨_, (pss_one (ps_ret (pe_lst (pa_cons (pe_lc (own := [("cell", 1)]) (g := (gName 1)) rfl sc_law_hand.nd (pi_listK (K0 := K) (by rfl) (pe_slice (sl_listK (K0 := K) (by rfl)) (pv 0) po_none (po_some pe_int))) (blkOk_by (N := N_law_hand) (sc := defScope s_law_hand) (by decide +kernel)) (fun _ _ _ _ _ => by exact (pg_name (i := 1) sc_law_hand.nd rfl (Or.inl rfl))) (fun _ _ _ _ _ => by exact pts_nil) (fun _ _ _ _ _ => by exact (pe_callTy call_int1 (by rfl) T.n_int (by decide +kernel) (pa_cons (pv 1) pa_nil)))) (pa_cons pe_int (pa_cons pe_int (pa_cons pe_int pa_nil))))))), fun vs Q hsp => ?_⟩
  obtain ⟨a, ns, rfl, hS, hl, hQ⟩ := hsp
  have hcut : cutV (ns.map V.int) none (some 63) = ns.map V.int := by
    unfold cutV
    have e1 : HT.sIx (ns.map V.int).length 0 none = 0 := rfl
    have e2 : HT.sIx (ns.map V.int).length (ns.map V.int).length (some 63) = (ns.map V.int).length := by
      exact (HT.sIx_nat _ _ 63).trans (by rw [List.length_map]; omega)
    rw [e1, e2, List.drop_zero, Nat.sub_zero, List.take_length]
  have key := Evl.el_lcNL (K := K) (σ := L2.start N_law_hand [.ref a]) (H := H) (xs := ns.map V.int) (j := 1) (vs := [1]) (t := tYes) (te := tCB (fun xs H Q => (∃ i, xs = [V.int i] ∧ Q (V.int i) H) ∨ ∃ k, xs = [V.bl k] ∧ Q (V.int (if k = true then 1 else 0)) H) (tCons (tVar 1) tNil))
    (tl := tSl (rSlL K) (tVar 0) tNoPart (tPart (tC (.int 63)))) (fun _ => true) (fun i => (ns.map V.int).getD i .non)
    (by
      have h2 := Evl.el_sl (K := K) (σ := L2.start N_law_hand [.ref a]) (H := H) (te := tVar 0) (tl := tNoPart) (th := tPart (tC (.int 63))) (Evl.ev_var rfl) Evl.eo_none (Evl.eo_some Evl.ev_c) hS
      rw [hcut] at h2
      exact h2) (by rw [List.length_map]; omega) (fun x => rfl) (fun i x H1 _ _ H2 _ Q q => q H2 (Evl.Ex.refl _)) (fun i x H1 _ hx _ => by
        have hi := hx
        rw [List.getElem?_map] at hi
        obtain ⟨z, hz, rfl⟩ := Option.map_eq_some_iff.mp hi
        have e : (ns.map V.int).getD i .non = .int z := by rw [List.getD_eq_getElem?_getD, hx] <;> rfl
        intro H2 _ Q q
        refine ⟨.int z, rfl, .inl ⟨z, rfl, ?_⟩⟩
        have q' := q H2 (Evl.Ex.refl _)
        rw [e] at q'
        exact q')
  have eg : Evl.given (ns.map V.int).length (fun _ => true) (fun i => (ns.map V.int).getD i .non) = ns.map V.int := by
    unfold Evl.given
    rw [List.filter_eq_self.mpr (fun _ _ => rfl)]
    refine List.ext_getElem? fun i => ?_
    rw [List.getElem?_map]
    by_cases hi : i < (ns.map V.int).length
    · rw [List.getElem?_range hi, List.getElem?_eq_getElem hi]
      show some ((ns.map V.int).getD i .non) = _
      rw [List.getD_eq_getElem?_getD, List.getElem?_eq_getElem hi] <;> rfl
    · rw [List.getElem?_eq_none (by rw [List.length_range]; omega), List.getElem?_eq_none (l := ns.map V.int) (by omega)] <;> rfl
  rw [eg] at key
  exact key H (Evl.Ex.refl _) (fun x H1 => tCons (tC (.int 0)) (tCons (tC (.int 0)) (tCons (tC (.int 0)) tNil)) (L2.start N_law_hand [.ref a]) H1 fun xs H2 => (x :: xs).length ≤ sizeLine ∧ ∀ p, H2 p = none → Q (.ref p) (upd H2 p (.lst (x :: xs)))) fun c H1 hc e1 h1 => ⟨sz (Nat.le_of_ble_eq_true rfl), fun h2 hn2 => by
    have hne : h2 ≠ c := fun z => by rw [z, h1] at hn2; cases hn2
    exact hQ h2 c _ (e1.trans (Evl.Ex.new hn2)) hne upd_same (by rw [upd_ne (Ne.symm hne)]; exact h1)⟩
/-! ### kinds -/
def S_is_integer : List D → (D → Prop) → Prop := fun ds R => ∃ x t, ds = [x] ∧ tyD x = some t ∧ R (.bl (isI x))
theorem l_is_integer : ∀ ds R, S_is_integer ds R → ds.length = 1 := fun ds R ⟨_, _, e, _⟩ => by rw [e]; rfl
theorem d_is_integer (T : Txt K mg) : Dfn P w K mg bs 1 "is_integer" ["thing"] S_is_integer := by
  refine mkD (k := 0) T.s_is_integer sc_is_integer (fun _ _ _ _ _ _ us hl => match us, hl with | [_], _ => rfl) l_is_integer fun f cdv A outer s H E hr => ?_
  have hu := hu_of hr
  refine ⟨_, (pss_one (ps_ret (pe_and (pe_callB (call_isiK0 (K0 := K) (by rfl)) (by rfl) T.n_isinstance (by decide +kernel) (pa_cons (pv 0) (pa_cons (pe_bltn (v := .ty "int") (by rfl) T.n_int (by decide +kernel) rfl) pa_nil))) (pe_one (pe_not (pe_callB (call_isiK0 (K0 := K) (by rfl)) (by rfl) T.n_isinstance (by decide +kernel) (pa_cons (pv 0) (pa_cons (pe_bltn (v := .ty "bool") (by rfl) T.n_bool (by decide +kernel) rfl) pa_nil)))))))), fun h H0 G0 ds R hS => ?_⟩
  obtain ⟨x, t, rfl, ht, hR⟩ := hS
  refine ws_ret (we_andV (we_isi (we_var rfl ⟨t, _, ht, kb_int ht, _, rfl, fun hb => ?_, fun hb => ?_⟩)))
  · refine we_notV (we_isi (we_var rfl ⟨t, _, ht, kb_bool ht, _, rfl, ?_⟩))
    have e : (!isBl x) = isI x := by cases x <;> first | rfl | cases hb
    rw [e]; exact hR
  · have e : isI x = false := by cases x <;> first | rfl | cases hb
    rw [e] at hR; exact hR
def within (lo hi : Int) : D → Bool | .int i => decide (lo ≤ i) && decide (i ≤ hi) | _ => false
def S_is_integer_within : List D → (D → Prop) → Prop := fun ds R => ∃ x t lo hi, ds = [x, .int lo, .int hi] ∧ tyD x = some t ∧ R (.bl (within lo hi x))
theorem l_is_integer_within : ∀ ds R, S_is_integer_within ds R → ds.length = 3 := fun ds R ⟨_, _, _, _, e, _⟩ => by rw [e]; rfl
theorem d_is_integer_within (T : Txt K mg) : Dfn P w K mg bs 2 "is_integer_within" ["thing", "low", "high"] S_is_integer_within := by
  have D_is_integer := d_is_integer (P := P) (w := w) (bs := bs) T
  refine mkD (k := 1) T.s_is_integer_within sc_is_integer_within (fun _ _ _ _ _ _ us hl => match us, hl with | [_, _, _], _ => rfl) l_is_integer_within fun f cdv A outer s H E hr => ?_
  have hu := hu_of hr
  refine ⟨_, (pss_one (ps_ret (pe_and (pe_callK0 (K0 := K) (by rfl) D_is_integer (hr.mono (by decide)) (pa_cons (pv 0) pa_nil)) (pe_one (pe_chain op_le op_le (pv 1) (pv 0) (pv 2)))))), fun h H0 G0 ds R hS => ?_⟩
  obtain ⟨x, t, lo, hi, rfl, ht, hR⟩ := hS
  refine ws_ret (we_andV (we_call (wa_cons (we_var rfl (wa_nil ⟨x, t, rfl, ht, _, rfl, fun hb => ?_, fun hb => ?_⟩)))))
  · obtain ⟨i, rfl⟩ : ∃ i, x = D.int i := by cases x <;> first | exact ⟨_, rfl⟩ | cases hb
    refine we_chain (we_var rfl ⟨_, rfl, we_var rfl ⟨_, rfl, fun h1 => we_var rfl ⟨_, rfl, ?_⟩, fun h1 => ?_⟩⟩)
    · have e : within lo hi (.int i) = decide (i ≤ hi) := by show (decide (lo ≤ i) && decide (i ≤ hi)) = _; rw [h1, Bool.true_and]
      rw [e] at hR; exact hR
    · have e : within lo hi (.int i) = false := by show (decide (lo ≤ i) && decide (i ≤ hi)) = _; rw [h1, Bool.false_and]
      rw [e] at hR; exact hR
  · have e : within lo hi x = false := by cases x <;> first | rfl | cases hb
    rw [e] at hR; exact hR
def S_is_base : List D → (D → Prop) → Prop := fun ds R => ∃ x t, ds = [x] ∧ tyD x = some t ∧ R (.bl (within 2 5 x))
theorem l_is_base : ∀ ds R, S_is_base ds R → ds.length = 1 := fun ds R ⟨_, _, e, _⟩ => by rw [e]; rfl
theorem d_is_base (T : Txt K mg) : Dfn P w K mg bs 3 "is_base" ["thing"] S_is_base := by
  have D_is_integer_within := d_is_integer_within (P := P) (w := w) (bs := bs) T
  refine mkD (k := 2) T.s_is_base sc_is_base (fun _ _ _ _ _ _ us hl => match us, hl with | [_], _ => rfl) l_is_base fun f cdv A outer s H E hr => ?_
  have hu := hu_of hr
  refine ⟨_, (pss_one (ps_ret (pe_callK0 (K0 := K) (by rfl) D_is_integer_within (hr.mono (by decide)) (pa_cons (pv 0) (pa_cons pe_int (pa_cons pe_int pa_nil)))))), fun h H0 G0 ds R hS => ?_⟩
  obtain ⟨x, t, rfl, ht, hR⟩ := hS
  exact ws_ret (we_call (wa_cons (we_var rfl (wa_cons (we_int (wa_cons (we_int (wa_nil ⟨x, t, _, _, rfl, ht, hR⟩))))))))
def tupOf (n : Int) : D → Bool | .tup xs => decide ((xs.length : Int) = n) | _ => false
def S_is_tuple_of : List D → (D → Prop) → Prop := fun ds R => ∃ x t n, ds = [x, .int n] ∧ tyD x = some t ∧ R (.bl (tupOf n x))
theorem l_is_tuple_of : ∀ ds R, S_is_tuple_of ds R → ds.length = 2 := fun ds R ⟨_, _, _, e, _⟩ => by rw [e]; rfl
theorem d_is_tuple_of (T : Txt K mg) : Dfn P w K mg bs 1 "is_tuple_of" ["thing", "many"] S_is_tuple_of := by
  refine mkD (k := 0) T.s_is_tuple_of sc_is_tuple_of (fun _ _ _ _ _ _ us hl => match us, hl with | [_, _], _ => rfl) l_is_tuple_of fun f cdv A outer s H E hr => ?_
  have hu := hu_of hr
  refine ⟨_, (pss_one (ps_ret (pe_and (pe_callB (call_isiK0 (K0 := K) (by rfl)) (by rfl) T.n_isinstance (by decide +kernel) (pa_cons (pv 0) (pa_cons (pe_bltn (v := .ty "tuple") (by rfl) T.n_tuple (by decide +kernel) rfl) pa_nil))) (pe_one (pe_cmpR op_eq (pe_callB (call_lenK (K0 := K) (by rfl)) (by rfl) T.n_len (by decide +kernel) (pa_cons (pv 0) pa_nil)) (pv 1) (nomark _)))))), fun h H0 G0 ds R hS => ?_⟩
  obtain ⟨x, t, n, rfl, ht, hR⟩ := hS
  refine ws_ret (we_andV (we_isi (we_var rfl ⟨t, _, ht, kb_tuple ht, _, rfl, fun hb => ?_, fun hb => ?_⟩)))
  · obtain ⟨xs, rfl⟩ : ∃ xs, x = D.tup xs := by cases x <;> first | exact ⟨_, rfl⟩ | cases hb
    exact we_eqI (we_len (we_var rfl ⟨_, .inr rfl, _, rfl, we_var rfl ⟨_, rfl, hR⟩⟩))
  · have e : tupOf n x = false := by cases x <;> first | rfl | cases hb
    rw [e] at hR; exact hR
/-! ### fractions -/
/-- in lowest terms -/
@[irreducible] def low (t b : Int) : Int × Int := (t / (Int.gcd t b : Int), b / (Int.gcd t b : Int))
theorem low_fst (t b : Int) : (low t b).1 = t / (Int.gcd t b : Int) := by unfold low; rfl
theorem low_snd (t b : Int) : (low t b).2 = b / (Int.gcd t b : Int) := by unfold low; rfl
theorem low_is (t b : Int) : low t b = (t / (Int.gcd t b : Int), b / (Int.gcd t b : Int)) := by unfold low; rfl
def fr (x : Int × Int) : D := .tup [.int x.1, .int x.2]
theorem len2 {α : Type} {a b : α} : [a, b].length ≤ 4000000 := Nat.le_of_ble_eq_true rfl
theorem len3 {α : Type} {a b c : α} : [a, b, c].length ≤ 4000000 := Nat.le_of_ble_eq_true rfl
section
variable {p : Par} {ρ : Rho} {Q : D → Prop} {ta : TE}
theorem we_fr0 (h : WE p ρ ta fun x => ∃ y, x = fr y ∧ Q (.int y.1)) : WE p ρ (tOp (rIxT p.K) ta (tC (.int 0))) Q := we_ixT (h.imp fun x ⟨y, e, q⟩ => ⟨_, e, we_int ⟨_, _, rfl, rfl, q⟩⟩)
theorem we_fr1 (h : WE p ρ ta fun x => ∃ y, x = fr y ∧ Q (.int y.2)) : WE p ρ (tOp (rIxT p.K) ta (tC (.int 1))) Q := we_ixT (h.imp fun x ⟨y, e, q⟩ => ⟨_, e, we_int ⟨_, _, rfl, rfl, q⟩⟩)
end
theorem gcd_pos {t b : Int} (hb : 0 < b) : 0 < (Int.gcd t b : Int) := by
  have := Int.gcd_pos_of_ne_zero_right t (b := b) (by omega)
  omega
theorem gcd_le {t b : Int} (hb : 0 < b) : (Int.gcd t b : Int) ≤ b := Int.le_of_dvd hb (Int.gcd_dvd_right t b)
theorem low_cross {t b : Int} (hb : 0 < b) : (low t b).1 * b = t * (low t b).2 := by
  have hg := gcd_pos (t := t) hb
  obtain ⟨x, hx⟩ := Int.gcd_dvd_left t b
  obtain ⟨y, hy⟩ := Int.gcd_dvd_right t b
  have e1 : t / (Int.gcd t b : Int) = x := Int.ediv_eq_of_eq_mul_right (by omega) hx
  have e2 : b / (Int.gcd t b : Int) = y := Int.ediv_eq_of_eq_mul_right (by omega) hy
  rw [low_fst, low_snd]
  rw [e1, e2]
  generalize (Int.gcd t b : Int) = g at hx hy
  rw [hx, hy, Int.mul_comm g x, Int.mul_assoc]
theorem low_pos {t b : Int} (hb : 0 < b) : 0 < (low t b).2 := by
  have hg := gcd_pos (t := t) hb
  obtain ⟨y, hy⟩ := Int.gcd_dvd_right t b
  have e2 : b / (Int.gcd t b : Int) = y := Int.ediv_eq_of_eq_mul_right (by omega) hy
  rw [low_snd]
  rw [e2]
  generalize (Int.gcd t b : Int) = g at hy hg
  by_cases h : 0 < y
  · exact h
  · have : g * y ≤ 0 := Int.mul_nonpos_of_nonneg_of_nonpos (by omega) (by omega)
    omega
theorem low_le {t b : Int} (hb : 0 < b) : (low t b).2 ≤ b := by rw [low_snd]; exact Int.ediv_le_self _ (by omega)
theorem low_top {t b : Int} (hb : 0 < b) : (low t b).1.natAbs ≤ t.natAbs := by
  have hg := gcd_pos (t := t) hb
  obtain ⟨x, hx⟩ := Int.gcd_dvd_left t b
  have e1 : t / (Int.gcd t b : Int) = x := Int.ediv_eq_of_eq_mul_right (by omega) hx
  rw [low_fst]
  rw [e1]
  generalize (Int.gcd t b : Int) = g at hx hg
  rw [hx, Int.natAbs_mul]
  exact Nat.le_mul_of_pos_left _ (by omega)
theorem gcd_step {x y : Int} (hx : 0 ≤ x) (hy : 0 ≤ y) : Int.gcd y (x % y) = Int.gcd x y := by
  obtain ⟨n, rfl⟩ := Int.eq_ofNat_of_zero_le hx
  obtain ⟨m, rfl⟩ := Int.eq_ofNat_of_zero_le hy
  rw [← Int.natCast_emod]
  show Nat.gcd (m : Int).natAbs ((n % m : Nat) : Int).natAbs = Nat.gcd (n : Int).natAbs (m : Int).natAbs
  rw [Int.natAbs_natCast, Int.natAbs_natCast, Int.natAbs_natCast, Nat.gcd_comm n m, Nat.gcd_rec m n, Nat.gcd_comm]
/-- a number of at most so many bits -/
abbrev Bd (k : Nat) (x : Int) : Prop := x.natAbs < 2 ^ k
theorem Bd.mul {a b : Nat} {x y : Int} (h : Bd a x) (h2 : Bd b y) : Bd (a + b) (x * y) := wide_lt h h2
theorem Bd.mono {a b : Nat} {x : Int} (h : Bd a x) (hl : a ≤ b) : Bd b x := Nat.lt_of_lt_of_le h (Nat.pow_le_pow_right (by decide) hl)
theorem Bd.sub {a : Nat} {x y : Int} (h : Bd a x) (h2 : Bd a y) : Bd (a + 1) (x - y) := by
  have e : (2 : Nat) ^ (a + 1) = 2 ^ a + 2 ^ a := by rw [Nat.pow_succ]; omega
  show (x - y).natAbs < _
  have h' : x.natAbs < 2 ^ a := h
  have h2' : y.natAbs < 2 ^ a := h2
  generalize (2 : Nat) ^ a = q at *
  omega
theorem Bd.add {a : Nat} {x y : Int} (h : Bd a x) (h2 : Bd a y) : Bd (a + 1) (x + y) := by
  have e : (2 : Nat) ^ (a + 1) = 2 ^ a + 2 ^ a := by rw [Nat.pow_succ]; omega
  show (x + y).natAbs < _
  have h' : x.natAbs < 2 ^ a := h
  have h2' : y.natAbs < 2 ^ a := h2
  generalize (2 : Nat) ^ a = q at *
  omega
theorem Bd.small {k : Nat} {x : Int} (h : x.natAbs < 18446744073709551616) (hk : 64 ≤ k := by decide) : Bd k x := big h hk
theorem Bd.cm {a b : Nat} {x y : Int} (h : Bd a x) (h2 : Bd b y) (ha : 0 < a := by decide) (hb : 0 < b := by decide) (hl : a + b ≤ 1000000 := by decide) : CMulA x y := .inr (.inr (wide_mul h h2 ha hb hl))
theorem Bd.cd {a : Nat} {x y : Int} (hp : 0 < y) (h : Bd a y) (ha : 0 < a := by decide) (hl : a ≤ 9000 := by decide) : CDivA x y := ⟨hp, .inr (wide_div (i := x) hp h ha hl).2⟩
def S_law_low : List D → (D → Prop) → Prop := fun ds R => ∃ t b : Int, ds = [.int t, .int b] ∧ 0 < b ∧ Bd 8999 b ∧ R (fr (low t b))
theorem l_law_low : ∀ ds R, S_law_low ds R → ds.length = 2 := fun ds R ⟨_, _, e, _⟩ => by rw [e]; rfl
theorem d_law_low (T : Txt K mg) : Dfn P w K mg bs 1 "_law_low" ["top", "bottom"] S_law_low := by
  refine mkD (k := 0) T.s_law_low sc_law_low (fun _ _ _ _ _ _ us hl => match us, hl with | [_, _], _ => rfl) l_law_low fun f cdv A outer s H E hr => ?_
  have hu := hu_of hr
  refine ⟨_, (pss_cons (ps_par (i := 2) (j := 3) (by rfl) sc_law_low.nd rfl rfl (by decide) rfl rfl (pa_cons (pe_callB call_abs (by rfl) T.n_abs (by decide +kernel) (pa_cons (pv 0) pa_nil)) (pa_cons (pe_callB call_abs (by rfl) T.n_abs (by decide +kernel) (pa_cons (pv 1) pa_nil)) pa_nil)) (by rfl))
      (pss_cons (ps_while PassesOwn.never (pt_cmpR op_gt (pv 3) pe_int (nomark _)) (pss_one (ps_par (i := 2) (j := 3) (by rfl) sc_law_low.nd rfl rfl (by decide) rfl rfl (pa_cons (pv 3) (pa_cons (pe_op op_mod (pe_callTy call_int1 (by rfl) T.n_int (by decide +kernel) (pa_cons (pv 2) pa_nil)) (pv 3)) pa_nil)) (by rfl))))
      (pss_cons (ps_set (i := 2) sc_law_low.nd rfl (Or.inl rfl) (pe_ifExp (pt_cmpR op_gt (pv 1) pe_int (nomark _)) (pv 2) (pe_op op_sub pe_int (pv 2))))
      (pss_one (ps_ret (pe_tup (pa_cons (pe_op op_divA (pe_callTy call_int1 (by rfl) T.n_int (by decide +kernel) (pa_cons (pv 0) pa_nil)) (pv 2)) (pa_cons (pe_op op_divA (pe_callTy call_int1 (by rfl) T.n_int (by decide +kernel) (pa_cons (pv 1) pa_nil)) (pv 2)) pa_nil)))))))), fun h H0 G0 ds R hS => ?_⟩
  obtain ⟨t, b, rfl, hb, hbd, hR⟩ := hS
  rw [low_is] at hR
  have hg := gcd_pos (t := t) hb
  refine ws_seq (ws_par ?_)
  refine wa_cons (we_abs (we_var rfl ⟨_, rfl, wa_cons (we_abs (we_var rfl ⟨_, rfl, wa_nil ⟨_, _, rfl, ?_⟩⟩))⟩))
  refine ws_seq (ws_while (fun m ρ => ∃ x y : Int, 0 ≤ x ∧ 0 ≤ y ∧ Int.gcd x y = Int.gcd t b ∧ m = y.toNat ∧ ρ = [some (.d (.int t)), some (.d (.int b)), some (.d (.int x)), some (.d (.int y))]) (absI b).toNat ⟨absI t, absI b, absI_nn t, absI_nn b, ?_, rfl, rfl⟩ ?_)
  · rw [absI_eq, absI_eq]
    simp [Int.gcd]
  · rintro m ρ ⟨x, y, hx, hy, e, rfl, rfl⟩
    refine wt_T (we_I0 (we_var rfl ⟨_, rfl, we_int ⟨_, rfl, _, rfl, ?_⟩⟩))
    refine ite2 (fun hpos => ?_) (fun hpos => ?_)
    · have hpos : 0 < y := of_decide_eq_true hpos
      refine ws_par (wa_cons (we_var rfl (wa_cons (we_I (we_int1 (we_var rfl ⟨_, rfl, _, rfl, we_var rfl ⟨_, rfl, hpos, wa_nil ⟨_, _, rfl, ?_⟩⟩⟩))))))
      have h1 := Int.emod_nonneg x (b := y) (by omega)
      have h2 := Int.emod_lt_of_pos x hpos
      refine ⟨(x % y).toNat, by omega, y, x % y, hy, h1, ?_, rfl, rfl⟩
      rw [← e, gcd_step hx hy]
    · have h0 : y = 0 := by
        have : ¬ 0 < y := fun z => hpos (decide_eq_true z)
        omega
      subst h0
      have ex : x = (Int.gcd t b : Int) := by
        rw [← e, Int.gcd_zero_right]
        omega
      subst ex
      -- one = one if bottom > 0 else 0 - one
      refine ws_seq (ws_asg (we_if (wt_T (we_I0 (we_var rfl ⟨_, rfl, we_int ⟨_, rfl, _, rfl, ?_⟩⟩)))))
      have hpos' : (decide ((0 : Int) < b)) = true := decide_eq_true hb
      rw [hpos', if_pos rfl]
      refine we_var rfl ?_
      have hbg : Bd 8999 (Int.gcd t b : Int) := by
        have := gcd_le (t := t) hb
        exact Nat.lt_of_le_of_lt (by omega) hbd
      exact ws_ret (we_tup (wa_cons (we_I (we_int1 (we_var rfl ⟨_, rfl, _, rfl, we_var rfl ⟨_, rfl, Bd.cd hg hbg, wa_cons (we_I (we_int1 (we_var rfl ⟨_, rfl, _, rfl, we_var rfl ⟨_, rfl, Bd.cd hg hbg, wa_nil ⟨by show 2 ≤ 4000000; decide, hR⟩⟩⟩)))⟩⟩)))))
def S_law_minus : List D → (D → Prop) → Prop := fun ds R => ∃ a b c d : Int, ds = [fr (a, b), fr (c, d)] ∧ 0 < b ∧ 0 < d ∧ Bd 4000 a ∧ Bd 4000 b ∧ Bd 4000 c ∧ Bd 4000 d ∧ R (fr (low (a * d - c * b) (b * d)))
theorem l_law_minus : ∀ ds R, S_law_minus ds R → ds.length = 2 := fun ds R ⟨_, _, _, _, e, _⟩ => by rw [e]; rfl
theorem d_law_minus (T : Txt K mg) : Dfn P w K mg bs 2 "_law_minus" ["one", "other"] S_law_minus := by
  have D_law_low := d_law_low (P := P) (w := w) (bs := bs) T
  refine mkD (k := 1) T.s_law_minus sc_law_minus (fun _ _ _ _ _ _ us hl => match us, hl with | [_, _], _ => rfl) l_law_minus fun f cdv A outer s H E hr => ?_
  have hu := hu_of hr
  refine ⟨_, (pss_one (ps_ret (pe_callK0 (K0 := K) (by rfl) D_law_low (hr.mono (by decide)) (pa_cons (pe_op op_sub (pe_op op_mulA (pe_ix (ix_tupK (K0 := K) (by rfl)) (pv 0) pe_int (fun _ _ => rfl)) (pe_ix (ix_tupK (K0 := K) (by rfl)) (pv 1) pe_int (fun _ _ => rfl))) (pe_op op_mulA (pe_ix (ix_tupK (K0 := K) (by rfl)) (pv 1) pe_int (fun _ _ => rfl)) (pe_ix (ix_tupK (K0 := K) (by rfl)) (pv 0) pe_int (fun _ _ => rfl)))) (pa_cons (pe_op op_mulA (pe_ix (ix_tupK (K0 := K) (by rfl)) (pv 0) pe_int (fun _ _ => rfl)) (pe_ix (ix_tupK (K0 := K) (by rfl)) (pv 1) pe_int (fun _ _ => rfl))) pa_nil))))), fun h H0 G0 ds R hS => ?_⟩
  obtain ⟨a, b, c, d, rfl, hb, hd, b1, b2, b3, b4, hR⟩ := hS
  refine ws_ret (we_call (wa_cons (we_I0 ?_)))
  refine we_I (we_ixT (we_var rfl ⟨_, rfl, we_int ⟨_, _, rfl, rfl, _, rfl, we_ixT (we_var rfl ⟨_, rfl, we_int ⟨_, _, rfl, rfl, _, rfl, b1.cm b4, _, rfl, ?_⟩⟩)⟩⟩))
  refine we_I (we_ixT (we_var rfl ⟨_, rfl, we_int ⟨_, _, rfl, rfl, _, rfl, we_ixT (we_var rfl ⟨_, rfl, we_int ⟨_, _, rfl, rfl, _, rfl, b3.cm b2, _, rfl, ?_⟩⟩)⟩⟩))
  refine wa_cons (we_I (we_ixT (we_var rfl ⟨_, rfl, we_int ⟨_, _, rfl, rfl, _, rfl, we_ixT (we_var rfl ⟨_, rfl, we_int ⟨_, _, rfl, rfl, _, rfl, b2.cm b4, ?_⟩⟩)⟩⟩)))
  exact wa_nil ⟨_, _, rfl, Int.mul_pos hb hd, (b2.mul b4).mono (by decide), hR⟩
def S_law_times : List D → (D → Prop) → Prop := fun ds R => ∃ a b c d : Int, ds = [fr (a, b), fr (c, d)] ∧ 0 < b ∧ 0 < d ∧ Bd 4000 a ∧ Bd 4000 b ∧ Bd 4000 c ∧ Bd 4000 d ∧ R (fr (low (a * c) (b * d)))
theorem l_law_times : ∀ ds R, S_law_times ds R → ds.length = 2 := fun ds R ⟨_, _, _, _, e, _⟩ => by rw [e]; rfl
theorem d_law_times (T : Txt K mg) : Dfn P w K mg bs 2 "_law_times" ["one", "other"] S_law_times := by
  have D_law_low := d_law_low (P := P) (w := w) (bs := bs) T
  refine mkD (k := 1) T.s_law_times sc_law_times (fun _ _ _ _ _ _ us hl => match us, hl with | [_, _], _ => rfl) l_law_times fun f cdv A outer s H E hr => ?_
  have hu := hu_of hr
  refine ⟨_, (pss_one (ps_ret (pe_callK0 (K0 := K) (by rfl) D_law_low (hr.mono (by decide)) (pa_cons (pe_op op_mulA (pe_ix (ix_tupK (K0 := K) (by rfl)) (pv 0) pe_int (fun _ _ => rfl)) (pe_ix (ix_tupK (K0 := K) (by rfl)) (pv 1) pe_int (fun _ _ => rfl))) (pa_cons (pe_op op_mulA (pe_ix (ix_tupK (K0 := K) (by rfl)) (pv 0) pe_int (fun _ _ => rfl)) (pe_ix (ix_tupK (K0 := K) (by rfl)) (pv 1) pe_int (fun _ _ => rfl))) pa_nil))))), fun h H0 G0 ds R hS => ?_⟩
  obtain ⟨a, b, c, d, rfl, hb, hd, b1, b2, b3, b4, hR⟩ := hS
  refine ws_ret (we_call (wa_cons ?_))
  refine we_I (we_ixT (we_var rfl ⟨_, rfl, we_int ⟨_, _, rfl, rfl, _, rfl, we_ixT (we_var rfl ⟨_, rfl, we_int ⟨_, _, rfl, rfl, _, rfl, b1.cm b3, ?_⟩⟩)⟩⟩))
  refine wa_cons (we_I (we_ixT (we_var rfl ⟨_, rfl, we_int ⟨_, _, rfl, rfl, _, rfl, we_ixT (we_var rfl ⟨_, rfl, we_int ⟨_, _, rfl, rfl, _, rfl, b2.cm b4, ?_⟩⟩)⟩⟩)))
  exact wa_nil ⟨_, _, rfl, Int.mul_pos hb hd, (b2.mul b4).mono (by decide), hR⟩
/-! ### which digits a writing begins with -/
def ldig (base t b : Int) : Int := maxI (1 - base) (-((b - base * t) / b))
def gdig (base t b : Int) : Int := minI (base - 1) ((base * t + b) / b)
theorem ldig_ge (base t b : Int) : 1 - base ≤ ldig base t b := by unfold ldig maxI; split <;> omega
theorem gdig_le (base t b : Int) : gdig base t b ≤ base - 1 := by unfold gdig minI; split <;> omega
theorem max_le {a b c : Int} : maxI a b ≤ c ↔ a ≤ c ∧ b ≤ c := by unfold maxI; split <;> omega
theorem le_min {a b c : Int} : c ≤ minI a b ↔ c ≤ a ∧ c ≤ b := by unfold minI; split <;> omega
theorem ldig_le {base t b d : Int} (hb : 0 < b) : ldig base t b ≤ d ↔ 1 - base ≤ d ∧ base * t - d * b ≤ b := by
  unfold ldig
  rw [max_le]
  have e : -((b - base * t) / b) ≤ d ↔ -d ≤ (b - base * t) / b := by omega
  rw [e, Int.le_ediv_iff_mul_le hb, Int.neg_mul]
  omega
theorem le_gdig {base t b d : Int} (hb : 0 < b) : d ≤ gdig base t b ↔ d ≤ base - 1 ∧ -b ≤ base * t - d * b := by
  unfold gdig
  rw [le_min, Int.le_ediv_iff_mul_le hb]
  omega
theorem dig_le {base t b : Int} (h1 : 2 ≤ base) (hb : 0 < b) (h2 : -b ≤ t) (h3 : t ≤ b) : ldig base t b ≤ gdig base t b := by
  have m1 : base * t ≤ base * b := Int.mul_le_mul_of_nonneg_left h3 (by omega)
  have m2 : base * -b ≤ base * t := Int.mul_le_mul_of_nonneg_left h2 (by omega)
  rw [Int.mul_neg] at m2
  unfold ldig gdig
  rw [max_le, le_min, le_min]
  refine ⟨⟨by omega, ?_⟩, ?_, ?_⟩
  · rw [Int.le_ediv_iff_mul_le hb, Int.sub_mul, Int.one_mul]
    omega
  · have : 1 - base ≤ (b - base * t) / b := by
      rw [Int.le_ediv_iff_mul_le hb, Int.sub_mul, Int.one_mul]
      omega
    omega
  · have e1 := Int.mul_ediv_add_emod (b - base * t) b
    have e2 := Int.mul_ediv_add_emod (base * t + b) b
    have r1 := Int.emod_lt_of_pos (b - base * t) hb
    have r2 := Int.emod_lt_of_pos (base * t + b) hb
    generalize (b - base * t) / b = q1 at *
    generalize (base * t + b) / b = q2 at *
    have hs : 0 < b * (q1 + q2) := by rw [Int.mul_add]; omega
    have : 0 < q1 + q2 := by
      by_cases h : 0 < q1 + q2
      · exact h
      · have := Int.mul_nonpos_of_nonneg_of_nonpos (show 0 ≤ b by omega) (show q1 + q2 ≤ 0 by omega)
        omega
    omega
/-- a digit within goes to a number again -/
theorem dig_in {base t b d : Int} (hb : 0 < b) (h1 : ldig base t b ≤ d) (h2 : d ≤ gdig base t b) : -b ≤ base * t - d * b ∧ base * t - d * b ≤ b := ⟨((le_gdig hb).mp h2).2, ((ldig_le hb).mp h1).2⟩
/-! ### numbers -/
def Ty (x : D) : Prop := ∃ t, tyD x = some t
def isFr : D → Bool | .tup [.int t, .int b] => decide (0 < b) && decide (Nat.gcd t.natAbs b.natAbs = 1) | _ => false
def S_is_fraction : List D → (D → Prop) → Prop := fun ds R => ∃ x, ds = [x] ∧ Ty x ∧ (∀ a b, x = .tup [a, b] → Ty a ∧ Ty b) ∧ R (.bl (isFr x))
theorem l_is_fraction : ∀ ds R, S_is_fraction ds R → ds.length = 1 := fun ds R ⟨_, e, _⟩ => by rw [e]; rfl
theorem d_is_fraction (T : Txt K mg) : Dfn P w K mg bs 2 "is_fraction" ["thing"] S_is_fraction := by
  have D_is_tuple_of := d_is_tuple_of (P := P) (w := w) (bs := bs) T
  have D_is_integer := d_is_integer (P := P) (w := w) (bs := bs) T
  refine mkD (k := 1) T.s_is_fraction sc_is_fraction (fun _ _ _ _ _ _ us hl => match us, hl with | [_], _ => rfl) l_is_fraction fun f cdv A outer s H E hr => ?_
  have hu := hu_of hr
  refine ⟨_, (pss_cons (ps_if (pt_not (pt_val (pe_callK0 (K0 := K) (by rfl) D_is_tuple_of (hr.mono (by decide)) (pa_cons (pv 0) (pa_cons pe_int pa_nil))))) (pss_one (ps_ret pe_bl)) pss_nil)
      (pss_cons (ps_asg (pv 0) (pg_tup rfl (pgs_cons (pg_name (i := 1) sc_is_fraction.nd rfl (Or.inl rfl)) (pgs_cons (pg_name (i := 2) sc_is_fraction.nd rfl (Or.inl rfl)) pgs_nil))))
      (pss_one (ps_ret (pe_and (pe_callK0 (K0 := K) (by rfl) D_is_integer (hr.mono (by decide)) (pa_cons (pv 1) pa_nil)) (pe_and (pe_callK0 (K0 := K) (by rfl) D_is_integer (hr.mono (by decide)) (pa_cons (pv 2) pa_nil)) (pe_and (pe_cmpR op_gt (pv 2) pe_int (nomark _)) (pe_one (pe_cmpR op_eq (pe_callBfun cr_gcd (by rfl) T.g_gcd (pa_cons (pv 1) (pa_cons (pv 2) pa_nil))) pe_int (nomark _)))))))))), fun h H0 G0 ds R hS => ?_⟩
  obtain ⟨x, rfl, ⟨t, ht⟩, hab, hR⟩ := hS
  refine ws_seq (ws_if (wt_not (wt_B (we_call (wa_cons (we_var rfl (wa_cons (we_int (wa_nil ⟨x, t, 2, rfl, ht, _, rfl, ?_⟩)))))))))
  refine ite2 (fun hb => ?_) (fun hb => ?_)
  · refine ws_ret (we_bl ?_)
    have e : isFr x = false := by
      unfold isFr
      split
      · exfalso; simp [tupOf] at hb
      · rfl
    rw [e] at hR; exact hR
  · obtain ⟨a, b, rfl⟩ : ∃ a b, x = D.tup [a, b] := by
      cases x with
      | tup xs =>
        match xs, hb with
        | [a, b], _ => exact ⟨a, b, rfl⟩
        | [], h => exact absurd rfl h
        | [a], h => exact absurd rfl h
        | a :: b :: c :: r, h =>
          exfalso
          refine h ?_
          have : decide (((a :: b :: c :: r).length : Int) = 2) = false := decide_eq_false (by simp only [List.length_cons]; omega)
          show (!decide (((a :: b :: c :: r).length : Int) = 2)) = true
          rw [this]; rfl
      | _ => exact absurd rfl hb
    obtain ⟨⟨ta, hta⟩, ⟨tb, htb⟩⟩ := hab a b rfl
    refine ws_next (ws_seq (ws_asgG (we_var rfl (wg_tup ⟨_, rfl, rfl, wgs_cons ⟨_, _, rfl, wg_name (wgs_cons ⟨_, _, rfl, wg_name (wgs_nil ⟨rfl, ?_⟩)⟩)⟩⟩))))
    refine ws_ret (we_andV (we_call (wa_cons (we_var rfl (wa_nil ⟨a, ta, rfl, hta, _, rfl, fun ha => ?_, fun ha => ?_⟩)))))
    · obtain ⟨i, rfl⟩ : ∃ i, a = D.int i := by cases a <;> first | exact ⟨_, rfl⟩ | cases ha
      refine we_andV (we_call (wa_cons (we_var rfl (wa_nil ⟨b, tb, rfl, htb, _, rfl, fun hb' => ?_, fun hb' => ?_⟩))))
      · obtain ⟨j, rfl⟩ : ∃ j, b = D.int j := by cases b <;> first | exact ⟨_, rfl⟩ | cases hb'
        refine we_andV (we_I0 (we_var rfl ⟨_, rfl, we_int ⟨_, rfl, _, rfl, fun h0 => ?_, fun h0 => ?_⟩⟩))
        · refine we_eqI (we_gcd (we_var rfl ⟨_, rfl, we_var rfl ⟨_, rfl, _, rfl, we_int ⟨_, rfl, ?_⟩⟩⟩))
          have e : isFr (.tup [.int i, .int j]) = decide (((Nat.gcd i.natAbs j.natAbs : Nat) : Int) = 1) := by
            show (decide (0 < j) && decide (Nat.gcd i.natAbs j.natAbs = 1)) = _
            rw [h0, Bool.true_and]
            by_cases hg : Nat.gcd i.natAbs j.natAbs = 1
            · rw [decide_eq_true hg, decide_eq_true (by omega)]
            · rw [decide_eq_false hg, decide_eq_false (by omega)]
          rw [e] at hR; exact hR
        · have e : isFr (.tup [.int i, .int j]) = false := by
            show (decide (0 < j) && _) = false
            rw [h0, Bool.false_and]
          rw [e] at hR; exact hR
      · have e : isFr (.tup [.int i, b]) = false := by cases b <;> first | rfl | cases hb'
        rw [e] at hR; exact hR
    · have e : isFr (.tup [a, b]) = false := by cases a <;> first | rfl | cases ha
      rw [e] at hR; exact hR
/-- a number: top, bottom -/
def Num (t b : Int) : Prop := 0 < b ∧ Nat.gcd t.natAbs b.natAbs = 1 ∧ -b ≤ t ∧ t ≤ b
def isNum : D → Bool | .tup [.int t, .int b] => isFr (.tup [.int t, .int b]) && decide (absI t ≤ b) | _ => false
theorem Num.is {t b : Int} (h : Num t b) : isNum (fr (t, b)) = true := by
  obtain ⟨h1, h2, h3, h4⟩ := h
  show ((decide (0 < b) && decide (Nat.gcd t.natAbs b.natAbs = 1)) && decide (absI t ≤ b)) = true
  rw [decide_eq_true h1, decide_eq_true h2, decide_eq_true (by rw [absI_eq]; omega)]
  rfl
theorem fr_of : ∀ {x : D}, isFr x = true → ∃ t b, x = fr (t, b)
  | .tup [.int t, .int b], _ => ⟨t, b, rfl⟩
def S_is_number : List D → (D → Prop) → Prop := fun ds R => ∃ x, ds = [x] ∧ Ty x ∧ (∀ a b, x = .tup [a, b] → Ty a ∧ Ty b) ∧ R (.bl (isNum x))
theorem l_is_number : ∀ ds R, S_is_number ds R → ds.length = 1 := fun ds R ⟨_, e, _⟩ => by rw [e]; rfl
theorem d_is_number (T : Txt K mg) : Dfn P w K mg bs 3 "is_number" ["thing"] S_is_number := by
  have D_is_fraction := d_is_fraction (P := P) (w := w) (bs := bs) T
  refine mkD (k := 2) T.s_is_number sc_is_number (fun _ _ _ _ _ _ us hl => match us, hl with | [_], _ => rfl) l_is_number fun f cdv A outer s H E hr => ?_
  have hu := hu_of hr
  refine ⟨_, (pss_one (ps_ret (pe_and (pe_callK0 (K0 := K) (by rfl) D_is_fraction (hr.mono (by decide)) (pa_cons (pv 0) pa_nil)) (pe_one (pe_cmpR op_le (pe_callB call_abs (by rfl) T.n_abs (by decide +kernel) (pa_cons (pe_ix (ix_tupK (K0 := K) (by rfl)) (pv 0) pe_int (fun _ _ => rfl)) pa_nil)) (pe_ix (ix_tupK (K0 := K) (by rfl)) (pv 0) pe_int (fun _ _ => rfl)) (nomark _)))))), fun h H0 G0 ds R hS => ?_⟩
  obtain ⟨x, rfl, hx, hab, hR⟩ := hS
  refine ws_ret (we_andV (we_call (wa_cons (we_var rfl (wa_nil ⟨x, rfl, hx, hab, _, rfl, fun hb => ?_, fun hb => ?_⟩)))))
  · obtain ⟨t, b, rfl⟩ := fr_of hb
    refine we_I0 (we_abs (we_fr0 (we_var rfl ⟨_, rfl, _, rfl, _, rfl, we_fr1 (we_var rfl ⟨_, rfl, _, rfl, ?_⟩)⟩)))
    have e : isNum (fr (t, b)) = decide (absI t ≤ b) := by
      show (isFr (fr (t, b)) && decide (absI t ≤ b)) = _
      rw [hb, Bool.true_and]
    rw [e] at hR; exact hR
  · have e : isNum x = false := by
      unfold isNum
      split
      · rw [hb, Bool.false_and]
      · rfl
    rw [e] at hR; exact hR
def S_check_base : List D → (D → Prop) → Prop := fun ds R => ∃ x : D, ds = [x] ∧ Ty x ∧ within 2 5 x = true ∧ R .non
theorem l_check_base : ∀ ds R, S_check_base ds R → ds.length = 1 := fun ds R ⟨_, e, _⟩ => by rw [e]; rfl
theorem d_check_base (T : Txt K mg) : Dfn P w K mg bs 4 "check_base" ["thing"] S_check_base := by
  have D_is_base := d_is_base (P := P) (w := w) (bs := bs) T
  refine mkD (k := 3) T.s_check_base sc_check_base (fun _ _ _ _ _ _ us hl => match us, hl with | [_], _ => rfl) l_check_base fun f cdv A outer s H E hr => ?_
  have hu := hu_of hr
  refine ⟨_, (pss_one (ps_if (pt_not (pt_val (pe_callK0 (K0 := K) (by rfl) D_is_base (hr.mono (by decide)) (pa_cons (pv 0) pa_nil)))) (pss_one ps_never) pss_nil)), fun h H0 G0 ds R hS => ?_⟩
  obtain ⟨x, rfl, ⟨t, ht⟩, hw, hR⟩ := hS
  refine ws_if (wt_not (wt_B (we_call (wa_cons (we_var rfl (wa_nil ⟨x, t, rfl, ht, _, rfl, ?_⟩))))))
  rw [hw]
  exact ws_next hR
def S_check_number : List D → (D → Prop) → Prop := fun ds R => ∃ t b : Int, ds = [fr (t, b)] ∧ Num t b ∧ R .non
theorem l_check_number : ∀ ds R, S_check_number ds R → ds.length = 1 := fun ds R ⟨_, _, e, _⟩ => by rw [e]; rfl
theorem ty_fr (x : Int × Int) : Ty (fr x) ∧ ∀ a b, fr x = .tup [a, b] → Ty a ∧ Ty b := ⟨⟨_, rfl⟩, fun a b e => by cases e; exact ⟨⟨_, rfl⟩, ⟨_, rfl⟩⟩⟩
theorem d_check_number (T : Txt K mg) : Dfn P w K mg bs 4 "check_number" ["thing"] S_check_number := by
  have D_is_number := d_is_number (P := P) (w := w) (bs := bs) T
  refine mkD (k := 3) T.s_check_number sc_check_number (fun _ _ _ _ _ _ us hl => match us, hl with | [_], _ => rfl) l_check_number fun f cdv A outer s H E hr => ?_
  have hu := hu_of hr
  refine ⟨_, (pss_one (ps_if (pt_not (pt_val (pe_callK0 (K0 := K) (by rfl) D_is_number (hr.mono (by decide)) (pa_cons (pv 0) pa_nil)))) (pss_one ps_never) pss_nil)), fun h H0 G0 ds R hS => ?_⟩
  obtain ⟨t, b, rfl, hn, hR⟩ := hS
  refine ws_if (wt_not (wt_B (we_call (wa_cons (we_var rfl (wa_nil ⟨_, rfl, (ty_fr _).1, (ty_fr _).2, _, rfl, ?_⟩))))))
  rw [hn.is]
  exact ws_next hR
def S_check_many : List D → (D → Prop) → Prop := fun ds R => ∃ n : Int, ds = [.int n] ∧ 0 ≤ n ∧ n ≤ 1000 ∧ R .non
theorem l_check_many : ∀ ds R, S_check_many ds R → ds.length = 1 := fun ds R ⟨_, e, _⟩ => by rw [e]; rfl
theorem d_check_many (T : Txt K mg) : Dfn P w K mg bs 3 "check_many" ["thing"] S_check_many := by
  have D_is_integer_within := d_is_integer_within (P := P) (w := w) (bs := bs) T
  refine mkD (k := 2) T.s_check_many sc_check_many (fun _ _ _ _ _ _ us hl => match us, hl with | [_], _ => rfl) l_check_many fun f cdv A outer s H E hr => ?_
  have hu := hu_of hr
  obtain ⟨t_MOST_DIGITS, g_MOST_DIGITS⟩ := T.c_MOST_DIGITS
  refine ⟨_, (pss_one (ps_if (pt_not (pt_val (pe_callK0 (K0 := K) (by rfl) D_is_integer_within (hr.mono (by decide)) (pa_cons (pv 0) (pa_cons pe_int (pa_cons (pe_glob (v := .int 1000) rfl g_MOST_DIGITS ⟨_, rfl⟩) pa_nil)))))) (pss_one ps_never) pss_nil)), fun h H0 G0 ds R hS => ?_⟩
  obtain ⟨n, rfl, h0, h1, hR⟩ := hS
  refine ws_if (wt_not (wt_B (we_call (wa_cons (we_var rfl (wa_cons (we_int (wa_cons (we_int (wa_nil ⟨_, _, 0, 1000, rfl, rfl, _, rfl, ?_⟩)))))))))) 
  have e : within 0 1000 (.int n) = true := by show (decide (0 ≤ n) && decide (n ≤ 1000)) = true; rw [decide_eq_true h0, decide_eq_true h1]; rfl
  rw [e]
  exact ws_next hR
def S_least_digit : List D → (D → Prop) → Prop := fun ds R => ∃ base t b : Int, ds = [.int base, .int t, .int b] ∧ 2 ≤ base ∧ base ≤ 5 ∧ 0 < b ∧ Bd 8999 b ∧ R (.int (ldig base t b))
theorem l_least_digit : ∀ ds R, S_least_digit ds R → ds.length = 3 := fun ds R ⟨_, _, _, e, _⟩ => by rw [e]; rfl
theorem d_least_digit (T : Txt K mg) : Dfn P w K mg bs 1 "least_digit" ["base", "top", "bottom"] S_least_digit := by
  refine mkD (k := 0) T.s_least_digit sc_least_digit (fun _ _ _ _ _ _ us hl => match us, hl with | [_, _, _], _ => rfl) l_least_digit fun f cdv A outer s H E hr => ?_
  have hu := hu_of hr
  refine ⟨_, (pss_one (ps_ret (pe_callB (call_max2 rfl) (by rfl) T.n_max (by decide +kernel) (pa_cons (pe_op op_sub pe_int (pv 0)) (pa_cons (pe_un un_neg (pe_op op_divA (pe_op op_sub (pv 2) (pe_op op_mulA (pv 0) (pv 1))) (pv 2))) pa_nil))))), fun h H0 G0 ds R hS => ?_⟩
  obtain ⟨base, t, b, rfl, h1, h2, hb, hbd, hR⟩ := hS
  refine ws_ret (we_max2 (we_I0 (we_int ⟨_, rfl, we_var rfl ⟨_, rfl, _, rfl, ?_⟩⟩)))
  refine we_U (we_I (we_I0 (we_var rfl ⟨_, rfl, we_I (we_var rfl ⟨_, rfl, we_var rfl ⟨_, rfl, .inl (by omega), _, rfl, _, rfl, we_var rfl ⟨_, rfl, Bd.cd hb hbd, _, rfl, _, rfl, hR⟩⟩⟩)⟩)))
def S_greatest_digit : List D → (D → Prop) → Prop := fun ds R => ∃ base t b : Int, ds = [.int base, .int t, .int b] ∧ 2 ≤ base ∧ base ≤ 5 ∧ 0 < b ∧ Bd 8999 b ∧ R (.int (gdig base t b))
theorem l_greatest_digit : ∀ ds R, S_greatest_digit ds R → ds.length = 3 := fun ds R ⟨_, _, _, e, _⟩ => by rw [e]; rfl
theorem d_greatest_digit (T : Txt K mg) : Dfn P w K mg bs 1 "greatest_digit" ["base", "top", "bottom"] S_greatest_digit := by
  refine mkD (k := 0) T.s_greatest_digit sc_greatest_digit (fun _ _ _ _ _ _ us hl => match us, hl with | [_, _, _], _ => rfl) l_greatest_digit fun f cdv A outer s H E hr => ?_
  have hu := hu_of hr
  refine ⟨_, (pss_one (ps_ret (pe_callB (call_min2 rfl) (by rfl) T.n_min (by decide +kernel) (pa_cons (pe_op op_sub (pv 0) pe_int) (pa_cons (pe_op op_divA (pe_op op_add (pe_op op_mulA (pv 0) (pv 1)) (pv 2)) (pv 2)) pa_nil))))), fun h H0 G0 ds R hS => ?_⟩
  obtain ⟨base, t, b, rfl, h1, h2, hb, hbd, hR⟩ := hS
  refine ws_ret (we_min2 (we_I0 (we_var rfl ⟨_, rfl, we_int ⟨_, rfl, _, rfl, ?_⟩⟩)))
  refine we_I (we_I0 (we_I (we_var rfl ⟨_, rfl, we_var rfl ⟨_, rfl, .inl (by omega), _, rfl, we_var rfl ⟨_, rfl, _, rfl, we_var rfl ⟨_, rfl, Bd.cd hb hbd, _, rfl, hR⟩⟩⟩⟩)))
def nexts (base t b : Int) (n : Nat) : List (Int × Int) := (List.range n).map fun (k : Nat) => (ldig base t b + (k : Int), base * t - (ldig base t b + (k : Int)) * b)
def nD (x : Int × Int) : D := .tup [.int x.1, .int x.2]
def nextN (base t b : Int) : Nat := (gdig base t b + 1 - ldig base t b).toNat
def S_next_digits : List D → (D → Prop) → Prop := fun ds R => ∃ base t b : Int, ds = [.int base, .int t, .int b] ∧ 2 ≤ base ∧ base ≤ 5 ∧ 0 < b ∧ Bd 8999 b ∧ -b ≤ t ∧ t ≤ b ∧ R (.lst ((nexts base t b (nextN base t b)).map nD))
theorem l_next_digits : ∀ ds R, S_next_digits ds R → ds.length = 3 := fun ds R ⟨_, _, _, e, _⟩ => by rw [e]; rfl
theorem nexts_succ (base t b : Int) (n : Nat) : nexts base t b (n + 1) = nexts base t b n ++ [(ldig base t b + (n : Int), base * t - (ldig base t b + (n : Int)) * b)] := by
  unfold nexts
  rw [List.range_succ, List.map_append]
  rfl
theorem d_next_digits (T : Txt K mg) : Dfn P w K mg bs 2 "next_digits" ["base", "top", "bottom"] S_next_digits := by
  have D_least_digit := d_least_digit (P := P) (w := w) (bs := bs) T
  have D_greatest_digit := d_greatest_digit (P := P) (w := w) (bs := bs) T
  refine mkD (k := 1) T.s_next_digits sc_next_digits (fun _ _ _ _ _ _ us hl => match us, hl with | [_, _, _], _ => rfl) l_next_digits fun f cdv A outer s H E hr => ?_
  have hu := hu_of hr
  refine ⟨_, (pss_cons (ps_set (i := 3) sc_next_digits.nd rfl (Or.inl rfl) (pe_callK0 (K0 := K) (by rfl) D_least_digit (hr.mono (by decide)) (pa_cons (pv 0) (pa_cons (pv 1) (pa_cons (pv 2) pa_nil)))))
      (pss_cons (ps_set (i := 4) sc_next_digits.nd rfl (Or.inl rfl) (pe_callK0 (K0 := K) (by rfl) D_greatest_digit (hr.mono (by decide)) (pa_cons (pv 0) (pa_cons (pv 1) (pa_cons (pv 2) pa_nil)))))
      (pss_one (ps_ret (pe_lc (own := [("digit", 5)]) (g := (gName 5)) rfl sc_next_digits.nd (pi_range2 rfl T.n_range (pa_cons (pv 3) (pa_cons (pe_op op_add (pv 4) pe_int) pa_nil))) (blkOk_by (N := N_next_digits) (sc := defScope s_next_digits) (by decide +kernel)) (fun _ _ _ _ _ => by exact (pg_name (i := 5) sc_next_digits.nd rfl (Or.inl rfl))) (fun _ _ _ _ _ => by exact pts_nil) (fun _ _ _ _ _ => by exact (pe_tup (pa_cons (pv 5) (pa_cons (pe_op op_sub (pe_op op_mulA (pv 0) (pv 1)) (pe_op op_mulA (pv 5) (pv 2))) pa_nil))))))))), fun h H0 G0 ds R hS => ?_⟩
  obtain ⟨base, t, b, rfl, h1, h2, hb, hbd, ht1, ht2, hR⟩ := hS
  refine ws_seq (ws_asg (we_call (wa_cons (we_var rfl (wa_cons (we_var rfl (wa_cons (we_var rfl (wa_nil ⟨base, t, b, rfl, h1, h2, hb, hbd, ?_⟩)))))))))
  refine ws_seq (ws_asg (we_call (wa_cons (we_var rfl (wa_cons (we_var rfl (wa_cons (we_var rfl (wa_nil ⟨base, t, b, rfl, h1, h2, hb, hbd, ?_⟩)))))))))
  have l1 := ldig_ge base t b
  have l2 := gdig_le base t b
  refine ws_ret (we_F (wf_lc2 (wa_cons (we_var rfl (wa_cons (we_I0 (we_var rfl ⟨_, rfl, we_int ⟨_, rfl, wa_nil ?_⟩⟩)))))))
  have hle := dig_le h1 hb ht1 ht2
  refine ⟨_, _, rfl, by omega, by omega, fun k acc => acc = (nexts base t b k).map nD, rfl, ?_, fun acc e => by rw [e]; exact hR⟩
  rintro k acc hk rfl hl
  refine wgp_name (by decide) (wt_yes ?_)
  rw [if_pos rfl]
  refine we_tup (wa_cons (we_var rfl (wa_cons (we_I0 (we_I (we_var rfl ⟨_, rfl, we_var rfl ⟨_, rfl, .inl (by omega), _, rfl, ?_⟩⟩))))))
  refine we_I (we_var rfl ⟨_, rfl, we_var rfl ⟨_, rfl, .inl (by omega), _, rfl, wa_nil ⟨len2, ?_⟩⟩⟩)
  dsimp only
  rw [nexts_succ, List.map_append]
  rfl
/-! ### many_beginnings -/
theorem Pn_nexts {base t b : Int} (m : Nat) (h1 : 2 ≤ base) (hb : 0 < b) (h2 : -b ≤ t) (h3 : t ≤ b) : Sm (fun d => Pn base b m (base * t - d * b)) (ldig base t b) (nextN base t b) = Pn base b (m + 1) t := by
  have l1 := ldig_ge base t b
  have l2 := gdig_le base t b
  have l3 := dig_le h1 hb h2 h3
  have e : Pn base b (m + 1) t = Sm (fun d => if ldig base t b ≤ d ∧ d ≤ gdig base t b then (fun d => Pn base b m (base * t - d * b)) d else 0) (1 - base) (2 * base - 1).toNat := by
    show Sm _ _ _ = _
    refine Sm_congr fun k hk => ?_
    have hi : (ldig base t b ≤ 1 - base + (k : Int) ∧ 1 - base + (k : Int) ≤ gdig base t b) ↔ (-b ≤ base * t - (1 - base + (k : Int)) * b ∧ base * t - (1 - base + (k : Int)) * b ≤ b) := by
      rw [ldig_le hb, le_gdig hb]
      constructor
      · rintro ⟨⟨_, a⟩, ⟨_, c⟩⟩; exact ⟨c, a⟩
      · rintro ⟨a, c⟩; exact ⟨⟨by omega, c⟩, ⟨by omega, a⟩⟩
    dsimp only
    by_cases hc : -b ≤ base * t - (1 - base + (k : Int)) * b ∧ base * t - (1 - base + (k : Int)) * b ≤ b
    · rw [if_pos hc, if_pos (hi.mpr hc)]
    · rw [if_neg hc, if_neg fun z => hc (hi.mp z)]
  rw [e]
  exact (Sm_part (by omega) (by omega) (by omega)).symm
theorem inl_inj : ∀ a b : Int, (Sum.inl a : Key) = Sum.inl b → a = b := fun _ _ e => Sum.inl.inj e
theorem nexts_at {base t b : Int} {n k : Nat} {x : D} (h : ((nexts base t b n).map nD)[k]? = some x) : x = nD (ldig base t b + (k : Int), base * t - (ldig base t b + (k : Int)) * b) ∧ k < n := by
  have hk : k < n := by
    have := (List.getElem?_eq_some_iff.mp h).1
    rw [List.length_map] at this
    unfold nexts at this
    rw [List.length_map, List.length_range] at this
    exact this
  unfold nexts at h
  rw [List.getElem?_map, List.getElem?_map, List.getElem?_range hk] at h
  cases h
  exact ⟨rfl, hk⟩
theorem enc_at {α κ : Type} {e : α → κ} {L : List (α × Int)} {k : Nat} {y : κ} {x : D} (h : (encA e L)[k]? = some (y, x)) : ∃ a n, L[k]? = some (a, n) ∧ y = e a ∧ x = .int n := by
  unfold encA at h
  rw [List.getElem?_map] at h
  obtain ⟨z, hz, e1⟩ := Option.map_eq_some_iff.mp h
  cases e1
  exact ⟨_, _, hz, rfl, rfl⟩
def S_many_beginnings : List D → (D → Prop) → Prop := fun ds R => ∃ base t b n : Int, ds = [.int base, fr (t, b), .int n] ∧ 2 ≤ base ∧ base ≤ 5 ∧ Num t b ∧ b ≤ 400000 ∧ 0 ≤ n ∧ n ≤ 1000 ∧ R (.int (Pn base b n.toNat t))
theorem l_many_beginnings : ∀ ds R, S_many_beginnings ds R → ds.length = 3 := fun ds R ⟨_, _, _, _, e, _⟩ => by rw [e]; rfl
theorem d_many_beginnings (T : Txt K mg) : Dfn P w K mg bs 5 "many_beginnings" ["base", "x", "many"] S_many_beginnings := by
  have D_check_base := d_check_base (P := P) (w := w) (bs := bs) T
  have D_check_number := d_check_number (P := P) (w := w) (bs := bs) T
  have D_check_many := d_check_many (P := P) (w := w) (bs := bs) T
  have D_next_digits := d_next_digits (P := P) (w := w) (bs := bs) T
  refine mkD (k := 4) T.s_many_beginnings sc_many_beginnings (fun _ _ _ _ _ _ us hl => match us, hl with | [_, _, _], _ => rfl) l_many_beginnings fun f cdv A outer s H E hr => ?_
  have hu := hu_of hr
  refine ⟨_, (pss_cons (ps_expr (pe_callK0 (K0 := K) (by rfl) D_check_base (hr.mono (by decide)) (pa_cons (pv 0) pa_nil)))
      (pss_cons (ps_expr (pe_callK0 (K0 := K) (by rfl) D_check_number (hr.mono (by decide)) (pa_cons (pv 1) pa_nil)))
      (pss_cons (ps_expr (pe_callK0 (K0 := K) (by rfl) D_check_many (hr.mono (by decide)) (pa_cons (pv 2) pa_nil)))
      (pss_cons (ps_set (i := 3) sc_many_beginnings.nd rfl (Or.inl rfl) (pe_disp (pps_cons (pe_ix (ix_tupK (K0 := K) (by rfl)) (pv 1) pe_int (fun _ _ => rfl)) pe_int pps_nil) (by rfl) (by rfl) (fun z => by cases z) (by decide)))
      (pss_cons (ps_for PassesOwn.never rfl (pi_range1 rfl T.n_range (pa_cons (pv 2) pa_nil)) (pg_name (i := 4) sc_many_beginnings.nd rfl (Or.inl rfl))
      (pss_cons (ps_set (i := 5) sc_many_beginnings.nd rfl (Or.inl rfl) pe_dnewK)
      (pss_cons (ps_lock (ps_for PassesOwn.never rfl (pi_items (pv 3)) (pg_tup rfl (pgs_cons (pg_name (i := 6) sc_many_beginnings.nd rfl (Or.inl rfl)) (pgs_cons (pg_name (i := 7) sc_many_beginnings.nd rfl (Or.inl rfl)) pgs_nil)))
      (pss_one (ps_for PassesOwn.never rfl (pi_listK (K0 := K) (by rfl) (pe_callK0 (K0 := K) (by rfl) D_next_digits (hr.mono (by decide)) (pa_cons (pv 0) (pa_cons (pv 6) (pa_cons (pe_ix (ix_tupK (K0 := K) (by rfl)) (pv 1) pe_int (fun _ _ => rfl)) pa_nil))))) (pg_tup rfl (pgs_cons (pg_name (i := 4) sc_many_beginnings.nd rfl (Or.inl rfl)) (pgs_cons (pg_name (i := 8) sc_many_beginnings.nd rfl (Or.inl rfl)) pgs_nil)))
      (pss_one (ps_dput hu (pv 5) (pv 8) (pe_op op_add (pe_dget2 hu (pv 5) (pv 8) pe_int ⟨by rfl, by rfl, by rfl, by rfl⟩) (pv 7)) rfl))))))
      (pss_one (ps_set (i := 3) sc_many_beginnings.nd rfl (Or.inl rfl) (pv 5))))))
      (pss_one (ps_ret (pe_sumVals rfl (by rfl) T.n_sum (pv 3))))))))), fun h H0 G0 ds R hS => ?_⟩
  obtain ⟨base, t, b, n, rfl, h1, h2, hn, hb4, hn0, hn1, hR⟩ := hS
  obtain ⟨hb, hg, ht1, ht2⟩ := id hn
  have hbd : Bd 8999 b := (Bd.small (k := 64) (by omega)).mono (by decide)
  refine ws_seq (ws_drop (we_call (wa_cons (we_var rfl (wa_nil ⟨_, rfl, ⟨_, rfl⟩, ?_, ?_⟩)))))
  · show (decide (2 ≤ base) && decide (base ≤ 5)) = true
    rw [decide_eq_true h1, decide_eq_true h2]; rfl
  refine ws_seq (ws_drop (we_call (wa_cons (we_var rfl (wa_nil ⟨t, b, rfl, hn, ?_⟩)))))
  refine ws_seq (ws_drop (we_call (wa_cons (we_var rfl (wa_nil ⟨n, rfl, hn0, hn1, ?_⟩)))))
  refine ws_seq (ws_asgF (wf_disp1 (we_fr0 (we_var rfl ⟨_, rfl, .inl t, rfl, we_int ?_⟩))))
  refine ws_seq (ws_for1 (wa_cons (we_var rfl (wa_nil ⟨n, rfl, by omega, by omega, fun i ρ => ∃ (L : List (Int × Int)) (r4 r5 r6 r7 r8 : Option Cell), (L.map (·.1)).Nodup ∧ (∀ x ∈ L.map (·.1), -b ≤ x ∧ x ≤ b) ∧ aW (Pn base b (n.toNat - i)) L = Pn base b n.toNat t ∧
    ρ = [some (.d (.int base)), some (.d (fr (t, b))), some (.d (.int n)), some (.ok (encA Sum.inl L)), r4, r5, r6, r7, r8], ⟨[(t, 1)], _, _, _, _, _, by simp, ?_, ?_, rfl⟩, ?_, ?_⟩))))
  · intro x hx
    have : x = t := by simpa using hx
    omega
  · show 1 * Pn base b (n.toNat - 0) t + 0 = _
    rw [Nat.sub_zero]; omega
  · rintro i ρ hi ⟨L, r4, r5, r6, r7, r8, nd, rg, hw, rfl⟩
    obtain ⟨m, hm⟩ : ∃ m, n.toNat - i = m + 1 := ⟨n.toNat - i - 1, by omega⟩
    have hm2 : n.toNat - (i + 1) = m := by omega
    rw [hm] at hw
    refine wg_name (ws_seq (ws_asgF (wf_dK ?_)))
    refine ws_seq (ws_items rfl (fun k ρ => ∃ (L' : List (Int × Int)) (r4 r6 r7 r8 : Option Cell), (L'.map (·.1)).Nodup ∧ (∀ x ∈ L'.map (·.1), -b ≤ x ∧ x ≤ b) ∧ aW (Pn base b m) L' = aW (Pn base b (m + 1)) (L.take k) ∧
      ρ = [some (.d (.int base)), some (.d (fr (t, b))), some (.d (.int n)), none, r4, some (.ok (encA Sum.inl L')), r6, r7, r8]) ?_ ⟨[], _, _, _, _, List.nodup_nil, ?_, rfl, rfl⟩ ?_ ?_)
    · rintro k ρ ⟨L', s4, s6, s7, s8, _, _, _, rfl⟩
      rfl
    · intro x hx; cases hx
    · rintro k key x c ρ hk ⟨L', s4, s6, s7, s8, nd', rg', hw', rfl⟩
      obtain ⟨t', n', hL, rfl, rfl⟩ := enc_at hk
      have ht' := rg t' (List.mem_map.mpr ⟨_, List.mem_of_getElem? hL, rfl⟩)
      refine wg_tup ⟨_, rfl, rfl, wgs_cons ⟨_, _, rfl, wg_name (wgs_cons ⟨_, _, rfl, wg_name (wgs_nil ⟨rfl, ?_⟩)⟩)⟩⟩
      refine ws_forL (we_call (wa_cons (we_var rfl (wa_cons (we_var rfl (wa_cons (we_fr1 (we_var rfl ⟨_, rfl, wa_nil ?_⟩))))))))
      refine ⟨base, t', b, rfl, h1, h2, hb, hbd, ht'.1, ht'.2, _, rfl, fun j ρ => ∃ (L'' : List (Int × Int)) (r4 r8 : Option Cell), (L''.map (·.1)).Nodup ∧ (∀ x ∈ L''.map (·.1), -b ≤ x ∧ x ≤ b) ∧ aW (Pn base b m) L'' = aW (Pn base b m) L' + n' * Sm (fun d => Pn base b m (base * t' - d * b)) (ldig base t' b) j ∧
        ρ = [some (.d (.int base)), some (.d (fr (t, b))), some (.d (.int n)), some c, r4, some (.ok (encA Sum.inl L'')), some (.d (.int t')), some (.d (.int n')), r8], ⟨L', _, _, nd', rg', ?_, rfl⟩, ?_, ?_⟩
      · show _ = aW (Pn base b m) L' + n' * 0
        omega
      · rintro j x ρ hj ⟨L'', q4, q8, nd'', rg'', hw'', rfl⟩
        obtain ⟨rfl, hjn⟩ := nexts_at hj
        have l1 := ldig_ge base t' b
        have hnn : (ldig base t' b + (j : Int)) ≤ gdig base t' b := by
          have : nextN base t' b = (gdig base t' b + 1 - ldig base t' b).toNat := rfl
          omega
        have hin := dig_in (base := base) (t := t') (d := ldig base t' b + (j : Int)) hb (by omega) hnn
        have hlen : (encA (Sum.inl : Int → Key) L'').length < 4000000 := by
          unfold encA
          rw [List.length_map, ← List.length_map (f := (·.1))]
          have := len_range (2 * b + 1).toNat (-b) nd'' fun x hx => by have := rg'' x hx; omega
          omega
        refine wg_tup ⟨_, rfl, rfl, wgs_cons ⟨_, _, rfl, wg_name (wgs_cons ⟨_, _, rfl, wg_name (wgs_nil ⟨rfl, ?_⟩)⟩)⟩⟩
        refine ws_dput rfl hlen (we_I0 (we_dget2 rfl (we_var rfl ⟨Sum.inl _, rfl, we_int ⟨_, enc_get inl_inj _ _, we_var rfl ⟨_, rfl, we_var rfl ⟨Sum.inl _, rfl, ?_⟩⟩⟩⟩)))
        have e := enc_put inl_inj (base * t' - (ldig base t' b + (j : Int)) * b) n' nd''
        dsimp only [inj]
        rw [e]
        refine ⟨aAdd L'' (base * t' - (ldig base t' b + (j : Int)) * b) n', _, _, nodup_add nd'', fun x hx => ?_, ?_, rfl⟩
        · rcases mem_add hx with hx | hx
          · exact rg'' x hx
          · rw [hx]; exact hin
        · rw [aW_add, hw'']
          show _ = _ + n' * (Sm _ _ j + Pn base b m (base * t' - (ldig base t' b + (j : Int)) * b))
          rw [Int.mul_add, Int.add_assoc]
      · rintro ρ ⟨L'', q4, q8, nd'', rg'', hw'', rfl⟩
        refine ⟨rfl, L'', _, _, _, _, nd'', rg'', ?_, rfl⟩
        rw [List.length_map] at hw''
        have hl : (nexts base t' b (nextN base t' b)).length = nextN base t' b := by unfold nexts; rw [List.length_map, List.length_range]
        rw [hl, Pn_nexts m h1 hb ht'.1 ht'.2] at hw''
        have hk' : k < L.length := (List.getElem?_eq_some_iff.mp hL).1
        have htk : L.take (k + 1) = L.take k ++ [(t', n')] := by
          rw [List.take_succ, hL]; rfl
        rw [hw'', htk, aW_app, hw']
        show _ = _ + (n' * Pn base b (m + 1) t' + 0)
        omega
    · rintro ρ ⟨L', s4, s6, s7, s8, nd', rg', hw', rfl⟩
      refine ws_move rfl rfl ?_
      refine ⟨L', _, _, _, _, _, nd', rg', ?_, rfl⟩
      have hl : (encA (Sum.inl : Int → Key) L).length = L.length := by unfold encA; rw [List.length_map]
      rw [hl, List.take_length] at hw'
      rw [hm2, hw', hw]
  · rintro ρ ⟨L, r4, r5, r6, r7, r8, nd, rg, hw, rfl⟩
    refine ws_ret (we_sumVals (is := L.map (·.2)) rfl ?_ ?_)
    · unfold encA
      rw [List.map_map, List.map_map]
      rfl
    · rw [Nat.sub_self] at hw
      have e : aW (Pn base b 0) L = (L.map (·.2)).sum := aW_one L
      rw [← e, hw]
      exact hR
/-! ### beginnings -/
def nx (base b t : Int) : List (Int × Int) := nexts base t b (nextN base t b)
theorem nexts_len (base t b : Int) (n : Nat) : (nexts base t b n).length = n := by unfold nexts; rw [List.length_map, List.length_range]
def lvAt (base b : Int) (ys : List (List Int × Int)) (i : Nat) : List (Nat × Int × Int) := match ys[i]? with | some y => (nx base b y.2).map fun z => (i, z.1, z.2) | none => []
def lvN (base b : Int) (ys : List (List Int × Int)) (k : Nat) : List (Nat × Int × Int) := (List.range k).flatMap (lvAt base b ys)
theorem lvN_succ (base b : Int) (ys : List (List Int × Int)) (k : Nat) : lvN base b ys (k + 1) = lvN base b ys k ++ lvAt base b ys k := by
  unfold lvN
  rw [List.range_succ, List.flatMap_append]
  simp
theorem lvN_mem {base b : Int} {ys : List (List Int × Int)} {k : Nat} {w : Nat × Int × Int} (h : w ∈ lvN base b ys k) : ∃ y z, ys[w.1]? = some y ∧ z ∈ nx base b y.2 ∧ w = (w.1, z.1, z.2) := by
  unfold lvN at h
  obtain ⟨i, _, hi⟩ := List.mem_flatMap.mp h
  unfold lvAt at hi
  cases e : ys[i]? with
  | none => rw [e] at hi; cases hi
  | some y =>
    rw [e] at hi
    obtain ⟨z, hz, rfl⟩ := List.mem_map.mp hi
    exact ⟨y, z, e, hz, rfl⟩
def bgExt (ys : List (List Int × Int)) (w : Nat × Int × Int) : List Int × Int := ((ys[w.1]?.getD ([], 0)).1 ++ [w.2.1], w.2.2)
/-- the beginnings of n digits, with what is left (times b) -/
def Bg (base b t : Int) : Nat → List (List Int × Int)
  | 0 => [([], t)]
  | n + 1 => (lvN base b (Bg base b t n) (Bg base b t n).length).map (bgExt (Bg base b t n))
def lv (base b t : Int) (n : Nat) : List (Nat × Int × Int) := lvN base b (Bg base b t n) (Bg base b t n).length
theorem Bg_succ (base b t : Int) (n : Nat) : Bg base b t (n + 1) = (lv base b t n).map (bgExt (Bg base b t n)) := rfl
theorem lv_left (base b t : Int) (n : Nat) : (lv base b t n).map (fun w => w.2.2) = (Bg base b t (n + 1)).map (·.2) := by
  rw [Bg_succ, List.map_map]
  rfl
def okB : List (List (Nat × Int × Int)) → Nat → Prop
  | [], _ => True
  | l :: ls, i => ∃ w, l[i]? = some w ∧ okB ls w.1
def trB : List (List (Nat × Int × Int)) → Nat → List Int
  | [], _ => []
  | l :: ls, i => match l[i]? with | some w => w.2.1 :: trB ls w.1 | none => []
def lvs (base b t : Int) (n : Nat) : List (List (Nat × Int × Int)) := (List.range n).map (lv base b t)
theorem lvs_succ (base b t : Int) (n : Nat) : lvs base b t (n + 1) = lvs base b t n ++ [lv base b t n] := by
  unfold lvs
  rw [List.range_succ, List.map_append]
  rfl
theorem traced {base b t : Int} : ∀ (n i : Nat) (y : List Int × Int), (Bg base b t n)[i]? = some y → okB (lvs base b t n).reverse i ∧ (trB (lvs base b t n).reverse i).reverse = y.1
  | 0, i, y, h => by
    have : y = ([], t) := by
      have := List.mem_of_getElem? h
      simpa [Bg] using this
    subst this
    exact ⟨True.intro, rfl⟩
  | n + 1, i, y, h => by
    rw [Bg_succ, List.getElem?_map] at h
    obtain ⟨w, hw, e⟩ := Option.map_eq_some_iff.mp h
    subst e
    obtain ⟨y', z, hy, hz, ew⟩ := lvN_mem (List.mem_of_getElem? hw)
    obtain ⟨o, tr⟩ := traced n w.1 y' hy
    rw [lvs_succ, List.reverse_append]
    refine ⟨⟨w, hw, o⟩, ?_⟩
    show (trB (lv base b t n :: (lvs base b t n).reverse) i).reverse = _
    unfold trB
    rw [hw]
    dsimp only
    rw [List.reverse_cons, tr]
    unfold bgExt
    rw [hy]
    rfl
def wD (w : Nat × Int × Int) : D := .tup [.int (w.1 : Int), .int w.2.1, .int w.2.2]
def lvD (l : List (Nat × Int × Int)) : D := .lst (l.map wD)
def S_traced_back : List D → (D → Prop) → Prop := fun ds R => ∃ (Ls : List (List (Nat × Int × Int))) (i : Nat), ds = [.lst (Ls.map lvD), .int (i : Int)] ∧ Ls.length ≤ 1000 ∧ okB Ls.reverse i ∧ R (.tup ((trB Ls.reverse i).reverse.map D.int))
theorem l_traced_back : ∀ ds R, S_traced_back ds R → ds.length = 2 := fun ds R ⟨_, _, e, _⟩ => by rw [e]; rfl
theorem d_traced_back (T : Txt K mg) : Dfn P w K mg bs 1 "traced_back" ["levels", "last"] S_traced_back := by
  refine mkD (k := 0) T.s_traced_back sc_traced_back (fun _ _ _ _ _ _ us hl => match us, hl with | [_, _], _ => rfl) l_traced_back fun f cdv A outer s H E hr => ?_
  have hu := hu_of hr
  refine ⟨_, (pss_cons (ps_set (i := 2) sc_traced_back.nd rfl (Or.inl rfl) (pv 1))
      (pss_cons (ps_set (i := 3) sc_traced_back.nd rfl (Or.inl rfl) (pe_lst pa_nil))
      (pss_cons (ps_for PassesOwn.never rfl (pi_reversed (by rfl) T.n_reversed (pa_cons (pv 0) pa_nil)) (pg_name (i := 4) sc_traced_back.nd rfl (Or.inl rfl))
      (pss_cons (ps_asg (pe_ix (ix_listK (K0 := K) (by rfl)) (pv 4) (pv 2) (fun _ _ => rfl)) (pg_tup rfl (pgs_cons (pg_name (i := 2) sc_traced_back.nd rfl (Or.inl rfl)) (pgs_cons (pg_name (i := 5) sc_traced_back.nd rfl (Or.inl rfl)) (pgs_cons (pg_name (i := 6) sc_traced_back.nd rfl (Or.inl rfl)) pgs_nil)))))
      (pss_one (ps_expr (pe_bm PySem.F.plainAttrs_list PySem.F.slot_list_append PySem.F.type_list_append mt_append (pv 3) (pa_cons (pv 5) pa_nil))))))
      (pss_one (ps_ret (pe_callTy (call_tupleK (K0 := K) (by rfl)) (by rfl) T.n_tuple (by decide +kernel) (pa_cons (pe_revL (pv 3)) pa_nil))))))), fun h H0 G0 ds R hS => ?_⟩
  obtain ⟨Ls, i, rfl, hl, ho, hR⟩ := hS
  refine ws_seq (ws_asg (we_var rfl ?_))
  refine ws_seq (ws_asgF (wf_lst (wa_nil ⟨by decide, ?_⟩)))
  refine ws_seq (ws_forRev (wa_cons (we_var rfl (wa_nil ⟨_, rfl, fun k ρ => ∃ (j : Nat) (acc : List Int) (r4 r5 r6 : Option Cell), okB (Ls.reverse.drop k) j ∧ acc ++ trB (Ls.reverse.drop k) j = trB Ls.reverse i ∧ acc.length = k ∧
    ρ = [some (.d (.lst (Ls.map lvD))), some (.d (.int (i : Int))), some (.d (.int (j : Int))), some (.ol (acc.map D.int)), r4, r5, r6], ⟨i, [], _, _, _, ho, rfl, rfl, rfl⟩, ?_, ?_⟩))))
  · rintro k x ρ hk ⟨j, acc, r4, r5, r6, ho', he, hlen, rfl⟩
    rw [← List.map_reverse, List.getElem?_map] at hk
    obtain ⟨l, hl2, rfl⟩ := Option.map_eq_some_iff.mp hk
    have hd : Ls.reverse.drop k = l :: Ls.reverse.drop (k + 1) := by
      have hk' := (List.getElem?_eq_some_iff.mp hl2)
      obtain ⟨h1, h2⟩ := hk'
      rw [List.drop_eq_getElem_cons h1, h2]
    rw [hd] at ho' he
    obtain ⟨w, hw, o2⟩ := ho'
    refine wg_name (ws_seq (ws_asgG (we_ixL (we_var rfl ⟨_, rfl, we_var rfl ⟨_, _, rfl, atI_nat (by rw [List.getElem?_map, hw]; rfl), ?_⟩⟩))))
    refine wg_tup ⟨_, rfl, rfl, wgs_cons ⟨_, _, rfl, wg_name (wgs_cons ⟨_, _, rfl, wg_name (wgs_cons ⟨_, _, rfl, wg_name (wgs_nil ⟨rfl, ?_⟩)⟩)⟩)⟩⟩
    refine ws_append rfl (by rw [List.length_map, hlen]; have := (List.getElem?_eq_some_iff.mp hl2).1; rw [List.length_reverse] at this; omega) (we_var rfl ?_)
    refine ⟨w.1, acc ++ [w.2.1], some (.d (lvD l)), some (.d (.int w.2.1)), some (.d (.int w.2.2)), o2, ?_, by rw [List.length_append, hlen]; rfl, ?_⟩
    · rw [← he]
      show _ = acc ++ trB (l :: _) j
      conv => rhs; unfold trB
      rw [hw, List.append_assoc]
      rfl
    · rw [List.map_append]; rfl
  · rintro ρ ⟨j, acc, r4, r5, r6, ho', he, hlen, rfl⟩
    refine ws_freeze 3 rfl rfl (ws_ret (we_tupleOf (we_revL (we_var rfl ⟨_, rfl, _, .inl rfl, ?_⟩))))
    rw [List.length_map, ← List.length_reverse, List.drop_length] at he
    have e : acc = trB Ls.reverse i := by rw [← he]; show acc = acc ++ []; rw [List.append_nil]
    rw [← List.map_reverse, e]
    exact hR
theorem nx_len {base t b : Int} (h1 : 2 ≤ base) (h2 : base ≤ 5) (hb : 0 < b) (ht1 : -b ≤ t) (ht2 : t ≤ b) : (nx base b t).length ≤ 9 := by
  unfold nx
  rw [nexts_len]
  have l1 := ldig_ge base t b
  have l2 := gdig_le base t b
  unfold nextN
  omega
theorem nx_in {base t b : Int} (h1 : 2 ≤ base) (hb : 0 < b) {z : Int × Int} (h : z ∈ nx base b t) : -b ≤ z.2 ∧ z.2 ≤ b := by
  unfold nx nexts at h
  obtain ⟨k, hk, rfl⟩ := List.mem_map.mp h
  have hk' := List.mem_range.mp hk
  have l1 := ldig_ge base t b
  unfold nextN at hk'
  exact dig_in (base := base) (t := t) (d := ldig base t b + (k : Int)) hb (by omega) (by omega)
theorem Bg_in {base t b : Int} (h1 : 2 ≤ base) (hb : 0 < b) (ht : -b ≤ t ∧ t ≤ b) : ∀ (n : Nat) (y : List Int × Int), y ∈ Bg base b t n → -b ≤ y.2 ∧ y.2 ≤ b
  | 0, y, h => by
    have : y = ([], t) := by simpa [Bg] using h
    rw [this]; exact ht
  | n + 1, y, h => by
    rw [Bg_succ] at h
    obtain ⟨w, hw, rfl⟩ := List.mem_map.mp h
    obtain ⟨y', z, _, hz, e⟩ := lvN_mem hw
    have := nx_in h1 hb hz
    rw [e]
    exact this
def bgD (y : List Int × Int) : D := .tup (y.1.map D.int)
def S_beginnings : List D → (Out → Prop) → Prop := fun ds R => ∃ base t b n : Int, ds = [.int base, fr (t, b), .int n] ∧ 2 ≤ base ∧ base ≤ 5 ∧ Num t b ∧ b ≤ 400000 ∧ 0 ≤ n ∧ n ≤ 1000 ∧
  ((∀ j : Nat, j ≤ n.toNat → (Bg base b t j).length ≤ 2000) → R (.new (.ol ((Bg base b t n.toNat).map bgD)))) ∧ ∀ j : Nat, j ≤ n.toNat → 2000 < (Bg base b t j).length → R (.ex "TooMany" [("most", .int 2000)])
theorem l_beginnings : ∀ ds R, S_beginnings ds R → ds.length = 3 := fun ds R ⟨_, _, _, _, e, _⟩ => by rw [e]; rfl
theorem d_beginnings (T : Txt K mg) : DfnX P w K mg bs 5 "beginnings" ["base", "x", "many"] (S_beginnings) := by
  have D_check_base := d_check_base (P := P) (w := w) (bs := bs) T
  have D_check_number := d_check_number (P := P) (w := w) (bs := bs) T
  have D_check_many := d_check_many (P := P) (w := w) (bs := bs) T
  have D_traced_back := d_traced_back (P := P) (w := w) (bs := bs) T
  have D_next_digits := d_next_digits (P := P) (w := w) (bs := bs) T
  obtain ⟨C_TooMany, X_TooMany⟩ := x_TooMany (P := P) (w := w) (bs := bs) T
  refine mkX (k := 4) T.s_beginnings sc_beginnings (fun _ _ _ _ _ _ us hl => match us, hl with | [_, _, _], _ => rfl) l_beginnings fun f cdv A outer s H E hr => ?_
  have hu := hu_of hr
  obtain ⟨t_MOST_BEGINNINGS, g_MOST_BEGINNINGS⟩ := T.c_MOST_BEGINNINGS
  refine ⟨_, (pss_cons (ps_expr (pe_callK0 (K0 := K) (by rfl) D_check_base (hr.mono (by decide)) (pa_cons (pv 0) pa_nil)))
      (pss_cons (ps_expr (pe_callK0 (K0 := K) (by rfl) D_check_number (hr.mono (by decide)) (pa_cons (pv 1) pa_nil)))
      (pss_cons (ps_expr (pe_callK0 (K0 := K) (by rfl) D_check_many (hr.mono (by decide)) (pa_cons (pv 2) pa_nil)))
      (pss_cons (ps_set (i := 3) sc_beginnings.nd rfl (Or.inr rfl) (pe_lst pa_nil))
      (pss_cons (ps_set (i := 4) sc_beginnings.nd rfl (Or.inl rfl) (pe_lst (pa_cons (pe_ix (ix_tupK (K0 := K) (by rfl)) (pv 1) pe_int (fun _ _ => rfl)) pa_nil)))
      (pss_cons (ps_for (passes_of rfl) rfl (pi_range1 rfl T.n_range (pa_cons (pv 2) pa_nil)) (pg_name (i := 5) sc_beginnings.nd rfl (Or.inl rfl))
      (pss_cons (ps_set (i := 6) sc_beginnings.nd rfl (Or.inl rfl) (pe_lst pa_nil))
      (pss_cons (ps_for (passes_of rfl) rfl (pi_enum (by rfl) T.n_enumerate (pa_cons (pv 4) pa_nil)) (pg_tup rfl (pgs_cons (pg_name (i := 7) sc_beginnings.nd rfl (Or.inl rfl)) (pgs_cons (pg_name (i := 8) sc_beginnings.nd rfl (Or.inl rfl)) pgs_nil)))
      (pss_one (ps_for (passes_of rfl) rfl (pi_listK (K0 := K) (by rfl) (pe_callK0 (K0 := K) (by rfl) D_next_digits (hr.mono (by decide)) (pa_cons (pv 0) (pa_cons (pv 8) (pa_cons (pe_ix (ix_tupK (K0 := K) (by rfl)) (pv 1) pe_int (fun _ _ => rfl)) pa_nil))))) (pg_tup rfl (pgs_cons (pg_name (i := 9) sc_beginnings.nd rfl (Or.inl rfl)) (pgs_cons (pg_name (i := 10) sc_beginnings.nd rfl (Or.inl rfl)) pgs_nil)))
      (pss_one (ps_expr (pe_bm PySem.F.plainAttrs_list PySem.F.slot_list_append PySem.F.type_list_append mt_append (pv 6) (pa_cons (pe_tup (pa_cons (pv 7) (pa_cons (pv 9) (pa_cons (pv 10) pa_nil)))) pa_nil)))))))
      (pss_cons (ps_if (pt_cmpR op_gt (pe_callB (call_lenK (K0 := K) (by rfl)) (by rfl) T.n_len (by decide +kernel) (pa_cons (pv 6) pa_nil)) (pe_glob (v := .int 2000) rfl g_MOST_BEGINNINGS ⟨_, rfl⟩) (nomark _)) (pss_one (ps_rz1 X_TooMany (hr.mono (by decide)) (takes_of rfl rfl rfl rfl) (pe_glob (v := .int 2000) rfl g_MOST_BEGINNINGS ⟨_, rfl⟩))) pss_nil)
      (pss_cons (ps_expr (pe_bm PySem.F.plainAttrs_list PySem.F.slot_list_append PySem.F.type_list_append mt_append (pv 3) (pa_cons (pv 6) pa_nil)))
      (pss_one (ps_setLc (i := 4) (own := [("at", 7), ("digit", 9), ("left", 10)]) (g := (gTup K 3 (gCons (gName 7) (gCons (gName 9) (gCons (gName 10) gNil))))) rfl sc_beginnings.nd rfl rfl (sw_true rfl rfl rfl (by decide +kernel)) (pi_listK (K0 := K) (by rfl) (pv 6)) (blkOk_by (N := N_beginnings) (sc := defScope s_beginnings) (by decide +kernel)) (fun _ _ _ _ _ => by exact (pg_tup rfl (pgs_cons (pg_name (i := 7) sc_beginnings.nd rfl (Or.inl rfl)) (pgs_cons (pg_name (i := 9) sc_beginnings.nd rfl (Or.inl rfl)) (pgs_cons (pg_name (i := 10) sc_beginnings.nd rfl (Or.inl rfl)) pgs_nil))))) (fun _ _ _ _ _ => by exact pts_nil) (fun _ _ _ _ _ => by exact (pv 10)))))))))
      (pss_one (ps_ret (pe_lc (own := [("last", 11)]) (g := (gName 11)) rfl sc_beginnings.nd (pi_range1 rfl T.n_range (pa_cons (pe_callB (call_lenK (K0 := K) (by rfl)) (by rfl) T.n_len (by decide +kernel) (pa_cons (pv 4) pa_nil)) pa_nil)) (blkOk_by (N := N_beginnings) (sc := defScope s_beginnings) (by decide +kernel)) (fun _ _ _ _ _ => by exact (pg_name (i := 11) sc_beginnings.nd rfl (Or.inl rfl))) (fun _ _ _ _ _ => by exact pts_nil) (fun _ _ _ _ _ => by exact (pe_callK0 (K0 := K) (by rfl) D_traced_back (hr.mono (by decide)) (pa_cons (pv 3) (pa_cons (pv 11) pa_nil))))))))))))), fun h H0 G0 ds R hS hW => ?_⟩
  obtain ⟨base, t, b, n, rfl, h1, h2, hn, hb4, hn0, hn1, hR, hRx⟩ := hS
  obtain ⟨hb, hg, ht1, ht2⟩ := id hn
  have hbd : Bd 8999 b := (Bd.small (k := 64) (by omega)).mono (by decide)
  refine wso_seq (ws_drop (we_call (wa_cons (we_var rfl (wa_nil ⟨_, rfl, ⟨_, rfl⟩, ?_, ?_⟩)))))
  · show (decide (2 ≤ base) && decide (base ≤ 5)) = true
    rw [decide_eq_true h1, decide_eq_true h2]; rfl
  refine wso_seq (ws_drop (we_call (wa_cons (we_var rfl (wa_nil ⟨t, b, rfl, hn, ?_⟩)))))
  refine wso_seq (ws_drop (we_call (wa_cons (we_var rfl (wa_nil ⟨n, rfl, hn0, hn1, ?_⟩)))))
  refine wso_seq (ws_asgF (wf_lst (wa_nil ⟨by decide, ?_⟩)))
  refine wso_seq (ws_asg (we_lst (wa_cons (we_fr0 (we_var rfl ⟨_, rfl, wa_nil ⟨by show 1 ≤ 4000000; decide, ?_⟩⟩)))))
  refine wso_seq (ws_for1 (wa_cons (we_var rfl (wa_nil ⟨n, rfl, by omega, by omega, fun i ρ => ∃ (r5 r6 r7 r8 r9 r10 r11 : Option Cell), (∀ j, j ≤ i → (Bg base b t j).length ≤ 2000) ∧
    ρ = [some (.d (.int base)), some (.d (fr (t, b))), some (.d (.int n)), some (.ol ((lvs base b t i).map lvD)), some (.d (.lst ((Bg base b t i).map fun y => D.int y.2))), r5, r6, r7, r8, r9, r10, r11], ⟨_, _, _, _, _, _, _, ?_, rfl⟩, ?_, ?_⟩))))
  · intro j hj
    have : j = 0 := by omega
    rw [this]; show 1 ≤ 2000; decide
  · rintro i ρ hi ⟨r5, r6, r7, r8, r9, r10, r11, hle, rfl⟩
    have hli := hle i (Nat.le_refl _)
    refine wg_name (ws_seq (ws_asgF (wf_lst (wa_nil ⟨by decide, ?_⟩))))
    refine ws_seq (ws_forEnum (wa_cons (we_var rfl (wa_nil ⟨_, rfl, fun k ρ => ∃ (r5 r7 r8 r9 r10 r11 : Option Cell), (lvN base b (Bg base b t i) k).length ≤ 9 * k ∧
      ρ = [some (.d (.int base)), some (.d (fr (t, b))), some (.d (.int n)), some (.ol ((lvs base b t i).map lvD)), some (.d (.lst ((Bg base b t i).map fun y => D.int y.2))), r5, some (.ol ((lvN base b (Bg base b t i) k).map wD)), r7, r8, r9, r10, r11], ⟨_, _, _, _, _, _, by show 0 ≤ 0; decide, rfl⟩, ?_, ?_⟩))))
    · rintro k x ρ hk ⟨q5, q7, q8, q9, q10, q11, hlk, rfl⟩
      rw [List.getElem?_map] at hk
      obtain ⟨y, hy, rfl⟩ := Option.map_eq_some_iff.mp hk
      have hyin := Bg_in h1 hb ⟨ht1, ht2⟩ i y (List.mem_of_getElem? hy)
      have hkl : k < (Bg base b t i).length := (List.getElem?_eq_some_iff.mp hy).1
      have hat : lvAt base b (Bg base b t i) k = (nx base b y.2).map fun z => (k, z.1, z.2) := by unfold lvAt; rw [hy]
      refine wg_tup ⟨_, rfl, rfl, wgs_cons ⟨_, _, rfl, wg_name (wgs_cons ⟨_, _, rfl, wg_name (wgs_nil ⟨rfl, ?_⟩)⟩)⟩⟩
      refine ws_forL (we_call (wa_cons (we_var rfl (wa_cons (we_var rfl (wa_cons (we_fr1 (we_var rfl ⟨_, rfl, wa_nil ?_⟩))))))))
      refine ⟨base, y.2, b, rfl, h1, h2, hb, hbd, hyin.1, hyin.2, _, rfl, fun j ρ => ∃ (r9 r10 : Option Cell),
        ρ = [some (.d (.int base)), some (.d (fr (t, b))), some (.d (.int n)), some (.ol ((lvs base b t i).map lvD)), some (.d (.lst ((Bg base b t i).map fun y => D.int y.2))), q5, some (.ol ((lvN base b (Bg base b t i) k ++ ((nx base b y.2).take j).map fun z => (k, z.1, z.2)).map wD)), some (.d (.int (k : Int))), some (.d (.int y.2)), r9, r10, q11], ⟨q9, q10, ?_⟩, ?_, ?_⟩
      · rw [List.take_zero, List.map_nil, List.append_nil]; rfl
      · rintro j x ρ hj ⟨s9, s10, rfl⟩
        have hj' : ((nx base b y.2).map nD)[j]? = some x := hj
        rw [List.getElem?_map] at hj'
        obtain ⟨z, hz, rfl⟩ := Option.map_eq_some_iff.mp hj'
        have hnx := nx_len h1 h2 hb hyin.1 hyin.2
        have htk : ((nx base b y.2).take j).length ≤ 9 := Nat.le_trans (by rw [List.length_take]; omega) hnx
        refine wg_tup ⟨_, rfl, rfl, wgs_cons ⟨_, _, rfl, wg_name (wgs_cons ⟨_, _, rfl, wg_name (wgs_nil ⟨rfl, ?_⟩)⟩)⟩⟩
        refine ws_append rfl (by rw [List.length_map, List.length_append, List.length_map]; omega) (we_tup (wa_cons (we_var rfl (wa_cons (we_var rfl (wa_cons (we_var rfl (wa_nil ⟨by show 3 ≤ 4000000; decide, ?_⟩))))))))
        refine ⟨some (.d (.int z.1)), some (.d (.int z.2)), ?_⟩
        have e : (nx base b y.2).take (j + 1) = (nx base b y.2).take j ++ [z] := by rw [List.take_succ, hz]; rfl
        have e2 : (lvN base b (Bg base b t i) k ++ ((nx base b y.2).take (j + 1)).map fun z => (k, z.1, z.2)).map wD = (lvN base b (Bg base b t i) k ++ ((nx base b y.2).take j).map fun z => (k, z.1, z.2)).map wD ++ [wD (k, z.1, z.2)] := by
          rw [e]
          simp only [List.map_append, List.append_assoc]
          rfl
        rw [e2]
        rfl
      · rintro ρ ⟨s9, s10, rfl⟩
        have e : lvN base b (Bg base b t i) k ++ ((nx base b y.2).take ((nexts base y.2 b (nextN base y.2 b)).map nD).length).map (fun z => (k, z.1, z.2)) = lvN base b (Bg base b t i) (k + 1) := by
          rw [lvN_succ, hat, List.length_map]
          show _ ++ ((nx base b y.2).take (nx base b y.2).length).map _ = _
          rw [List.take_length]
        rw [e]
        refine ⟨q5, some (.d (.int (k : Int))), some (.d (.int y.2)), s9, s10, q11, ?_, rfl⟩
        rw [lvN_succ, hat, List.length_append, List.length_map]
        have hnx := nx_len h1 h2 hb hyin.1 hyin.2
        omega
    · rintro ρ ⟨q5, q7, q8, q9, q10, q11, hlk, rfl⟩
      rw [List.length_map] at hlk ⊢
      have elen : (Bg base b t (i + 1)).length = (lv base b t i).length := by rw [Bg_succ, List.length_map]
      show WS _ _ _ _
      refine ws_seq (ws_if (wt_T (we_I0 (we_lenO rfl ⟨_, rfl, we_int ⟨_, rfl, _, rfl, ?_⟩⟩))))
      rw [List.length_map]
      show if decide (((lv base b t i).length : Int) > 2000) = true then _ else _
      by_cases hgt : ((lv base b t i).length : Int) > 2000
      · rw [if_pos (decide_eq_true hgt)]
        exact ws_raise1 hW X_TooMany.gC (we_int (hRx (i + 1) (by omega) (by omega)))
      · rw [if_neg (fun z => hgt (of_decide_eq_true z))]
        refine ws_next (ws_seq (ws_freeze 6 rfl rfl (ws_append rfl (by show ((lvs base b t i).map lvD).length < 4000000; unfold lvs; rw [List.length_map, List.length_map, List.length_range]; omega) (we_var rfl ?_))))
        refine ws_asg (we_F (wf_lcL (we_var rfl ⟨_, rfl, ?_, fun k acc => acc = ((lv base b t i).take k).map (fun w => D.int w.2.2), rfl, ?_, ?_⟩)))
        · show ((lv base b t i).map wD).length ≤ 4000000
          rw [List.length_map]; omega
        · rintro k x acc hk rfl hl
          have hk' : ((lv base b t i).map wD)[k]? = some x := hk
          rw [List.getElem?_map] at hk'
          obtain ⟨w, hw, rfl⟩ := Option.map_eq_some_iff.mp hk'
          refine wgp_tup ⟨_, rfl, rfl, wgps_cons ⟨_, _, rfl, wgp_name (by decide) (wgps_cons ⟨_, _, rfl, wgp_name (by decide) (wgps_cons ⟨_, _, rfl, wgp_name (by decide) (wgps_nil ⟨rfl, wt_yes ?_⟩)⟩)⟩)⟩⟩
          rw [if_pos rfl]
          refine we_var rfl ?_
          dsimp only
          rw [List.take_succ, hw, List.map_append]
          rfl
        · rintro acc rfl
          have e1 : ((lv base b t i).take ((lv base b t i).map wD).length).map (fun w => D.int w.2.2) = (Bg base b t (i + 1)).map fun y => D.int y.2 := by
            rw [List.length_map, List.take_length, Bg_succ, List.map_map]
            rfl
          have e2 : (lvs base b t (i + 1)).map lvD = (lvs base b t i).map lvD ++ [lvD (lv base b t i)] := by
            rw [lvs_succ, List.map_append]; rfl
          refine ⟨q5, some (.d (lvD (lv base b t i))), q7, q8, q9, q10, q11, fun j hj => ?_, ?_⟩
          · by_cases hji : j ≤ i
            · exact hle j hji
            · have : j = i + 1 := by omega
              rw [this, elen]; omega
          · rw [← e1, e2]
            rfl
  · rintro ρ ⟨r5, r6, r7, r8, r9, r10, r11, hle, rfl⟩
    refine wso_freeze 3 rfl rfl (wso_retF (wf_lc1 (wa_cons (we_len (we_var rfl ⟨_, .inl rfl, wa_nil ?_⟩)))))
    have hln := hle n.toNat (Nat.le_refl _)
    refine ⟨((Bg base b t n.toNat).length : Int), by rw [List.length_map], by omega, by omega, fun k acc => acc = ((Bg base b t n.toNat).take k).map bgD, rfl, ?_, ?_⟩
    · rintro k acc hk rfl hl
      have hk' : k < (Bg base b t n.toNat).length := by omega
      have hy := List.getElem?_eq_getElem hk'
      obtain ⟨o, tr⟩ := traced n.toNat k _ hy
      refine wgp_name (by decide) (wt_yes ?_)
      rw [if_pos rfl]
      refine we_call (wa_cons (we_var rfl (wa_cons (we_var rfl (wa_nil ⟨lvs base b t n.toNat, k, rfl, ?_, o, ?_⟩)))))
      · unfold lvs; rw [List.length_map, List.length_range]; omega
      · dsimp only
        rw [tr, List.take_succ, hy, List.map_append]
        rfl
    · rintro acc rfl
      have e : ((Bg base b t n.toNat).length : Int).toNat = (Bg base b t n.toNat).length := by omega
      rw [e, List.take_length]
      exact hR hle
def S_law_told : List D → (Out → Prop) → Prop := fun ds R => ∃ base t b n : Int, ds = [.int base, fr (t, b), .int n] ∧ 2 ≤ base ∧ base ≤ 5 ∧ Num t b ∧ b ≤ 400000 ∧ 0 ≤ n ∧ n ≤ 1000 ∧
  ((∀ j : Nat, j ≤ n.toNat → (Bg base b t j).length ≤ 2000) → R (.new (.ol ((Bg base b t n.toNat).map bgD)))) ∧ ∀ j : Nat, j ≤ n.toNat → 2000 < (Bg base b t j).length → R (.ok (.int 2000))
theorem l_law_told : ∀ ds R, S_law_told ds R → ds.length = 3 := fun ds R ⟨_, _, _, _, e, _⟩ => by rw [e]; rfl
theorem d_law_told (T : Txt K mg) : DfnX P w K mg bs 6 "_law_told" ["base", "x", "many"] (S_law_told) := by
  have D_beginnings := d_beginnings (P := P) (w := w) (bs := bs) T
  obtain ⟨C_TooMany, X_TooMany⟩ := x_TooMany (P := P) (w := w) (bs := bs) T
  refine mkX (k := 5) T.s_law_told sc_law_told (fun _ _ _ _ _ _ us hl => match us, hl with | [_, _, _], _ => rfl) l_law_told fun f cdv A outer s H E hr => ?_
  have hu := hu_of hr
  refine ⟨_, (pss_one (ps_try_as (i := 3) (tb := fun W => tRet (tCallS (spX K mg S_beginnings) (L2.WE W) (tCons (tVar 0) (tCons (tVar 1) (tCons (tVar 2) tNil))))) (ts := fun a cls d => tRet (tXf a cls d C_TooMany "most" (tVar 3))) (Wout := fun _ _ _ _ => False) rfl rfl sc_law_told.nd rfl rfl ⟨rfl, by decide, Or.inl X_TooMany.gC⟩ takes0 (fun W pn xe tk _ => pss_one (ps_ret (by exact (pe_callX D_beginnings (hr.mono (by decide)) tk (pa_cons (pv 0) (pa_cons (pv 1) (pa_cons (pv 2) pa_nil))))))) (fun a oe cls d pn hz hf => pss_one (ps_ret (by exact (pe_xf X_TooMany.xf (X_TooMany.no _ (by simp)) hz hf (pv 3))))))), fun h H0 G0 ds R hS hW => ?_⟩
  obtain ⟨base, t, b, n, rfl, h1, h2, hn, hb4, hn0, hn1, hR, hRx⟩ := hS
  refine wso_try_as (p := ⟨K, h, H0, G0⟩) (mg := mg) (tb := fun W => tRet (tCallS (spX K mg S_beginnings) (L2.WE W) (tCons (tVar 0) (tCons (tVar 1) (tCons (tVar 2) tNil))))) (tsu := fun a cls d => tRet (tXf a cls d C_TooMany "most" (tVar 3))) (c := .ref C_TooMany) (i := 3) (Wout := fun _ _ _ _ => False)
    (fun ρ' (x : Str) (fs : List (Str × D)) => x = "TooMany" ∧ fs = [(("most" : Str), D.int 2000)] ∧ R (.ok (.int 2000)) ∧ ρ'.length = 4) ?hc ?hb ?hs
  case hc =>
    rintro ρ' x fs C ⟨rfl, _⟩ hm
    have e := X_TooMany.gC
    rw [hm] at e
    cases e
    exact X_TooMany.te
  case hb =>
    intro W hW
    refine wso_retF (wf_callX hW (wa_cons (we_var rfl (wa_cons (we_var rfl (wa_cons (we_var rfl (wa_nil ⟨base, t, b, n, rfl, h1, h2, hn, hb4, hn0, hn1, hR, ?_⟩))))))))
    exact fun j hj hl => ⟨rfl, rfl, hRx j hj hl, rfl⟩
  case hs =>
    rintro ρ' x fs a C d G1 ⟨rfl, rfl, hr2, hlen⟩ hm xr
    have e := X_TooMany.gC
    rw [hm] at e
    cases e
    exact wsg_retf (by rw [List.getElem?_set_self (by omega)]) xr rfl hr2
/-! ### the digits that go on -/
/-- what is left of t / b behind the digit d -/
def lat (base t b d : Int) : Int × Int := low ((low (t * base) (b * 1)).1 * 1 - d * (low (t * base) (b * 1)).2) ((low (t * base) (b * 1)).2 * 1)
def goOk (x : Int × (Int × Int)) : Bool := decide (absI x.2.1 ≤ x.2.2)
def goesN (base t b : Int) (n : Nat) : List (Int × (Int × Int)) := ((List.range n).map fun (k : Nat) => ((1 - base + (k : Int)), lat base t b (1 - base + (k : Int)))).filter goOk
def goes (base t b : Int) : List (Int × (Int × Int)) := goesN base t b (base - (1 - base)).toNat
def gD (x : Int × (Int × Int)) : D := .tup [.int x.1, fr x.2]
theorem goesN_succ (base t b : Int) (n : Nat) : goesN base t b (n + 1) = goesN base t b n ++ if goOk ((1 - base + (n : Int)), lat base t b (1 - base + (n : Int))) = true then [((1 - base + (n : Int)), lat base t b (1 - base + (n : Int)))] else [] := by
  unfold goesN
  rw [List.range_succ, List.map_append, List.filter_append, List.map_singleton, List.filter_cons]
  simp only [List.filter_nil]
theorem goesN_len (base t b : Int) (n : Nat) : (goesN base t b n).length ≤ n := by
  unfold goesN
  refine Nat.le_trans (List.length_filter_le _ _) ?_
  rw [List.length_map, List.length_range]
  exact Nat.le_refl _
def S_law_goes : List D → (D → Prop) → Prop := fun ds R => ∃ base t b : Int, ds = [.int base, fr (t, b)] ∧ 2 ≤ base ∧ base ≤ 5 ∧ 0 < b ∧ Bd 3000 t ∧ Bd 3000 b ∧ R (.lst ((goes base t b).map gD))
theorem l_law_goes : ∀ ds R, S_law_goes ds R → ds.length = 2 := fun ds R ⟨_, _, _, e, _⟩ => by rw [e]; rfl
theorem d_law_goes (T : Txt K mg) : Dfn P w K mg bs 3 "_law_goes" ["base", "rest"] S_law_goes := by
  have D_law_minus := d_law_minus (P := P) (w := w) (bs := bs) T
  have D_law_times := d_law_times (P := P) (w := w) (bs := bs) T
  refine mkD (k := 2) T.s_law_goes sc_law_goes (fun _ _ _ _ _ _ us hl => match us, hl with | [_, _], _ => rfl) l_law_goes fun f cdv A outer s H E hr => ?_
  have hu := hu_of hr
  refine ⟨_, (pss_cons (ps_set (i := 2) sc_law_goes.nd rfl (Or.inl rfl) (pe_lst pa_nil))
      (pss_cons (ps_for PassesOwn.never rfl (pi_range2 rfl T.n_range (pa_cons (pe_op op_sub pe_int (pv 0)) (pa_cons (pv 0) pa_nil))) (pg_name (i := 3) sc_law_goes.nd rfl (Or.inl rfl))
      (pss_cons (ps_set (i := 4) sc_law_goes.nd rfl (Or.inl rfl) (pe_callK0 (K0 := K) (by rfl) D_law_minus (hr.mono (by decide)) (pa_cons (pe_callK0 (K0 := K) (by rfl) D_law_times (hr.mono (by decide)) (pa_cons (pv 1) (pa_cons (pe_tup (pa_cons (pv 0) (pa_cons pe_int pa_nil))) pa_nil))) (pa_cons (pe_tup (pa_cons (pv 3) (pa_cons pe_int pa_nil))) pa_nil))))
      (pss_one (ps_if (pt_cmpR op_le (pe_callB call_abs (by rfl) T.n_abs (by decide +kernel) (pa_cons (pe_ix (ix_tupK (K0 := K) (by rfl)) (pv 4) pe_int (fun _ _ => rfl)) pa_nil)) (pe_ix (ix_tupK (K0 := K) (by rfl)) (pv 4) pe_int (fun _ _ => rfl)) (nomark _)) (pss_one (ps_expr (pe_bm PySem.F.plainAttrs_list PySem.F.slot_list_append PySem.F.type_list_append mt_append (pv 2) (pa_cons (pe_tup (pa_cons (pv 3) (pa_cons (pv 4) pa_nil))) pa_nil)))) pss_nil))))
      (pss_one (ps_ret (pv 2))))), fun h H0 G0 ds R hS => ?_⟩
  obtain ⟨base, t, b, rfl, hb1, hb2, hb, bt, bb, hR⟩ := hS
  have ba : Bd 64 base := Bd.small (by omega)
  have b1 : Bd 64 (1 : Int) := by decide
  have hpos : 0 < b * 1 := by omega
  have bu : Bd 4000 (low (t * base) (b * 1)).1 := Nat.lt_of_le_of_lt (low_top hpos) ((bt.mul ba).mono (show 3000 + 64 ≤ 4000 by decide))
  have hv := low_pos (t := t * base) hpos
  have bv : Bd 4000 (low (t * base) (b * 1)).2 := by
    have h1 := low_le (t := t * base) hpos
    exact Nat.lt_of_le_of_lt (by omega) (bb.mono (show 3000 ≤ 4000 by decide))
  refine ws_seq (ws_asgF (wf_lst (wa_nil ⟨by decide, ?_⟩)))
  refine ws_seq (ws_for2 (wa_cons ?_))
  refine we_I0 (we_int ⟨_, rfl, we_var rfl ⟨_, rfl, wa_cons (we_var rfl (wa_nil ?_))⟩⟩)
  refine ⟨1 - base, base, rfl, by omega, fun k ρ => ∃ r3 r4 : Option Cell, ρ = [some (.d (.int base)), some (.d (fr (t, b))), some (.ol ((goesN base t b k).map gD)), r3, r4], ⟨_, _, rfl⟩, ?_, ?_⟩
  · rintro k ρ hk ⟨r3, r4, rfl⟩
    refine wg_name (ws_seq (ws_asg (we_call (wa_cons ?_))))
    refine we_call (wa_cons (we_var rfl (wa_cons ?_)))
    refine we_tup (wa_cons (we_var rfl (wa_cons (we_int (wa_nil ⟨len2, wa_nil ?_⟩)))))
    refine ⟨t, b, base, 1, rfl, hb, by decide, bt.mono (by decide), bb.mono (by decide), ba.mono (by decide), b1.mono (by decide), wa_cons ?_⟩
    refine we_tup (wa_cons (we_var rfl (wa_cons (we_int (wa_nil ⟨len2, wa_nil ?_⟩)))))
    refine ⟨_, _, 1 - base + (k : Int), 1, rfl, hv, by decide, bu, bv, (Bd.small (k := 64) (by omega)).mono (by decide), b1.mono (by decide), ?_⟩
    show WS _ _ _ _
    refine ws_if (wt_T (we_I0 (we_abs (we_fr0 (we_var rfl ⟨_, rfl, _, rfl, _, rfl, we_fr1 (we_var rfl ⟨_, rfl, _, rfl, _, rfl, ?_⟩)⟩)))))
    refine ite2 (fun ht => ?_) (fun ht => ?_)
    · refine ws_append rfl (by rw [List.length_map]; have := goesN_len base t b k; omega) ?_
      refine we_tup (wa_cons (we_var rfl (wa_cons (we_var rfl (wa_nil ⟨len2, ?_⟩)))))
      have e : (goesN base t b (k + 1)).map gD = (goesN base t b k).map gD ++ [gD ((1 - base + (k : Int)), lat base t b (1 - base + (k : Int)))] := by
        rw [goesN_succ, if_pos (show goOk ((1 - base + (k : Int)), lat base t b (1 - base + (k : Int))) = true from ht), List.map_append]
        rfl
      dsimp only
      rw [e]
      exact ⟨_, _, rfl⟩
    · refine ws_next ?_
      have e : goesN base t b (k + 1) = goesN base t b k := by
        rw [goesN_succ, if_neg (show ¬ goOk ((1 - base + (k : Int)), lat base t b (1 - base + (k : Int))) = true from ht), List.append_nil]
      dsimp only
      rw [e]
      exact ⟨_, _, rfl⟩
  · rintro ρ ⟨r3, r4, rfl⟩
    exact ws_freeze 2 rfl rfl (ws_ret (we_var rfl hR))
theorem sim_within {t b t' b' : Int} (hb : 0 < b) (hb' : 0 < b') (hx : t * b' = t' * b) : (-b ≤ t ∧ t ≤ b) ↔ (-b' ≤ t' ∧ t' ≤ b') := by
  constructor
  · rintro ⟨h1, h2⟩
    constructor
    · refine Int.le_of_mul_le_mul_right (a := b) ?_ hb
      rw [← hx, Int.neg_mul, Int.mul_comm b' b, ← Int.neg_mul]
      exact Int.mul_le_mul_of_nonneg_right h1 (by omega)
    · refine Int.le_of_mul_le_mul_right (a := b) ?_ hb
      rw [← hx, Int.mul_comm b' b]
      exact Int.mul_le_mul_of_nonneg_right h2 (by omega)
  · rintro ⟨h1, h2⟩
    constructor
    · refine Int.le_of_mul_le_mul_right (a := b') ?_ hb'
      rw [hx, Int.neg_mul, Int.mul_comm b b', ← Int.neg_mul]
      exact Int.mul_le_mul_of_nonneg_right h1 (by omega)
    · refine Int.le_of_mul_le_mul_right (a := b') ?_ hb'
      rw [hx, Int.mul_comm b b']
      exact Int.mul_le_mul_of_nonneg_right h2 (by omega)
theorem lat_pos {base t b d : Int} (hb : 0 < b) : 0 < (lat base t b d).2 ∧ (lat base t b d).2 ≤ b := by
  have hb' : 0 < b * 1 := by omega
  have h1 := low_pos (t := t * base) hb'
  have h2 := low_le (t := t * base) hb'
  have h3 : 0 < (low (t * base) (b * 1)).2 * 1 := by omega
  exact ⟨low_pos h3, by have := low_le (t := (low (t * base) (b * 1)).1 * 1 - d * (low (t * base) (b * 1)).2) h3; unfold lat; omega⟩
theorem lat_cross {base t b d : Int} (hb : 0 < b) : (lat base t b d).1 * b = (base * t - d * b) * (lat base t b d).2 := by
  have hb' : 0 < b * 1 := by omega
  have h1 := low_pos (t := t * base) hb'
  have c1 := low_cross (t := t * base) hb'
  have h3 : 0 < (low (t * base) (b * 1)).2 * 1 := by omega
  have c2 := low_cross (t := (low (t * base) (b * 1)).1 * 1 - d * (low (t * base) (b * 1)).2) h3
  unfold lat
  generalize (low (t * base) (b * 1)).1 = u at *
  generalize (low (t * base) (b * 1)).2 = v at *
  generalize (low (u * 1 - d * v) (v * 1)) = z at *
  obtain ⟨z1, z2⟩ := z
  dsimp only at *
  rw [Int.mul_one] at c1 c2
  refine Int.eq_of_mul_eq_mul_right (a := v) (by omega) ?_
  calc z1 * b * v = (z1 * v) * b := Int.mul_right_comm _ _ _
    _ = ((u * 1 - d * v) * z2) * b := by rw [c2]
    _ = (u * b - d * v * b) * z2 := by rw [Int.mul_one, Int.mul_right_comm, Int.sub_mul]
    _ = (base * t - d * b) * v * z2 := by
      have e : t * base * v - d * v * b = (base * t - d * b) * v := by rw [Int.sub_mul, Int.mul_comm t base, Int.mul_right_comm d v b]
      rw [c1, e]
    _ = (base * t - d * b) * z2 * v := Int.mul_right_comm _ _ _
theorem lat_ok {base t b d : Int} (hb : 0 < b) : goOk (d, lat base t b d) = true ↔ (-b ≤ base * t - d * b ∧ base * t - d * b ≤ b) := by
  have h := sim_within (lat_pos (base := base) (t := t) (d := d) hb).1 hb (lat_cross (base := base) (t := t) (d := d) hb)
  unfold goOk
  rw [decide_eq_true_iff, absI_eq, ← h]
  dsimp only
  omega
/-- over the digits that go on -/
theorem goes_mem {base t b : Int} {x : Int × (Int × Int)} (hb : 0 < b) (h : x ∈ goes base t b) : 0 < x.2.2 ∧ x.2.2 ≤ b ∧ -x.2.2 ≤ x.2.1 ∧ x.2.1 ≤ x.2.2 := by
  unfold goes goesN at h
  obtain ⟨h1, h2⟩ := List.mem_filter.mp h
  obtain ⟨k, _, e⟩ := List.mem_map.mp h1
  subst e
  have h3 := lat_pos (base := base) (t := t) (d := 1 - base + (k : Int)) hb
  unfold goOk at h2
  rw [decide_eq_true_iff, absI_eq] at h2
  dsimp only at *
  omega
def Fk (B : Int) (x : Int × Int) : Prop := 0 < x.2 ∧ x.2 ≤ B ∧ -x.2 ≤ x.1 ∧ x.1 ≤ x.2
theorem gD_at {L : List (Int × (Int × Int))} {j : Nat} {y : D} (h : (L.map gD)[j]? = some y) : ∃ g, L[j]? = some g ∧ y = gD g := by
  rw [List.getElem?_map] at h
  obtain ⟨z, hz, e⟩ := Option.map_eq_some_iff.mp h
  exact ⟨z, hz, e.symm⟩
theorem take_more {α : Type} {l : List α} {i : Nat} {x : α} (h : l[i]? = some x) : l.take (i + 1) = l.take i ++ [x] := by
  rw [List.take_succ, h]; rfl
theorem nodup_map_on {α β : Type} {f : α → β} : ∀ {L : List α}, (∀ x ∈ L, ∀ y ∈ L, f x = f y → x = y) → L.Nodup → (L.map f).Nodup
  | [], _, _ => List.nodup_nil
  | x :: r, h, nd => by
    rw [List.nodup_cons] at nd
    rw [List.map_cons, List.nodup_cons]
    refine ⟨fun hm => ?_, nodup_map_on (fun a ha b hb => h a (List.mem_cons_of_mem _ ha) b (List.mem_cons_of_mem _ hb)) nd.2⟩
    obtain ⟨y, hy, e⟩ := List.mem_map.mp hm
    have := h y (List.mem_cons_of_mem _ hy) x (by simp) e
    exact nd.1 (by rw [← this]; exact hy)
theorem fk_len {B : Int} {L : List ((Int × Int) × Int)} (hB : B ≤ 1000) (nd : (L.map (·.1)).Nodup) (rg : ∀ x ∈ L.map (·.1), Fk B x) : L.length ≤ 3100000 := by
  have h1 : ((L.map (·.1)).map fun x => x.1 + x.2 * 3000).Nodup := by
    refine nodup_map_on ?_ nd
    intro x hx y hy e
    have hx' := rg x hx
    have hy' := rg y hy
    unfold Fk at hx' hy'
    have : x.2 = y.2 := by omega
    exact Prod.ext (by omega) this
  have h2 := len_range 3100000 0 h1 fun z hz => by
    obtain ⟨x, hx, e⟩ := List.mem_map.mp hz
    have hx' := rg x hx
    unfold Fk at hx'
    omega
  rw [List.length_map, List.length_map] at h2
  exact h2
def kF (x : Int × Int) : List Key := [Sum.inl x.1, Sum.inl x.2]
theorem kF_inj : ∀ a b, kF a = kF b → a = b := fun a b e => by
  unfold kF at e
  injection e with e1 e2
  injection e2 with e2 _
  exact Prod.ext (Sum.inl.inj e1) (Sum.inl.inj e2)
theorem kF_fr (x : Int × Int) : (.tup ((kF x).map kD) : D) = fr x := rfl
def cD (x : (Int × Int) × Int) : D := .tup [fr x.1, .int x.2]
/-! ### whether two things are the same -/
def S_law_is (n : Nat) : List D → (D → Prop) → Prop := fun ds R => ∃ x y : D, ds = [x, y] ∧ P2 n x y ∧ R (.bl (isD x y))
theorem l_law_is (n : Nat) : ∀ ds R, S_law_is n ds R → ds.length = 2 := fun ds R ⟨_, _, e, _⟩ => by rw [e]; rfl
def H_law_is (n : Nat) (S' : List D → (D → Prop) → Prop) : Prop := ∀ m x y R, n = m + 1 → P2 m x y → R (.bl (isD x y)) → S' [x, y] R
/-- the flags of the first k pairs -/
def isFl (xs ys : List D) (k : Nat) : List D := ((xs.zip ys).take k).map fun z => D.bl (isD z.1 z.2)
theorem isFl_succ {xs ys : List D} {k : Nat} {x y : D} (hx : xs[k]? = some x) (hy : ys[k]? = some y) : isFl xs ys (k + 1) = isFl xs ys k ++ [.bl (isD x y)] := by
  unfold isFl
  have e : (xs.zip ys)[k]? = some (x, y) := List.getElem?_zip_eq_some.mpr ⟨hx, hy⟩
  rw [List.take_succ, e, List.map_append]
  rfl
theorem st_law_is {k n : Nat} {S' : List D → (D → Prop) → Prop} (T : Txt K mg) (D_law_is : Dfn P w K mg bs k "_law_is" ["one", "other"] S') (hS' : H_law_is n S') : Dfn P w K mg bs (k + 1) "_law_is" ["one", "other"] (S_law_is n) := by
  refine mkD (k := k) T.s_law_is sc_law_is (fun _ _ _ _ _ _ us hl => match us, hl with | [_, _], _ => rfl) (l_law_is n) fun f cdv A outer s H E hr => ?_
  have hu := hu_of hr
  refine ⟨_, (pss_cons (ps_if (PW.pt (pw_and (pt_val (pe_callB (call_isiTK (K0 := K) (by rfl)) (by rfl) T.n_isinstance (by decide +kernel) (pa_cons (pv 0) (pa_cons (pe_tup (pa_cons (pe_bltn (v := .ty "list") (by rfl) T.n_list (by decide +kernel) rfl) (pa_cons (pe_bltn (v := .ty "tuple") (by rfl) T.n_tuple (by decide +kernel) rfl) pa_nil))) pa_nil)))) (pw_and1 (pt_val (pe_callB (call_isiTK (K0 := K) (by rfl)) (by rfl) T.n_isinstance (by decide +kernel) (pa_cons (pv 1) (pa_cons (pe_tup (pa_cons (pe_bltn (v := .ty "list") (by rfl) T.n_list (by decide +kernel) rfl) (pa_cons (pe_bltn (v := .ty "tuple") (by rfl) T.n_tuple (by decide +kernel) rfl) pa_nil))) pa_nil))))))) (pss_cons (ps_if (PW.pt (pw_or (pt_cmpR op_ne (pe_callB (call_isiK0 (K0 := K) (by rfl)) (by rfl) T.n_isinstance (by decide +kernel) (pa_cons (pv 0) (pa_cons (pe_bltn (v := .ty "tuple") (by rfl) T.n_tuple (by decide +kernel) rfl) pa_nil))) (pe_callB (call_isiK0 (K0 := K) (by rfl)) (by rfl) T.n_isinstance (by decide +kernel) (pa_cons (pv 1) (pa_cons (pe_bltn (v := .ty "tuple") (by rfl) T.n_tuple (by decide +kernel) rfl) pa_nil))) (nomark _)) (pw_or1 (pt_cmpR op_ne (pe_callB (call_lenK (K0 := K) (by rfl)) (by rfl) T.n_len (by decide +kernel) (pa_cons (pv 0) pa_nil)) (pe_callB (call_lenK (K0 := K) (by rfl)) (by rfl) T.n_len (by decide +kernel) (pa_cons (pv 1) pa_nil)) (nomark _))))) (pss_one (ps_ret pe_bl)) pss_nil)
      (pss_one (ps_ret (pe_callB (cr_all rfl) (by rfl) T.n_all (by decide +kernel) (pa_cons (pe_lc (own := [("here", 2), ("there", 3)]) (g := (gTup K 2 (gCons (gName 2) (gCons (gName 3) gNil)))) rfl sc_law_is.nd (RZ.pi_zipA (by rfl) T.n_zip (pa_cons (pv 0) (pa_cons (pv 1) pa_nil))) (blkOk_by (N := N_law_is) (sc := defScope s_law_is) (by decide +kernel)) (fun _ _ _ _ _ => by exact (pg_tup rfl (pgs_cons (pg_name (i := 2) sc_law_is.nd rfl (Or.inl rfl)) (pgs_cons (pg_name (i := 3) sc_law_is.nd rfl (Or.inl rfl)) pgs_nil)))) (fun _ _ _ _ _ => by exact pts_nil) (fun _ _ _ _ _ => by exact (pe_callK0 (K0 := K) (by rfl) D_law_is (hr.mono (Nat.le_refl _)) (pa_cons (pv 2) (pa_cons (pv 3) pa_nil))))) pa_nil))))) pss_nil)
      (pss_cons (ps_if (PW.pt (pw_and (pt_val (pe_callB (call_isiK0 (K0 := K) (by rfl)) (by rfl) T.n_isinstance (by decide +kernel) (pa_cons (pv 0) (pa_cons (pe_bltn (v := .ty "dict") (by rfl) T.n_dict (by decide +kernel) rfl) pa_nil)))) (pw_and1 (pt_val (pe_callB (call_isiK0 (K0 := K) (by rfl)) (by rfl) T.n_isinstance (by decide +kernel) (pa_cons (pv 1) (pa_cons (pe_bltn (v := .ty "dict") (by rfl) T.n_dict (by decide +kernel) rfl) pa_nil))))))) pss_never pss_nil)
      (pss_one (ps_ret (pe_and (pe_cmpR op_eq (pe_callB (call_isiK0 (K0 := K) (by rfl)) (by rfl) T.n_isinstance (by decide +kernel) (pa_cons (pv 0) (pa_cons (pe_bltn (v := .ty "bool") (by rfl) T.n_bool (by decide +kernel) rfl) pa_nil))) (pe_callB (call_isiK0 (K0 := K) (by rfl)) (by rfl) T.n_isinstance (by decide +kernel) (pa_cons (pv 1) (pa_cons (pe_bltn (v := .ty "bool") (by rfl) T.n_bool (by decide +kernel) rfl) pa_nil))) (nomark _)) (pe_one (pe_cmpR op_eq (pv 0) (pv 1) (nomark _)))))))), fun h H0 G0 ds R hS => ?_⟩
  obtain ⟨x, y, rfl, pxy, hR⟩ := hS
  cases pxy with
  | int _ i j =>
    refine ws_seq (ws_if (wt_and (wt_B (we_isiT (we_var rfl ⟨_, false, false, rfl, kb_int_list, kb_int_tuple, _, rfl, fun h => absurd h (by decide), fun _ => ?_⟩)))))
    rw [if_neg (by decide)]
    refine ws_next (ws_seq (ws_if (wt_and (wt_B (we_isi (we_var rfl ⟨_, false, rfl, kb_int_dict, _, rfl, fun h => absurd h (by decide), fun _ => ?_⟩))))))
    rw [if_neg (by decide)]
    refine ws_next (ws_ret (we_andV (we_eqB (we_isi (we_var rfl ⟨_, false, rfl, kb_int_bool, _, rfl, we_isi (we_var rfl ⟨_, false, rfl, kb_int_bool, _, rfl, _, rfl, fun _ => ?_, fun h => absurd h (by decide)⟩)⟩)))))
    rw [isD] at hR
    exact we_eqI (we_var rfl ⟨_, rfl, we_var rfl ⟨_, rfl, hR⟩⟩)
  | @tup m xs ys hl hp =>
    rw [isD] at hR
    refine ws_seq (ws_if (wt_and (wt_B (we_isiT (we_var rfl ⟨_, false, true, rfl, kb_tuple_list, kb_tuple_tuple, _, rfl, fun _ => ?_, fun h => absurd h (by decide)⟩)))))
    refine wt_B (we_isiT (we_var rfl ⟨_, false, true, rfl, kb_tuple_list, kb_tuple_tuple, _, rfl, ?_⟩))
    rw [if_pos (by rfl)]
    refine ws_seq (ws_if (wt_or (wt_T (we_neB (we_isi (we_var rfl ⟨_, _, rfl, kb_tuple_tuple, _, rfl, we_isi (we_var rfl ⟨_, _, rfl, kb_tuple_tuple, _, rfl, _, rfl, fun _ => ?_, fun h => absurd h (by decide)⟩)⟩))))))
    refine wt_T (we_neI (we_len (we_var rfl ⟨_, .inr rfl, _, rfl, we_len (we_var rfl ⟨_, .inr rfl, _, rfl, _, rfl, ?_⟩)⟩)))
    by_cases he : xs.length = ys.length
    · rw [if_neg (by rw [he, decide_eq_true rfl]; decide)]
      refine ws_next (ws_ret (we_all (we_F (wf_lcZip (wa_cons (we_var rfl (wa_cons (we_var rfl (wa_nil ⟨xs, ys, .inr rfl, he, hl, fun k acc => acc = isFl xs ys k, rfl, ?_, ?_⟩)))))))))
      · rintro k x y acc hx hy rfl hle
        refine wgp_tup ⟨_, rfl, rfl, wgps_cons ⟨_, _, rfl, wgp_name (by decide) (wgps_cons ⟨_, _, rfl, wgp_name (by decide) (wgps_nil ⟨rfl, wt_yes ?_⟩)⟩)⟩⟩
        rw [if_pos rfl]
        exact we_call (wa_cons (we_var rfl (wa_cons (we_var rfl (wa_nil (hS' m x y _ rfl (hp he k x y hx hy) (isFl_succ hx hy).symm))))))
      · rintro acc rfl
        refine ⟨(xs.zip ys).map fun z => isD z.1 z.2, ?_, ?_⟩
        · unfold isFl
          rw [List.take_of_length_le (by rw [List.length_zip]; omega)]
          show D.lst _ = D.lst _
          rw [List.map_map]; rfl
        · rw [← isDL_all he]; exact hR
    · rw [if_pos (by rw [decide_eq_false (by omega)]; rfl)]
      rw [isDL_ne he] at hR
      exact ws_ret (we_bl hR)
  | @lst m xs ys hl hp =>
    rw [isD] at hR
    refine ws_seq (ws_if (wt_and (wt_B (we_isiT (we_var rfl ⟨_, true, false, rfl, kb_list_list, kb_list_tuple, _, rfl, fun _ => ?_, fun h => absurd h (by decide)⟩)))))
    refine wt_B (we_isiT (we_var rfl ⟨_, true, false, rfl, kb_list_list, kb_list_tuple, _, rfl, ?_⟩))
    rw [if_pos (by rfl)]
    refine ws_seq (ws_if (wt_or (wt_T (we_neB (we_isi (we_var rfl ⟨_, _, rfl, kb_list_tuple, _, rfl, we_isi (we_var rfl ⟨_, _, rfl, kb_list_tuple, _, rfl, _, rfl, fun _ => ?_, fun h => absurd h (by decide)⟩)⟩))))))
    refine wt_T (we_neI (we_len (we_var rfl ⟨_, .inl rfl, _, rfl, we_len (we_var rfl ⟨_, .inl rfl, _, rfl, _, rfl, ?_⟩)⟩)))
    by_cases he : xs.length = ys.length
    · rw [if_neg (by rw [he, decide_eq_true rfl]; decide)]
      refine ws_next (ws_ret (we_all (we_F (wf_lcZip (wa_cons (we_var rfl (wa_cons (we_var rfl (wa_nil ⟨xs, ys, .inl rfl, he, hl, fun k acc => acc = isFl xs ys k, rfl, ?_, ?_⟩)))))))))
      · rintro k x y acc hx hy rfl hle
        refine wgp_tup ⟨_, rfl, rfl, wgps_cons ⟨_, _, rfl, wgp_name (by decide) (wgps_cons ⟨_, _, rfl, wgp_name (by decide) (wgps_nil ⟨rfl, wt_yes ?_⟩)⟩)⟩⟩
        rw [if_pos rfl]
        exact we_call (wa_cons (we_var rfl (wa_cons (we_var rfl (wa_nil (hS' m x y _ rfl (hp he k x y hx hy) (isFl_succ hx hy).symm))))))
      · rintro acc rfl
        refine ⟨(xs.zip ys).map fun z => isD z.1 z.2, ?_, ?_⟩
        · unfold isFl
          rw [List.take_of_length_le (by rw [List.length_zip]; omega)]
          show D.lst _ = D.lst _
          rw [List.map_map]; rfl
        · rw [← isDL_all he]; exact hR
    · rw [if_pos (by rw [decide_eq_false (by omega)]; rfl)]
      rw [isDL_ne he] at hR
      exact ws_ret (we_bl hR)
theorem d_law_is (T : Txt K mg) : ∀ n : Nat, Dfn P w K mg bs (n + 1) "_law_is" ["one", "other"] (S_law_is n)
  | 0 => st_law_is T (Dfn.none T.s_law_is 0 (fun _ _ _ _ _ _ us hl => match us, hl with | [_, _], _ => rfl)) fun m x y R e => by omega
  | n + 1 => st_law_is T (d_law_is T n) fun m x y R e pxy hR => by
      have e' : n = m := by omega
      subst e'
      exact ⟨x, y, rfl, pxy, hR⟩
/-! ### the law's own beginnings -/
theorem filter_part {α : Type} (f : Nat → α) (q : α → Bool) {n c m : Nat} (hcm : c + m ≤ n) (hq : ∀ k, k < n → (q (f k) = true ↔ c ≤ k ∧ k < c + m)) : ((List.range n).map f).filter q = (List.range m).map fun k => f (c + k) := by
  have e : n = c + (m + (n - c - m)) := by omega
  have r1 : ∀ a b : Nat, List.range (a + b) = List.range a ++ (List.range b).map (a + ·) := fun a b => by
    refine List.ext_getElem? fun i => ?_
    by_cases h1 : i < a
    · rw [List.getElem?_append_left (by rw [List.length_range]; exact h1), List.getElem?_range h1, List.getElem?_range (by omega)]
    · rw [List.getElem?_append_right (by rw [List.length_range]; omega), List.length_range, List.getElem?_map]
      by_cases h2 : i - a < b
      · rw [List.getElem?_range h2, List.getElem?_range (by omega)]
        show some i = some (a + (i - a))
        congr 1; omega
      · rw [List.getElem?_eq_none (by rw [List.length_range]; omega), List.getElem?_eq_none (by rw [List.length_range]; omega)]; rfl
  rw [e, r1, r1, List.map_append, List.map_append, List.filter_append, List.map_append, List.filter_append]
  have z1 : ((List.range c).map f).filter q = [] := by
    rw [List.filter_eq_nil_iff]
    intro x hx
    obtain ⟨k, hk, rfl⟩ := List.mem_map.mp hx
    have := List.mem_range.mp hk
    rw [hq k (by omega)]
    omega
  have z2 : ((((List.range m).map (c + ·))).map f).filter q = (List.range m).map fun k => f (c + k) := by
    rw [List.map_map, List.filter_eq_self.mpr]
    · rfl
    · intro x hx
      obtain ⟨k, hk, rfl⟩ := List.mem_map.mp hx
      have := List.mem_range.mp hk
      exact (hq (c + k) (by omega)).mpr ⟨by omega, by omega⟩
  have z3 : (((((List.range (n - c - m)).map (m + ·))).map (c + ·)).map f).filter q = [] := by
    rw [List.filter_eq_nil_iff]
    intro x hx
    rw [List.map_map, List.map_map] at hx
    obtain ⟨k, hk, rfl⟩ := List.mem_map.mp hx
    have := List.mem_range.mp hk
    show ¬ q (f (c + (m + k))) = true
    rw [hq _ (by omega)]
    omega
  rw [z1, z2, z3, List.nil_append, List.append_nil]
/-- the digits with which a number goes on, by rests or by lowest terms -/
theorem goes_nx {base t b t' b' : Int} (h1 : 2 ≤ base) (hb : 0 < b) (ht : -b ≤ t ∧ t ≤ b) (hb' : 0 < b') (hx : t' * b = t * b') :
    goes base t' b' = (nx base b t).map fun z => (z.1, lat base t' b' z.1) := by
  have l1 := ldig_ge base t b
  have l2 := gdig_le base t b
  have l3 := dig_le h1 hb ht.1 ht.2
  unfold goes goesN
  have e := filter_part (fun (k : Nat) => ((1 - base + (k : Int)), lat base t' b' (1 - base + (k : Int)))) goOk (n := (base - (1 - base)).toNat) (c := (ldig base t b - (1 - base)).toNat) (m := nextN base t b) (by unfold nextN; omega) ?_
  · rw [e]
    unfold nx nexts
    rw [List.map_map]
    refine List.map_congr_left fun k _ => ?_
    have ek : 1 - base + (((ldig base t b - (1 - base)).toNat + k : Nat) : Int) = ldig base t b + (k : Int) := by omega
    show (_, lat base t' b' _) = (_, lat base t' b' _)
    rw [ek]
  · intro k hk
    rw [lat_ok hb']
    have hs : (-b' ≤ base * t' - (1 - base + (k : Int)) * b' ∧ base * t' - (1 - base + (k : Int)) * b' ≤ b') ↔ (-b ≤ base * t - (1 - base + (k : Int)) * b ∧ base * t - (1 - base + (k : Int)) * b ≤ b) := by
      refine sim_within hb' hb ?_
      rw [Int.sub_mul, Int.sub_mul, Int.mul_assoc base t' b, hx, ← Int.mul_assoc base t b', Int.mul_right_comm _ b' b]
    have hiff : (ldig base t b ≤ 1 - base + (k : Int) ∧ 1 - base + (k : Int) ≤ gdig base t b) ↔ (-b ≤ base * t - (1 - base + (k : Int)) * b ∧ base * t - (1 - base + (k : Int)) * b ≤ b) := by
      rw [ldig_le hb, le_gdig hb]
      constructor
      · rintro ⟨⟨_, a⟩, ⟨_, c⟩⟩; exact ⟨c, a⟩
      · rintro ⟨a, c⟩; exact ⟨⟨by omega, c⟩, ⟨by omega, a⟩⟩
    rw [hs, ← hiff]
    unfold nextN
    omega
/-- the law's beginnings against those by rests -/
def AlR (b : Int) (z : List Int × (Int × Int)) (y : List Int × Int) : Prop := z.1 = y.1 ∧ z.2.1 * b = y.2 * z.2.2 ∧ 0 < z.2.2 ∧ z.2.2 ≤ b
def AlRs (b : Int) (Z : List (List Int × (Int × Int))) (Y : List (List Int × Int)) : Prop := Z.length = Y.length ∧ ∀ (k : Nat) z y, Z[k]? = some z → Y[k]? = some y → AlR b z y
theorem AlRs.app {b : Int} {Z Z' : List (List Int × (Int × Int))} {Y Y' : List (List Int × Int)} (h : AlRs b Z Y) (h' : AlRs b Z' Y') : AlRs b (Z ++ Z') (Y ++ Y') := by
  refine ⟨by rw [List.length_append, List.length_append, h.1, h'.1], fun k z y hz hy => ?_⟩
  by_cases hk : k < Z.length
  · rw [List.getElem?_append_left hk] at hz
    rw [List.getElem?_append_left (by rw [← h.1]; exact hk)] at hy
    exact h.2 k z y hz hy
  · rw [List.getElem?_append_right (by omega)] at hz
    rw [List.getElem?_append_right (by rw [← h.1]; omega), ← h.1] at hy
    exact h'.2 _ z y hz hy
/-- one turn -/
theorem AlRs.turn {base b : Int} {z : List Int × (Int × Int)} {y : List Int × Int} {ys : List (List Int × Int)} {k : Nat} (h1 : 2 ≤ base) (hb : 0 < b) (hy : ys[k]? = some y) (hin : -b ≤ y.2 ∧ y.2 ≤ b) (h : AlR b z y) :
    AlRs b ((goes base z.2.1 z.2.2).map fun w => (z.1 ++ [w.1], w.2)) ((lvAt base b ys k).map (bgExt ys)) := by
  obtain ⟨e1, e2, e3, e4⟩ := h
  have hg := goes_nx h1 hb hin e3 e2
  have hat : lvAt base b ys k = (nx base b y.2).map fun z => (k, z.1, z.2) := by unfold lvAt; rw [hy]
  rw [hg, hat, List.map_map, List.map_map]
  refine ⟨by rw [List.length_map, List.length_map], fun j u v hu hv => ?_⟩
  rw [List.getElem?_map] at hu hv
  obtain ⟨w, hw, rfl⟩ := Option.map_eq_some_iff.mp hu
  rw [hw] at hv
  have hv' := Option.some.inj hv
  subst hv'
  have hwm := List.mem_of_getElem? hw
  have ew : w.2 = base * y.2 - w.1 * b := by
    unfold nx nexts at hwm
    obtain ⟨i, _, rfl⟩ := List.mem_map.mp hwm
    rfl
  have hp := lat_pos (base := base) (t := z.2.1) (d := w.1) e3
  have hc := lat_cross (base := base) (t := z.2.1) (d := w.1) e3
  refine ⟨?_, ?_, hp.1, Int.le_trans hp.2 e4⟩
  · show z.1 ++ [w.1] = ((ys[k]?.getD ([], 0)).1 ++ [w.1])
    rw [hy, e1]; rfl
  · show (lat base z.2.1 z.2.2 w.1).1 * b = w.2 * (lat base z.2.1 z.2.2 w.1).2
    rw [ew]
    refine Int.eq_of_mul_eq_mul_right (a := z.2.2) (by omega) ?_
    calc (lat base z.2.1 z.2.2 w.1).1 * b * z.2.2 = (lat base z.2.1 z.2.2 w.1).1 * z.2.2 * b := Int.mul_right_comm _ _ _
      _ = (base * z.2.1 - w.1 * z.2.2) * (lat base z.2.1 z.2.2 w.1).2 * b := by rw [hc]
      _ = ((base * z.2.1 - w.1 * z.2.2) * b) * (lat base z.2.1 z.2.2 w.1).2 := Int.mul_right_comm _ _ _
      _ = ((base * y.2 - w.1 * b) * z.2.2) * (lat base z.2.1 z.2.2 w.1).2 := by
        congr 1
        rw [Int.sub_mul, Int.sub_mul, Int.mul_assoc base, e2, Int.mul_assoc base, Int.mul_right_comm w.1]
      _ = (base * y.2 - w.1 * b) * (lat base z.2.1 z.2.2 w.1).2 * z.2.2 := Int.mul_right_comm _ _ _
theorem Bg_fst {base b t : Int} : ∀ (n : Nat) (y : List Int × Int), y ∈ Bg base b t n → y.1.length = n
  | 0, y, h => by
    have : y = ([], t) := by simpa [Bg] using h
    rw [this]; rfl
  | n + 1, y, h => by
    rw [Bg_succ] at h
    obtain ⟨w, hw, rfl⟩ := List.mem_map.mp h
    obtain ⟨y', z, hy, _, _⟩ := lvN_mem hw
    have := Bg_fst n y' (List.mem_of_getElem? hy)
    unfold bgExt
    rw [hy]
    show (y'.1 ++ [w.2.1]).length = n + 1
    rw [List.length_append, this]; rfl
theorem lvN_mono (base b : Int) (ys : List (List Int × Int)) (k : Nat) : ∀ m : Nat, (lvN base b ys k).length ≤ (lvN base b ys (k + m)).length
  | 0 => Nat.le_refl _
  | m + 1 => by
    refine Nat.le_trans (lvN_mono base b ys k m) ?_
    show _ ≤ (lvN base b ys (k + m + 1)).length
    rw [lvN_succ, List.length_append]
    exact Nat.le_add_right _ _
def alD (z : List Int × (Int × Int)) : D := .tup [.tup (z.1.map D.int), fr z.2]
def S_law_all : List D → (D → Prop) → Prop := fun ds R => ∃ base t b n : Int, ds = [.int base, fr (t, b), .int n] ∧ 2 ≤ base ∧ base ≤ 5 ∧ Num t b ∧ b ≤ 400000 ∧ 0 ≤ n ∧ n ≤ 1000 ∧ (∀ j : Nat, j ≤ n.toNat → (Bg base b t j).length ≤ 200000) ∧ R (.lst ((Bg base b t n.toNat).map bgD))
theorem l_law_all : ∀ ds R, S_law_all ds R → ds.length = 3 := fun ds R ⟨_, _, _, _, e, _⟩ => by rw [e]; rfl
theorem d_law_all (T : Txt K mg) : Dfn P w K mg bs 4 "_law_all" ["base", "x", "many"] S_law_all := by
  have D_law_goes := d_law_goes (P := P) (w := w) (bs := bs) T
  refine mkD (k := 3) T.s_law_all sc_law_all (fun _ _ _ _ _ _ us hl => match us, hl with | [_, _, _], _ => rfl) l_law_all fun f cdv A outer s H E hr => ?_
  have hu := hu_of hr
  refine ⟨_, (pss_cons (ps_set (i := 3) sc_law_all.nd rfl (Or.inl rfl) (pe_lst (pa_cons (pe_tup (pa_cons (pe_tup pa_nil) (pa_cons (pv 1) pa_nil))) pa_nil)))
      (pss_cons (ps_for PassesOwn.never rfl (pi_range1 rfl T.n_range (pa_cons (pv 2) pa_nil)) (pg_name (i := 4) sc_law_all.nd rfl (Or.inl rfl))
      (pss_cons (ps_set (i := 5) sc_law_all.nd rfl (Or.inl rfl) (pe_lst pa_nil))
      (pss_cons (ps_for PassesOwn.never rfl (pi_listK (K0 := K) (by rfl) (pv 3)) (pg_tup rfl (pgs_cons (pg_name (i := 6) sc_law_all.nd rfl (Or.inr rfl)) (pgs_cons (pg_name (i := 7) sc_law_all.nd rfl (Or.inl rfl)) pgs_nil)))
      (pss_one (ps_expr (pe_bm PySem.F.plainAttrs_list PySem.F.slot_list_extend PySem.F.type_list_extend mt_extend (pv 5) (pa_cons (pe_lc (own := [("digit", 8), ("later", 9)]) (g := (gTup K 2 (gCons (gName 8) (gCons (gName 9) gNil)))) rfl sc_law_all.nd (pi_listK (K0 := K) (by rfl) (pe_callK0 (K0 := K) (by rfl) D_law_goes (hr.mono (by decide)) (pa_cons (pv 0) (pa_cons (pv 7) pa_nil)))) (blkOk_by (N := N_law_all) (sc := defScope s_law_all) (by decide +kernel)) (fun _ _ _ _ _ => by exact (pg_tup rfl (pgs_cons (pg_name (i := 8) sc_law_all.nd rfl (Or.inl rfl)) (pgs_cons (pg_name (i := 9) sc_law_all.nd rfl (Or.inl rfl)) pgs_nil)))) (fun _ _ _ _ _ => by exact pts_nil) (fun _ _ _ _ _ => by exact (pe_tup (pa_cons (pe_op (op_catK (K0 := K) (by rfl)) (pv 6) (pe_tup (pa_cons (pv 8) pa_nil))) (pa_cons (pv 9) pa_nil))))) pa_nil)))))
      (pss_one (ps_set (i := 3) sc_law_all.nd rfl (Or.inl rfl) (pv 5))))))
      (pss_one (ps_ret (pe_lc (own := [("one", 6), ("rest", 7)]) (g := (gTup K 2 (gCons (gName 6) (gCons (gName 7) gNil)))) rfl sc_law_all.nd (pi_listK (K0 := K) (by rfl) (pv 3)) (blkOk_by (N := N_law_all) (sc := defScope s_law_all) (by decide +kernel)) (fun _ _ _ _ _ => by exact (pg_tup rfl (pgs_cons (pg_name (i := 6) sc_law_all.nd rfl (Or.inl rfl)) (pgs_cons (pg_name (i := 7) sc_law_all.nd rfl (Or.inl rfl)) pgs_nil)))) (fun _ _ _ _ _ => by exact pts_nil) (fun _ _ _ _ _ => by exact (pv 6))))))), fun h H0 G0 ds R hS => ?_⟩
  obtain ⟨base, t, b, n, rfl, h1, h2, hn, hb4, hn0, hn1, hlen, hR⟩ := hS
  obtain ⟨hb, hg, ht1, ht2⟩ := id hn
  refine ws_seq (ws_asg (we_lst (wa_cons (we_tup (wa_cons (we_tup (wa_nil ⟨by show 0 ≤ 4000000; decide, wa_cons (we_var rfl (wa_nil ⟨len2, wa_nil ⟨by show 1 ≤ 4000000; decide, ?_⟩⟩))⟩)))))))
  refine ws_seq (ws_for1 (wa_cons (we_var rfl (wa_nil ⟨n, rfl, by omega, by omega, fun i ρ => ∃ (Z : List (List Int × (Int × Int))) (r4 r5 r6 r7 r8 r9 : Option Cell), AlRs b Z (Bg base b t i) ∧
    ρ = [some (.d (.int base)), some (.d (fr (t, b))), some (.d (.int n)), some (.d (.lst (Z.map alD))), r4, r5, r6, r7, r8, r9], ⟨[([], (t, b))], _, _, _, _, _, _, ?_, rfl⟩, ?_, ?_⟩))))
  · refine ⟨rfl, fun k z y hz hy => ?_⟩
    have ez : z = ([], (t, b)) := by simpa using List.mem_of_getElem? hz
    have ey : y = ([], t) := by
      have := List.mem_of_getElem? hy
      simpa [Bg] using this
    rw [ez, ey]
    exact ⟨rfl, rfl, hb, Int.le_refl _⟩
  · rintro i ρ hi ⟨Z, r4, r5, r6, r7, r8, r9, hZ, rfl⟩
    have hl0 := hlen i (by omega)
    have hl1 := hlen (i + 1) (by omega)
    refine wg_name (ws_seq (ws_asgF (wf_lst (wa_nil ⟨by show 0 ≤ 4000000; decide, ?_⟩))))
    refine ws_seq (ws_forL (we_var rfl ⟨_, rfl, fun k ρ => ∃ (L : List (List Int × (Int × Int))) (r4 r6 r7 r8 r9 : Option Cell), AlRs b L ((lvN base b (Bg base b t i) k).map (bgExt (Bg base b t i))) ∧
      ρ = [some (.d (.int base)), some (.d (fr (t, b))), some (.d (.int n)), some (.d (.lst (Z.map alD))), r4, some (.ol (L.map alD)), r6, r7, r8, r9], ⟨[], _, _, _, _, _, ⟨rfl, fun k z y hz => by simp at hz⟩, rfl⟩, ?_, ?_⟩))
    · rintro k x ρ hk ⟨L, q4, q6, q7, q8, q9, hL, rfl⟩
      rw [List.getElem?_map] at hk
      obtain ⟨z, hz, rfl⟩ := Option.map_eq_some_iff.mp hk
      have hkl : k < (Bg base b t i).length := by
        have := (List.getElem?_eq_some_iff.mp hz).1
        rw [hZ.1] at this; exact this
      have hy := List.getElem?_eq_getElem hkl
      generalize (Bg base b t i)[k] = y at hy
      have hrel := hZ.2 k z y hz hy
      have hin := Bg_in h1 hb ⟨ht1, ht2⟩ i y (List.mem_of_getElem? hy)
      have hturn := AlRs.turn h1 hb hy hin hrel
      obtain ⟨z1, zt, zb⟩ := z
      obtain ⟨e1, e2, e3, e4⟩ := id hrel
      dsimp only at e1 e2 e3 e4 hturn
      have hzt : -zb ≤ zt ∧ zt ≤ zb := (sim_within e3 hb e2).mpr hin
      have hsub : (lvN base b (Bg base b t i) (k + 1)).length ≤ 200000 := by
        have e : (Bg base b t i).length = (k + 1) + ((Bg base b t i).length - (k + 1)) := by omega
        have := lvN_mono base b (Bg base b t i) (k + 1) ((Bg base b t i).length - (k + 1))
        rw [← e] at this
        rw [Bg_succ, List.length_map] at hl1
        exact Nat.le_trans this hl1
      have hsub0 : (lvN base b (Bg base b t i) k).length ≤ 200000 := Nat.le_trans (lvN_mono base b (Bg base b t i) k 1) hsub
      have hz1 : z1.length = i := by rw [e1]; exact Bg_fst i y (List.mem_of_getElem? hy)
      refine wg_tup ⟨_, rfl, rfl, wgs_cons ⟨_, _, rfl, wg_name (wgs_cons ⟨_, _, rfl, wg_name (wgs_nil ⟨rfl, ?_⟩)⟩)⟩⟩
      refine ws_extend rfl (we_F (wf_lcL (we_call (wa_cons (we_var rfl (wa_cons (we_var rfl (wa_nil ?_))))))))
      refine ⟨base, zt, zb, rfl, h1, h2, e3, (Bd.small (k := 64) (by omega)).mono (by decide), (Bd.small (k := 64) (by omega)).mono (by decide), _, rfl, ?_, fun j acc => acc = (((goes base zt zb).take j).map fun w => (z1 ++ [w.1], w.2)).map alD, rfl, ?_, ?_⟩
      · rw [List.length_map]
        have := goesN_len base zt zb (base - (1 - base)).toNat
        unfold goes
        omega
      · rintro j x acc hj rfl hle
        rw [List.getElem?_map] at hj
        obtain ⟨w, hw, rfl⟩ := Option.map_eq_some_iff.mp hj
        refine wgp_tup ⟨_, rfl, rfl, wgps_cons ⟨_, _, rfl, wgp_name (by decide) (wgps_cons ⟨_, _, rfl, wgp_name (by decide) (wgps_nil ⟨rfl, wt_yes ?_⟩)⟩)⟩⟩
        rw [if_pos rfl]
        refine we_tup (wa_cons (we_catT (we_var rfl ⟨_, rfl, we_tup (wa_cons (we_var rfl (wa_nil ⟨by show 1 ≤ 4000000; decide, _, rfl, ?_, wa_cons (we_var rfl (wa_nil ⟨len2, ?_⟩))⟩)))⟩)))
        · rw [List.length_map, hz1]; show i + 1 ≤ 4000000; omega
        · dsimp only
          rw [List.take_succ, hw, List.map_append, List.map_append]
          show _ = _ ++ [alD (z1 ++ [w.1], w.2)]
          unfold alD
          dsimp only
          rw [List.map_append]
          rfl
      · rintro acc rfl
        have hgl := goesN_len base zt zb (base - (1 - base)).toNat
        have hLl := hL.1
        rw [List.length_map] at hLl
        refine ⟨_, rfl, ?_, L ++ (goes base zt zb).map (fun w => (z1 ++ [w.1], w.2)), q4, some (.d (.tup (z1.map D.int))), some (.d (fr (zt, zb))), q8, q9, ?_, ?_⟩
        · rw [List.length_map, List.length_map, List.length_map, List.length_take, List.length_map]
          unfold goes
          omega
        · rw [lvN_succ, List.map_append]
          exact hL.app hturn
        · rw [List.length_map, List.take_length, List.map_append]
          rfl
    · rintro ρ ⟨L, q4, q6, q7, q8, q9, hL, rfl⟩
      rw [List.length_map, hZ.1] at hL
      refine ws_freeze 5 rfl rfl (ws_asg (we_var rfl ?_))
      exact ⟨L, q4, some (.d (.lst (L.map alD))), q6, q7, q8, q9, hL, rfl⟩
  · rintro ρ ⟨Z, r4, r5, r6, r7, r8, r9, hZ, rfl⟩
    have hl0 := hlen n.toNat (Nat.le_refl _)
    refine ws_ret (we_F (wf_lcL (we_var rfl ⟨_, rfl, ?_, fun k acc => acc = ((Bg base b t n.toNat).take k).map bgD, rfl, ?_, ?_⟩)))
    · rw [List.length_map, hZ.1]; omega
    · rintro k x acc hk rfl hle
      rw [List.getElem?_map] at hk
      obtain ⟨z, hz, rfl⟩ := Option.map_eq_some_iff.mp hk
      have hkl : k < (Bg base b t n.toNat).length := by
        have := (List.getElem?_eq_some_iff.mp hz).1
        rw [hZ.1] at this; exact this
      have hy := List.getElem?_eq_getElem hkl
      generalize (Bg base b t n.toNat)[k] = y at hy
      obtain ⟨e1, _⟩ := hZ.2 k z y hz hy
      refine wgp_tup ⟨_, rfl, rfl, wgps_cons ⟨_, _, rfl, wgp_name (by decide) (wgps_cons ⟨_, _, rfl, wgp_name (by decide) (wgps_nil ⟨rfl, wt_yes ?_⟩)⟩)⟩⟩
      rw [if_pos rfl]
      refine we_var rfl ?_
      dsimp only
      rw [List.take_succ, hy, List.map_append, e1]
      rfl
    · rintro acc rfl
      rw [List.length_map, hZ.1, List.take_length]
      exact hR
def S_law_integer : List D → (D → Prop) → Prop := fun ds R => ∃ (base : Int) (xs : List Int), ds = [.int base, .tup (xs.map D.int)] ∧ 2 ≤ base ∧ base ≤ 5 ∧ xs.length ≤ 1000 ∧ R (.int (xs.foldl (fun a d => a * base + d) 0))
theorem l_law_integer : ∀ ds R, S_law_integer ds R → ds.length = 2 := fun ds R ⟨_, _, e, _⟩ => by rw [e]; rfl
theorem d_law_integer (T : Txt K mg) : Dfn P w K mg bs 1 "_law_integer" ["base", "digits"] S_law_integer := by
  refine mkD (k := 0) T.s_law_integer sc_law_integer (fun _ _ _ _ _ _ us hl => match us, hl with | [_, _], _ => rfl) l_law_integer fun f cdv A outer s H E hr => ?_
  have hu := hu_of hr
  refine ⟨_, (pss_cons (ps_set (i := 2) sc_law_integer.nd rfl (Or.inl rfl) pe_int)
      (pss_cons (ps_for PassesOwn.never rfl (pi_tupK (K0 := K) (by rfl) (pv 1)) (pg_name (i := 3) sc_law_integer.nd rfl (Or.inl rfl))
      (pss_one (ps_set (i := 2) sc_law_integer.nd rfl (Or.inl rfl) (pe_op op_add (pe_op op_mulA (pv 2) (pv 0)) (pv 3)))))
      (pss_one (ps_ret (pv 2))))), fun h H0 G0 ds R hS => ?_⟩
  obtain ⟨base, xs, rfl, h1, h2, hl, hR⟩ := hS
  refine ws_seq (ws_asg (we_int ?_))
  refine ws_seq (ws_forT (we_var rfl ⟨_, rfl, fun k ρ => ∃ (r3 : Option Cell), ρ = [some (.d (.int base)), some (.d (.tup (xs.map D.int))), some (.d (.int ((xs.take k).foldl (fun a d => a * base + d) 0))), r3], ⟨_, rfl⟩, ?_, ?_⟩))
  · rintro k x ρ hk ⟨r3, rfl⟩
    rw [List.getElem?_map] at hk
    obtain ⟨d, hd, rfl⟩ := Option.map_eq_some_iff.mp hk
    refine wg_name (ws_asg (we_I0 (we_I (we_var rfl ⟨_, rfl, we_var rfl ⟨_, rfl, ?_, _, rfl, we_var rfl ⟨_, rfl, ?_⟩⟩⟩))))
    · exact .inr (.inl ⟨by omega, by omega⟩)
    · refine ⟨some (.d (.int d)), ?_⟩
      rw [List.take_succ, hd, List.foldl_append]
      rfl
  · rintro ρ ⟨r3, rfl⟩
    refine ws_ret (we_var rfl ?_)
    rw [List.length_map, List.take_length]
    exact hR
def S_law_number : List D → (D → Prop) → Prop := fun ds R => ds = [.hand] ∧ ∀ t b : Int, Num t b → b ≤ 27 → R (fr (t, b))
theorem l_law_number : ∀ ds R, S_law_number ds R → ds.length = 1 := fun ds R ⟨e, _⟩ => by rw [e]; rfl
theorem low_gcd {t b : Int} (hb : 0 < b) : Nat.gcd (low t b).1.natAbs (low t b).2.natAbs = 1 := by
  have hg := gcd_pos (t := t) hb
  obtain ⟨x, hx⟩ := Int.gcd_dvd_left t b
  obtain ⟨y, hy⟩ := Int.gcd_dvd_right t b
  have e1 : t / (Int.gcd t b : Int) = x := Int.ediv_eq_of_eq_mul_right (by omega) hx
  have e2 : b / (Int.gcd t b : Int) = y := Int.ediv_eq_of_eq_mul_right (by omega) hy
  rw [low_fst, low_snd, e1, e2]
  have h : Int.gcd ((Int.gcd t b : Int) * x) ((Int.gcd t b : Int) * y) = Int.gcd t b := by rw [← hx, ← hy]
  rw [Int.gcd_mul_left, Int.natAbs_natCast] at h
  have h2 : Int.gcd t b * Int.gcd x y = Int.gcd t b * 1 := by rw [h, Nat.mul_one]
  exact Nat.eq_of_mul_eq_mul_left (by omega) h2
theorem low_num {t b : Int} (hb : 0 < b) (h1 : -b ≤ t) (h2 : t ≤ b) : Num (low t b).1 (low t b).2 := by
  have h := (sim_within (low_pos (t := t) hb) hb (low_cross (t := t) hb)).mpr ⟨h1, h2⟩
  exact ⟨low_pos hb, low_gcd hb, h.1, h.2⟩
theorem d_law_number (T : Txt K mg) : Dfn P w K mg bs 4 "_law_number" ["hand"] S_law_number := by
  have D_law_any := d_law_any (P := P) (w := w) (bs := bs) T
  have D_law_low := d_law_low (P := P) (w := w) (bs := bs) T
  have D_law_draw := d_law_draw (P := P) (w := w) (bs := bs) T
  refine mkD (k := 3) T.s_law_number sc_law_number (fun _ _ _ _ _ _ us hl => match us, hl with | [_], _ => rfl) l_law_number fun f cdv A outer s H E hr => ?_
  have hu := hu_of hr
  refine ⟨_, (pss_cons (ps_set (i := 1) sc_law_number.nd rfl (Or.inl rfl) (pe_callK0 (K0 := K) (by rfl) D_law_any (hr.mono (by decide)) (pa_cons (pv 0) (pa_cons (pe_lst (pa_cons pe_int (pa_cons pe_int (pa_cons pe_int (pa_cons pe_int (pa_cons pe_int (pa_cons pe_int (pa_cons pe_int (pa_cons pe_int (pa_cons pe_int (pa_cons pe_int (pa_cons pe_int (pa_cons pe_int pa_nil))))))))))))) pa_nil))))
      (pss_one (ps_ret (pe_callK0 (K0 := K) (by rfl) D_law_low (hr.mono (by decide)) (pa_cons (pe_op op_sub (pe_callK0 (K0 := K) (by rfl) D_law_draw (hr.mono (by decide)) (pa_cons (pv 0) (pa_cons (pe_op op_add (pe_op op_mulA pe_int (pv 1)) pe_int) pa_nil))) (pv 1)) (pa_cons (pv 1) pa_nil)))))), fun h H0 G0 ds R hS => ?_⟩
  obtain ⟨rfl, hR⟩ := hS
  refine ws_seq (ws_asg (we_call (wa_cons (we_var rfl (wa_cons (we_lst ?_))))))
  refine wa_cons (we_int (wa_cons (we_int (wa_cons (we_int (wa_cons (we_int (wa_cons (we_int (wa_cons (we_int ?_)))))))))))
  refine wa_cons (we_int (wa_cons (we_int (wa_cons (we_int (wa_cons (we_int (wa_cons (we_int (wa_cons (we_int ?_)))))))))))
  refine wa_nil ⟨Nat.le_of_ble_eq_true rfl, wa_nil ⟨_, rfl, by simp, by simp, fun y hy => ?_⟩⟩
  obtain ⟨bo, rfl, bo1, bo2⟩ : ∃ i : Int, y = .int i ∧ 1 ≤ i ∧ i ≤ 27 := by
    simp only [List.mem_cons, List.not_mem_nil, or_false] at hy
    rcases hy with rfl | rfl | rfl | rfl | rfl | rfl | rfl | rfl | rfl | rfl | rfl | rfl <;> exact ⟨_, rfl, by omega, by omega⟩
  refine ws_ret (we_call (wa_cons (we_I0 (we_call (wa_cons (we_var rfl (wa_cons ?_)))))))
  refine we_I0 (we_I (we_int ⟨_, rfl, we_var rfl ⟨_, rfl, .inl (by decide), _, rfl, we_int ⟨_, rfl, wa_nil ?_⟩⟩⟩))
  refine ⟨_, rfl, by omega, by omega, fun k2 hk0 hk1 => ⟨_, rfl, we_var rfl ⟨_, rfl, wa_cons (we_var rfl (wa_nil ?_))⟩⟩⟩
  refine ⟨k2 - bo, bo, rfl, by omega, (Bd.small (k := 64) (by omega)).mono (by decide), ?_⟩
  have hX := low_num (t := k2 - bo) (b := bo) (by omega) (by omega) (by omega)
  have hXb := low_le (t := k2 - bo) (b := bo) (by omega)
  exact hR _ _ hX (by omega)
/-! ### drawn writings -/
/-- digits that lead from a number to what is left -/
inductive Ch (base : Int) : (Int × Int) → List Int → (Int × Int) → Prop
  | nil (r : Int × Int) : Ch base r [] r
  | snoc {r s : Int × Int} {c : List Int} {w : Int × (Int × Int)} : Ch base r c s → w ∈ goes base s.1 s.2 → Ch base r (c ++ [w.1]) w.2
theorem goes_ne {base t b : Int} (h1 : 2 ≤ base) (hb : 0 < b) (ht : -b ≤ t ∧ t ≤ b) : goes base t b ≠ [] := by
  rw [goes_nx h1 hb ht hb rfl]
  intro z
  have := congrArg List.length z
  unfold nx at this
  rw [List.length_map, nexts_len] at this
  have l := dig_le h1 hb ht.1 ht.2
  unfold nextN at this
  simp only [List.length_nil] at this
  omega
theorem goes_fk {base B : Int} {s : Int × Int} {w : Int × (Int × Int)} (hs : Fk B s) (h : w ∈ goes base s.1 s.2) : Fk B w.2 := by
  have := goes_mem hs.1 h
  exact ⟨this.1, Int.le_trans this.2.1 hs.2.1, this.2.2.1, this.2.2.2⟩
def plE (L : List ((Int × Int) × Nat)) : List (List Key × D) := L.map fun x => (kF x.1, D.int (x.2 : Int))
def fiE (L : List ((Int × Int) × (Int × (Int × Int)))) : List (List Key × D) := L.map fun x => (kF x.1, gD x.2)
theorem plE_keys (L : List ((Int × Int) × Nat)) : (plE L).map (·.1) = (L.map (·.1)).map kF := by unfold plE; rw [List.map_map, List.map_map]; rfl
theorem fiE_keys (L : List ((Int × Int) × (Int × (Int × Int)))) : (fiE L).map (·.1) = (L.map (·.1)).map kF := by unfold fiE; rw [List.map_map, List.map_map]; rfl
/-- the table of places -/
def PlOk (base B : Int) (x s : Int × Int) (c : List Int) (L : List ((Int × Int) × Nat)) : Prop :=
  (L.map (·.1)).Nodup ∧ ∀ y ∈ L, Fk B y.1 ∧ y.2 < c.length ∧ Ch base x (c.take y.2) y.1 ∧ Ch base y.1 (c.drop y.2) s
theorem PlOk.more {base B : Int} {x s : Int × Int} {c : List Int} {L : List ((Int × Int) × Nat)} {w : Int × (Int × Int)} (h : PlOk base B x s c L) (hx : Ch base x c s) (hs : Fk B s) (hw : w ∈ goes base s.1 s.2) (hn : s ∉ L.map (·.1)) :
    PlOk base B x w.2 (c ++ [w.1]) (L ++ [(s, c.length)]) := by
  refine ⟨?_, fun y hy => ?_⟩
  · rw [List.map_append, List.nodup_append]
    refine ⟨h.1, by simp, fun a ha b hb e => hn ?_⟩
    have : b = s := by simpa using hb
    rw [← this, ← e]; exact ha
  · rcases List.mem_append.mp hy with hy | hy
    · obtain ⟨q1, q2, q3, q4⟩ := h.2 y hy
      refine ⟨q1, by rw [List.length_append]; omega, ?_, ?_⟩
      · rw [List.take_append_of_le_length (by omega)]; exact q3
      · rw [List.drop_append_of_le_length (by omega)]; exact .snoc q4 hw
    · have ey : y = (s, c.length) := by simpa using hy
      rw [ey]
      refine ⟨hs, by show c.length < _; rw [List.length_append, List.length_singleton]; omega, ?_, ?_⟩
      · show Ch base x ((c ++ [w.1]).take c.length) s
        rw [List.take_append_of_le_length (Nat.le_refl _), List.take_length]; exact hx
      · show Ch base s ((c ++ [w.1]).drop c.length) w.2
        rw [List.drop_append_of_le_length (Nat.le_refl _), List.drop_length]
        exact .snoc (.nil s) hw
theorem pl_len {base B : Int} {x s : Int × Int} {c : List Int} {L : List ((Int × Int) × Nat)} (hB : B ≤ 1000) (h : PlOk base B x s c L) : L.length ≤ 3100000 := by
  have := fk_len (B := B) (L := L.map fun y => (y.1, (0 : Int))) hB (by rw [List.map_map]; exact h.1) fun z hz => by
    rw [List.map_map] at hz
    obtain ⟨y, hy, rfl⟩ := List.mem_map.mp hz
    exact (h.2 y hy).1
  rw [List.length_map] at this
  exact this
theorem pl_len27 {base B : Int} {x s : Int × Int} {c : List Int} {L : List ((Int × Int) × Nat)} (hB : B ≤ 27) (h : PlOk base B x s c L) : L.length ≤ 3000 := by
  have h1 : ((L.map (·.1)).map fun x => x.1 + x.2 * 100).Nodup := by
    refine nodup_map_on ?_ h.1
    intro x hx y hy e
    obtain ⟨x', hx', rfl⟩ := List.mem_map.mp hx
    obtain ⟨y', hy', rfl⟩ := List.mem_map.mp hy
    have hx2 := (h.2 x' hx').1
    have hy2 := (h.2 y' hy').1
    unfold Fk at hx2 hy2
    have : x'.1.2 = y'.1.2 := by omega
    exact Prod.ext (by omega) this
  have h2 := len_range 3000 0 h1 fun z hz => by
    obtain ⟨x, hx, e⟩ := List.mem_map.mp hz
    obtain ⟨x', hx', rfl⟩ := List.mem_map.mp hx
    have hx2 := (h.2 x' hx').1
    unfold Fk at hx2
    omega
  rw [List.length_map, List.length_map] at h2
  exact h2
theorem cut_take {xs : List D} {k : Nat} : Cal.cutD xs none (some (k : Int)) = xs.take k := by
  unfold Cal.cutD
  rw [HT.sIx_nat]
  show (xs.drop 0).take (min k xs.length - 0) = _
  rw [List.drop_zero, Nat.sub_zero]
  by_cases h : k ≤ xs.length
  · rw [Nat.min_eq_left h]
  · rw [Nat.min_eq_right (by omega), List.take_length, List.take_of_length_le (by omega)]
theorem cut_drop {xs : List D} {k : Nat} : Cal.cutD xs (some (k : Int)) none = xs.drop k := by
  unfold Cal.cutD
  rw [HT.sIx_nat]
  show (xs.drop (min k xs.length)).take (xs.length - min k xs.length) = _
  rw [List.take_of_length_le (by rw [List.length_drop]; exact Nat.le_refl _)]
  by_cases h : k ≤ xs.length
  · rw [Nat.min_eq_left h]
  · rw [Nat.min_eq_right (by omega), List.drop_length, List.drop_of_length_le (by omega)]
def S_law_writing : List D → (D → Prop) → Prop := fun ds R => ∃ base t b : Int, ds = [.hand, .int base, fr (t, b)] ∧ 2 ≤ base ∧ base ≤ 5 ∧ Num t b ∧ b ≤ 1000 ∧
  ∀ (ps qs : List Int) (s : Int × Int), Ch base (t, b) ps s → Ch base s qs s → qs ≠ [] → ps.length + qs.length ≤ 3100010 → (b ≤ 27 → ps.length + qs.length ≤ 3010) → R (.tup [.tup (ps.map D.int), .tup (qs.map D.int)])
theorem l_law_writing : ∀ ds R, S_law_writing ds R → ds.length = 3 := fun ds R ⟨_, _, _, e, _⟩ => by rw [e]; rfl
theorem gD_mem {base t b : Int} {x : D} (h : x ∈ (goes base t b).map gD) : ∃ w, w ∈ goes base t b ∧ x = gD w := by
  obtain ⟨w, hw, e⟩ := List.mem_map.mp h
  exact ⟨w, hw, e.symm⟩
theorem d_law_writing (T : Txt K mg) : Dfn P w K mg bs 4 "_law_writing" ["hand", "base", "x"] S_law_writing := by
  have D_law_draw := d_law_draw (P := P) (w := w) (bs := bs) T
  have D_law_any := d_law_any (P := P) (w := w) (bs := bs) T
  have D_law_goes := d_law_goes (P := P) (w := w) (bs := bs) T
  refine mkD (k := 3) T.s_law_writing sc_law_writing (fun _ _ _ _ _ _ us hl => match us, hl with | [_, _, _], _ => rfl) l_law_writing fun f cdv A outer s H E hr => ?_
  have hu := hu_of hr
  refine ⟨_, (pss_cons (ps_asg (pe_tup (pa_cons (pe_lst pa_nil) (pa_cons (pv 2) (pa_cons pe_dnewT (pa_cons pe_dnewT pa_nil))))) (pg_tup rfl (pgs_cons (pg_name (i := 3) sc_law_writing.nd rfl (Or.inl rfl)) (pgs_cons (pg_name (i := 4) sc_law_writing.nd rfl (Or.inl rfl)) (pgs_cons (pg_name (i := 5) sc_law_writing.nd rfl (Or.inl rfl)) (pgs_cons (pg_name (i := 6) sc_law_writing.nd rfl (Or.inl rfl)) pgs_nil))))))
      (pss_cons (ps_for PassesOwn.never rfl (pi_range1 rfl T.n_range (pa_cons (pe_callK0 (K0 := K) (by rfl) D_law_draw (hr.mono (by decide)) (pa_cons (pv 0) (pa_cons pe_int pa_nil))) pa_nil)) (pg_name (i := 7) sc_law_writing.nd rfl (Or.inl rfl))
      (pss_cons (ps_asg (pe_callK0 (K0 := K) (by rfl) D_law_any (hr.mono (by decide)) (pa_cons (pv 0) (pa_cons (pe_callK0 (K0 := K) (by rfl) D_law_goes (hr.mono (by decide)) (pa_cons (pv 1) (pa_cons (pv 4) pa_nil))) pa_nil))) (pg_tup rfl (pgs_cons (pg_name (i := 8) sc_law_writing.nd rfl (Or.inl rfl)) (pgs_cons (pg_name (i := 4) sc_law_writing.nd rfl (Or.inl rfl)) pgs_nil))))
      (pss_one (ps_expr (pe_bm PySem.F.plainAttrs_list PySem.F.slot_list_append PySem.F.type_list_append mt_append (pv 3) (pa_cons (pv 8) pa_nil))))))
      (pss_cons (ps_while PassesOwn.never (pt_cmp (pc_dnotin hu (pv 4) (pv 6))) (pss_cons (ps_dput hu (pv 6) (pv 4) (pe_callB (call_lenK (K0 := K) (by rfl)) (by rfl) T.n_len (by decide +kernel) (pa_cons (pv 3) pa_nil)) rfl)
      (pss_cons (ps_dput hu (pv 5) (pv 4) (pe_callK0 (K0 := K) (by rfl) D_law_any (hr.mono (by decide)) (pa_cons (pv 0) (pa_cons (pe_callK0 (K0 := K) (by rfl) D_law_goes (hr.mono (by decide)) (pa_cons (pv 1) (pa_cons (pv 4) pa_nil))) pa_nil))) rfl)
      (pss_cons (ps_expr (pe_bm PySem.F.plainAttrs_list PySem.F.slot_list_append PySem.F.type_list_append mt_append (pv 3) (pa_cons (pe_ix (ix_tupK (K0 := K) (by rfl)) (pe_dget hu (pv 5) (pv 4) (fun _ _ => rfl)) pe_int (fun _ _ => rfl)) pa_nil)))
      (pss_one (ps_set (i := 4) sc_law_writing.nd rfl (Or.inl rfl) (pe_ix (ix_tupK (K0 := K) (by rfl)) (pe_dget hu (pv 5) (pv 4) (fun _ _ => rfl)) pe_int (fun _ _ => rfl))))))))
      (pss_one (ps_ret (pe_tup (pa_cons (pe_callTy (call_tupleK (K0 := K) (by rfl)) (by rfl) T.n_tuple (by decide +kernel) (pa_cons (pe_slice (sl_listK (K0 := K) (by rfl)) (pv 3) po_none (po_some (pe_dget hu (pv 6) (pv 4) (fun _ _ => rfl)))) pa_nil)) (pa_cons (pe_callTy (call_tupleK (K0 := K) (by rfl)) (by rfl) T.n_tuple (by decide +kernel) (pa_cons (pe_slice (sl_listK (K0 := K) (by rfl)) (pv 3) (po_some (pe_dget hu (pv 6) (pv 4) (fun _ _ => rfl))) po_none) pa_nil)) pa_nil)))))))), fun h H0 G0 ds R hS => ?_⟩
  obtain ⟨base, t, b, rfl, h1, h2, hn, hb4, hR⟩ := hS
  obtain ⟨hb, hg, ht1, ht2⟩ := id hn
  have hx0 : Fk b (t, b) := ⟨hb, Int.le_refl _, ht1, ht2⟩
  have bd : ∀ {s : Int × Int}, Fk b s → Bd 3000 s.1 ∧ Bd 3000 s.2 := fun {s} hs => by
    obtain ⟨a1, a2, a3, a4⟩ := hs
    exact ⟨(Bd.small (k := 64) (by omega)).mono (by decide), (Bd.small (k := 64) (by omega)).mono (by decide)⟩
  have gl : ∀ s : Int × Int, (goes base s.1 s.2).length ≤ 9 := fun s => by
    have := goesN_len base s.1 s.2 (base - (1 - base)).toNat
    unfold goes; omega
  refine ws_seq (ws_new4T rfl ?_)
  refine ws_seq (ws_for1 (wa_cons (we_call (wa_cons (we_var rfl (wa_cons (we_int (wa_nil ⟨6, rfl, by decide, by decide, fun n hn0 hn1 => wa_nil ?_⟩))))))))
  refine ⟨n, rfl, by omega, by omega, fun k ρ => ∃ (c : List Int) (s : Int × Int) (r7 r8 : Option Cell), Ch base (t, b) c s ∧ Fk b s ∧ c.length = k ∧
    ρ = [some (.d .hand), some (.d (.int base)), some (.d (fr (t, b))), some (.ol (c.map D.int)), some (.d (fr s)), some (.ot []), some (.ot []), r7, r8], ⟨[], (t, b), _, _, .nil _, hx0, rfl, rfl⟩, ?_, ?_⟩
  · rintro k ρ hk ⟨c, s, r7, r8, hc, hs, hlen, rfl⟩
    refine wg_name (ws_seq (ws_asgG (we_call (wa_cons (we_var rfl (wa_cons (we_call (wa_cons (we_var rfl (wa_cons (we_var rfl (wa_nil ?_))))))))))))
    have hs' := hs
    obtain ⟨st, sb⟩ := s
    refine ⟨base, st, sb, rfl, h1, h2, hs.1, (bd hs).1, (bd hs).2, wa_nil ⟨_, rfl, ?_, ?_, fun y hy => ?_⟩⟩
    · intro z
      exact goes_ne h1 hs.1 ⟨hs.2.2.1, hs.2.2.2⟩ (List.map_eq_nil_iff.mp z)
    · rw [List.length_map]; have := gl (st, sb); dsimp only at this; omega
    · obtain ⟨w, hw, rfl⟩ := gD_mem hy
      refine wg_tup ⟨_, rfl, rfl, wgs_cons ⟨_, _, rfl, wg_name (wgs_cons ⟨_, _, rfl, wg_name (wgs_nil ⟨rfl, ?_⟩)⟩)⟩⟩
      refine ws_append rfl (by rw [List.length_map]; omega) (we_var rfl ?_)
      refine ⟨c ++ [w.1], w.2, some (.d (.int (k : Int))), some (.d (.int w.1)), .snoc hc hw, goes_fk hs hw, by rw [List.length_append, hlen]; rfl, ?_⟩
      rw [List.map_append]
      rfl
  · rintro ρ ⟨c, s, r7, r8, hc, hs, hlen, rfl⟩
    refine ws_seq (ws_while (fun m ρ => ∃ (c : List Int) (s : Int × Int) (L : List ((Int × Int) × Nat)) (F : List ((Int × Int) × (Int × (Int × Int)))) (r7 r8 : Option Cell), Ch base (t, b) c s ∧ Fk b s ∧ PlOk base b (t, b) s c L ∧ F.map (·.1) = L.map (·.1) ∧ c.length ≤ 5 + L.length ∧ m + L.length = 3100001 ∧
      ρ = [some (.d .hand), some (.d (.int base)), some (.d (fr (t, b))), some (.ol (c.map D.int)), some (.d (fr s)), some (.ot (fiE F)), some (.ot (plE L)), r7, r8]) 3100001 ⟨c, s, [], [], _, _, hc, hs, ⟨List.nodup_nil, fun y hy => by cases hy⟩, rfl, by show c.length ≤ 5 + 0; omega, rfl, rfl⟩ ?_)
    rintro m ρ ⟨c, s, L, F, q7, q8, hc, hs, hL, hF, hlen, hm, rfl⟩
    have hcap := pl_len hb4 hL
    have hcap27 := fun z => pl_len27 (B := b) z hL
    refine wt_T (we_dnotinT rfl (we_var rfl ⟨kF s, (kF_fr s).symm, _, rfl, ?_⟩))
    cases hget : dGet (plE L) (kF s) with
    | none =>
      rw [if_pos (by rfl)]
      have hno : s ∉ L.map (·.1) := fun z => by
        have := dGet_no hget
        rw [plE_keys] at this
        exact this (List.mem_map.mpr ⟨s, z, rfl⟩)
      have hgetF : dGet (fiE F) (kF s) = none := dGet_not (by
        rw [fiE_keys, hF, ← plE_keys]
        exact dGet_no hget)
      refine ws_seq (ws_dputT rfl (by unfold plE; rw [List.length_map]; omega) (we_lenO rfl (we_var rfl ⟨kF s, (kF_fr s).symm, ?_⟩)))
      rw [dPut_new hget]
      have eP : plE L ++ [(kF s, D.int ((c.map D.int).length : Int))] = plE (L ++ [(s, c.length)]) := by
        unfold plE
        rw [List.map_append, List.length_map]
        rfl
      rw [eP]
      have hlF : F.length = L.length := by have := congrArg List.length hF; rw [List.length_map, List.length_map] at this; exact this
      show WS _ _ _ _
      refine ws_seq (ws_dputT rfl (by unfold fiE; rw [List.length_map, hlF]; omega) (we_call (wa_cons (we_var rfl (wa_cons (we_call (wa_cons (we_var rfl (wa_cons (we_var rfl (wa_nil ?_)))))))))))
      refine ⟨base, s.1, s.2, rfl, h1, h2, hs.1, (bd hs).1, (bd hs).2, wa_nil ⟨_, rfl, ?_, ?_, fun y hy => ?_⟩⟩
      · intro z
        exact goes_ne h1 hs.1 ⟨hs.2.2.1, hs.2.2.2⟩ (List.map_eq_nil_iff.mp z)
      · rw [List.length_map]; have := gl s; omega
      obtain ⟨w, hw, rfl⟩ := gD_mem hy
      refine we_var rfl ⟨kF s, (kF_fr s).symm, ?_⟩
      rw [dPut_new hgetF]
      have hgN := dGet_new (v := gD w) hgetF
      have eF : fiE F ++ [(kF s, gD w)] = fiE (F ++ [(s, w)]) := by
        unfold fiE
        rw [List.map_append]
        rfl
      rw [eF] at hgN ⊢
      show WS _ _ _ _
      refine ws_seq (ws_append rfl (by rw [List.length_map]; omega) (we_ixT (we_dgetT rfl (we_var rfl ⟨kF s, gD w, (kF_fr s).symm, hgN, _, rfl, we_int ⟨0, .int w.1, rfl, rfl, ?_⟩⟩))))
      show WS _ _ _ _
      refine ws_asg (we_ixT (we_dgetT rfl (we_var rfl ⟨kF s, gD w, (kF_fr s).symm, hgN, _, rfl, we_int ⟨1, fr w.2, rfl, rfl, ?_⟩⟩)))
      refine ⟨m - 1, by omega, c ++ [w.1], w.2, L ++ [(s, c.length)], F ++ [(s, w)], q7, q8, .snoc hc hw, goes_fk hs hw, hL.more hc hs hw hno, ?_, ?_, ?_, ?_⟩
      · rw [List.map_append, List.map_append, hF]; rfl
      · rw [List.length_append, List.length_append, List.length_singleton, List.length_singleton]; omega
      · rw [List.length_append, List.length_singleton]; omega
      · rw [List.map_append]
        rfl
    | some v =>
      rw [if_neg (by exact Bool.false_ne_true)]
      obtain ⟨y, hy, hye⟩ := List.mem_map.mp (dGet_mem hget)
      obtain ⟨q1, q2, q3, q4⟩ := hL.2 y hy
      have e1 : y.1 = s := kF_inj _ _ (congrArg Prod.fst hye)
      have e2 : v = .int (y.2 : Int) := (congrArg Prod.snd hye).symm
      subst e2
      rw [e1] at q3 q4
      refine ws_freeze 3 rfl rfl (ws_ret (we_tup (wa_cons (we_tupleOf (we_slL (we_var rfl ⟨_, rfl, ?_⟩))))))
      refine wo_none (wo_some (we_dgetT rfl (we_var rfl ⟨kF s, .int (y.2 : Int), (kF_fr s).symm, hget, _, rfl, _, .inl rfl, ?_⟩)))
      refine wa_cons (we_tupleOf (we_slL (we_var rfl ⟨_, rfl, wo_some (we_dgetT rfl (we_var rfl ⟨kF s, .int (y.2 : Int), (kF_fr s).symm, hget, _, rfl, wo_none ⟨_, .inl rfl, wa_nil ⟨len2, ?_⟩⟩⟩))⟩)))
      rw [cut_take, cut_drop, ← List.map_take, ← List.map_drop]
      refine hR _ _ s q3 q4 (fun z => ?_) ?_ (fun z => ?_)
      · have := congrArg List.length z
        rw [List.length_drop] at this
        simp only [List.length_nil] at this
        omega
      · rw [List.length_take, List.length_drop]; omega
      · have := hcap27 z
        rw [List.length_take, List.length_drop]; omega
/-! ### the mathematics of k04 -/
theorem Sm_list (F : Int → Int) (base b t : Int) : ∀ n : Nat, ((nexts base t b n).map fun z => F z.1).sum = Sm F (ldig base t b) n
  | 0 => rfl
  | n + 1 => by
    rw [nexts_succ, List.map_append, List.sum_append, Sm_list F base b t n]
    show _ = Sm F _ n + F _
    simp
/-- each beginning's ways on, summed -/
theorem lvN_sum {base b : Int} (h1 : 2 ≤ base) (hb : 0 < b) (m : Nat) {ys : List (List Int × Int)} (hin : ∀ y ∈ ys, -b ≤ y.2 ∧ y.2 ≤ b) : ∀ k : Nat, k ≤ ys.length → ((lvN base b ys k).map fun w => Pn base b m w.2.2).sum = ((ys.take k).map fun y => Pn base b (m + 1) y.2).sum
  | 0, _ => by rw [List.take_zero]; rfl
  | k + 1, hk => by
    have hy := List.getElem?_eq_getElem (show k < ys.length by omega)
    generalize ys[k] = y at hy
    have hi := hin y (List.mem_of_getElem? hy)
    have hat : lvAt base b ys k = (nx base b y.2).map fun z => (k, z.1, z.2) := by unfold lvAt; rw [hy]
    rw [lvN_succ, List.map_append, List.sum_append, lvN_sum h1 hb m hin k (by omega), List.take_succ, hy, List.map_append, List.sum_append, hat, List.map_map]
    have e : ((nx base b y.2).map ((fun w => Pn base b m w.2.2) ∘ fun z => (k, z.1, z.2))).sum = Pn base b (m + 1) y.2 := by
      rw [← Pn_nexts m h1 hb hi.1 hi.2, ← Sm_list]
      unfold nx
      congr 1
      refine List.map_congr_left fun z hz => ?_
      unfold nexts at hz
      obtain ⟨i, _, rfl⟩ := List.mem_map.mp hz
      rfl
    rw [e]
    simp
theorem Bg_sum {base b t : Int} (h1 : 2 ≤ base) (hb : 0 < b) (ht : -b ≤ t ∧ t ≤ b) : ∀ (n m : Nat), ((Bg base b t n).map fun y => Pn base b m y.2).sum = Pn base b (n + m) t
  | 0, m => by
    show Pn base b m t + 0 = _
    rw [Int.add_zero, Nat.zero_add]
  | n + 1, m => by
    have e : (Bg base b t (n + 1)).map (fun y => Pn base b m y.2) = (lv base b t n).map fun w => Pn base b m w.2.2 := by
      rw [Bg_succ, List.map_map]; rfl
    rw [e]
    have := lvN_sum h1 hb m (fun y hy => Bg_in h1 hb ht n y hy) _ (Nat.le_refl (Bg base b t n).length)
    rw [List.take_length, Bg_sum h1 hb ht n (m + 1)] at this
    have en : n + 1 + m = n + (m + 1) := by omega
    rw [en]
    exact this
theorem Bg_len {base b t : Int} (h1 : 2 ≤ base) (hb : 0 < b) (ht : -b ≤ t ∧ t ≤ b) (n : Nat) : Pn base b n t = ((Bg base b t n).length : Int) := by
  have := Bg_sum h1 hb ht n 0
  rw [Nat.add_zero] at this
  rw [← this]
  have key : ∀ l : List (List Int × Int), (l.map fun y => Pn base b 0 y.2).sum = (l.length : Int) := by
    intro l
    induction l with
    | nil => rfl
    | cons y l ih =>
      rw [List.map_cons, List.sum_cons, ih, List.length_cons]
      show (1 : Int) + _ = _
      omega
  exact key _
theorem nx_pos {base t b : Int} (h1 : 2 ≤ base) (hb : 0 < b) (ht : -b ≤ t ∧ t ≤ b) : 0 < (nx base b t).length := by
  unfold nx
  rw [nexts_len]
  have := dig_le h1 hb ht.1 ht.2
  unfold nextN
  omega
theorem lvN_ge {base b : Int} (h1 : 2 ≤ base) (hb : 0 < b) {ys : List (List Int × Int)} (hin : ∀ y ∈ ys, -b ≤ y.2 ∧ y.2 ≤ b) : ∀ k : Nat, k ≤ ys.length → k ≤ (lvN base b ys k).length
  | 0, _ => Nat.zero_le _
  | k + 1, hk => by
    have hy := List.getElem?_eq_getElem (show k < ys.length by omega)
    generalize ys[k] = y at hy
    have hat : lvAt base b ys k = (nx base b y.2).map fun z => (k, z.1, z.2) := by unfold lvAt; rw [hy]
    have h := lvN_ge h1 hb hin k (by omega)
    have hp := nx_pos h1 hb (hin y (List.mem_of_getElem? hy))
    rw [lvN_succ, List.length_append, hat, List.length_map]
    omega
theorem Bg_up {base b t : Int} (h1 : 2 ≤ base) (hb : 0 < b) (ht : -b ≤ t ∧ t ≤ b) (n : Nat) : (Bg base b t n).length ≤ (Bg base b t (n + 1)).length := by
  rw [Bg_succ, List.length_map]
  exact lvN_ge h1 hb (fun y hy => Bg_in h1 hb ht n y hy) _ (Nat.le_refl _)
theorem Bg_mono {base b t : Int} (h1 : 2 ≤ base) (hb : 0 < b) (ht : -b ≤ t ∧ t ≤ b) (n : Nat) : ∀ m : Nat, (Bg base b t n).length ≤ (Bg base b t (n + m)).length
  | 0 => Nat.le_refl _
  | m + 1 => Nat.le_trans (Bg_mono h1 hb ht n m) (Bg_up h1 hb ht (n + m))
theorem lvN_le {base b : Int} (N : Nat) {ys : List (List Int × Int)} (hN : ∀ y ∈ ys, (nx base b y.2).length ≤ N) : ∀ k : Nat, (lvN base b ys k).length ≤ N * k
  | 0 => Nat.zero_le _
  | k + 1 => by
    have h := lvN_le N hN k
    rw [lvN_succ, List.length_append, Nat.mul_succ]
    have : (lvAt base b ys k).length ≤ N := by
      unfold lvAt
      cases e : ys[k]? with
      | none => exact Nat.zero_le _
      | some y =>
        show (List.map _ _).length ≤ N
        rw [List.length_map]
        exact hN y (List.mem_of_getElem? e)
    omega
theorem nx_lenB {base t b : Int} {N : Nat} (h : 2 * base - 1 ≤ (N : Int)) (h0 : 2 ≤ base) : (nx base b t).length ≤ N := by
  unfold nx
  rw [nexts_len]
  have l1 := ldig_ge base t b
  have l2 := gdig_le base t b
  unfold nextN
  omega
theorem Bg_cap {base b t : Int} {N : Nat} (h : 2 * base - 1 ≤ (N : Int)) (h0 : 2 ≤ base) : ∀ n : Nat, (Bg base b t n).length ≤ N ^ n
  | 0 => Nat.le_refl _
  | n + 1 => by
    rw [Bg_succ, List.length_map, Nat.pow_succ, Nat.mul_comm]
    refine Nat.le_trans (lvN_le N (fun y _ => nx_lenB h h0) _) (Nat.mul_le_mul_left N (Bg_cap h h0 n))
/-- as an integer to the base -/
def vI (base : Int) (xs : List Int) : Int := xs.foldl (fun a d => a * base + d) 0
theorem vI_snoc (base : Int) (xs : List Int) (d : Int) : vI base (xs ++ [d]) = vI base xs * base + d := by
  unfold vI
  rw [List.foldl_append]
  rfl
theorem Bg_val {base b t : Int} : ∀ (n : Nat) (y : List Int × Int), y ∈ Bg base b t n → base ^ n * t = vI base y.1 * b + y.2
  | 0, y, h => by
    have : y = ([], t) := by simpa [Bg] using h
    rw [this]
    show base ^ 0 * t = 0 * b + t
    rw [Int.pow_zero]; omega
  | n + 1, y, h => by
    rw [Bg_succ] at h
    obtain ⟨w, hw, rfl⟩ := List.mem_map.mp h
    obtain ⟨y', z, hy, hz, ew⟩ := lvN_mem hw
    have ih := Bg_val n y' (List.mem_of_getElem? hy)
    unfold nx nexts at hz
    obtain ⟨i, _, rfl⟩ := List.mem_map.mp hz
    have e1 : (bgExt (Bg base b t n) w) = (y'.1 ++ [w.2.1], w.2.2) := by unfold bgExt; rw [hy]; rfl
    rw [e1]
    show _ = vI base (y'.1 ++ [w.2.1]) * b + w.2.2
    have e2 : w.2.1 = ldig base y'.2 b + (i : Int) := congrArg (fun z => z.2.1) ew
    have e3 : w.2.2 = base * y'.2 - (ldig base y'.2 b + (i : Int)) * b := congrArg (fun z => z.2.2) ew
    rw [vI_snoc, e3, e2, Int.pow_succ, Int.mul_right_comm, ih, Int.add_mul, Int.add_mul, Int.mul_right_comm (vI base y'.1) b base, Int.mul_comm y'.2 base]
    omega
theorem Bg_near {base b t : Int} (h1 : 2 ≤ base) (hb : 0 < b) (ht : -b ≤ t ∧ t ≤ b) {n : Nat} {y z : List Int × Int} (hy : y ∈ Bg base b t n) (hz : z ∈ Bg base b t n) : vI base y.1 - vI base z.1 ≤ 2 := by
  have e1 := Bg_val n y hy
  have e2 := Bg_val n z hz
  have i1 := Bg_in h1 hb ht n y hy
  have i2 := Bg_in h1 hb ht n z hz
  have e : (vI base y.1 - vI base z.1) * b = z.2 - y.2 := by rw [Int.sub_mul]; omega
  by_cases hc : vI base y.1 - vI base z.1 ≤ 2
  · exact hc
  · exfalso
    have : 3 * b ≤ (vI base y.1 - vI base z.1) * b := Int.mul_le_mul_of_nonneg_right (by omega) (by omega)
    omega
theorem Ch.app {base : Int} {r s : Int × Int} {c : List Int} (h : Ch base r c s) {c' : List Int} {s' : Int × Int} (h' : Ch base s c' s') : Ch base r (c ++ c') s' := by
  induction h' with
  | nil => rw [List.append_nil]; exact h
  | snoc q hw ih => rw [← List.append_assoc]; exact .snoc ih hw
theorem Ch.take {base : Int} {r s : Int × Int} {c : List Int} (h : Ch base r c s) : ∀ n : Nat, ∃ s', Ch base r (c.take n) s' := by
  induction h with
  | nil => intro n; rw [List.take_nil]; exact ⟨r, .nil r⟩
  | @snoc s c w q hw ih =>
    intro n
    by_cases hn : n ≤ c.length
    · rw [List.take_append_of_le_length hn]; exact ih n
    · rw [List.take_of_length_le (by rw [List.length_append, List.length_singleton]; omega)]
      exact ⟨_, .snoc q hw⟩
/-- a way is a beginning -/
theorem Ch.bg {base b t : Int} (h1 : 2 ≤ base) (hb : 0 < b) (ht : -b ≤ t ∧ t ≤ b) {s : Int × Int} {c : List Int} (h : Ch base (t, b) c s) : ∃ (k : Nat) (y : List Int × Int), (Bg base b t c.length)[k]? = some y ∧ AlR b (c, s) y := by
  induction h with
  | nil => exact ⟨0, ([], t), rfl, rfl, rfl, hb, Int.le_refl _⟩
  | @snoc s c w q hw ih =>
    obtain ⟨k, y, hy, hrel⟩ := ih
    have hin := Bg_in h1 hb ht c.length y (List.mem_of_getElem? hy)
    have hturn := AlRs.turn h1 hb hy hin hrel
    obtain ⟨j, hj⟩ := List.getElem?_of_mem hw
    have hjl : (((goes base s.1 s.2).map fun w => (c ++ [w.1], w.2)))[j]? = some (c ++ [w.1], w.2) := by rw [List.getElem?_map, hj]; rfl
    have hlt : j < ((lvAt base b (Bg base b t c.length) k).map (bgExt (Bg base b t c.length))).length := by
      rw [← hturn.1]; exact (List.getElem?_eq_some_iff.mp hjl).1
    have hy2 := List.getElem?_eq_getElem hlt
    have hr2 := hturn.2 j _ _ hjl hy2
    have hmem : ((lvAt base b (Bg base b t c.length) k).map (bgExt (Bg base b t c.length)))[j] ∈ Bg base b t (c.length + 1) := by
      rw [Bg_succ]
      obtain ⟨w', hw', e'⟩ := List.mem_map.mp (List.getElem_mem hlt)
      rw [← e']
      refine List.mem_map.mpr ⟨w', ?_, rfl⟩
      unfold lv lvN
      exact List.mem_flatMap.mpr ⟨k, List.mem_range.mpr (List.getElem?_eq_some_iff.mp hy).1, hw'⟩
    obtain ⟨k2, hk2⟩ := List.getElem?_of_mem hmem
    refine ⟨k2, _, ?_, hr2⟩
    rw [List.length_append, List.length_singleton]
    exact hk2
theorem bg_P2 (L : List (List Int × Int)) (hl : L.length ≤ 4000000) (hc : ∀ y ∈ L, y.1.length ≤ 4000000) : P2 2 (.lst (L.map bgD)) (.lst (L.map bgD)) := by
  refine .lst (by rw [List.length_map]; exact hl) fun _ k x y hx hy => ?_
  rw [hx] at hy
  cases hy
  rw [List.getElem?_map] at hx
  obtain ⟨z, hz, rfl⟩ := Option.map_eq_some_iff.mp hx
  refine .tup (by rw [List.length_map]; exact hc z (List.mem_of_getElem? hz)) fun _ j u v hu hv => ?_
  rw [hu] at hv
  cases hv
  rw [List.getElem?_map] at hu
  obtain ⟨i, _, rfl⟩ := Option.map_eq_some_iff.mp hu
  exact .int _ i i
theorem py_ints : ∀ xs : List Int, PyData.canLayAll0 (toPyL (xs.map D.int)) = true ∧ PyData.depthAll (toPyL (xs.map D.int)) = 0
  | [] => ⟨rfl, rfl⟩
  | x :: xs => by
    obtain ⟨h1, h2⟩ := py_ints xs
    rw [List.map_cons, toPyL, toPy]
    exact ⟨by rw [PyData.canLayAll0, h1]; rfl, by rw [PyData.depthAll, h2]; rfl⟩
theorem py_bg : ∀ L : List (List Int × Int), PyData.canLayAll0 (toPyL (L.map bgD)) = true ∧ PyData.depthAll (toPyL (L.map bgD)) ≤ 1
  | [] => ⟨rfl, by show 0 ≤ 1; decide⟩
  | y :: L => by
    obtain ⟨h1, h2⟩ := py_bg L
    obtain ⟨h3, h4⟩ := py_ints y.1
    rw [List.map_cons, toPyL]
    unfold bgD
    rw [toPy]
    refine ⟨by rw [PyData.canLayAll0, PyData.canLay0, h3]; exact h1, ?_⟩
    rw [PyData.depthAll, PyData.depth, h4]
    exact Nat.max_le.mpr ⟨Nat.le_refl _, h2⟩
theorem bg_shaped (L : List (List Int × Int)) : SeqAt.shaped (toPy (.lst (L.map bgD))) = true := by
  obtain ⟨h1, h2⟩ := py_bg L
  unfold SeqAt.shaped
  rw [toPy, PyData.canLay0, h1, PyData.depth, decide_eq_true (by omega)]
  rfl
theorem bg_cmp (L : List (List Int × Int)) : Cmp (.lst (L.map bgD)) := by
  refine .lst fun x hx => ?_
  obtain ⟨y, _, rfl⟩ := List.mem_map.mp hx
  refine .tup fun z hz => ?_
  obtain ⟨i, _, rfl⟩ := List.mem_map.mp hz
  exact .int i
theorem bg_refl (L : List (List Int × Int)) : PyData.eqv (toPy (.lst (L.map bgD))) (toPy (.lst (L.map bgD))) = true := SeqAt.eqv_refl _ (SeqAt.canLay_of_shaped (bg_shaped L))
theorem row_cut (ps qs : List Int) {n : Int} (hn : 0 ≤ n) : Cal.cutD (ps.map D.int ++ (List.replicate n.toNat (qs.map D.int)).flatten) none (some n) = ((ps ++ (List.replicate n.toNat qs).flatten).take n.toNat).map D.int := by
  obtain ⟨k, rfl⟩ : ∃ k : Nat, n = k := ⟨n.toNat, by omega⟩
  rw [cut_take, Int.toNat_natCast, List.map_take, List.map_append, List.map_flatten, List.map_replicate]
theorem Ch.rep {base : Int} {s : Int × Int} {qs : List Int} (h : Ch base s qs s) : ∀ m : Nat, Ch base s (List.replicate m qs).flatten s
  | 0 => .nil s
  | m + 1 => by
    rw [List.replicate_succ, List.flatten_cons]
    exact h.app (Ch.rep h m)
theorem rep_len {qs : List Int} (h : qs ≠ []) : ∀ m : Nat, m ≤ (List.replicate m qs).flatten.length
  | 0 => Nat.zero_le _
  | m + 1 => by
    rw [List.replicate_succ, List.flatten_cons, List.length_append]
    have := rep_len h m
    have h0 : 0 < qs.length := List.length_pos_iff.mpr h
    omega
theorem tup_cmp (c : List Int) : Cmp (.tup (c.map D.int)) := .tup fun x hx => by
  obtain ⟨i, _, rfl⟩ := List.mem_map.mp hx
  exact .int i
theorem tup_shaped (c : List Int) : SeqAt.shaped (toPy (.tup (c.map D.int))) = true := by
  obtain ⟨h1, h2⟩ := py_ints c
  unfold SeqAt.shaped
  rw [toPy, PyData.canLay0, h1, PyData.depth, h2]
  rfl
theorem row_in {base b t : Int} (h1 : 2 ≤ base) (hb : 0 < b) (ht : -b ≤ t ∧ t ≤ b) {ps qs : List Int} {s : Int × Int} (hp : Ch base (t, b) ps s) (hq : Ch base s qs s) (hne : qs ≠ []) (n : Nat) :
    ((Bg base b t n).map bgD).any (fun z => PyData.eqv (toPy z) (toPy (.tup (((ps ++ (List.replicate n qs).flatten).take n).map D.int)))) = true := by
  obtain ⟨s', hc⟩ := (hp.app (hq.rep n)).take n
  have hl : ((ps ++ (List.replicate n qs).flatten).take n).length = n := by
    have := rep_len hne n
    rw [List.length_take, List.length_append]; omega
  obtain ⟨k, y, hy, ha⟩ := hc.bg h1 hb ht
  rw [hl] at hy
  refine List.any_eq_true.mpr ⟨bgD y, List.mem_map.mpr ⟨y, List.mem_of_getElem? hy, rfl⟩, ?_⟩
  unfold bgD
  rw [← ha.1]
  exact SeqAt.eqv_refl _ (SeqAt.canLay_of_shaped (tup_shaped _))
theorem nx_end {base e : Int} (h1 : 2 ≤ base) (he : e = 1 ∨ e = -1) : nx base 1 e = [(e * (base - 1), e)] := by
  have hl : ldig base e 1 = e * (base - 1) := by
    unfold ldig maxI
    rcases he with rfl | rfl
    · rw [Int.ediv_one, Int.one_mul, Int.mul_one]; split <;> omega
    · rw [Int.ediv_one, Int.neg_one_mul, Int.mul_neg, Int.mul_one]; split <;> omega
  have hg : gdig base e 1 = e * (base - 1) := by
    unfold gdig minI
    rcases he with rfl | rfl
    · rw [Int.ediv_one, Int.one_mul, Int.mul_one]; split <;> omega
    · rw [Int.ediv_one, Int.neg_one_mul, Int.mul_neg, Int.mul_one]; split <;> omega
  unfold nx
  have hn : nextN base e 1 = 1 := by unfold nextN; rw [hl, hg]; omega
  rw [hn]
  unfold nexts
  rw [hl]
  show [(e * (base - 1) + ((0 : Nat) : Int), base * e - (e * (base - 1) + ((0 : Nat) : Int)) * 1)] = _
  rcases he with rfl | rfl
  · congr 1
    refine Prod.ext ?_ ?_
    · show 1 * (base - 1) + ((0 : Nat) : Int) = _; omega
    · show base * 1 - (1 * (base - 1) + ((0 : Nat) : Int)) * 1 = 1; omega
  · congr 1
    refine Prod.ext ?_ ?_
    · show -1 * (base - 1) + ((0 : Nat) : Int) = _; omega
    · show base * -1 - (-1 * (base - 1) + ((0 : Nat) : Int)) * 1 = -1; omega
theorem Bg_end {base e : Int} (h1 : 2 ≤ base) (he : e = 1 ∨ e = -1) : ∀ n : Nat, Bg base 1 e n = [(List.replicate n (e * (base - 1)), e)]
  | 0 => rfl
  | n + 1 => by
    rw [Bg_succ]
    unfold lv
    rw [Bg_end h1 he n]
    show (lvN base 1 [(List.replicate n (e * (base - 1)), e)] 1).map _ = _
    have e1 : lvN base 1 [(List.replicate n (e * (base - 1)), e)] 1 = (nx base 1 e).map fun z => (0, z.1, z.2) := by
      rw [lvN_succ]
      show [] ++ _ = _
      rfl
    rw [e1, nx_end h1 he]
    show [(List.replicate n (e * (base - 1)) ++ [e * (base - 1)], e)] = _
    rw [List.replicate_succ']
theorem rep_one (z : Int) : ∀ n : Nat, (List.replicate n [D.int z]).flatten = (List.replicate n z).map D.int
  | 0 => rfl
  | n + 1 => by
    rw [List.replicate_succ, List.replicate_succ, List.flatten_cons, rep_one z n]
    rfl
/-- an entry of the dozen -/
def SomeOk (x : D) : Prop := ∃ base t b n : Int, x = .tup [.int base, fr (t, b), .int n] ∧ 2 ≤ base ∧ base ≤ 5 ∧ Num t b ∧ b ≤ 400000 ∧ 0 ≤ n ∧ n ≤ 1000
theorem ok_law {f : Addr} {fd : FuncData} (T : Txt K mg) (F : Fun K "law" "law" s_law f fd) : FnOk P w K mg bs CX0 7 f fd ["script"] (spLaw K) := by
  have D_law_hand := d_law_hand (P := P) (w := w) (bs := bs) T
  have D_law_any := d_law_any (P := P) (w := w) (bs := bs) T
  have D_law_draw := d_law_draw (P := P) (w := w) (bs := bs) T
  have D_law_all := d_law_all (P := P) (w := w) (bs := bs) T
  have D_law_told := d_law_told (P := P) (w := w) (bs := bs) T
  have D_law_writing := d_law_writing (P := P) (w := w) (bs := bs) T
  have D_beginnings := d_beginnings (P := P) (w := w) (bs := bs) T
  have D_many_beginnings := d_many_beginnings (P := P) (w := w) (bs := bs) T
  have D_law_is := d_law_is (P := P) (w := w) (bs := bs) T 2
  have D_law_number := d_law_number (P := P) (w := w) (bs := bs) T
  have D_law_integer := d_law_integer (P := P) (w := w) (bs := bs) T
  refine F.ok sc_law (fun vs H Q E h => ?_) (fun cdv A outer s H vs Q E hr h => ?_)
  · obtain ⟨a, ns, rfl, _⟩ := h; rfl
  obtain ⟨a, ns, rfl, hS, hl, hQ⟩ := h
  have hu := hu_of hr
  refine ⟨_, (pss_cons (ps_set (i := 1) sc_law.nd rfl (Or.inl rfl) (pe_callR D_law_hand (hr.mono (by decide)) (pa_cons (pv 0) pa_nil)))
      (pss_cons (ps_for PassesOwn.never rfl (pi_range1 rfl T.n_range (pa_cons pe_int pa_nil)) (pg_name (i := 2) sc_law.nd rfl (Or.inl rfl))
      (pss_cons (ps_asg (pe_tup (pa_cons (pe_op op_add pe_int (pe_callK0 (K0 := K) (by rfl) D_law_draw (hr.mono (by decide)) (pa_cons (pv 1) (pa_cons pe_int pa_nil)))) (pa_cons (pe_callK0 (K0 := K) (by rfl) D_law_number (hr.mono (by decide)) (pa_cons (pv 1) pa_nil)) pa_nil))) (pg_tup rfl (pgs_cons (pg_name (i := 3) sc_law.nd rfl (Or.inr rfl)) (pgs_cons (pg_name (i := 4) sc_law.nd rfl (Or.inl rfl)) pgs_nil))))
      (pss_cons (ps_set (i := 5) sc_law.nd rfl (Or.inl rfl) (pe_callK0 (K0 := K) (by rfl) D_law_draw (hr.mono (by decide)) (pa_cons (pv 1) (pa_cons (pe_ifExp (pt_cmpR op_eq (pv 3) pe_int (nomark _)) pe_int pe_int) pa_nil))))
      (pss_cons (ps_set (i := 6) sc_law.nd rfl (Or.inl rfl) (pe_callK0 (K0 := K) (by rfl) D_law_all (hr.mono (by decide)) (pa_cons (pv 3) (pa_cons (pv 4) (pa_cons (pv 5) pa_nil)))))
      (pss_cons (ps_set (i := 7) sc_law.nd rfl (Or.inl rfl) (pe_callX D_law_told (hr.mono (by decide)) takes0 (pa_cons (pv 3) (pa_cons (pv 4) (pa_cons (pv 5) pa_nil)))))
      (pss_cons (ps_if (pt_cmpR op_gt (pe_callB (call_lenK (K0 := K) (by rfl)) (by rfl) T.n_len (by decide +kernel) (pa_cons (pv 6) pa_nil)) pe_int (nomark _)) (pss_cons (ps_if (pt_not (pt_val (pe_callK0 (K0 := K) (by rfl) D_law_is (hr.mono (by decide)) (pa_cons (pv 7) (pa_cons pe_int pa_nil))))) (pss_one (ps_ret pe_bl)) pss_nil)
      (pss_one ps_continue)) pss_nil)
      (pss_cons (ps_if (PW.pt (pw_or (pt_not (pt_val (pe_callB (call_isiK0 (K0 := K) (by rfl)) (by rfl) T.n_isinstance (by decide +kernel) (pa_cons (pv 7) (pa_cons (pe_bltn (v := .ty "list") (by rfl) T.n_list (by decide +kernel) rfl) pa_nil))))) (pw_or1 (pt_not (pt_val (pe_callK0 (K0 := K) (by rfl) D_law_is (hr.mono (by decide)) (pa_cons (pv 7) (pa_cons (pv 6) pa_nil)))))))) (pss_one (ps_ret pe_bl)) pss_nil)
      (pss_cons (ps_if (pt_not (pt_val (pe_callK0 (K0 := K) (by rfl) D_law_is (hr.mono (by decide)) (pa_cons (pe_callK0 (K0 := K) (by rfl) D_many_beginnings (hr.mono (by decide)) (pa_cons (pv 3) (pa_cons (pv 4) (pa_cons (pv 5) pa_nil)))) (pa_cons (pe_callB (call_lenK (K0 := K) (by rfl)) (by rfl) T.n_len (by decide +kernel) (pa_cons (pv 6) pa_nil)) pa_nil))))) (pss_one (ps_ret pe_bl)) pss_nil)
      (pss_cons (ps_expr (pe_bm PySem.F.plainAttrs_list PySem.F.slot_list_append PySem.F.type_list_append mt_append (pv 7) (pa_cons (pe_tup pa_nil) pa_nil)))
      (pss_cons (ps_if (pt_cmpR (op_neK (K0 := K) (by rfl) hr.units) (pe_callX D_beginnings (hr.mono (by decide)) takes0 (pa_cons (pv 3) (pa_cons (pv 4) (pa_cons (pv 5) pa_nil)))) (pv 6) (nomark _)) (pss_one (ps_ret pe_bl)) pss_nil)
      (pss_cons (ps_setLc (i := 8) (own := [("one", 9)]) (g := (gName 9)) rfl sc_law.nd rfl rfl (sw_true rfl rfl rfl (by decide +kernel)) (pi_listK (K0 := K) (by rfl) (pv 6)) (blkOk_by (N := N_law) (sc := defScope s_law) (by decide +kernel)) (fun _ _ _ _ _ => by exact (pg_name (i := 9) sc_law.nd rfl (Or.inl rfl))) (fun _ _ _ _ _ => by exact pts_nil) (fun _ _ _ _ _ => by exact (pe_callK0 (K0 := K) (by rfl) D_law_integer (hr.mono (by decide)) (pa_cons (pv 3) (pa_cons (pv 9) pa_nil)))))
      (pss_cons (ps_if (pt_cmpR op_gt (pe_op op_sub (pe_callB (cr_maxK (K0 := K) (by rfl) rfl) (by rfl) T.n_max (by decide +kernel) (pa_cons (pv 8) pa_nil)) (pe_callB (cr_minK (K0 := K) (by rfl) rfl) (by rfl) T.n_min (by decide +kernel) (pa_cons (pv 8) pa_nil))) pe_int (nomark _)) (pss_one (ps_ret pe_bl)) pss_nil)
      (pss_cons (ps_set (i := 10) sc_law.nd rfl (Or.inl rfl) (pe_callK0 (K0 := K) (by rfl) D_law_writing (hr.mono (by decide)) (pa_cons (pv 1) (pa_cons (pv 3) (pa_cons (pv 4) pa_nil)))))
      (pss_one (ps_if (pt_cmpR (op_notInDK (K0 := K) (by rfl) (room65 hr)) (pe_callTy (call_tupleK (K0 := K) (by rfl)) (by rfl) T.n_tuple (by decide +kernel) (pa_cons (pe_slice (sl_listK (K0 := K) (by rfl)) (pe_op op_cat (pe_callTy (call_listK (K0 := K) (by rfl)) (by rfl) T.n_list (by decide +kernel) (pa_cons (pe_ix (ix_tupK (K0 := K) (by rfl)) (pv 10) pe_int (fun _ _ => rfl)) pa_nil)) (pe_op op_rep (pe_callTy (call_listK (K0 := K) (by rfl)) (by rfl) T.n_list (by decide +kernel) (pa_cons (pe_ix (ix_tupK (K0 := K) (by rfl)) (pv 10) pe_int (fun _ _ => rfl)) pa_nil)) (pv 5))) po_none (po_some (pv 5))) pa_nil)) (pv 6) (by with_unfolding_all rfl)) (pss_one (ps_ret pe_bl)) pss_nil)))))))))))))))
      (pss_cons (ps_asg (pe_tup (pa_cons (pe_op op_add pe_int (pe_callK0 (K0 := K) (by rfl) D_law_draw (hr.mono (by decide)) (pa_cons (pv 1) (pa_cons pe_int pa_nil)))) (pa_cons (pe_callK0 (K0 := K) (by rfl) D_law_any (hr.mono (by decide)) (pa_cons (pv 1) (pa_cons (pe_lst (pa_cons pe_int (pa_cons (pe_un un_neg pe_int) pa_nil))) pa_nil))) pa_nil))) (pg_tup rfl (pgs_cons (pg_name (i := 3) sc_law.nd rfl (Or.inr rfl)) (pgs_cons (pg_name (i := 11) sc_law.nd rfl (Or.inl rfl)) pgs_nil))))
      (pss_cons (ps_if (pt_cmpR (op_neK (K0 := K) (by rfl) hr.units) (pe_callX D_beginnings (hr.mono (by decide)) takes0 (pa_cons (pv 3) (pa_cons (pe_tup (pa_cons (pv 11) (pa_cons pe_int pa_nil))) (pa_cons pe_int pa_nil)))) (pe_lst (pa_cons (pe_op (op_repTK (K0 := K) (by rfl)) (pe_tup (pa_cons (pe_op op_mulA (pv 11) (pe_op op_sub (pv 3) pe_int)) pa_nil)) pe_int) pa_nil)) (nomark _)) (pss_one (ps_ret pe_bl)) pss_nil)
      (pss_cons (ps_set (i := 12) sc_law.nd rfl (Or.inl rfl) (pe_lst (pa_cons (pe_tup (pa_cons pe_int (pa_cons (pe_tup (pa_cons pe_int (pa_cons pe_int pa_nil))) (pa_cons pe_int pa_nil)))) (pa_cons (pe_tup (pa_cons pe_int (pa_cons (pe_tup (pa_cons pe_int (pa_cons pe_int pa_nil))) (pa_cons pe_int pa_nil)))) (pa_cons (pe_tup (pa_cons pe_int (pa_cons (pe_tup (pa_cons pe_int (pa_cons pe_int pa_nil))) (pa_cons pe_int pa_nil)))) (pa_cons (pe_tup (pa_cons pe_int (pa_cons (pe_tup (pa_cons pe_int (pa_cons pe_int pa_nil))) (pa_cons pe_int pa_nil)))) (pa_cons (pe_tup (pa_cons pe_int (pa_cons (pe_tup (pa_cons pe_int (pa_cons pe_int pa_nil))) (pa_cons pe_int pa_nil)))) (pa_cons (pe_tup (pa_cons pe_int (pa_cons (pe_tup (pa_cons pe_int (pa_cons pe_int pa_nil))) (pa_cons pe_int pa_nil)))) pa_nil))))))))
      (pss_cons (ps_set (i := 12) sc_law.nd rfl (Or.inl rfl) (pe_op op_cat (pv 12) (pe_lst (pa_cons (pe_tup (pa_cons pe_int (pa_cons (pe_tup (pa_cons pe_int (pa_cons pe_int pa_nil))) (pa_cons (pe_op op_add pe_int (pe_callK0 (K0 := K) (by rfl) D_law_draw (hr.mono (by decide)) (pa_cons (pv 1) (pa_cons pe_int pa_nil)))) pa_nil)))) (pa_cons (pe_tup (pa_cons pe_int (pa_cons (pe_tup (pa_cons pe_int (pa_cons pe_int pa_nil))) (pa_cons (pe_op op_add pe_int (pe_callK0 (K0 := K) (by rfl) D_law_draw (hr.mono (by decide)) (pa_cons (pv 1) (pa_cons pe_int pa_nil)))) pa_nil)))) pa_nil)))))
      (pss_cons (ps_asg (pe_callK0 (K0 := K) (by rfl) D_law_any (hr.mono (by decide)) (pa_cons (pv 1) (pa_cons (pv 12) pa_nil))) (pg_tup rfl (pgs_cons (pg_name (i := 3) sc_law.nd rfl (Or.inr rfl)) (pgs_cons (pg_name (i := 4) sc_law.nd rfl (Or.inl rfl)) (pgs_cons (pg_name (i := 5) sc_law.nd rfl (Or.inl rfl)) pgs_nil)))))
      (pss_cons (ps_par (i := 13) (j := 7) (by rfl) sc_law.nd rfl rfl (by decide) rfl rfl (pa_cons (pe_callK0 (K0 := K) (by rfl) D_many_beginnings (hr.mono (by decide)) (pa_cons (pv 3) (pa_cons (pv 4) (pa_cons (pv 5) pa_nil)))) (pa_cons (pe_callX D_law_told (hr.mono (by decide)) takes0 (pa_cons (pv 3) (pa_cons (pv 4) (pa_cons (pv 5) pa_nil)))) pa_nil)) (by rfl))
      (pss_cons (ps_if (pt_cmpR op_gt (pv 13) pe_int (nomark _)) (pss_one (ps_ret (pe_callK0 (K0 := K) (by rfl) D_law_is (hr.mono (by decide)) (pa_cons (pv 7) (pa_cons pe_int pa_nil))))) pss_nil)
      (pss_one (ps_ret (pe_and (pe_callB (call_isiK0 (K0 := K) (by rfl)) (by rfl) T.n_isinstance (by decide +kernel) (pa_cons (pv 7) (pa_cons (pe_bltn (v := .ty "list") (by rfl) T.n_list (by decide +kernel) rfl) pa_nil))) (pe_and (pe_cmpR op_eq (pe_callB (call_lenK (K0 := K) (by rfl)) (by rfl) T.n_len (by decide +kernel) (pa_cons (pv 7) pa_nil)) (pv 13) (nomark _)) (pe_one (pe_callK0 (K0 := K) (by rfl) D_law_is (hr.mono (by decide)) (pa_cons (pv 7) (pa_cons (pe_callK0 (K0 := K) (by rfl) D_law_all (hr.mono (by decide)) (pa_cons (pv 3) (pa_cons (pv 4) (pa_cons (pv 5) pa_nil)))) pa_nil))))))))))))))))), ?_⟩
  refine ⟨.ref a, rfl, a, ns, rfl, hS, hl, fun h c H' ex hne hh hc => ?_⟩
  dsimp only
  refine law_go1 (K := K) (a := a) (ts := tSeq (tFor _ _ _) (tSeq _ _)) 12 hne hl hh hc (fun H0 G0 => ?_) hQ
  refine ws_seq (ws_for1 (wa_cons (we_int (wa_nil ⟨3, rfl, by decide, by decide, fun k ρ => ∃ r2 r3 r4 r5 r6 r7 r8 r9 r10 r11 r12 r13 : Option Cell, ρ = [none, some (.d .hand), r2, r3, r4, r5, r6, r7, r8, r9, r10, r11, r12, r13], ⟨_, _, _, _, _, _, _, _, _, _, _, _, rfl⟩, ?_, ?_⟩))))
  · rintro k ρ hk ⟨r2, r3, r4, r5, r6, r7, r8, r9, r10, r11, r12, r13, rfl⟩
    refine wg_name (ws_seq (ws_asgG (we_tup (wa_cons (we_I0 (we_int ⟨_, rfl, we_call (wa_cons (we_var rfl (wa_cons (we_int (wa_nil ⟨4, rfl, by decide, by decide, fun b0 hb0 hb1 => ⟨_, rfl, ?_⟩⟩)))))⟩))))))
    refine wa_cons (we_call (wa_cons (we_var rfl (wa_nil ⟨rfl, fun xt xb hX hXb => wa_nil ⟨len2, ?_⟩⟩))))
    refine wg_tup ⟨_, rfl, rfl, wgs_cons ⟨_, _, rfl, wg_name (wgs_cons ⟨_, _, rfl, wg_name (wgs_nil ⟨rfl, ?_⟩)⟩)⟩⟩
    obtain ⟨x1, x2, x3, x4⟩ := id hX
    have hbase1 : (2 : Int) ≤ 2 + b0 := by omega
    have hbase2 : 2 + b0 ≤ 5 := by omega
    dsimp only [inj]
    generalize hB : 2 + b0 = B at hbase1 hbase2
    refine ws_seq (ws_asg (we_call (wa_cons (we_var rfl (wa_cons (WE.imp (Q' := fun x => ∃ m : Int, x = .int m ∧ (m = 8 ∧ B = 2 ∨ m = 6)) (we_if (wt_T (we_eqI (we_var rfl ⟨_, rfl, we_int ⟨_, rfl, _, rfl, ?_⟩⟩)))) ?_))))))
    · refine ite2 (fun hb => we_int ⟨8, rfl, .inl ⟨rfl, of_decide_eq_true hb⟩⟩) (fun _ => we_int ⟨6, rfl, .inr rfl⟩)
    rintro _ ⟨m, rfl, hm⟩
    refine wa_nil ⟨m, rfl, by omega, by omega, fun n hn0 hn1 => ?_⟩
    have hcap : ∀ j : Nat, j ≤ n.toNat → (Bg B xb xt j).length ≤ 200000 := by
      intro j hj
      rcases hm with ⟨rfl, rfl⟩ | rfl
      · refine Nat.le_trans (Bg_cap (N := 3) (by decide) (by decide) j) (Nat.le_trans (Nat.pow_le_pow_right (by decide) (show j ≤ 7 by omega)) (by decide))
      · refine Nat.le_trans (Bg_cap (N := 9) (by omega) hbase1 j) (Nat.le_trans (Nat.pow_le_pow_right (by decide) (show j ≤ 5 by omega)) (by decide))
    have hn7 : n ≤ 7 := by omega
    clear hm
    have hcapn := hcap n.toNat (Nat.le_refl _)
    -- due
    refine ws_seq (ws_asg (we_call (wa_cons (we_var rfl (wa_cons (we_var rfl (wa_cons (we_var rfl (wa_nil ⟨B, xt, xb, n, rfl, hbase1, hbase2, hX, by omega, hn0, by omega, hcap, ?_⟩)))))))))
    have hW0 : XW mg ⟨K, h, H0, G0⟩ (fun _ _ _ => False) (fun _ _ _ _ => False) := fun _ _ _ _ _ _ _ _ z _ _ _ => z
    by_cases hbig : 2000 < (Bg B xb xt n.toNat).length
    · refine ws_seq (ws_asg (we_callX hW0 (wa_cons (we_var rfl (wa_cons (we_var rfl (wa_cons (we_var rfl (wa_nil ⟨B, xt, xb, n, rfl, hbase1, hbase2, hX, by omega, hn0, by omega, fun hall => ?_, fun j hj hl => ?_⟩)))))))))
      · exact absurd (hall _ (Nat.le_refl _)) (by omega)
      refine ws_seq (ws_if (wt_T (we_I0 (we_len (we_var rfl ⟨_, .inl rfl, _, rfl, we_int ⟨_, rfl, _, rfl, ?_⟩⟩)))))
      rw [List.length_map, if_pos (decide_eq_true (by omega))]
      refine ws_seq (ws_if (wt_not (wt_B (we_call (wa_cons (we_var rfl (wa_cons (we_int (wa_nil ⟨_, _, rfl, .int _ 2000 2000, _, rfl, ?_⟩)))))))))
      rw [if_neg (by decide)]
      exact ws_next (ws_cont ⟨_, _, _, _, _, _, _, _, _, _, _, _, rfl⟩)
    · have hall : ∀ j : Nat, j ≤ n.toNat → (Bg B xb xt j).length ≤ 2000 := fun j hj => by
        have := Bg_mono hbase1 x1 ⟨x3, x4⟩ j (n.toNat - j)
        rw [show j + (n.toNat - j) = n.toNat by omega] at this
        omega
      refine ws_seq (ws_asgF (wf_callX hW0 (wa_cons (we_var rfl (wa_cons (we_var rfl (wa_cons (we_var rfl (wa_nil ⟨B, xt, xb, n, rfl, hbase1, hbase2, hX, by omega, hn0, by omega, fun _ => ?_, fun j hj hl => absurd hl (by have := hall j hj; omega)⟩)))))))))
      have hpos : 0 < (Bg B xb xt n.toNat).length := by
        have := Bg_mono hbase1 x1 ⟨x3, x4⟩ 0 n.toNat
        rw [Nat.zero_add] at this
        exact Nat.lt_of_lt_of_le (show 0 < (Bg B xb xt 0).length by show 0 < 1; decide) this
      have hni : D.nonInt ((Bg B xb xt n.toNat).map bgD) = true := by
        cases e : Bg B xb xt n.toNat with
        | nil => rw [e] at hpos; exact absurd hpos (by decide)
        | cons y l => rfl
      have hsame : isD (.lst ((Bg B xb xt n.toNat).map bgD)) (.lst ((Bg B xb xt n.toNat).map bgD)) = true := by
        refine isD_self (n := 2) _ (bg_P2 _ (by omega) fun y hy => ?_)
        rw [Bg_fst _ y hy]; omega
      have hP2 : P2 2 (.lst ((Bg B xb xt n.toNat).map bgD)) (.lst ((Bg B xb xt n.toNat).map bgD)) := bg_P2 _ (by omega) fun y hy => by rw [Bg_fst _ y hy]; omega
      -- len(due) > 2000
      refine ws_seq (ws_if (wt_T (we_I0 (we_len (we_var rfl ⟨_, .inl rfl, _, rfl, we_int ⟨_, rfl, _, rfl, ?_⟩⟩)))))
      rw [List.length_map, if_neg (by rw [decide_eq_false (by omega)]; decide)]
      refine ws_next ?_
      -- told is a list, and due
      refine ws_seq (ws_if (wt_lend 7 rfl hni (wt_or (wt_not (wt_B (we_isi (we_var rfl ⟨_, true, rfl, kb_list_list, _, rfl, fun _ => ?_, fun hf => absurd hf (by decide)⟩)))))))
      refine wt_not (wt_B (we_call (wa_cons (we_var rfl (wa_cons (we_var rfl (wa_nil ⟨_, _, rfl, hP2, _, rfl, ?_⟩))))))) 
      rw [hsame, if_neg (by decide)]
      refine ws_next ?_
      -- how many
      refine ws_seq (ws_if (wt_not (wt_B (we_call (wa_cons (we_call (wa_cons (we_var rfl (wa_cons (we_var rfl (wa_cons (we_var rfl (wa_nil ⟨B, xt, xb, n, rfl, hbase1, hbase2, hX, by omega, hn0, by omega, ?_⟩)))))))))))))
      refine wa_cons (we_len (we_var rfl ⟨_, .inl rfl, wa_nil ⟨_, _, rfl, .int _ _ _, _, rfl, ?_⟩⟩))
      rw [List.length_map, Bg_len hbase1 x1 ⟨x3, x4⟩, isD, decide_eq_true rfl, if_neg (by decide)]
      refine ws_next (ws_seq (ws_append rfl (by rw [List.length_map]; omega) (we_tup (wa_nil ⟨by show 0 ≤ 4000000; decide, ?_⟩))))
      -- asked again
      refine ws_seq (ws_if (wt_T (we_neD (we_callX hW0 (wa_cons (we_var rfl (wa_cons (we_var rfl (wa_cons (we_var rfl (wa_nil ⟨B, xt, xb, n, rfl, hbase1, hbase2, hX, by omega, hn0, by omega, fun _ => ⟨bg_cmp _, bg_shaped _, we_var rfl ⟨bg_cmp _, bg_shaped _, _, rfl, ?_⟩⟩, fun j hj hl => absurd hl (by have := hall j hj; omega)⟩)))))))))))
      have hr0 := bg_refl (Bg B xb xt n.toNat)
      rw [if_neg (by dsimp only [Cell.toD]; rw [hr0]; decide)]
      refine ws_next ?_
      -- read as integers
      refine ws_seq (ws_asg (we_F (wf_lcL (we_var rfl ⟨_, rfl, by rw [List.length_map]; omega, fun k acc => acc = ((Bg B xb xt n.toNat).take k).map (fun y => D.int (vI B y.1)), rfl, ?_, ?_⟩))))
      · rintro k' x acc hk' rfl _
        rw [List.getElem?_map] at hk'
        obtain ⟨y, hy, rfl⟩ := Option.map_eq_some_iff.mp hk'
        have hyl : y.1.length = n.toNat := Bg_fst (base := B) (b := xb) (t := xt) n.toNat y (List.mem_of_getElem? hy)
        refine wgp_name ?_ ?_
        · decide
        refine wt_yes ?_
        rw [if_pos rfl]
        refine we_call (wa_cons (we_var rfl (wa_cons (we_var rfl (wa_nil ⟨B, y.1, rfl, hbase1, hbase2, by omega, ?_⟩)))))
        dsimp only
        rw [take_more hy, List.map_append]
        rfl
      rintro acc rfl
      rw [List.length_map, List.take_length]
      have hws : (Bg B xb xt n.toNat).map (fun y => D.int (vI B y.1)) = ((Bg B xb xt n.toNat).map fun y => vI B y.1).map D.int := by rw [List.map_map]; rfl
      rw [hws]
      refine ws_seq (ws_if (wt_T (we_I0 (we_I0 (we_maxL (we_var rfl ⟨_, rfl, by rw [List.length_map]; exact hpos, fun mx hmx _ => ⟨_, rfl, we_minL (we_var rfl ⟨_, rfl, by rw [List.length_map]; exact hpos, fun mn hmn _ => ⟨_, rfl, _, rfl, we_int ⟨2, rfl, _, rfl, ?_⟩⟩⟩)⟩⟩))))))
      obtain ⟨y1, hy1, rfl⟩ := List.mem_map.mp hmx
      obtain ⟨y2, hy2, rfl⟩ := List.mem_map.mp hmn
      have hnear := Bg_near hbase1 x1 ⟨x3, x4⟩ hy1 hy2
      rw [if_neg (by rw [decide_eq_false (by omega)]; decide)]
      refine ws_next ?_
      -- a drawn writing
      refine ws_seq (ws_asg (we_call (wa_cons (we_var rfl (wa_cons (we_var rfl (wa_cons (we_var rfl (wa_nil ⟨B, xt, xb, rfl, hbase1, hbase2, hX, by omega, fun ps qs s hp hq hqne _ hlen => ?_⟩)))))))))
      have hlen := hlen (by omega)
      refine ws_if (wt_T (we_notInD (we_tupleOf (we_slL (we_F (wf_catL (we_F (wf_listOf (we_ixT (we_var rfl ⟨_, rfl, we_int ⟨0, _, rfl, rfl, _, .inr rfl, _, rfl, ?_⟩⟩))))))))))
      refine we_repL (we_F (wf_listOf (we_ixT (we_var rfl ⟨_, rfl, we_int ⟨1, _, rfl, rfl, _, .inr rfl, _, rfl, we_var rfl ⟨n, rfl, by omega, by omega, ?_, _, rfl, ?_, _, rfl, wo_none (wo_some (we_var rfl ⟨n, rfl, _, .inl rfl, ?_⟩))⟩⟩⟩))))
      · rw [List.length_map]
        exact Nat.le_trans (Nat.mul_le_mul (show qs.length ≤ 3010 by omega) (show n.toNat ≤ 7 by omega)) (by decide)
      · rw [List.length_map, List.length_flatten, List.map_replicate, List.sum_replicate_nat, List.length_map]
        have := Nat.mul_le_mul (show n.toNat ≤ 7 by omega) (show qs.length ≤ 3010 by omega)
        omega
      rw [row_cut ps qs hn0]
      refine ⟨tup_cmp _, tup_shaped _, we_var rfl ⟨_, rfl, bg_cmp _, bg_shaped _, _, rfl, ?_⟩⟩
      rw [row_in hbase1 x1 ⟨x3, x4⟩ hp hq hqne, if_neg (by decide)]
      exact ws_next ⟨_, _, _, _, _, _, _, _, _, _, _, _, rfl⟩
  · rintro ρ ⟨r2, r3, r4, r5, r6, r7, r8, r9, r10, r11, r12, r13, rfl⟩
    have hW0 : XW mg ⟨K, h, H0, G0⟩ (fun _ _ _ => False) (fun _ _ _ _ => False) := fun _ _ _ _ _ _ _ _ z _ _ _ => z
    -- base, end
    refine ws_seq (ws_asgG (we_tup (wa_cons (we_I0 (we_int ⟨_, rfl, we_call (wa_cons (we_var rfl (wa_cons (we_int (wa_nil ⟨4, rfl, by decide, by decide, fun b0 hb0 hb1 => ⟨_, rfl, ?_⟩⟩)))))⟩)))))
    refine wa_cons (we_call (wa_cons (we_var rfl (wa_cons (we_lst (wa_cons (we_int (wa_cons (we_U (we_int ⟨_, rfl, wa_nil ?_⟩))))))))))
    refine ⟨Nat.le_of_ble_eq_true rfl, wa_nil ⟨_, rfl, by simp, by simp, fun y hy => ?_⟩⟩
    obtain ⟨e, rfl, he⟩ : ∃ e : Int, y = .int e ∧ (e = 1 ∨ e = -1) := by
      simp only [List.mem_cons, List.not_mem_nil, or_false] at hy
      rcases hy with rfl | rfl
      · exact ⟨1, rfl, .inl rfl⟩
      · exact ⟨_, rfl, .inr rfl⟩
    refine wa_nil ⟨len2, wg_tup ⟨_, rfl, rfl, wgs_cons ⟨_, _, rfl, wg_name (wgs_cons ⟨_, _, rfl, wg_name (wgs_nil ⟨rfl, ?_⟩)⟩)⟩⟩⟩
    have hbase1 : (2 : Int) ≤ 2 + b0 := by omega
    have hbase2 : 2 + b0 ≤ 5 := by omega
    dsimp only [inj]
    generalize hB : 2 + b0 = B at hbase1 hbase2
    have nE : Num e 1 := by
      rcases he with rfl | rfl <;> exact ⟨by decide, by decide, by decide, by decide⟩
    have hlE : ∀ j : Nat, (Bg B 1 e j).length = 1 := fun j => by rw [Bg_end hbase1 he]; rfl
    have hBE : (Bg B 1 e (1000 : Int).toNat).map bgD = [.tup (List.replicate (1000 : Int).toNat [D.int (e * (B - 1))]).flatten] := by rw [Bg_end hbase1 he, rep_one]; rfl
    refine ws_seq (ws_if (wt_T (we_neD (we_callX hW0 (wa_cons (we_var rfl (wa_cons (we_tup (wa_cons (we_var rfl (wa_cons (we_int (wa_nil ⟨len2, wa_cons (we_int (wa_nil ?_))⟩)))))))))))))
    refine ⟨B, e, 1, 1000, rfl, hbase1, hbase2, nE, by decide, by decide, by decide, fun _ => ⟨bg_cmp _, bg_shaped _, ?_⟩, fun j hj hl => absurd hl (by rw [hlE]; decide)⟩
    refine we_lst (wa_cons (we_repT (we_tup (wa_cons (we_I (we_var rfl ⟨e, rfl, we_I0 (we_var rfl ⟨B, rfl, we_int ⟨1, rfl, _, rfl, .inr (.inl ⟨by omega, by omega⟩), wa_nil ?_⟩⟩)⟩))))))
    refine ⟨Nat.le_of_ble_eq_true rfl, _, rfl, by simp, Nat.le_of_ble_eq_true rfl, we_int ⟨1000, rfl, by decide, by decide, wa_nil ⟨Nat.le_of_ble_eq_true rfl, ?_⟩⟩⟩
    dsimp only [inj]
    rw [← hBE]
    refine ⟨bg_cmp _, bg_shaped _, _, rfl, ?_⟩
    have hr0 := bg_refl (Bg B 1 e (1000 : Int).toNat)
    rw [if_neg (by dsimp only [Cell.toD]; rw [hr0]; decide)]
    refine ws_next ?_
    -- some
    refine ws_seq (ws_asg (we_lst ?_))
    repeat first | refine we_int ?_ | refine we_tup ?_ | refine wa_cons ?_ | refine wa_nil ?_ | refine ⟨Nat.le_of_ble_eq_true rfl, ?_⟩
    refine ws_seq (ws_asg (we_F (wf_catL (we_var rfl ⟨_, rfl, we_lst (wa_cons (we_tup (wa_cons (we_int (wa_cons (we_tup (wa_cons (we_int (wa_cons (we_int (wa_nil ⟨len2, wa_cons ?_⟩)))))))))))⟩))))
    refine we_I0 (we_int ⟨13, rfl, we_call (wa_cons (we_var rfl (wa_cons (we_int (wa_nil ⟨6, rfl, by decide, by decide, fun d hd0 hd1 => ⟨_, rfl, wa_nil ⟨Nat.le_of_ble_eq_true rfl, ?_⟩⟩⟩)))))⟩)
    refine wa_cons (we_tup (wa_cons (we_int (wa_cons (we_tup (wa_cons (we_int (wa_cons (we_int (wa_nil ⟨len2, wa_cons ?_⟩))))))))))
    refine we_I0 (we_int ⟨9, rfl, we_call (wa_cons (we_var rfl (wa_cons (we_int (wa_nil ⟨4, rfl, by decide, by decide, fun g hg0 hg1 => ⟨_, rfl, wa_nil ⟨Nat.le_of_ble_eq_true rfl, wa_nil ⟨Nat.le_of_ble_eq_true rfl, _, rfl, Nat.le_of_ble_eq_true rfl, ?_⟩⟩⟩⟩)))))⟩)
    refine ws_seq (ws_asgG (we_call (wa_cons (we_var rfl (wa_cons (we_var rfl (wa_nil ⟨_, rfl, by simp, Nat.le_of_ble_eq_true rfl, fun y hy => ?_⟩)))))))
    have hok : SomeOk y := by
      simp only [List.cons_append, List.nil_append, List.mem_cons, List.not_mem_nil, or_false] at hy
      rcases hy with rfl | rfl | rfl | rfl | rfl | rfl | rfl | rfl
      · exact ⟨2, 4, 19, 17, rfl, by decide, by decide, ⟨by decide, by decide, by decide, by decide⟩, by decide, by decide, by decide⟩
      · exact ⟨3, 7, 40, 13, rfl, by decide, by decide, ⟨by decide, by decide, by decide, by decide⟩, by decide, by decide, by decide⟩
      · exact ⟨5, 4, 11, 13, rfl, by decide, by decide, ⟨by decide, by decide, by decide, by decide⟩, by decide, by decide, by decide⟩
      · exact ⟨4, 10, 33, 13, rfl, by decide, by decide, ⟨by decide, by decide, by decide, by decide⟩, by decide, by decide, by decide⟩
      · exact ⟨2, 3, 37, 18, rfl, by decide, by decide, ⟨by decide, by decide, by decide, by decide⟩, by decide, by decide, by decide⟩
      · exact ⟨3, 1, 37, 16, rfl, by decide, by decide, ⟨by decide, by decide, by decide, by decide⟩, by decide, by decide, by decide⟩
      · exact ⟨2, 1, 3, 13 + d, rfl, by decide, by decide, ⟨by decide, by decide, by decide, by decide⟩, by decide, by omega, by omega⟩
      · exact ⟨3, 1, 2, 9 + g, rfl, by decide, by decide, ⟨by decide, by decide, by decide, by decide⟩, by decide, by omega, by omega⟩
    clear hy
    obtain ⟨C, t, b, n, rfl, hc1, hc2, hX, hXb, hn0, hn1⟩ := hok
    obtain ⟨x1, x2, x3, x4⟩ := id hX
    refine wg_tup ⟨_, rfl, rfl, wgs_cons ⟨_, _, rfl, wg_name (wgs_cons ⟨_, _, rfl, wg_name (wgs_cons ⟨_, _, rfl, wg_name (wgs_nil ⟨rfl, ?_⟩)⟩)⟩)⟩⟩
    refine ws_seq (ws_par (wa_cons (we_call (wa_cons (we_var rfl (wa_cons (we_var rfl (wa_cons (we_var rfl (wa_nil ⟨C, t, b, n, rfl, hc1, hc2, hX, hXb, hn0, hn1, wa_cons ?_⟩))))))))))
    rw [Bg_len hc1 x1 ⟨x3, x4⟩]
    refine we_callX hW0 (wa_cons (we_var rfl (wa_cons (we_var rfl (wa_cons (we_var rfl (wa_nil ⟨C, t, b, n, rfl, hc1, hc2, hX, hXb, hn0, hn1, fun hall => ?_, fun j hj hl => ?_⟩)))))))
    · have hn := hall _ (Nat.le_refl _)
      refine wa_nil ⟨_, _, rfl, ws_seq (ws_if (wt_T (we_I0 (we_var rfl ⟨_, rfl, we_int ⟨2000, rfl, _, rfl, ?_⟩⟩))))⟩
      rw [if_neg (by rw [decide_eq_false (by omega)]; decide)]
      refine ws_next (ws_ret (we_andV (we_isi (we_var rfl ⟨_, true, rfl, kb_list_list, _, rfl, fun _ => ?_, fun hf => absurd hf (by decide)⟩))))
      refine we_andV (we_eqI (we_len (we_var rfl ⟨_, .inl rfl, _, rfl, we_var rfl ⟨_, rfl, _, rfl, fun _ => ?_, fun hf => absurd hf (by rw [List.length_map, decide_eq_true rfl]; decide)⟩⟩)))
      refine we_call (wa_cons (we_var rfl (wa_cons (we_call (wa_cons (we_var rfl (wa_cons (we_var rfl (wa_cons (we_var rfl (wa_nil ⟨C, t, b, n, rfl, hc1, hc2, hX, hXb, hn0, hn1, fun j hj => ?_, wa_nil ⟨_, _, rfl, ?_, ?_⟩⟩)))))))))))
      · have := hall j hj; omega
      · exact bg_P2 _ (by omega) fun y hy => by rw [Bg_fst _ y hy]; omega
      · have hself : isD (.lst ((Bg C b t n.toNat).map bgD)) (.lst ((Bg C b t n.toNat).map bgD)) = true := isD_self (n := 2) _ (bg_P2 _ (by omega) fun y hy => by rw [Bg_fst _ y hy]; omega)
        dsimp only [Cell.toD]
        rw [hself]
        rfl
    · have hmono := Bg_mono hc1 x1 ⟨x3, x4⟩ j (n.toNat - j)
      rw [show j + (n.toNat - j) = n.toNat by omega] at hmono
      refine wa_nil ⟨_, _, rfl, ws_seq (ws_if (wt_T (we_I0 (we_var rfl ⟨_, rfl, we_int ⟨2000, rfl, _, rfl, ?_⟩⟩))))⟩
      rw [if_pos (decide_eq_true (by omega))]
      refine ws_ret (we_call (wa_cons (we_var rfl (wa_cons (we_int (wa_nil ⟨_, _, rfl, .int _ 2000 2000, ?_⟩))))))
      rfl
end
theorem all_mk {l : PySem.W.OpenLaw} {w : World} {K : PySem.W.Frag} {h : Heap} {mg : Str → Option Value} {fa : Addr} (X : K.In h) (G : h.Ns mainGlobals mg) (hfa : mg "law" = some (.ref fa))
    {f_is_integer f_is_integer_within f_is_base f_is_tuple_of f_is_fraction f_is_number f_check_base f_check_number f_check_many f_least_digit f_greatest_digit f_next_digits f_beginnings f_traced_back f_many_beginnings f_law_hand f_law_mixed f_law_draw f_law_any f_law_low f_law_minus f_law_times f_law_goes f_law_writing f_law_number f_law_is f_law_all f_law_integer f_law_told f_law : Addr}
    {od_is_integer an_is_integer od_is_integer_within an_is_integer_within od_is_base an_is_base od_is_tuple_of an_is_tuple_of od_is_fraction an_is_fraction od_is_number an_is_number od_check_base an_check_base od_check_number an_check_number od_check_many an_check_many od_least_digit an_least_digit od_greatest_digit an_greatest_digit od_next_digits an_next_digits od_beginnings an_beginnings od_traced_back an_traced_back od_many_beginnings an_many_beginnings od_law_hand an_law_hand od_law_mixed an_law_mixed od_law_draw an_law_draw od_law_any an_law_any od_law_low an_law_low od_law_minus an_law_minus od_law_times an_law_times od_law_goes an_law_goes od_law_writing an_law_writing od_law_number an_law_number od_law_is an_law_is od_law_all an_law_all od_law_integer an_law_integer od_law_told an_law_told od_law an_law : Option Addr}
    {sl_is_integer sl_is_integer_within sl_is_base sl_is_tuple_of sl_is_fraction sl_is_number sl_check_base sl_check_number sl_check_many sl_least_digit sl_greatest_digit sl_next_digits sl_beginnings sl_traced_back sl_many_beginnings sl_law_hand sl_law_mixed sl_law_draw sl_law_any sl_law_low sl_law_minus sl_law_times sl_law_goes sl_law_writing sl_law_number sl_law_is sl_law_all sl_law_integer sl_law_told sl_law : Array (Option Value)}
    {oc_is_integer kV_is_integer dc_is_integer pm_is_integer cd_is_integer ct_is_integer oc_is_integer_within kV_is_integer_within dc_is_integer_within pm_is_integer_within cd_is_integer_within ct_is_integer_within oc_is_base kV_is_base dc_is_base pm_is_base cd_is_base ct_is_base oc_is_tuple_of kV_is_tuple_of dc_is_tuple_of pm_is_tuple_of cd_is_tuple_of ct_is_tuple_of oc_is_fraction kV_is_fraction dc_is_fraction pm_is_fraction cd_is_fraction ct_is_fraction oc_is_number kV_is_number dc_is_number pm_is_number cd_is_number ct_is_number oc_check_base kV_check_base dc_check_base pm_check_base cd_check_base ct_check_base oc_check_number kV_check_number dc_check_number pm_check_number cd_check_number ct_check_number oc_check_many kV_check_many dc_check_many pm_check_many cd_check_many ct_check_many oc_least_digit kV_least_digit dc_least_digit pm_least_digit cd_least_digit ct_least_digit oc_greatest_digit kV_greatest_digit dc_greatest_digit pm_greatest_digit cd_greatest_digit ct_greatest_digit oc_next_digits kV_next_digits dc_next_digits pm_next_digits cd_next_digits ct_next_digits oc_beginnings kV_beginnings dc_beginnings pm_beginnings cd_beginnings ct_beginnings oc_traced_back kV_traced_back dc_traced_back pm_traced_back cd_traced_back ct_traced_back oc_many_beginnings kV_many_beginnings dc_many_beginnings pm_many_beginnings cd_many_beginnings ct_many_beginnings oc_law_hand kV_law_hand dc_law_hand pm_law_hand cd_law_hand ct_law_hand oc_law_mixed kV_law_mixed dc_law_mixed pm_law_mixed cd_law_mixed ct_law_mixed oc_law_draw kV_law_draw dc_law_draw pm_law_draw cd_law_draw ct_law_draw oc_law_any kV_law_any dc_law_any pm_law_any cd_law_any ct_law_any oc_law_low kV_law_low dc_law_low pm_law_low cd_law_low ct_law_low oc_law_minus kV_law_minus dc_law_minus pm_law_minus cd_law_minus ct_law_minus oc_law_times kV_law_times dc_law_times pm_law_times cd_law_times ct_law_times oc_law_goes kV_law_goes dc_law_goes pm_law_goes cd_law_goes ct_law_goes oc_law_writing kV_law_writing dc_law_writing pm_law_writing cd_law_writing ct_law_writing oc_law_number kV_law_number dc_law_number pm_law_number cd_law_number ct_law_number oc_law_is kV_law_is dc_law_is pm_law_is cd_law_is ct_law_is oc_law_all kV_law_all dc_law_all pm_law_all cd_law_all ct_law_all oc_law_integer kV_law_integer dc_law_integer pm_law_integer cd_law_integer ct_law_integer oc_law_told kV_law_told dc_law_told pm_law_told cd_law_told ct_law_told oc_law kV_law dc_law pm_law cd_law ct_law : Value}
    {C_WritingError C_TooMany nn_TooMany fi_TooMany : Addr}
    {nm_TooMany qn_TooMany : Str} {bs_TooMany sb_TooMany : List Value} {sn_TooMany : List Str} {ab_TooMany : Bool} {cl_TooMany : Option Bool} {dd_TooMany od_TooMany an_TooMany : Option Addr} {m0_TooMany m1_TooMany m2_TooMany m3_TooMany m5_TooMany : Option Value} {sl_TooMany : Array (Option Value)} {oc_TooMany kV_TooMany dc_TooMany pm_TooMany cd_TooMany ct_TooMany : Value}
    {t_MOST_BEGINNINGS t_MOST_DIGITS : Tok}
    (a_is_integer : PySem.W.nsIn K mainGlobals "is_integer" = some (some (.ref f_is_integer))) (l_is_integer : K.lookup f_is_integer = some ⟨oc_is_integer, od_is_integer, .func (PySem.W.fnOf "is_integer" "is_integer" (defArgs s_is_integer) (defBody s_is_integer) (defScope s_is_integer) .none kV_is_integer dc_is_integer pm_is_integer an_is_integer cd_is_integer ct_is_integer), sl_is_integer⟩) (c_is_integer : PySem.W.codeIn K cd_is_integer "is_integer" = true) (k_is_integer : PySem.W.keepIn K (.ref f_is_integer) = true)
    (a_is_integer_within : PySem.W.nsIn K mainGlobals "is_integer_within" = some (some (.ref f_is_integer_within))) (l_is_integer_within : K.lookup f_is_integer_within = some ⟨oc_is_integer_within, od_is_integer_within, .func (PySem.W.fnOf "is_integer_within" "is_integer_within" (defArgs s_is_integer_within) (defBody s_is_integer_within) (defScope s_is_integer_within) .none kV_is_integer_within dc_is_integer_within pm_is_integer_within an_is_integer_within cd_is_integer_within ct_is_integer_within), sl_is_integer_within⟩) (c_is_integer_within : PySem.W.codeIn K cd_is_integer_within "is_integer_within" = true) (k_is_integer_within : PySem.W.keepIn K (.ref f_is_integer_within) = true)
    (a_is_base : PySem.W.nsIn K mainGlobals "is_base" = some (some (.ref f_is_base))) (l_is_base : K.lookup f_is_base = some ⟨oc_is_base, od_is_base, .func (PySem.W.fnOf "is_base" "is_base" (defArgs s_is_base) (defBody s_is_base) (defScope s_is_base) .none kV_is_base dc_is_base pm_is_base an_is_base cd_is_base ct_is_base), sl_is_base⟩) (c_is_base : PySem.W.codeIn K cd_is_base "is_base" = true) (k_is_base : PySem.W.keepIn K (.ref f_is_base) = true)
    (a_is_tuple_of : PySem.W.nsIn K mainGlobals "is_tuple_of" = some (some (.ref f_is_tuple_of))) (l_is_tuple_of : K.lookup f_is_tuple_of = some ⟨oc_is_tuple_of, od_is_tuple_of, .func (PySem.W.fnOf "is_tuple_of" "is_tuple_of" (defArgs s_is_tuple_of) (defBody s_is_tuple_of) (defScope s_is_tuple_of) .none kV_is_tuple_of dc_is_tuple_of pm_is_tuple_of an_is_tuple_of cd_is_tuple_of ct_is_tuple_of), sl_is_tuple_of⟩) (c_is_tuple_of : PySem.W.codeIn K cd_is_tuple_of "is_tuple_of" = true) (k_is_tuple_of : PySem.W.keepIn K (.ref f_is_tuple_of) = true)
    (a_is_fraction : PySem.W.nsIn K mainGlobals "is_fraction" = some (some (.ref f_is_fraction))) (l_is_fraction : K.lookup f_is_fraction = some ⟨oc_is_fraction, od_is_fraction, .func (PySem.W.fnOf "is_fraction" "is_fraction" (defArgs s_is_fraction) (defBody s_is_fraction) (defScope s_is_fraction) .none kV_is_fraction dc_is_fraction pm_is_fraction an_is_fraction cd_is_fraction ct_is_fraction), sl_is_fraction⟩) (c_is_fraction : PySem.W.codeIn K cd_is_fraction "is_fraction" = true) (k_is_fraction : PySem.W.keepIn K (.ref f_is_fraction) = true)
    (a_is_number : PySem.W.nsIn K mainGlobals "is_number" = some (some (.ref f_is_number))) (l_is_number : K.lookup f_is_number = some ⟨oc_is_number, od_is_number, .func (PySem.W.fnOf "is_number" "is_number" (defArgs s_is_number) (defBody s_is_number) (defScope s_is_number) .none kV_is_number dc_is_number pm_is_number an_is_number cd_is_number ct_is_number), sl_is_number⟩) (c_is_number : PySem.W.codeIn K cd_is_number "is_number" = true) (k_is_number : PySem.W.keepIn K (.ref f_is_number) = true)
    (a_check_base : PySem.W.nsIn K mainGlobals "check_base" = some (some (.ref f_check_base))) (l_check_base : K.lookup f_check_base = some ⟨oc_check_base, od_check_base, .func (PySem.W.fnOf "check_base" "check_base" (defArgs s_check_base) (defBody s_check_base) (defScope s_check_base) .none kV_check_base dc_check_base pm_check_base an_check_base cd_check_base ct_check_base), sl_check_base⟩) (c_check_base : PySem.W.codeIn K cd_check_base "check_base" = true) (k_check_base : PySem.W.keepIn K (.ref f_check_base) = true)
    (a_check_number : PySem.W.nsIn K mainGlobals "check_number" = some (some (.ref f_check_number))) (l_check_number : K.lookup f_check_number = some ⟨oc_check_number, od_check_number, .func (PySem.W.fnOf "check_number" "check_number" (defArgs s_check_number) (defBody s_check_number) (defScope s_check_number) .none kV_check_number dc_check_number pm_check_number an_check_number cd_check_number ct_check_number), sl_check_number⟩) (c_check_number : PySem.W.codeIn K cd_check_number "check_number" = true) (k_check_number : PySem.W.keepIn K (.ref f_check_number) = true)
    (a_check_many : PySem.W.nsIn K mainGlobals "check_many" = some (some (.ref f_check_many))) (l_check_many : K.lookup f_check_many = some ⟨oc_check_many, od_check_many, .func (PySem.W.fnOf "check_many" "check_many" (defArgs s_check_many) (defBody s_check_many) (defScope s_check_many) .none kV_check_many dc_check_many pm_check_many an_check_many cd_check_many ct_check_many), sl_check_many⟩) (c_check_many : PySem.W.codeIn K cd_check_many "check_many" = true) (k_check_many : PySem.W.keepIn K (.ref f_check_many) = true)
    (a_least_digit : PySem.W.nsIn K mainGlobals "least_digit" = some (some (.ref f_least_digit))) (l_least_digit : K.lookup f_least_digit = some ⟨oc_least_digit, od_least_digit, .func (PySem.W.fnOf "least_digit" "least_digit" (defArgs s_least_digit) (defBody s_least_digit) (defScope s_least_digit) .none kV_least_digit dc_least_digit pm_least_digit an_least_digit cd_least_digit ct_least_digit), sl_least_digit⟩) (c_least_digit : PySem.W.codeIn K cd_least_digit "least_digit" = true) (k_least_digit : PySem.W.keepIn K (.ref f_least_digit) = true)
    (a_greatest_digit : PySem.W.nsIn K mainGlobals "greatest_digit" = some (some (.ref f_greatest_digit))) (l_greatest_digit : K.lookup f_greatest_digit = some ⟨oc_greatest_digit, od_greatest_digit, .func (PySem.W.fnOf "greatest_digit" "greatest_digit" (defArgs s_greatest_digit) (defBody s_greatest_digit) (defScope s_greatest_digit) .none kV_greatest_digit dc_greatest_digit pm_greatest_digit an_greatest_digit cd_greatest_digit ct_greatest_digit), sl_greatest_digit⟩) (c_greatest_digit : PySem.W.codeIn K cd_greatest_digit "greatest_digit" = true) (k_greatest_digit : PySem.W.keepIn K (.ref f_greatest_digit) = true)
    (a_next_digits : PySem.W.nsIn K mainGlobals "next_digits" = some (some (.ref f_next_digits))) (l_next_digits : K.lookup f_next_digits = some ⟨oc_next_digits, od_next_digits, .func (PySem.W.fnOf "next_digits" "next_digits" (defArgs s_next_digits) (defBody s_next_digits) (defScope s_next_digits) .none kV_next_digits dc_next_digits pm_next_digits an_next_digits cd_next_digits ct_next_digits), sl_next_digits⟩) (c_next_digits : PySem.W.codeIn K cd_next_digits "next_digits" = true) (k_next_digits : PySem.W.keepIn K (.ref f_next_digits) = true)
    (a_beginnings : PySem.W.nsIn K mainGlobals "beginnings" = some (some (.ref f_beginnings))) (l_beginnings : K.lookup f_beginnings = some ⟨oc_beginnings, od_beginnings, .func (PySem.W.fnOf "beginnings" "beginnings" (defArgs s_beginnings) (defBody s_beginnings) (defScope s_beginnings) .none kV_beginnings dc_beginnings pm_beginnings an_beginnings cd_beginnings ct_beginnings), sl_beginnings⟩) (c_beginnings : PySem.W.codeIn K cd_beginnings "beginnings" = true) (k_beginnings : PySem.W.keepIn K (.ref f_beginnings) = true)
    (a_traced_back : PySem.W.nsIn K mainGlobals "traced_back" = some (some (.ref f_traced_back))) (l_traced_back : K.lookup f_traced_back = some ⟨oc_traced_back, od_traced_back, .func (PySem.W.fnOf "traced_back" "traced_back" (defArgs s_traced_back) (defBody s_traced_back) (defScope s_traced_back) .none kV_traced_back dc_traced_back pm_traced_back an_traced_back cd_traced_back ct_traced_back), sl_traced_back⟩) (c_traced_back : PySem.W.codeIn K cd_traced_back "traced_back" = true) (k_traced_back : PySem.W.keepIn K (.ref f_traced_back) = true)
    (a_many_beginnings : PySem.W.nsIn K mainGlobals "many_beginnings" = some (some (.ref f_many_beginnings))) (l_many_beginnings : K.lookup f_many_beginnings = some ⟨oc_many_beginnings, od_many_beginnings, .func (PySem.W.fnOf "many_beginnings" "many_beginnings" (defArgs s_many_beginnings) (defBody s_many_beginnings) (defScope s_many_beginnings) .none kV_many_beginnings dc_many_beginnings pm_many_beginnings an_many_beginnings cd_many_beginnings ct_many_beginnings), sl_many_beginnings⟩) (c_many_beginnings : PySem.W.codeIn K cd_many_beginnings "many_beginnings" = true) (k_many_beginnings : PySem.W.keepIn K (.ref f_many_beginnings) = true)
    (a_law_hand : PySem.W.nsIn K mainGlobals "_law_hand" = some (some (.ref f_law_hand))) (l_law_hand : K.lookup f_law_hand = some ⟨oc_law_hand, od_law_hand, .func (PySem.W.fnOf "_law_hand" "_law_hand" (defArgs s_law_hand) (defBody s_law_hand) (defScope s_law_hand) .none kV_law_hand dc_law_hand pm_law_hand an_law_hand cd_law_hand ct_law_hand), sl_law_hand⟩) (c_law_hand : PySem.W.codeIn K cd_law_hand "_law_hand" = true) (k_law_hand : PySem.W.keepIn K (.ref f_law_hand) = true)
    (a_law_mixed : PySem.W.nsIn K mainGlobals "_law_mixed" = some (some (.ref f_law_mixed))) (l_law_mixed : K.lookup f_law_mixed = some ⟨oc_law_mixed, od_law_mixed, .func (PySem.W.fnOf "_law_mixed" "_law_mixed" (defArgs s_law_mixed) (defBody s_law_mixed) (defScope s_law_mixed) .none kV_law_mixed dc_law_mixed pm_law_mixed an_law_mixed cd_law_mixed ct_law_mixed), sl_law_mixed⟩) (c_law_mixed : PySem.W.codeIn K cd_law_mixed "_law_mixed" = true) (k_law_mixed : PySem.W.keepIn K (.ref f_law_mixed) = true)
    (a_law_draw : PySem.W.nsIn K mainGlobals "_law_draw" = some (some (.ref f_law_draw))) (l_law_draw : K.lookup f_law_draw = some ⟨oc_law_draw, od_law_draw, .func (PySem.W.fnOf "_law_draw" "_law_draw" (defArgs s_law_draw) (defBody s_law_draw) (defScope s_law_draw) .none kV_law_draw dc_law_draw pm_law_draw an_law_draw cd_law_draw ct_law_draw), sl_law_draw⟩) (c_law_draw : PySem.W.codeIn K cd_law_draw "_law_draw" = true) (k_law_draw : PySem.W.keepIn K (.ref f_law_draw) = true)
    (a_law_any : PySem.W.nsIn K mainGlobals "_law_any" = some (some (.ref f_law_any))) (l_law_any : K.lookup f_law_any = some ⟨oc_law_any, od_law_any, .func (PySem.W.fnOf "_law_any" "_law_any" (defArgs s_law_any) (defBody s_law_any) (defScope s_law_any) .none kV_law_any dc_law_any pm_law_any an_law_any cd_law_any ct_law_any), sl_law_any⟩) (c_law_any : PySem.W.codeIn K cd_law_any "_law_any" = true) (k_law_any : PySem.W.keepIn K (.ref f_law_any) = true)
    (a_law_low : PySem.W.nsIn K mainGlobals "_law_low" = some (some (.ref f_law_low))) (l_law_low : K.lookup f_law_low = some ⟨oc_law_low, od_law_low, .func (PySem.W.fnOf "_law_low" "_law_low" (defArgs s_law_low) (defBody s_law_low) (defScope s_law_low) .none kV_law_low dc_law_low pm_law_low an_law_low cd_law_low ct_law_low), sl_law_low⟩) (c_law_low : PySem.W.codeIn K cd_law_low "_law_low" = true) (k_law_low : PySem.W.keepIn K (.ref f_law_low) = true)
    (a_law_minus : PySem.W.nsIn K mainGlobals "_law_minus" = some (some (.ref f_law_minus))) (l_law_minus : K.lookup f_law_minus = some ⟨oc_law_minus, od_law_minus, .func (PySem.W.fnOf "_law_minus" "_law_minus" (defArgs s_law_minus) (defBody s_law_minus) (defScope s_law_minus) .none kV_law_minus dc_law_minus pm_law_minus an_law_minus cd_law_minus ct_law_minus), sl_law_minus⟩) (c_law_minus : PySem.W.codeIn K cd_law_minus "_law_minus" = true) (k_law_minus : PySem.W.keepIn K (.ref f_law_minus) = true)
    (a_law_times : PySem.W.nsIn K mainGlobals "_law_times" = some (some (.ref f_law_times))) (l_law_times : K.lookup f_law_times = some ⟨oc_law_times, od_law_times, .func (PySem.W.fnOf "_law_times" "_law_times" (defArgs s_law_times) (defBody s_law_times) (defScope s_law_times) .none kV_law_times dc_law_times pm_law_times an_law_times cd_law_times ct_law_times), sl_law_times⟩) (c_law_times : PySem.W.codeIn K cd_law_times "_law_times" = true) (k_law_times : PySem.W.keepIn K (.ref f_law_times) = true)
    (a_law_goes : PySem.W.nsIn K mainGlobals "_law_goes" = some (some (.ref f_law_goes))) (l_law_goes : K.lookup f_law_goes = some ⟨oc_law_goes, od_law_goes, .func (PySem.W.fnOf "_law_goes" "_law_goes" (defArgs s_law_goes) (defBody s_law_goes) (defScope s_law_goes) .none kV_law_goes dc_law_goes pm_law_goes an_law_goes cd_law_goes ct_law_goes), sl_law_goes⟩) (c_law_goes : PySem.W.codeIn K cd_law_goes "_law_goes" = true) (k_law_goes : PySem.W.keepIn K (.ref f_law_goes) = true)
    (a_law_writing : PySem.W.nsIn K mainGlobals "_law_writing" = some (some (.ref f_law_writing))) (l_law_writing : K.lookup f_law_writing = some ⟨oc_law_writing, od_law_writing, .func (PySem.W.fnOf "_law_writing" "_law_writing" (defArgs s_law_writing) (defBody s_law_writing) (defScope s_law_writing) .none kV_law_writing dc_law_writing pm_law_writing an_law_writing cd_law_writing ct_law_writing), sl_law_writing⟩) (c_law_writing : PySem.W.codeIn K cd_law_writing "_law_writing" = true) (k_law_writing : PySem.W.keepIn K (.ref f_law_writing) = true)
    (a_law_number : PySem.W.nsIn K mainGlobals "_law_number" = some (some (.ref f_law_number))) (l_law_number : K.lookup f_law_number = some ⟨oc_law_number, od_law_number, .func (PySem.W.fnOf "_law_number" "_law_number" (defArgs s_law_number) (defBody s_law_number) (defScope s_law_number) .none kV_law_number dc_law_number pm_law_number an_law_number cd_law_number ct_law_number), sl_law_number⟩) (c_law_number : PySem.W.codeIn K cd_law_number "_law_number" = true) (k_law_number : PySem.W.keepIn K (.ref f_law_number) = true)
    (a_law_is : PySem.W.nsIn K mainGlobals "_law_is" = some (some (.ref f_law_is))) (l_law_is : K.lookup f_law_is = some ⟨oc_law_is, od_law_is, .func (PySem.W.fnOf "_law_is" "_law_is" (defArgs s_law_is) (defBody s_law_is) (defScope s_law_is) .none kV_law_is dc_law_is pm_law_is an_law_is cd_law_is ct_law_is), sl_law_is⟩) (c_law_is : PySem.W.codeIn K cd_law_is "_law_is" = true) (k_law_is : PySem.W.keepIn K (.ref f_law_is) = true)
    (a_law_all : PySem.W.nsIn K mainGlobals "_law_all" = some (some (.ref f_law_all))) (l_law_all : K.lookup f_law_all = some ⟨oc_law_all, od_law_all, .func (PySem.W.fnOf "_law_all" "_law_all" (defArgs s_law_all) (defBody s_law_all) (defScope s_law_all) .none kV_law_all dc_law_all pm_law_all an_law_all cd_law_all ct_law_all), sl_law_all⟩) (c_law_all : PySem.W.codeIn K cd_law_all "_law_all" = true) (k_law_all : PySem.W.keepIn K (.ref f_law_all) = true)
    (a_law_integer : PySem.W.nsIn K mainGlobals "_law_integer" = some (some (.ref f_law_integer))) (l_law_integer : K.lookup f_law_integer = some ⟨oc_law_integer, od_law_integer, .func (PySem.W.fnOf "_law_integer" "_law_integer" (defArgs s_law_integer) (defBody s_law_integer) (defScope s_law_integer) .none kV_law_integer dc_law_integer pm_law_integer an_law_integer cd_law_integer ct_law_integer), sl_law_integer⟩) (c_law_integer : PySem.W.codeIn K cd_law_integer "_law_integer" = true) (k_law_integer : PySem.W.keepIn K (.ref f_law_integer) = true)
    (a_law_told : PySem.W.nsIn K mainGlobals "_law_told" = some (some (.ref f_law_told))) (l_law_told : K.lookup f_law_told = some ⟨oc_law_told, od_law_told, .func (PySem.W.fnOf "_law_told" "_law_told" (defArgs s_law_told) (defBody s_law_told) (defScope s_law_told) .none kV_law_told dc_law_told pm_law_told an_law_told cd_law_told ct_law_told), sl_law_told⟩) (c_law_told : PySem.W.codeIn K cd_law_told "_law_told" = true) (k_law_told : PySem.W.keepIn K (.ref f_law_told) = true)
    (a_law : PySem.W.nsIn K mainGlobals "law" = some (some (.ref f_law))) (l_law : K.lookup f_law = some ⟨oc_law, od_law, .func (PySem.W.fnOf "law" "law" (defArgs s_law) (defBody s_law) (defScope s_law) .none kV_law dc_law pm_law an_law cd_law ct_law), sl_law⟩) (c_law : PySem.W.codeIn K cd_law "law" = true) (k_law : PySem.W.keepIn K (.ref f_law) = true)
    (g_WritingError : PySem.W.nsIn K mainGlobals "WritingError" = some (some (.ref C_WritingError))) (ga_WritingError : PySem.W.specialIn K (.ref C_WritingError) "__getattribute__" = some (some (.builtin "type.__getattribute__"))) (rd_WritingError : PySem.W.readsIn K C_WritingError (.type "type") = true) (fc_WritingError : PySem.W.findCls K (.ref C_WritingError) (.type "type") "__init__" = some (.val (.builtin "ValueError.__init__")))
    (g_TooMany : PySem.W.nsIn K mainGlobals "TooMany" = some (some (.ref C_TooMany))) (xl_TooMany : K.lookup C_TooMany = some (excClassObj nm_TooMany qn_TooMany C_TooMany nn_TooMany bs_TooMany (.ref C_WritingError :: [.type "ValueError", .type "Exception", .type "BaseException", .type "object"]) true sn_TooMany sb_TooMany ab_TooMany cl_TooMany dd_TooMany m0_TooMany m1_TooMany m2_TooMany m3_TooMany m5_TooMany "ValueError.__new__"))
    (sa_TooMany : PySem.W.findIn K (.ref C_TooMany) "__setattr__" = some (some (.builtin "object.__setattr__"))) (gt_TooMany : PySem.W.findIn K (.ref C_TooMany) "__getattribute__" = some (some (.builtin "BaseException.__getattribute__"))) (gg_TooMany : PySem.W.findIn K (.ref C_TooMany) "__getattr__" = some none)
    (ii_TooMany : PySem.W.findIn K (.ref C_TooMany) "__init__" = some (some (.ref fi_TooMany))) (ti_TooMany : PySem.W.typeIn K (.ref fi_TooMany) = some (.type "function"))
    (li_TooMany : K.lookup fi_TooMany = some ⟨oc_TooMany, od_TooMany, .func (PySem.W.fnOf "__init__" "TooMany.__init__" (defArgs si_TooMany) (defBody si_TooMany) (defScope si_TooMany) .none kV_TooMany dc_TooMany pm_TooMany an_TooMany cd_TooMany ct_TooMany), sl_TooMany⟩) (ci_TooMany : PySem.W.codeIn K cd_TooMany "TooMany.__init__" = true) (ki_TooMany : PySem.W.keepIn K (.ref fi_TooMany) = true)
    (kC_TooMany : PySem.W.keepIn K (.ref C_TooMany) = true) (eC_TooMany : PySem.W.subIn K (.ref C_TooMany) (.type "BaseException") = some true) (tC_TooMany : PySem.W.typeIn K (.ref C_TooMany) = some (.type "type")) (hC_TooMany : PySem.W.hasDictIn K C_TooMany = true) (iC_TooMany : PySem.W.isClsIn K C_TooMany = true) (sC_TooMany : PySem.W.subIn K (.ref C_TooMany) (.ref C_TooMany) = some true)
    (nf_TooMany : PySem.W.findIn K (.ref C_TooMany) "most" = some none)
    (n_ValueError : PySem.W.nsIn K mainGlobals "ValueError" = some none)
    (n_abs : PySem.W.nsIn K mainGlobals "abs" = some none)
    (n_all : PySem.W.nsIn K mainGlobals "all" = some none)
    (n_bool : PySem.W.nsIn K mainGlobals "bool" = some none)
    (n_dict : PySem.W.nsIn K mainGlobals "dict" = some none)
    (n_enumerate : PySem.W.nsIn K mainGlobals "enumerate" = some none)
    (n_int : PySem.W.nsIn K mainGlobals "int" = some none)
    (n_isinstance : PySem.W.nsIn K mainGlobals "isinstance" = some none)
    (n_len : PySem.W.nsIn K mainGlobals "len" = some none)
    (n_list : PySem.W.nsIn K mainGlobals "list" = some none)
    (n_max : PySem.W.nsIn K mainGlobals "max" = some none)
    (n_min : PySem.W.nsIn K mainGlobals "min" = some none)
    (n_range : PySem.W.nsIn K mainGlobals "range" = some none)
    (n_reversed : PySem.W.nsIn K mainGlobals "reversed" = some none)
    (n_sum : PySem.W.nsIn K mainGlobals "sum" = some none)
    (n_tuple : PySem.W.nsIn K mainGlobals "tuple" = some none)
    (n_zip : PySem.W.nsIn K mainGlobals "zip" = some none)
    (g_gcd : PySem.W.nsIn K mainGlobals "gcd" = some (some (.builtin "math.gcd")))
    (v_MOST_BEGINNINGS : PySem.W.nsIn K mainGlobals "MOST_BEGINNINGS" = some (some (.int 2000 t_MOST_BEGINNINGS)))
    (v_MOST_DIGITS : PySem.W.nsIn K mainGlobals "MOST_DIGITS" = some (some (.int 1000 t_MOST_DIGITS))) :
    ∃ fd : FuncData, (∀ (s : Shared) (v : Value), BindsTo s fd ⟨[v], []⟩ [("script", v)]) ∧ ∀ base : Heap, K.In base → base.Ns mainGlobals mg → FnOk l.prog w K mg base CX0 7 fa fd ["script"] (spLaw K) := by
  have e := hfa.symm.trans (PySem.W.mg_of X G a_law)
  cases e
  have T : Txt K mg := ⟨⟨⟨_, PySem.W.mg_of X G g_WritingError, ga_WritingError, rd_WritingError, fc_WritingError⟩⟩,
    ⟨⟨_, _, _, PySem.W.mg_of X G g_TooMany, ⟨⟨_, _, _, _, _, _, _, _, _, _, _, _, _, _, _, xl_TooMany, by rfl⟩, sa_TooMany, eC_TooMany, tC_TooMany, kC_TooMany⟩, ii_TooMany, ti_TooMany, fun_mk (st := si_TooMany) li_TooMany ci_TooMany ki_TooMany, exm_same eC_TooMany iC_TooMany tC_TooMany sC_TooMany, ⟨gt_TooMany, gg_TooMany, eC_TooMany, hC_TooMany⟩, (fun f hf => by cases hf with | head => exact nf_TooMany | tail _ z => cases z)⟩⟩,
    ⟨⟨_, _, PySem.W.mg_of X G a_is_integer, fun_mk (st := s_is_integer) l_is_integer c_is_integer k_is_integer⟩⟩,
    ⟨⟨_, _, PySem.W.mg_of X G a_is_integer_within, fun_mk (st := s_is_integer_within) l_is_integer_within c_is_integer_within k_is_integer_within⟩⟩,
    ⟨⟨_, _, PySem.W.mg_of X G a_is_base, fun_mk (st := s_is_base) l_is_base c_is_base k_is_base⟩⟩,
    ⟨⟨_, _, PySem.W.mg_of X G a_is_tuple_of, fun_mk (st := s_is_tuple_of) l_is_tuple_of c_is_tuple_of k_is_tuple_of⟩⟩,
    ⟨⟨_, _, PySem.W.mg_of X G a_is_fraction, fun_mk (st := s_is_fraction) l_is_fraction c_is_fraction k_is_fraction⟩⟩,
    ⟨⟨_, _, PySem.W.mg_of X G a_is_number, fun_mk (st := s_is_number) l_is_number c_is_number k_is_number⟩⟩,
    ⟨⟨_, _, PySem.W.mg_of X G a_check_base, fun_mk (st := s_check_base) l_check_base c_check_base k_check_base⟩⟩,
    ⟨⟨_, _, PySem.W.mg_of X G a_check_number, fun_mk (st := s_check_number) l_check_number c_check_number k_check_number⟩⟩,
    ⟨⟨_, _, PySem.W.mg_of X G a_check_many, fun_mk (st := s_check_many) l_check_many c_check_many k_check_many⟩⟩,
    ⟨⟨_, _, PySem.W.mg_of X G a_least_digit, fun_mk (st := s_least_digit) l_least_digit c_least_digit k_least_digit⟩⟩,
    ⟨⟨_, _, PySem.W.mg_of X G a_greatest_digit, fun_mk (st := s_greatest_digit) l_greatest_digit c_greatest_digit k_greatest_digit⟩⟩,
    ⟨⟨_, _, PySem.W.mg_of X G a_next_digits, fun_mk (st := s_next_digits) l_next_digits c_next_digits k_next_digits⟩⟩,
    ⟨⟨_, _, PySem.W.mg_of X G a_beginnings, fun_mk (st := s_beginnings) l_beginnings c_beginnings k_beginnings⟩⟩,
    ⟨⟨_, _, PySem.W.mg_of X G a_traced_back, fun_mk (st := s_traced_back) l_traced_back c_traced_back k_traced_back⟩⟩,
    ⟨⟨_, _, PySem.W.mg_of X G a_many_beginnings, fun_mk (st := s_many_beginnings) l_many_beginnings c_many_beginnings k_many_beginnings⟩⟩,
    ⟨⟨_, _, PySem.W.mg_of X G a_law_hand, fun_mk (st := s_law_hand) l_law_hand c_law_hand k_law_hand⟩⟩,
    ⟨⟨_, _, PySem.W.mg_of X G a_law_mixed, fun_mk (st := s_law_mixed) l_law_mixed c_law_mixed k_law_mixed⟩⟩,
    ⟨⟨_, _, PySem.W.mg_of X G a_law_draw, fun_mk (st := s_law_draw) l_law_draw c_law_draw k_law_draw⟩⟩,
    ⟨⟨_, _, PySem.W.mg_of X G a_law_any, fun_mk (st := s_law_any) l_law_any c_law_any k_law_any⟩⟩,
    ⟨⟨_, _, PySem.W.mg_of X G a_law_low, fun_mk (st := s_law_low) l_law_low c_law_low k_law_low⟩⟩,
    ⟨⟨_, _, PySem.W.mg_of X G a_law_minus, fun_mk (st := s_law_minus) l_law_minus c_law_minus k_law_minus⟩⟩,
    ⟨⟨_, _, PySem.W.mg_of X G a_law_times, fun_mk (st := s_law_times) l_law_times c_law_times k_law_times⟩⟩,
    ⟨⟨_, _, PySem.W.mg_of X G a_law_goes, fun_mk (st := s_law_goes) l_law_goes c_law_goes k_law_goes⟩⟩,
    ⟨⟨_, _, PySem.W.mg_of X G a_law_writing, fun_mk (st := s_law_writing) l_law_writing c_law_writing k_law_writing⟩⟩,
    ⟨⟨_, _, PySem.W.mg_of X G a_law_number, fun_mk (st := s_law_number) l_law_number c_law_number k_law_number⟩⟩,
    ⟨⟨_, _, PySem.W.mg_of X G a_law_is, fun_mk (st := s_law_is) l_law_is c_law_is k_law_is⟩⟩,
    ⟨⟨_, _, PySem.W.mg_of X G a_law_all, fun_mk (st := s_law_all) l_law_all c_law_all k_law_all⟩⟩,
    ⟨⟨_, _, PySem.W.mg_of X G a_law_integer, fun_mk (st := s_law_integer) l_law_integer c_law_integer k_law_integer⟩⟩,
    ⟨⟨_, _, PySem.W.mg_of X G a_law_told, fun_mk (st := s_law_told) l_law_told c_law_told k_law_told⟩⟩,
    ⟨⟨_, _, PySem.W.mg_of X G a_law, fun_mk (st := s_law) l_law c_law k_law⟩⟩,
    PySem.W.mg_none_of X G n_ValueError,
    PySem.W.mg_none_of X G n_abs,
    PySem.W.mg_none_of X G n_all,
    PySem.W.mg_none_of X G n_bool,
    PySem.W.mg_none_of X G n_dict,
    PySem.W.mg_none_of X G n_enumerate,
    PySem.W.mg_none_of X G n_int,
    PySem.W.mg_none_of X G n_isinstance,
    PySem.W.mg_none_of X G n_len,
    PySem.W.mg_none_of X G n_list,
    PySem.W.mg_none_of X G n_max,
    PySem.W.mg_none_of X G n_min,
    PySem.W.mg_none_of X G n_range,
    PySem.W.mg_none_of X G n_reversed,
    PySem.W.mg_none_of X G n_sum,
    PySem.W.mg_none_of X G n_tuple,
    PySem.W.mg_none_of X G n_zip,
    PySem.W.mg_of X G g_gcd,
    ⟨_, PySem.W.mg_of X G v_MOST_BEGINNINGS⟩,
    ⟨_, PySem.W.mg_of X G v_MOST_DIGITS⟩⟩
  have FL := fun_mk (st := s_law) l_law c_law k_law
  exact ⟨_, fun s v => .of_eq rfl, fun base _ _ => ok_law T FL⟩
theorem walk {l : PySem.W.OpenLaw} {q : Program} {loose : List Str} {XP : (Str → Option Value) → Heap → Prop} {YP : World → Heap → Prop} {d : DefRec} {K : Params → PySem.W.Frag} (hn : l.most = some 63) (hdf : d.params.defaults = [])
    (hY : ∀ (w : World) (h : Heap), YP w h → (K w.params).In h)
    (F : ∀ (w : World) (mg : Str → Option Value) (fa : Addr) (h : Heap), (K w.params).In h → h.Ns mainGlobals mg → mg d.name = some (.ref fa) →
      ∃ fd : FuncData, (∀ (s : Shared) (u : Value), BindsTo s fd ⟨[u], []⟩ [("script", u)]) ∧ ∀ base : Heap, (K w.params).In base → base.Ns mainGlobals mg → FnOk l.prog w (K w.params) mg base CX0 7 fa fd ["script"] (spLaw (K w.params))) :
    PySem.W.WalkO q loose XP YP l.row.toRowW d [] (fun f vs => PySem.call f vs) :=
  L2.walk_of (n := 63) (k := 7) (x := "script") (CX := fun _ => CX0) (sp := fun w => spLaw (K w.params)) hn (by decide) hdf ⟨rfl, by decide, by decide⟩ hY F (fun _ _ a ns hl _ hS => ⟨a, ns, rfl, hS, hl, fun _ => rfl⟩) fun _ _ _ _ _ z => z
end Lk04
open PySem PySem.W PyProof.Rows
set_option maxRecDepth 100000 in
set_option maxHeartbeats 0 in
theorem PySem.Challenge.cw_anywriting_k04_whole_beginnings_holds : PySem.Challenge.rw_anywriting_k04_whole_beginnings.Holds := by
  w_on; o_law; k_head; (case hw => w_witness2)
  k_fill
  refine Lk04.walk (l := PySem.Challenge.rw_anywriting_k04_whole_beginnings) rfl rfl (fun w h Y => PySem.W.kIn_of Y) ?F
  case F =>
    intro w mg fa h KX G hmg
    refine' Lk04.all_mk KX G hmg ?a_is_integer ?l_is_integer ?c_is_integer ?k_is_integer ?a_is_integer_within ?l_is_integer_within ?c_is_integer_within ?k_is_integer_within ?a_is_base ?l_is_base ?c_is_base ?k_is_base ?a_is_tuple_of ?l_is_tuple_of ?c_is_tuple_of ?k_is_tuple_of ?a_is_fraction ?l_is_fraction ?c_is_fraction ?k_is_fraction ?a_is_number ?l_is_number ?c_is_number ?k_is_number ?a_check_base ?l_check_base ?c_check_base ?k_check_base ?a_check_number ?l_check_number ?c_check_number ?k_check_number ?a_check_many ?l_check_many ?c_check_many ?k_check_many ?a_least_digit ?l_least_digit ?c_least_digit ?k_least_digit ?a_greatest_digit ?l_greatest_digit ?c_greatest_digit ?k_greatest_digit ?a_next_digits ?l_next_digits ?c_next_digits ?k_next_digits ?a_beginnings ?l_beginnings ?c_beginnings ?k_beginnings ?a_traced_back ?l_traced_back ?c_traced_back ?k_traced_back ?a_many_beginnings ?l_many_beginnings ?c_many_beginnings ?k_many_beginnings ?a_law_hand ?l_law_hand ?c_law_hand ?k_law_hand ?a_law_mixed ?l_law_mixed ?c_law_mixed ?k_law_mixed ?a_law_draw ?l_law_draw ?c_law_draw ?k_law_draw ?a_law_any ?l_law_any ?c_law_any ?k_law_any ?a_law_low ?l_law_low ?c_law_low ?k_law_low ?a_law_minus ?l_law_minus ?c_law_minus ?k_law_minus ?a_law_times ?l_law_times ?c_law_times ?k_law_times ?a_law_goes ?l_law_goes ?c_law_goes ?k_law_goes ?a_law_writing ?l_law_writing ?c_law_writing ?k_law_writing ?a_law_number ?l_law_number ?c_law_number ?k_law_number ?a_law_is ?l_law_is ?c_law_is ?k_law_is ?a_law_all ?l_law_all ?c_law_all ?k_law_all ?a_law_integer ?l_law_integer ?c_law_integer ?k_law_integer ?a_law_told ?l_law_told ?c_law_told ?k_law_told ?a_law ?l_law ?c_law ?k_law ?g_WritingError ?ga_WritingError ?rd_WritingError ?fc_WritingError ?g_TooMany ?xl_TooMany ?sa_TooMany ?gt_TooMany ?gg_TooMany ?ii_TooMany ?ti_TooMany ?li_TooMany ?ci_TooMany ?ki_TooMany ?kC_TooMany ?eC_TooMany ?tC_TooMany ?hC_TooMany ?iC_TooMany ?sC_TooMany ?nf_TooMany ?n_ValueError ?n_abs ?n_all ?n_bool ?n_dict ?n_enumerate ?n_int ?n_isinstance ?n_len ?n_list ?n_max ?n_min ?n_range ?n_reversed ?n_sum ?n_tuple ?n_zip ?g_gcd ?v_MOST_BEGINNINGS ?v_MOST_DIGITS
    (case a_is_integer => k_is)
    (case l_is_integer => k_is)
    (case c_is_integer => k_is)
    (case k_is_integer => k_is)
    (case a_is_integer_within => k_is)
    (case l_is_integer_within => k_is)
    (case c_is_integer_within => k_is)
    (case k_is_integer_within => k_is)
    (case a_is_base => k_is)
    (case l_is_base => k_is)
    (case c_is_base => k_is)
    (case k_is_base => k_is)
    (case a_is_tuple_of => k_is)
    (case l_is_tuple_of => k_is)
    (case c_is_tuple_of => k_is)
    (case k_is_tuple_of => k_is)
    (case a_is_fraction => k_is)
    (case l_is_fraction => k_is)
    (case c_is_fraction => k_is)
    (case k_is_fraction => k_is)
    (case a_is_number => k_is)
    (case l_is_number => k_is)
    (case c_is_number => k_is)
    (case k_is_number => k_is)
    (case a_check_base => k_is)
    (case l_check_base => k_is)
    (case c_check_base => k_is)
    (case k_check_base => k_is)
    (case a_check_number => k_is)
    (case l_check_number => k_is)
    (case c_check_number => k_is)
    (case k_check_number => k_is)
    (case a_check_many => k_is)
    (case l_check_many => k_is)
    (case c_check_many => k_is)
    (case k_check_many => k_is)
    (case a_least_digit => k_is)
    (case l_least_digit => k_is)
    (case c_least_digit => k_is)
    (case k_least_digit => k_is)
    (case a_greatest_digit => k_is)
    (case l_greatest_digit => k_is)
    (case c_greatest_digit => k_is)
    (case k_greatest_digit => k_is)
    (case a_next_digits => k_is)
    (case l_next_digits => k_is)
    (case c_next_digits => k_is)
    (case k_next_digits => k_is)
    (case a_beginnings => k_is)
    (case l_beginnings => k_is)
    (case c_beginnings => k_is)
    (case k_beginnings => k_is)
    (case a_traced_back => k_is)
    (case l_traced_back => k_is)
    (case c_traced_back => k_is)
    (case k_traced_back => k_is)
    (case a_many_beginnings => k_is)
    (case l_many_beginnings => k_is)
    (case c_many_beginnings => k_is)
    (case k_many_beginnings => k_is)
    (case a_law_hand => k_is)
    (case l_law_hand => k_is)
    (case c_law_hand => k_is)
    (case k_law_hand => k_is)
    (case a_law_mixed => k_is)
    (case l_law_mixed => k_is)
    (case c_law_mixed => k_is)
    (case k_law_mixed => k_is)
    (case a_law_draw => k_is)
    (case l_law_draw => k_is)
    (case c_law_draw => k_is)
    (case k_law_draw => k_is)
    (case a_law_any => k_is)
    (case l_law_any => k_is)
    (case c_law_any => k_is)
    (case k_law_any => k_is)
    (case a_law_low => k_is)
    (case l_law_low => k_is)
    (case c_law_low => k_is)
    (case k_law_low => k_is)
    (case a_law_minus => k_is)
    (case l_law_minus => k_is)
    (case c_law_minus => k_is)
    (case k_law_minus => k_is)
    (case a_law_times => k_is)
    (case l_law_times => k_is)
    (case c_law_times => k_is)
    (case k_law_times => k_is)
    (case a_law_goes => k_is)
    (case l_law_goes => k_is)
    (case c_law_goes => k_is)
    (case k_law_goes => k_is)
    (case a_law_writing => k_is)
    (case l_law_writing => k_is)
    (case c_law_writing => k_is)
    (case k_law_writing => k_is)
    (case a_law_number => k_is)
    (case l_law_number => k_is)
    (case c_law_number => k_is)
    (case k_law_number => k_is)
    (case a_law_is => k_is)
    (case l_law_is => k_is)
    (case c_law_is => k_is)
    (case k_law_is => k_is)
    (case a_law_all => k_is)
    (case l_law_all => k_is)
    (case c_law_all => k_is)
    (case k_law_all => k_is)
    (case a_law_integer => k_is)
    (case l_law_integer => k_is)
    (case c_law_integer => k_is)
    (case k_law_integer => k_is)
    (case a_law_told => k_is)
    (case l_law_told => k_is)
    (case c_law_told => k_is)
    (case k_law_told => k_is)
    (case a_law => k_is)
    (case l_law => k_is)
    (case c_law => k_is)
    (case k_law => k_is)
    (case g_WritingError => k_is)
    (case ga_WritingError => k_is)
    (case rd_WritingError => k_is)
    (case fc_WritingError => k_is)
    (case g_TooMany => k_is)
    (case xl_TooMany => k_is)
    (case sa_TooMany => k_is)
    (case gt_TooMany => k_is)
    (case gg_TooMany => k_is)
    (case ii_TooMany => k_is)
    (case ti_TooMany => k_is)
    (case li_TooMany => k_is)
    (case ci_TooMany => k_is)
    (case ki_TooMany => k_is)
    (case kC_TooMany => k_is)
    (case eC_TooMany => k_is)
    (case tC_TooMany => k_is)
    (case hC_TooMany => k_is)
    (case iC_TooMany => k_is)
    (case sC_TooMany => k_is)
    (case nf_TooMany => k_is)
    (case n_ValueError => k_is)
    (case n_abs => k_is)
    (case n_all => k_is)
    (case n_bool => k_is)
    (case n_dict => k_is)
    (case n_enumerate => k_is)
    (case n_int => k_is)
    (case n_isinstance => k_is)
    (case n_len => k_is)
    (case n_list => k_is)
    (case n_max => k_is)
    (case n_min => k_is)
    (case n_range => k_is)
    (case n_reversed => k_is)
    (case n_sum => k_is)
    (case n_tuple => k_is)
    (case n_zip => k_is)
    (case g_gcd => k_is)
    (case v_MOST_BEGINNINGS => k_is)
    (case v_MOST_DIGITS => k_is)
#print axioms PySem.Challenge.cw_anywriting_k04_whole_beginnings_holds

