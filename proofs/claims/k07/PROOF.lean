import PyProof.Rows.All
import Wide.All
import OpenK.AllK
import Wide.FinOn
import HandS.ForMost
import HandS.Evl
import HandS.Wide
import HandS.Gcd
import HandS.IsInst
import HandS.TupAny
import HandS.EndBits
import HandS.Lambda
import HandS.EndTab
import KE.KDictSum
import HandS.Sort
import HandS.Style
import HandS.ExcInit
import HandS.ExcField
import HandS.ExcOwn
import HandS.ExcIs
import HandS.TryOnly
import HandS.TryMany
import HandS.WordsExc
import HandS.Zip
import HandS.Deep
import HandS.TupMul
import HandS.Iter
import KE.BitLaws
import KE.DataCmp
import HandS.TupLe
import KE.GoesEnum
import PyProof.SumAnyB
import PySem.Challenge.RW_anywriting_k07_machines_judged
set_option Elab.async false
set_option linter.all false
set_option maxRecDepth 100000
set_option maxHeartbeats 2000000
/-! A calculus over the hand layer's readings in which a body is read by plain data: no addresses, no heaps. -/
namespace Cal
open PySem L2 PyProof.Rows
open Evl (Ex ex_l ex_t ex_rd sq_of st_of)

/-! ### data -/
inductive D where
  | non | bl (b : Bool) | int (i : Int) | str (x : Str) | hand
  | tup (xs : List D) | lst (xs : List D)
  | dK (kvs : List (Key × D)) | dT (kvs : List (List Key × D))
  | raw (v : V)
  /-- an object of a class of the program, its attributes -/
  | ins (C : Addr) (fs : List (Str × D))

/-- the class C has objects with these attributes -/
def ClsF (K : PySem.W.Frag) (C : Addr) (fs : List (Str × D)) : Prop := Cls K C ∧ ∀ g, g ∈ fs.map (·.1) → NoAttr K C g
/-- the hand's place, and the tables of code objects that the law's own lambdas have -/
structure Hnd where
  a : Addr
  c : Addr
  T : List (Addr × Str)
/-- nothing, or a table of code objects -/
def Nil (x : Option HO) : Prop := ∀ o, x = some o → ∃ ps, o = .tbl ps
theorem nil_ne {F : Hp} {a b : Addr} {u : HO} (n : Nil (F a)) (e : F b = some u) (t : ∀ ps, u ≠ .tbl ps) : b ≠ a := fun z => by
  rw [z] at e
  obtain ⟨ps, h⟩ := n _ e
  exact t ps h
theorem Nil.no {x : Option HO} (h : x = none) : Nil x := fun o e => by rw [h] at e; cases e
mutual
inductive Rp (K : PySem.W.Frag) (h : Hnd) (G : Hp) : V → D → Prop
  | non : Rp K h G .non .non
  | bl (b : Bool) : Rp K h G (.bl b) (.bl b)
  | int (i : Int) : Rp K h G (.int i) (.int i)
  | str (x : Str) : Rp K h G (.str x) (.str x)
  | hand : Rp K h G (.ref h.a) .hand
  | tup {a : Addr} {vs : List V} {ds : List D} : G a = some (.tup vs) → RpL K h G vs ds → Rp K h G (.ref a) (.tup ds)
  | lst {a : Addr} {vs : List V} {ds : List D} : G a = some (.lst vs) → RpL K h G vs ds → Rp K h G (.ref a) (.lst ds)
  | dK {a : Addr} {vk : List (Key × V)} {kvs : List (Key × D)} : Rd G a (.dK vk) → RpK K h G vk kvs → Rp K h G (.ref a) (.dK kvs)
  | dT {a : Addr} {vk : List (List Key × V)} {kvs : List (List Key × D)} : Rd G a (.dT vk) → RpT K h G vk kvs → Rp K h G (.ref a) (.dT kvs)
  | raw (v : V) : Rp K h G v (.raw v)
  | ins {a C dx : Addr} {vf : List (Str × V)} {fs : List (Str × D)} : G a = some (.ins C dx vf) → RpF K h G vf fs → ClsF K C fs → Rp K h G (.ref a) (.ins C fs)
inductive RpF (K : PySem.W.Frag) (h : Hnd) (G : Hp) : List (Str × V) → List (Str × D) → Prop
  | nil : RpF K h G [] []
  | cons {f : Str} {v : V} {vs : List (Str × V)} {d : D} {ds : List (Str × D)} : Rp K h G v d → RpF K h G vs ds → RpF K h G ((f, v) :: vs) ((f, d) :: ds)
inductive RpL (K : PySem.W.Frag) (h : Hnd) (G : Hp) : List V → List D → Prop
  | nil : RpL K h G [] []
  | cons {v : V} {vs : List V} {d : D} {ds : List D} : Rp K h G v d → RpL K h G vs ds → RpL K h G (v :: vs) (d :: ds)
inductive RpK (K : PySem.W.Frag) (h : Hnd) (G : Hp) : List (Key × V) → List (Key × D) → Prop
  | nil : RpK K h G [] []
  | cons {k : Key} {v : V} {vs : List (Key × V)} {d : D} {ds : List (Key × D)} : Rp K h G v d → RpK K h G vs ds → RpK K h G ((k, v) :: vs) ((k, d) :: ds)
inductive RpT (K : PySem.W.Frag) (h : Hnd) (G : Hp) : List (List Key × V) → List (List Key × D) → Prop
  | nil : RpT K h G [] []
  | cons {k : List Key} {v : V} {vs : List (List Key × V)} {d : D} {ds : List (List Key × D)} : Rp K h G v d → RpT K h G vs ds → RpT K h G ((k, v) :: vs) ((k, d) :: ds)
end

section
variable {K : PySem.W.Frag} {h : Hnd} {G G' : Hp}
mutual
theorem Rp.mono (e : Ex G G') : ∀ (d : D) (v : V), Rp K h G v d → Rp K h G' v d
  | .non, _, r => by cases r; exact .non
  | .bl b, _, r => by cases r; exact .bl b
  | .int i, _, r => by cases r; exact .int i
  | .str x, _, r => by cases r; exact .str x
  | .hand, _, r => by cases r; exact .hand
  | .tup ds, _, r => by cases r with | tup q l => exact .tup (e _ _ q) (RpL.mono e ds _ l)
  | .lst ds, _, r => by cases r with | lst q l => exact .lst (e _ _ q) (RpL.mono e ds _ l)
  | .dK kvs, _, r => by cases r with | dK q l => exact .dK (ex_rd e q) (RpK.mono e kvs _ l)
  | .dT kvs, _, r => by cases r with | dT q l => exact .dT (ex_rd e q) (RpT.mono e kvs _ l)
  | .raw v, _, r => by cases r; exact .raw v
  | .ins C fs, _, r => by cases r with | ins q l c => exact .ins (e _ _ q) (RpF.mono e fs _ l) c
theorem RpF.mono (e : Ex G G') : ∀ (ds : List (Str × D)) (vs : List (Str × V)), RpF K h G vs ds → RpF K h G' vs ds
  | [], _, r => by cases r; exact .nil
  | (k, d) :: ds, _, r => by cases r with | cons a b => exact .cons (Rp.mono e d _ a) (RpF.mono e ds _ b)
theorem RpL.mono (e : Ex G G') : ∀ (ds : List D) (vs : List V), RpL K h G vs ds → RpL K h G' vs ds
  | [], _, r => by cases r; exact .nil
  | d :: ds, _, r => by cases r with | cons a b => exact .cons (Rp.mono e d _ a) (RpL.mono e ds _ b)
theorem RpK.mono (e : Ex G G') : ∀ (ds : List (Key × D)) (vs : List (Key × V)), RpK K h G vs ds → RpK K h G' vs ds
  | [], _, r => by cases r; exact .nil
  | (k, d) :: ds, _, r => by cases r with | cons a b => exact .cons (Rp.mono e d _ a) (RpK.mono e ds _ b)
theorem RpT.mono (e : Ex G G') : ∀ (ds : List (List Key × D)) (vs : List (List Key × V)), RpT K h G vs ds → RpT K h G' vs ds
  | [], _, r => by cases r; exact .nil
  | (k, d) :: ds, _, r => by cases r with | cons a b => exact .cons (Rp.mono e d _ a) (RpT.mono e ds _ b)
end
end
abbrev rmono {K : PySem.W.Frag} {h : Hnd} {G G' : Hp} {v : V} {d : D} (r : Rp K h G v d) (e : Ex G G') : Rp K h G' v d := Rp.mono e d v r
abbrev lmono {K : PySem.W.Frag} {h : Hnd} {G G' : Hp} {v : List V} {d : List D} (r : RpL K h G v d) (e : Ex G G') : RpL K h G' v d := RpL.mono e d v r

section
variable {K : PySem.W.Frag} {h : Hnd} {G : Hp}
theorem RpL.length : ∀ {vs : List V} {ds : List D}, RpL K h G vs ds → vs.length = ds.length
  | [], [], _ => rfl
  | v :: vs, d :: ds, r => by cases r with | cons a b => rw [List.length_cons, List.length_cons, RpL.length b]
  | [], d :: ds, r => by cases r
  | v :: vs, [], r => by cases r
theorem RpL.get : ∀ {vs : List V} {ds : List D} {i : Nat} {d : D}, RpL K h G vs ds → ds[i]? = some d → ∃ v, vs[i]? = some v ∧ Rp K h G v d
  | [], [], i, d, _, e => by simp at e
  | v :: vs, x :: ds, 0, d, r, e => by
    cases r with
    | cons a b =>
      have e' : x = d := by simpa using e
      subst e'
      exact ⟨v, rfl, a⟩
  | v :: vs, x :: ds, i + 1, d, r, e => by
    cases r with
    | cons a b =>
      obtain ⟨w, h1, h2⟩ := RpL.get (i := i) (d := d) b (by simpa using e)
      exact ⟨w, by simpa using h1, h2⟩
  | [], d :: ds, _, _, r, _ => by cases r
  | v :: vs, [], _, _, r, _ => by cases r
theorem RpL.get' {vs : List V} {ds : List D} {i : Nat} {v : V} (r : RpL K h G vs ds) (e : vs[i]? = some v) : ∃ d, ds[i]? = some d ∧ Rp K h G v d := by
  have hi : i < vs.length := (List.getElem?_eq_some_iff.mp e).1
  rw [r.length] at hi
  obtain ⟨w, h1, h2⟩ := r.get (List.getElem?_eq_getElem hi)
  rw [e] at h1
  cases h1
  exact ⟨_, List.getElem?_eq_getElem hi, h2⟩
theorem RpL.append : ∀ {vs ws : List V} {ds es : List D}, RpL K h G vs ds → RpL K h G ws es → RpL K h G (vs ++ ws) (ds ++ es)
  | [], _, [], _, _, s => s
  | v :: vs, _, d :: ds, _, r, s => by cases r with | cons a b => exact .cons a (RpL.append b s)
  | [], _, d :: ds, _, r, _ => by cases r
  | v :: vs, _, [], _, r, _ => by cases r
theorem RpL.take : ∀ (n : Nat) {vs : List V} {ds : List D}, RpL K h G vs ds → RpL K h G (vs.take n) (ds.take n)
  | 0, _, _, _ => by rw [List.take_zero, List.take_zero]; exact .nil
  | n + 1, [], [], _ => .nil
  | n + 1, v :: vs, d :: ds, r => by cases r with | cons a b => exact .cons a (RpL.take n b)
  | n + 1, [], d :: ds, r => by cases r
  | n + 1, v :: vs, [], r => by cases r
theorem RpL.drop : ∀ (n : Nat) {vs : List V} {ds : List D}, RpL K h G vs ds → RpL K h G (vs.drop n) (ds.drop n)
  | 0, _, _, r => r
  | n + 1, [], [], _ => .nil
  | n + 1, v :: vs, d :: ds, r => by cases r with | cons a b => exact RpL.drop n b
  | n + 1, [], d :: ds, r => by cases r
  | n + 1, v :: vs, [], r => by cases r
theorem RpL.set {v : V} {d : D} (q : Rp K h G v d) : ∀ (n : Nat) {vs : List V} {ds : List D}, RpL K h G vs ds → RpL K h G (vs.set n v) (ds.set n d)
  | n, [], [], _ => .nil
  | 0, x :: vs, y :: ds, r => by cases r with | cons a b => exact .cons q b
  | n + 1, x :: vs, y :: ds, r => by cases r with | cons a b => exact .cons a (RpL.set q n b)
  | n, [], d :: ds, r => by cases r
  | n, v :: vs, [], r => by cases r
theorem RpL.ints {G : Hp} : ∀ {vs : List V} {ns : List Int}, RpL K h G vs (ns.map D.int) → vs = ns.map V.int
  | [], [], _ => rfl
  | v :: vs, n :: ns, r => by
    cases r with
    | cons a b =>
      cases a
      rw [List.map_cons, RpL.ints b]
  | [], d :: ds, r => by cases r
  | v :: vs, [], r => by cases r
theorem RpL.ofInts {G : Hp} : ∀ (ns : List Int), RpL K h G (ns.map V.int) (ns.map D.int)
  | [] => .nil
  | n :: ns => .cons (.int n) (RpL.ofInts ns)
theorem Rp.tup_inv {v : V} {ds : List D} (r : Rp K h G v (.tup ds)) : ∃ a vs, v = .ref a ∧ G a = some (.tup vs) ∧ RpL K h G vs ds := by
  cases r with | tup q l => exact ⟨_, _, rfl, q, l⟩
theorem Rp.lst_inv {v : V} {ds : List D} (r : Rp K h G v (.lst ds)) : ∃ a vs, v = .ref a ∧ G a = some (.lst vs) ∧ RpL K h G vs ds := by
  cases r with | lst q l => exact ⟨_, _, rfl, q, l⟩
theorem RpK.length : ∀ {vs : List (Key × V)} {ds : List (Key × D)}, RpK K h G vs ds → vs.length = ds.length
  | [], [], _ => rfl
  | v :: vs, d :: ds, r => by cases r with | cons a b => rw [List.length_cons, List.length_cons, RpK.length b]
  | [], d :: ds, r => by cases r
  | v :: vs, [], r => by cases r
theorem RpT.length : ∀ {vs : List (List Key × V)} {ds : List (List Key × D)}, RpT K h G vs ds → vs.length = ds.length
  | [], [], _ => rfl
  | v :: vs, d :: ds, r => by cases r with | cons a b => rw [List.length_cons, List.length_cons, RpT.length b]
  | [], d :: ds, r => by cases r
  | v :: vs, [], r => by cases r
theorem RpK.get' : ∀ {vs : List (Key × V)} {ds : List (Key × D)} {i : Nat} {k : Key} {v : V}, RpK K h G vs ds → vs[i]? = some (k, v) → ∃ d, ds[i]? = some (k, d) ∧ Rp K h G v d
  | [], [], i, k, v, _, e => by simp at e
  | x :: vs, y :: ds, 0, k, v, r, e => by
    cases r with
    | cons a b =>
      have e' := Option.some.inj (show some _ = some (k, v) from e)
      cases e'
      exact ⟨_, rfl, a⟩
  | x :: vs, y :: ds, i + 1, k, v, r, e => by
    cases r with
    | cons a b =>
      obtain ⟨d, h1, h2⟩ := RpK.get' (i := i) (k := k) (v := v) b (by simpa using e)
      exact ⟨d, by simpa using h1, h2⟩
  | [], d :: ds, _, _, _, r, _ => by cases r
  | v :: vs, [], _, _, _, r, _ => by cases r
theorem RpT.get' : ∀ {vs : List (List Key × V)} {ds : List (List Key × D)} {i : Nat} {k : List Key} {v : V}, RpT K h G vs ds → vs[i]? = some (k, v) → ∃ d, ds[i]? = some (k, d) ∧ Rp K h G v d
  | [], [], i, k, v, _, e => by simp at e
  | x :: vs, y :: ds, 0, k, v, r, e => by
    cases r with
    | cons a b =>
      have e' := Option.some.inj (show some _ = some (k, v) from e)
      cases e'
      exact ⟨_, rfl, a⟩
  | x :: vs, y :: ds, i + 1, k, v, r, e => by
    cases r with
    | cons a b =>
      obtain ⟨d, h1, h2⟩ := RpT.get' (i := i) (k := k) (v := v) b (by simpa using e)
      exact ⟨d, by simpa using h1, h2⟩
  | [], d :: ds, _, _, _, r, _ => by cases r
  | v :: vs, [], _, _, _, r, _ => by cases r
end

theorem tq {K : PySem.W.Frag} {G H : Hp} {a : Addr} {vs : List V} (e : Ex G H) (h : G a = some (.tup vs)) : SqT K H a vs := st_of (e _ _ h)
theorem lq {K : PySem.W.Frag} {G H : Hp} {a : Addr} {vs : List V} (e : Ex G H) (h : G a = some (.lst vs)) : SqL K H a vs := sq_of (e _ _ h)
/-! ### dicts of data, by keys of any kind -/
section
variable {κ : Type} [DecidableEq κ]
def dGet (kvs : List (κ × D)) (k : κ) : Option D := (kvs.find? fun kv => decide (kv.1 = k)).map (·.2)
def dPut (kvs : List (κ × D)) (k : κ) (v : D) : List (κ × D) :=
  if (kvs.any fun kv => decide (kv.1 = k)) = true then kvs.map (fun kv => if kv.1 = k then (kv.1, v) else kv) else kvs ++ [(k, v)]
end
section
variable {K : PySem.W.Frag} {h : Hnd} {G : Hp}
theorem RpK.any (k : Key) : ∀ {vs : List (Key × V)} {ds : List (Key × D)}, RpK K h G vs ds → (vs.any fun kv => decide (kv.1 = k)) = (ds.any fun kv => decide (kv.1 = k))
  | [], [], _ => rfl
  | x :: vs, y :: ds, r => by cases r with | cons a b => rw [List.any_cons, List.any_cons, RpK.any k b]
  | [], d :: ds, r => by cases r
  | v :: vs, [], r => by cases r
theorem RpK.find (k : Key) : ∀ {vs : List (Key × V)} {ds : List (Key × D)}, RpK K h G vs ds → (valV vs k = none ∧ dGet ds k = none) ∨ ∃ v d, valV vs k = some v ∧ dGet ds k = some d ∧ Rp K h G v d
  | [], [], _ => .inl ⟨rfl, rfl⟩
  | x :: vs, y :: ds, r => by
    cases r with
    | @cons k' v _ d _ a b =>
      by_cases e : k' = k
      · refine .inr ⟨v, d, valV_pos e, ?_, a⟩
        simp [dGet, List.find?_cons, e]
      · rw [valV_neg e]
        have e2 : dGet ((k', d) :: ds) k = dGet ds k := by simp [dGet, List.find?_cons, e]
        rw [e2]
        exact RpK.find k b
  | [], d :: ds, r => by cases r
  | v :: vs, [], r => by cases r
theorem RpK.rep (k : Key) {v : V} {d : D} (q : Rp K h G v d) : ∀ {vs : List (Key × V)} {ds : List (Key × D)}, RpK K h G vs ds →
    RpK K h G (vs.map fun kv => if kv.1 = k then (kv.1, v) else kv) (ds.map fun kv => if kv.1 = k then (kv.1, d) else kv)
  | [], [], _ => .nil
  | x :: vs, y :: ds, r => by
    cases r with
    | @cons k' v' _ d' _ a b =>
      rw [List.map_cons, List.map_cons]
      by_cases e : k' = k
      · rw [if_pos e, if_pos e]; exact .cons q (RpK.rep k q b)
      · rw [if_neg e, if_neg e]; exact .cons a (RpK.rep k q b)
  | [], d :: ds, r => by cases r
  | v :: vs, [], r => by cases r
theorem RpK.snoc {k : Key} {v : V} {d : D} (q : Rp K h G v d) : ∀ {vs : List (Key × V)} {ds : List (Key × D)}, RpK K h G vs ds → RpK K h G (vs ++ [(k, v)]) (ds ++ [(k, d)])
  | [], [], _ => .cons q .nil
  | x :: vs, y :: ds, r => by cases r with | cons a b => exact .cons a (RpK.snoc q b)
  | [], d :: ds, r => by cases r
  | v :: vs, [], r => by cases r
theorem RpK.put (k : Key) {v : V} {d : D} (q : Rp K h G v d) {vs : List (Key × V)} {ds : List (Key × D)} (r : RpK K h G vs ds) : RpK K h G (putK vs k v) (dPut ds k d) := by
  unfold putK dPut
  rw [r.any k]
  split
  · exact r.rep k q
  · exact r.snoc q
theorem RpT.any (k : List Key) : ∀ {vs : List (List Key × V)} {ds : List (List Key × D)}, RpT K h G vs ds → (vs.any fun kv => decide (kv.1 = k)) = (ds.any fun kv => decide (kv.1 = k))
  | [], [], _ => rfl
  | x :: vs, y :: ds, r => by cases r with | cons a b => rw [List.any_cons, List.any_cons, RpT.any k b]
  | [], d :: ds, r => by cases r
  | v :: vs, [], r => by cases r
theorem RpT.find (k : List Key) : ∀ {vs : List (List Key × V)} {ds : List (List Key × D)}, RpT K h G vs ds → (valV vs k = none ∧ dGet ds k = none) ∨ ∃ v d, valV vs k = some v ∧ dGet ds k = some d ∧ Rp K h G v d
  | [], [], _ => .inl ⟨rfl, rfl⟩
  | x :: vs, y :: ds, r => by
    cases r with
    | @cons k' v _ d _ a b =>
      by_cases e : k' = k
      · refine .inr ⟨v, d, valV_pos e, ?_, a⟩
        simp [dGet, List.find?_cons, e]
      · rw [valV_neg e]
        have e2 : dGet ((k', d) :: ds) k = dGet ds k := by simp [dGet, List.find?_cons, e]
        rw [e2]
        exact RpT.find k b
  | [], d :: ds, r => by cases r
  | v :: vs, [], r => by cases r
theorem RpT.rep (k : List Key) {v : V} {d : D} (q : Rp K h G v d) : ∀ {vs : List (List Key × V)} {ds : List (List Key × D)}, RpT K h G vs ds →
    RpT K h G (vs.map fun kv => if kv.1 = k then (kv.1, v) else kv) (ds.map fun kv => if kv.1 = k then (kv.1, d) else kv)
  | [], [], _ => .nil
  | x :: vs, y :: ds, r => by
    cases r with
    | @cons k' v' _ d' _ a b =>
      rw [List.map_cons, List.map_cons]
      by_cases e : k' = k
      · rw [if_pos e, if_pos e]; exact .cons q (RpT.rep k q b)
      · rw [if_neg e, if_neg e]; exact .cons a (RpT.rep k q b)
  | [], d :: ds, r => by cases r
  | v :: vs, [], r => by cases r
theorem RpT.snoc {k : List Key} {v : V} {d : D} (q : Rp K h G v d) : ∀ {vs : List (List Key × V)} {ds : List (List Key × D)}, RpT K h G vs ds → RpT K h G (vs ++ [(k, v)]) (ds ++ [(k, d)])
  | [], [], _ => .cons q .nil
  | x :: vs, y :: ds, r => by cases r with | cons a b => exact .cons a (RpT.snoc q b)
  | [], d :: ds, r => by cases r
  | v :: vs, [], r => by cases r
theorem RpT.put (k : List Key) {v : V} {d : D} (q : Rp K h G v d) {vs : List (List Key × V)} {ds : List (List Key × D)} (r : RpT K h G vs ds) : RpT K h G (putK vs k v) (dPut ds k d) := by
  unfold putK dPut
  rw [r.any k]
  split
  · exact r.rep k q
  · exact r.snoc q
end


/-! ### the state by data -/
structure Par where
  K : PySem.W.Frag
  h : Hnd
  H0 : Hp
  G0 : Hp
inductive Cell where
  | d (x : D) | ol (xs : List D) | ok (kvs : List (Key × D)) | ot (kvs : List (List Key × D)) | rw (a : Addr) (o : HO)
  /-- locked while it is walked -/
  | lk (kvs : List (Key × D)) | lt (kvs : List (List Key × D))
  /-- an object that is being made -/
  | oi (b C : Addr) (fs : List (Str × D))
def Cell.isOwn : Cell → Bool
  | .d _ => false
  | _ => true
abbrev Rho := List (Option Cell)

/-- the hand: cells, at, the rest, the count -/
def Hand (K : PySem.W.Frag) (G H : Hp) (h : Hnd) : Prop := ∃ (ns : List Int) (i r n : Int), H h.a = some (.lst [.ref h.c, .int i, .int r, .int n]) ∧ G h.c = some (.lst (ns.map V.int)) ∧ ns.length ≤ 63 ∧ 0 ≤ i ∧ 0 ≤ r ∧ 0 ≤ n
structure Mem (p : Par) (G H : Hp) : Prop where
  sub : Ex G H
  gh : G p.h.a = none
  base : ∀ a o, a ≠ p.h.a → (∀ ps, o ≠ .tbl ps) → p.H0 a = some o → H a = some o
  g0 : Ex p.G0 G
  new : ∀ a o, G a = some o → p.G0 a = some o ∨ Nil (p.H0 a) ∨ ((∃ xs, o = .tup xs) ∧ p.H0 a = some o)
  hand : Hand p.K G H p.h
  gt : ∀ a ps, G a ≠ some (.tbl ps)
  tab : LamX.Tabs p.h.T H
/-- evaluation: what the heaps G, H become -/
abbrev Stp (p : Par) (G H G' H' : Hp) : Prop := Mem ⟨p.K, p.h, H, G⟩ G' H'
/-- no tuple, no table, nothing but what is written -/
structure NT (o : HO) : Prop where
  tup : ∀ xs, o ≠ .tup xs
  tbl : ∀ ps, o ≠ .tbl ps
  ext : ∀ f, o ≠ .ext f
theorem NT.lst {xs : List V} : NT (.lst xs) := ⟨(by intro _ z; cases z), (by intro _ z; cases z), (by intro _ z; cases z)⟩
theorem NT.dK {xs : List (Key × V)} : NT (.dK xs) := ⟨(by intro _ z; cases z), (by intro _ z; cases z), (by intro _ z; cases z)⟩
theorem NT.dT {xs : List (List Key × V)} : NT (.dT xs) := ⟨(by intro _ z; cases z), (by intro _ z; cases z), (by intro _ z; cases z)⟩
theorem NT.frz {od : Obj} {u : HO} : NT (.frz od u) := ⟨(by intro _ z; cases z), (by intro _ z; cases z), (by intro _ z; cases z)⟩
theorem NT.ins {C dx : Addr} {vs : List (Str × V)} : NT (.ins C dx vs) := ⟨(by intro _ z; cases z), (by intro _ z; cases z), (by intro _ z; cases z)⟩
/-- what a table tells of stays, where nothing but a list, a dict, an object is written -/
theorem tabs_upd {T : List (Addr × Str)} {H : Hp} {a : Addr} {o : HO} (t : LamX.Tabs T H) (h : H a = none ∨ ∃ u, H a = some u ∧ NT u) : LamX.Tabs T (upd H a o) := by
  have ne : ∀ {b : Addr} {u : HO}, H b = some u → ((∃ ps, u = .tbl ps) ∨ ∃ f, u = .ext f) → b ≠ a := fun {b u} e k z => by
    rw [z] at e
    rcases h with h | ⟨v, h, n⟩
    · rw [h] at e; cases e
    · rw [h] at e
      cases e
      rcases k with ⟨ps, k⟩ | ⟨f, k⟩
      · exact n.tbl ps k
      · exact n.ext f k
  intro p hp
  obtain ⟨ps, h1, h2, h3⟩ := t p hp
  refine ⟨ps, by rw [upd_ne (ne h1 (.inl ⟨ps, rfl⟩))]; exact h1, h2, fun pos cv hc => ?_⟩
  obtain ⟨c, e1, e2⟩ := h3 pos cv hc
  exact ⟨c, e1, by rw [upd_ne (ne e2 (.inr ⟨_, rfl⟩))]; exact e2⟩
def Own (p : Par) (G : Hp) (a : Addr) : Prop := G a = none ∧ Nil (p.H0 a) ∧ a ≠ p.h.a
def Slot (p : Par) (G H : Hp) (sv : Option V) : Cell → Prop
  | .d x => ∃ v, sv = some v ∧ Rp p.K p.h G v x
  | .ol xs => ∃ a vs, sv = some (.ref a) ∧ Own p G a ∧ H a = some (.lst vs) ∧ RpL p.K p.h G vs xs
  | .ok kvs => ∃ a vs, sv = some (.ref a) ∧ Own p G a ∧ H a = some (.dK vs) ∧ RpK p.K p.h G vs kvs
  | .ot kvs => ∃ a vs, sv = some (.ref a) ∧ Own p G a ∧ H a = some (.dT vs) ∧ RpT p.K p.h G vs kvs
  | .rw a o => sv = some (.ref a) ∧ Own p G a ∧ H a = some o ∧ NT o
  | .lk kvs => ∃ a od vs, sv = some (.ref a) ∧ Own p G a ∧ H a = some (.frz od (.dK vs)) ∧ RpK p.K p.h G vs kvs
  | .lt kvs => ∃ a od vs, sv = some (.ref a) ∧ Own p G a ∧ H a = some (.frz od (.dT vs)) ∧ RpT p.K p.h G vs kvs
  | .oi b C fs => ∃ a dx vs, sv = some (.ref a) ∧ Own p G a ∧ H a = some (.ins C dx vs) ∧ RpF p.K p.h G vs fs ∧ a = b ∧ ClsF p.K C fs
structure Hold (p : Par) (ρ : Rho) (G : Hp) (σ : L2.St) (H : Hp) : Prop where
  mem : Mem p G H
  len : σ.length = ρ.length
  slot : ∀ (i : Nat) (c : Cell), ρ[i]? = some (some c) → ∃ sv, σ[i]? = some sv ∧ Slot p G H sv c
  sep : ∀ (i j : Nat) (c c' : Cell) (a : Addr), ρ[i]? = some (some c) → c.isOwn = true → ρ[j]? = some (some c') → c'.isOwn = true → σ[i]? = some (some (.ref a)) → σ[j]? = some (some (.ref a)) → i = j

theorem Ex.none_of {G H : Hp} (e : Ex G H) {a : Addr} (h : H a = none) : G a = none := Evl.fresh_back e h
theorem Hand.mono {K : PySem.W.Frag} {G G' H H' : Hp} {h : Hnd} (x : Hand K G H h) (e : Ex G G') (q : H' h.a = H h.a) : Hand K G' H' h := by
  obtain ⟨ns, i, r, n, h1, h2, h3⟩ := x
  exact ⟨ns, i, r, n, by rw [q]; exact h1, e _ _ h2, h3⟩
theorem Hand.some {K : PySem.W.Frag} {G H : Hp} {h : Hnd} (x : Hand K G H h) : ∃ xs, H h.a = some (.lst xs) := by
  obtain ⟨ns, i, r, n, h1, _⟩ := x
  exact ⟨_, h1⟩

section
variable {p : Par} {G H G1 H1 G2 H2 : Hp} {ρ : Rho} {σ : L2.St}
theorem Mem.refl (m : Mem p G H) : Stp p G H G H := ⟨m.sub, m.gh, fun _ _ _ _ e => e, fun _ _ e => e, fun _ _ e => .inl e, m.hand, m.gt, m.tab⟩
/-- behind an evaluation -/
theorem Mem.step (m : Mem p G H) (s : Stp p G H G1 H1) : Mem p G1 H1 where
  sub := s.sub
  gh := s.gh
  base := fun a o n t e => s.base a o n t (m.base a o n t e)
  g0 := fun a o e => s.g0 a o (m.g0 a o e)
  new := fun a o e => by
    by_cases ha : a = p.h.a
    · rw [ha, s.gh] at e; cases e
    rcases s.new a o e with q | q | ⟨t, q⟩
    · exact m.new a o q
    · right; left
      intro o' z
      refine Classical.byContradiction fun nt => ?_
      exact nt (q o' (m.base a o' ha (fun ps e => nt ⟨ps, e⟩) z))
    · by_cases z : Nil (p.H0 a)
      · exact .inr (.inl z)
      · have : ∃ o', p.H0 a = some o' ∧ ∀ ps, o' ≠ .tbl ps := Classical.byContradiction fun k => z fun o' e => Classical.byContradiction fun nt => k ⟨o', e, fun ps e => nt ⟨ps, e⟩⟩
        obtain ⟨o', z1, z2⟩ := this
        have h1 := m.base a o' ha z2 z1
        have q' : H a = some o := q
        rw [q'] at h1; cases h1
        exact .inr (.inr ⟨t, z1⟩)
  hand := s.hand
  gt := s.gt
  tab := s.tab
theorem Stp.trans (s : Stp p G H G1 H1) (t : Stp p G1 H1 G2 H2) : Stp p G H G2 H2 := Mem.step (p := ⟨p.K, p.h, H, G⟩) s t
theorem Stp.ex (s : Stp p G H G1 H1) : Ex G G1 := s.g0
theorem Slot.step {sv : Option V} {c : Cell} (x : Slot p G H sv c) (s : Stp p G H G1 H1) : Slot p G1 H1 sv c := by
  have own : ∀ {a o}, NT o → Own p G a → H a = some o → Own p G1 a ∧ H1 a = some o := fun {a o} nt q e => by
    refine ⟨⟨?_, q.2⟩, s.base a o q.2.2 nt.tbl e⟩
    cases z : G1 a with
    | none => rfl
    | some u =>
      rcases s.new a u z with r | r | ⟨⟨xs, t⟩, r⟩
      · have r' : G a = some u := r
        rw [q.1] at r'; cases r'
      · obtain ⟨ps, e'⟩ := r o e
        exact (nt.tbl ps e').elim
      · have r' : H a = some u := r
        rw [e] at r'; cases r'
        exact (nt.tup xs t).elim
  cases c with
  | d x => obtain ⟨v, h1, h2⟩ := x; exact ⟨v, h1, rmono h2 s.ex⟩
  | ol xs => obtain ⟨a, vs, h1, h2, h3, h4⟩ := x; obtain ⟨o1, o2⟩ := own NT.lst h2 h3; exact ⟨a, vs, h1, o1, o2, lmono h4 s.ex⟩
  | ok xs => obtain ⟨a, vs, h1, h2, h3, h4⟩ := x; obtain ⟨o1, o2⟩ := own NT.dK h2 h3; exact ⟨a, vs, h1, o1, o2, RpK.mono s.ex _ _ h4⟩
  | ot xs => obtain ⟨a, vs, h1, h2, h3, h4⟩ := x; obtain ⟨o1, o2⟩ := own NT.dT h2 h3; exact ⟨a, vs, h1, o1, o2, RpT.mono s.ex _ _ h4⟩
  | rw a o => obtain ⟨h1, h2, h3, h4⟩ := x; obtain ⟨o1, o2⟩ := own h4 h2 h3; exact ⟨h1, o1, o2, h4⟩
  | lk xs => obtain ⟨a, od, vs, h1, h2, h3, h4⟩ := x; obtain ⟨o1, o2⟩ := own NT.frz h2 h3; exact ⟨a, od, vs, h1, o1, o2, RpK.mono s.ex _ _ h4⟩
  | lt xs => obtain ⟨a, od, vs, h1, h2, h3, h4⟩ := x; obtain ⟨o1, o2⟩ := own NT.frz h2 h3; exact ⟨a, od, vs, h1, o1, o2, RpT.mono s.ex _ _ h4⟩
  | oi _ C xs => obtain ⟨a, od, vs, h1, h2, h3, h4⟩ := x; obtain ⟨o1, o2⟩ := own NT.ins h2 h3; exact ⟨a, od, vs, h1, o1, o2, RpF.mono s.ex _ _ h4.1, h4.2⟩
theorem Hold.step (h : Hold p ρ G σ H) (s : Stp p G H G1 H1) : Hold p ρ G1 σ H1 :=
  ⟨h.mem.step s, h.len, fun i c e => by obtain ⟨sv, h1, h2⟩ := h.slot i c e; exact ⟨sv, h1, h2.step s⟩, h.sep⟩
/-- a new object, known from now on -/
theorem Mem.grow (m : Mem p G H) {a : Addr} {o : HO} (n : H a = none) (nt : ∀ ps, o ≠ .tbl ps := by intro _ z; cases z) : Stp p G H (upd G a o) (upd H a o) where
  sub := fun b u e => by
    by_cases hb : b = a
    · subst hb; rw [upd_same] at e ⊢; exact e
    · rw [upd_ne hb] at e ⊢; exact m.sub b u e
  gh := by
    obtain ⟨u, hu⟩ := m.hand.some
    show upd G a o p.h.a = none
    rw [upd_ne (ne_of_none hu n)]
    exact m.gh
  base := fun b u _ _ e => by
    show upd H a o b = some u
    rw [upd_ne (ne_of_none e n)]
    exact e
  g0 := fun b u e => by
    show upd G a o b = some u
    rw [upd_ne (ne_of_none (m.sub b u e) n)]
    exact e
  new := fun b u e => by
    by_cases hb : b = a
    · subst hb; exact .inr (.inl (Nil.no n))
    · rw [upd_ne hb] at e; exact .inl e
  hand := by
    obtain ⟨u, hu⟩ := m.hand.some
    exact m.hand.mono (fun b u e => by rw [upd_ne (ne_of_none (m.sub b u e) n)]; exact e) (upd_ne (ne_of_none hu n))
  gt := fun b ps e => by
    by_cases hb : b = a
    · subst hb; rw [upd_same] at e; exact nt ps (Option.some.inj e)
    · rw [upd_ne hb] at e; exact m.gt b ps e
  tab := tabs_upd m.tab (.inl n)
/-- a new object, not known -/
theorem Mem.growO (m : Mem p G H) {a : Addr} {o : HO} (n : H a = none) : Stp p G H G (upd H a o) where
  sub := fun b u e => by
    rw [upd_ne (ne_of_none (m.sub b u e) n)]; exact m.sub b u e
  gh := m.gh
  base := fun b u _ _ e => by
    show upd H a o b = some u
    rw [upd_ne (ne_of_none e n)]
    exact e
  g0 := fun b u e => e
  new := fun b u e => .inl e
  hand := by
    obtain ⟨u, hu⟩ := m.hand.some
    exact m.hand.mono (fun b u e => e) (upd_ne (ne_of_none hu n))
  gt := m.gt
  tab := tabs_upd m.tab (.inl n)
theorem Mem.nilFresh (m : Mem p G H) {a : Addr} (n : Nil (H a)) : Own p G a := by
  refine ⟨?_, fun o' z => ?_, ?_⟩
  · cases z : G a with
    | none => rfl
    | some u =>
      obtain ⟨ps, e⟩ := n u (m.sub a u z)
      exact (m.gt a ps (by rw [z, e])).elim
  · refine Classical.byContradiction fun nt => ?_
    by_cases ha : a = p.h.a
    · obtain ⟨u, hu⟩ := m.hand.some
      obtain ⟨ps, e⟩ := n _ (by rw [ha]; exact hu)
      cases e
    · exact nt (n o' (m.base a o' ha (fun ps e => nt ⟨ps, e⟩) z))
  · intro ha
    obtain ⟨u, hu⟩ := m.hand.some
    obtain ⟨ps, e⟩ := n _ (by rw [ha]; exact hu)
    cases e
theorem Mem.fresh (m : Mem p G H) {a : Addr} (n : H a = none) : Own p G a := m.nilFresh (Nil.no n)

theorem Hold.setD (h : Hold p ρ G σ H) {i : Nat} {v : V} {x : D} (r : Rp p.K p.h G v x) : Hold p (ρ.set i (some (.d x))) G (σ.set i (some v)) H := by
  refine ⟨h.mem, by rw [List.length_set, List.length_set]; exact h.len, fun j c e => ?_, fun j k c c' a e1 o1 e2 o2 e3 e4 => ?_⟩
  · by_cases hj : i = j
    · subst hj
      by_cases hi : i < ρ.length
      · rw [List.getElem?_set_self hi] at e
        cases e
        refine ⟨some v, by rw [List.getElem?_set_self (by rw [h.len]; exact hi)], v, rfl, r⟩
      · rw [List.getElem?_eq_none (by rw [List.length_set]; omega)] at e; cases e
    · rw [List.getElem?_set_ne hj] at e
      obtain ⟨sv, h1, h2⟩ := h.slot j c e
      exact ⟨sv, by rw [List.getElem?_set_ne hj]; exact h1, h2⟩
  · have ne : ∀ {m : Nat} {c : Cell}, (ρ.set i (some (.d x)))[m]? = some (some c) → c.isOwn = true → i ≠ m := fun {m c} e o z => by
      subst z
      by_cases hi : i < ρ.length
      · rw [List.getElem?_set_self hi] at e
        cases e
        cases o
      · rw [List.getElem?_eq_none (by rw [List.length_set]; omega)] at e; cases e
    have n1 := ne e1 o1
    have n2 := ne e2 o2
    rw [List.getElem?_set_ne n1] at e1 e3
    rw [List.getElem?_set_ne n2] at e2 e4
    exact h.sep j k c c' a e1 o1 e2 o2 e3 e4
theorem Cell.own_ref {c : Cell} {sv : Option V} (x : Slot p G H sv c) (o : c.isOwn = true) : ∃ a u, sv = some (.ref a) ∧ Own p G a ∧ H a = some u ∧ NT u := by
  cases c with
  | d x => cases o
  | ol xs => obtain ⟨a, vs, h1, h2, h3, _⟩ := x; exact ⟨a, _, h1, h2, h3, NT.lst⟩
  | ok xs => obtain ⟨a, vs, h1, h2, h3, _⟩ := x; exact ⟨a, _, h1, h2, h3, NT.dK⟩
  | ot xs => obtain ⟨a, vs, h1, h2, h3, _⟩ := x; exact ⟨a, _, h1, h2, h3, NT.dT⟩
  | rw a u => obtain ⟨h1, h2, h3, h4⟩ := x; exact ⟨a, _, h1, h2, h3, h4⟩
  | lk xs => obtain ⟨a, od, vs, h1, h2, h3, _⟩ := x; exact ⟨a, _, h1, h2, h3, NT.frz⟩
  | lt xs => obtain ⟨a, od, vs, h1, h2, h3, _⟩ := x; exact ⟨a, _, h1, h2, h3, NT.frz⟩
  | oi _ C xs => obtain ⟨a, od, vs, h1, h2, h3, _⟩ := x; exact ⟨a, _, h1, h2, h3, NT.ins⟩
theorem Slot.nt {c : Cell} {a : Addr} {o : HO} (x : Slot p G H (some (.ref a)) c) (ho : c.isOwn = true) (e : H a = some o) : NT o := by
  obtain ⟨b, u, e1, _, e3, e4⟩ := Cell.own_ref x ho
  cases e1
  rw [e] at e3
  cases e3
  exact e4
/-- a slot is given an object that no other slot owns -/
theorem Hold.setO (h : Hold p ρ G σ H) {i : Nat} {a : Addr} {c : Cell} (x : Slot p G H (some (.ref a)) c) (hf : ∀ (j : Nat) (c' : Cell), ρ[j]? = some (some c') → c'.isOwn = true → σ[j]? = some (some (.ref a)) → j = i) :
    Hold p (ρ.set i (some c)) G (σ.set i (some (.ref a))) H := by
  refine ⟨h.mem, by rw [List.length_set, List.length_set]; exact h.len, fun j c' e => ?_, fun j k c1 c2 b e1 o1 e2 o2 e3 e4 => ?_⟩
  · by_cases hj : i = j
    · subst hj
      by_cases hi : i < ρ.length
      · rw [List.getElem?_set_self hi] at e
        cases e
        exact ⟨some (.ref a), by rw [List.getElem?_set_self (by rw [h.len]; exact hi)], x⟩
      · rw [List.getElem?_eq_none (by rw [List.length_set]; omega)] at e; cases e
    · rw [List.getElem?_set_ne hj] at e
      obtain ⟨sv, h1, h2⟩ := h.slot j c' e
      exact ⟨sv, by rw [List.getElem?_set_ne hj]; exact h1, h2⟩
  · have at_i : ∀ {b}, (σ.set i (some (V.ref a)))[i]? = some (some (.ref b)) → b = a := fun {b} e => by
      by_cases hi : i < σ.length
      · rw [List.getElem?_set_self hi] at e; cases e; rfl
      · rw [List.getElem?_eq_none (by rw [List.length_set]; omega)] at e; cases e
    by_cases hj : i = j
    · by_cases hk : i = k
      · exact hj.symm.trans hk
      · subst hj
        have := at_i e3
        subst this
        rw [List.getElem?_set_ne hk] at e2 e4
        exact absurd (hf k c2 e2 o2 e4).symm hk
    · by_cases hk : i = k
      · subst hk
        have := at_i e4
        subst this
        rw [List.getElem?_set_ne hj] at e1 e3
        exact absurd (hf j c1 e1 o1 e3).symm hj
      · rw [List.getElem?_set_ne hj] at e1 e3
        rw [List.getElem?_set_ne hk] at e2 e4
        exact h.sep j k c1 c2 b e1 o1 e2 o2 e3 e4
theorem Hold.setNew (h : Hold p ρ G σ H) {i : Nat} {a : Addr} {c : Cell} (s : Stp p G H G1 H1) (n : Nil (H a)) (x : Slot p G1 H1 (some (.ref a)) c) : Hold p (ρ.set i (some c)) G1 (σ.set i (some (.ref a))) H1 :=
  (h.step s).setO x fun j c' e o q => by
    obtain ⟨sv, h1, h2⟩ := h.slot j c' e
    obtain ⟨b, u, e1, _, e3⟩ := Cell.own_ref h2 o
    rw [h1] at q
    rw [e1] at q
    cases q
    obtain ⟨ps, e⟩ := n _ e3.1
    exact (e3.2.tbl ps e).elim
/-- what slot i owns is changed -/
theorem Hold.write (h : Hold p ρ G σ H) {i : Nat} {c c' : Cell} {a : Addr} {o : HO} (e : ρ[i]? = some (some c)) (ho : c.isOwn = true) (q : σ[i]? = some (some (.ref a))) (ow : Own p G a) (x : Slot p G (upd H a o) (some (.ref a)) c') :
    Hold p (ρ.set i (some c')) G σ (upd H a o) := by
  have kn : ∃ u, H a = some u ∧ NT u := by
    obtain ⟨sv, h1, h2⟩ := h.slot i c e
    obtain ⟨b, u, e1, _, e3, e4⟩ := Cell.own_ref h2 ho
    rw [h1, e1] at q
    cases q
    exact ⟨u, e3, e4⟩
  have m : Mem p G (upd H a o) := ⟨fun b u z => by rw [upd_ne (ne_of_none z ow.1)]; exact h.mem.sub b u z, h.mem.gh, fun b u n t z => by rw [upd_ne (nil_ne ow.2.1 z t)]; exact h.mem.base b u n t z, h.mem.g0, h.mem.new,
    h.mem.hand.mono (fun _ _ z => z) (upd_ne (Ne.symm ow.2.2)), h.mem.gt, tabs_upd h.mem.tab (.inr kn)⟩
  refine ⟨m, by rw [List.length_set]; exact h.len, fun j c1 e1 => ?_, fun j k c1 c2 b e1 o1 e2 o2 e3 e4 => ?_⟩
  · by_cases hj : i = j
    · subst hj
      rw [List.getElem?_set_self (List.getElem?_eq_some_iff.mp e).1] at e1
      cases e1
      exact ⟨_, q, x⟩
    · rw [List.getElem?_set_ne hj] at e1
      obtain ⟨sv, h1, h2⟩ := h.slot j c1 e1
      refine ⟨sv, h1, ?_⟩
      have far : c1.isOwn = true → ∀ b, sv = some (.ref b) → b ≠ a := fun o1 b eb z => by
        subst z
        rw [eb] at h1
        exact hj (h.sep i j c c1 b e ho e1 o1 q h1)
      cases c1 with
      | d x => exact h2
      | ol xs => obtain ⟨b, vs, h3, h4, h5, h6⟩ := h2; exact ⟨b, vs, h3, h4, by rw [upd_ne (far rfl b h3)]; exact h5, h6⟩
      | ok xs => obtain ⟨b, vs, h3, h4, h5, h6⟩ := h2; exact ⟨b, vs, h3, h4, by rw [upd_ne (far rfl b h3)]; exact h5, h6⟩
      | ot xs => obtain ⟨b, vs, h3, h4, h5, h6⟩ := h2; exact ⟨b, vs, h3, h4, by rw [upd_ne (far rfl b h3)]; exact h5, h6⟩
      | rw b u => obtain ⟨h3, h4, h5, h6⟩ := h2; exact ⟨h3, h4, by rw [upd_ne (far rfl b h3)]; exact h5, h6⟩
      | lk xs => obtain ⟨b, od, vs, h3, h4, h5, h6⟩ := h2; exact ⟨b, od, vs, h3, h4, by rw [upd_ne (far rfl b h3)]; exact h5, h6⟩
      | lt xs => obtain ⟨b, od, vs, h3, h4, h5, h6⟩ := h2; exact ⟨b, od, vs, h3, h4, by rw [upd_ne (far rfl b h3)]; exact h5, h6⟩
      | oi _ C xs => obtain ⟨b, od, vs, h3, h4, h5, h6⟩ := h2; exact ⟨b, od, vs, h3, h4, by rw [upd_ne (far rfl b h3)]; exact h5, h6⟩
  · have own : ∀ {m : Nat} {c1 : Cell}, (ρ.set i (some c'))[m]? = some (some c1) → c1.isOwn = true → ∃ c2, ρ[m]? = some (some c2) ∧ c2.isOwn = true := fun {m c1} e1 o1 => by
      by_cases hm : i = m
      · subst hm; exact ⟨c, e, ho⟩
      · rw [List.getElem?_set_ne hm] at e1; exact ⟨c1, e1, o1⟩
    obtain ⟨d1, f1, g1⟩ := own e1 o1
    obtain ⟨d2, f2, g2⟩ := own e2 o2
    exact h.sep j k d1 d2 b f1 g1 f2 g2 e3 e4
/-- what slot i owns is from now on known and no longer changed -/
theorem Hold.freeze (h : Hold p ρ G σ H) {i : Nat} {c : Cell} {a : Addr} {o : HO} {x : D} (e : ρ[i]? = some (some c)) (ho : c.isOwn = true) (q : σ[i]? = some (some (.ref a))) (ow : Own p G a) (ha : H a = some o) (r : Rp p.K p.h (upd G a o) (.ref a) x) :
    Hold p (ρ.set i (some (.d x))) (upd G a o) σ H ∧ Ex G (upd G a o) := by
  have ex : Ex G (upd G a o) := fun b u z => by rw [upd_ne (ne_of_none z ow.1)]; exact z
  have m : Mem p (upd G a o) H := ⟨fun b u z => by
      by_cases hb : b = a
      · subst hb; rw [upd_same] at z; cases z; exact ha
      · rw [upd_ne hb] at z; exact h.mem.sub b u z, by rw [upd_ne (Ne.symm ow.2.2)]; exact h.mem.gh, h.mem.base, fun b u z => ex b u (h.mem.g0 b u z), fun b u z => by
      by_cases hb : b = a
      · subst hb; exact .inr (.inl ow.2.1)
      · rw [upd_ne hb] at z; exact h.mem.new b u z, h.mem.hand.mono ex rfl, fun b ps z => by
      by_cases hb : b = a
      · subst hb
        rw [upd_same] at z
        obtain ⟨sv, h1, h2⟩ := h.slot i c e
        obtain ⟨b', u, e1, _, e3, e4⟩ := Cell.own_ref h2 ho
        rw [h1, e1] at q
        cases q
        rw [e3] at ha
        cases ha
        exact e4.tbl ps (Option.some.inj z)
      · rw [upd_ne hb] at z; exact h.mem.gt b ps z, h.mem.tab⟩
  refine ⟨⟨m, by rw [List.length_set]; exact h.len, fun j c1 e1 => ?_, fun j k c1 c2 b e1 o1 e2 o2 e3 e4 => ?_⟩, ex⟩
  · by_cases hj : i = j
    · subst hj
      rw [List.getElem?_set_self (List.getElem?_eq_some_iff.mp e).1] at e1
      cases e1
      exact ⟨_, q, _, rfl, r⟩
    · rw [List.getElem?_set_ne hj] at e1
      obtain ⟨sv, h1, h2⟩ := h.slot j c1 e1
      refine ⟨sv, h1, ?_⟩
      have far : c1.isOwn = true → ∀ b, sv = some (.ref b) → Own p G b → Own p (upd G a o) b := fun o1 b eb ob => by
        refine ⟨?_, ob.2⟩
        rw [upd_ne]
        · exact ob.1
        · intro z
          subst z
          rw [eb] at h1
          exact hj (h.sep i j c c1 b e ho e1 o1 q h1)
      cases c1 with
      | d x => obtain ⟨v, h3, h4⟩ := h2; exact ⟨v, h3, rmono h4 ex⟩
      | ol xs => obtain ⟨b, vs, h3, h4, h5, h6⟩ := h2; exact ⟨b, vs, h3, far rfl b h3 h4, h5, lmono h6 ex⟩
      | ok xs => obtain ⟨b, vs, h3, h4, h5, h6⟩ := h2; exact ⟨b, vs, h3, far rfl b h3 h4, h5, RpK.mono ex _ _ h6⟩
      | ot xs => obtain ⟨b, vs, h3, h4, h5, h6⟩ := h2; exact ⟨b, vs, h3, far rfl b h3 h4, h5, RpT.mono ex _ _ h6⟩
      | rw b u => obtain ⟨h3, h4, h5⟩ := h2; exact ⟨h3, far rfl b h3 h4, h5⟩
      | lk xs => obtain ⟨b, od, vs, h3, h4, h5, h6⟩ := h2; exact ⟨b, od, vs, h3, far rfl b h3 h4, h5, RpK.mono ex _ _ h6⟩
      | lt xs => obtain ⟨b, od, vs, h3, h4, h5, h6⟩ := h2; exact ⟨b, od, vs, h3, far rfl b h3 h4, h5, RpT.mono ex _ _ h6⟩
      | oi _ C xs => obtain ⟨b, od, vs, h3, h4, h5, h6⟩ := h2; exact ⟨b, od, vs, h3, far rfl b h3 h4, h5, RpF.mono ex _ _ h6.1, h6.2⟩
  · have own : ∀ {m : Nat} {c1 : Cell}, (ρ.set i (some (.d x)))[m]? = some (some c1) → c1.isOwn = true → ρ[m]? = some (some c1) := fun {m c1} e1 o1 => by
      by_cases hm : i = m
      · subst hm
        rw [List.getElem?_set_self (List.getElem?_eq_some_iff.mp e).1] at e1
        cases e1; cases o1
      · rw [List.getElem?_set_ne hm] at e1; exact e1
    exact h.sep j k c1 c2 b (own e1 o1) o1 (own e2 o2) o2 e3 e4
/-- a slot is forgotten -/
theorem Hold.drop (h : Hold p ρ G σ H) (i : Nat) : Hold p (ρ.set i none) G σ H := by
  have un : ∀ {j : Nat} {c : Cell}, (ρ.set i none)[j]? = some (some c) → ρ[j]? = some (some c) := fun {j c} e => by
    by_cases hj : i = j
    · subst hj
      by_cases hi : i < ρ.length
      · rw [List.getElem?_set_self hi] at e; cases e
      · rw [List.getElem?_eq_none (by rw [List.length_set]; omega)] at e; cases e
    · rw [List.getElem?_set_ne hj] at e; exact e
  exact ⟨h.mem, by rw [List.length_set]; exact h.len, fun j c e => h.slot j c (un e), fun j k c c' a e1 o1 e2 o2 => h.sep j k c c' a (un e1) o1 (un e2) o2⟩
theorem Hold.forget (h : Hold p ρ G σ H) (i : Nat) (v : Option V) : Hold p (ρ.set i none) G (σ.set i v) H := by
  have un : ∀ {j : Nat} {c : Cell}, (ρ.set i none)[j]? = some (some c) → i ≠ j ∧ ρ[j]? = some (some c) := fun {j c} e => by
    by_cases hj : i = j
    · subst hj
      by_cases hi : i < ρ.length
      · rw [List.getElem?_set_self hi] at e; cases e
      · rw [List.getElem?_eq_none (by rw [List.length_set]; omega)] at e; cases e
    · rw [List.getElem?_set_ne hj] at e; exact ⟨hj, e⟩
  refine ⟨h.mem, by rw [List.length_set, List.length_set]; exact h.len, fun j c e => ?_, fun j k c c' a e1 o1 e2 o2 e3 e4 => ?_⟩
  · obtain ⟨n, e⟩ := un e
    rw [List.getElem?_set_ne n]
    exact h.slot j c e
  · obtain ⟨n1, e1⟩ := un e1
    obtain ⟨n2, e2⟩ := un e2
    rw [List.getElem?_set_ne n1] at e3
    rw [List.getElem?_set_ne n2] at e4
    exact h.sep j k c c' a e1 o1 e2 o2 e3 e4
end


/-! ### judgements: what must be true of the data so that a piece of the body runs to what is wanted -/
def WE (p : Par) (ρ : Rho) (te : TE) (Q : D → Prop) : Prop := ∀ G σ H, Hold p ρ G σ H → ∀ Qv : VK, (∀ d v G' H', Q d → Stp p G H G' H' → Rp p.K p.h G' v d → Qv v H') → te σ H Qv
def WT (p : Par) (ρ : Rho) (tt : TT) (Q : Bool → Prop) : Prop := ∀ G σ H, Hold p ρ G σ H → ∀ Qv : Bool → Hp → Prop, (∀ b G' H', Q b → Stp p G H G' H' → Qv b H') → tt σ H Qv
def WA (p : Par) (ρ : Rho) (ta : TA) (Q : List D → Prop) : Prop := ∀ G σ H, Hold p ρ G σ H → ∀ Qv : List V → Hp → Prop, (∀ ds vs G' H', Q ds → Stp p G H G' H' → RpL p.K p.h G' vs ds → Qv vs H') → ta σ H Qv
def WO (p : Par) (ρ : Rho) (to : TO) (Q : Option Int → Prop) : Prop := ∀ G σ H, Hold p ρ G σ H → ∀ Qv : Option Int → Hp → Prop, (∀ o G' H', Q o → Stp p G H G' H' → Qv o H') → to σ H Qv
/-- a new object that nobody else knows -/
def WF (p : Par) (ρ : Rho) (te : TE) (Q : Cell → Prop) : Prop := ∀ G σ H, Hold p ρ G σ H → ∀ Qv : VK, (∀ c a G' H', Q c → c.isOwn = true → Stp p G H G' H' → Nil (H a) → Slot p G' H' (some (.ref a)) c → Qv (.ref a) H') → te σ H Qv
/-- an operation on values -/
def RO (p : Par) (r : R2) (x y : D) (Q : D → Prop) : Prop := ∀ G H v w, Mem p G H → Rp p.K p.h G v x → Rp p.K p.h G w y → ∀ Qv : VK, (∀ d u G' H', Q d → Stp p G H G' H' → Rp p.K p.h G' u d → Qv u H') → r v w H Qv
def RU (p : Par) (r : V → Hp → VK → Prop) (x : D) (Q : D → Prop) : Prop := ∀ G H v, Mem p G H → Rp p.K p.h G v x → ∀ Qv : VK, (∀ d u G' H', Q d → Stp p G H G' H' → Rp p.K p.h G' u d → Qv u H') → r v H Qv
def RC (p : Par) (r : List V → Hp → VK → Prop) (xs : List D) (Q : D → Prop) : Prop := ∀ G H vs, Mem p G H → RpL p.K p.h G vs xs → ∀ Qv : VK, (∀ d u G' H', Q d → Stp p G H G' H' → Rp p.K p.h G' u d → Qv u H') → r vs H Qv
structure Post where
  n : Rho → Prop
  r : D → Prop
  b : Rho → Prop := fun _ => False
  c : Rho → Prop := fun _ => False
def WS (p : Par) (ρ : Rho) (ts : TS) (P : Post) : Prop := ∀ G σ H, Hold p ρ G σ H → ∀ E : Ends,
  (∀ ρ' G' σ' H', P.n ρ' → Ex G G' → Hold p ρ' G' σ' H' → E.nx σ' H') → (∀ d v G' H', P.r d → Mem p G' H' → Rp p.K p.h G' v d → E.rt v H') →
  (∀ ρ' G' σ' H', P.b ρ' → Ex G G' → Hold p ρ' G' σ' H' → E.bk σ' H') → (∀ ρ' G' σ' H', P.c ρ' → Ex G G' → Hold p ρ' G' σ' H' → E.ct σ' H') → ts E σ H
def WG (p : Par) (ρ : Rho) (g : TG) (x : D) (N : Rho → Prop) : Prop := ∀ G σ H v, Hold p ρ G σ H → Rp p.K p.h G v x → ∀ Qs : L2.St → Hp → Prop, (∀ ρ' G' σ' H', N ρ' → Ex G G' → Hold p ρ' G' σ' H' → Qs σ' H') → g v σ H Qs
def WGs (p : Par) (ρ : Rho) (g : TGs) (xs : List D) (N : Rho → Prop) : Prop := ∀ G σ H vs, Hold p ρ G σ H → RpL p.K p.h G vs xs → ∀ Qs : L2.St → Hp → Prop, (∀ ρ' G' σ' H', N ρ' → Ex G G' → Hold p ρ' G' σ' H' → Qs σ' H') → g vs σ H Qs

section
variable {p : Par} {ρ : Rho} {Q : D → Prop} {ta tb te : TE} {tt tu : TT}
theorem WE.imp {Q' : D → Prop} (h : WE p ρ te Q') (k : ∀ d, Q' d → Q d) : WE p ρ te Q := fun G σ H hh Qv q => h G σ H hh Qv fun d v G' H' z => q d v G' H' (k d z)
theorem WT.imp {Q Q' : Bool → Prop} (h : WT p ρ tt Q') (k : ∀ d, Q' d → Q d) : WT p ρ tt Q := fun G σ H hh Qv q => h G σ H hh Qv fun d G' H' z => q d G' H' (k d z)
theorem WA.imp {ta : TA} {Q Q' : List D → Prop} (h : WA p ρ ta Q') (k : ∀ d, Q' d → Q d) : WA p ρ ta Q := fun G σ H hh Qv q => h G σ H hh Qv fun d v G' H' z => q d v G' H' (k d z)
theorem WS.imp {ts : TS} {P P' : Post} (h : WS p ρ ts P') (n : ∀ d, P'.n d → P.n d) (r : ∀ d, P'.r d → P.r d) (b : ∀ d, P'.b d → P.b d) (c : ∀ d, P'.c d → P.c d) : WS p ρ ts P := fun G σ H hh E kn kr kb kc =>
  h G σ H hh E (fun ρ' G' σ' H' z => kn ρ' G' σ' H' (n _ z)) (fun d v G' H' z => kr d v G' H' (r _ z)) (fun ρ' G' σ' H' z => kb ρ' G' σ' H' (b _ z)) (fun ρ' G' σ' H' z => kc ρ' G' σ' H' (c _ z))

/-! ### expressions -/
theorem we_var {i : Nat} {x : D} (e : ρ[i]? = some (some (.d x))) (q : Q x) : WE p ρ (tVar i) Q := fun G σ H h Qv k => by
  obtain ⟨sv, h1, v, h2, h3⟩ := h.slot i _ e
  subst h2
  exact ⟨v, h1, k x v G H q h.mem.refl h3⟩
theorem we_int {i : Int} (q : Q (.int i)) : WE p ρ (tC (.int i)) Q := fun G σ H h Qv k => k _ _ G H q h.mem.refl (.int i)
theorem we_bl {i : Bool} (q : Q (.bl i)) : WE p ρ (tC (.bl i)) Q := fun G σ H h Qv k => k _ _ G H q h.mem.refl (.bl i)
theorem we_non (q : Q .non) : WE p ρ (tC .non) Q := fun G σ H h Qv k => k _ _ G H q h.mem.refl .non
theorem we_str {i : Str} (q : Q (.str i)) : WE p ρ (tC (.str i)) Q := fun G σ H h Qv k => k _ _ G H q h.mem.refl (.str i)
theorem we_raw {v : V} (q : Q (.raw v)) : WE p ρ (tC v) Q := fun G σ H h Qv k => k _ _ G H q h.mem.refl (.raw v)
theorem we_op {r : R2} (h : WE p ρ ta fun x => WE p ρ tb fun y => RO p r x y Q) : WE p ρ (tOp r ta tb) Q := fun G σ H hh Qv k =>
  h G σ H hh _ fun x v G1 H1 hx s1 r1 => hx G1 σ H1 (hh.step s1) _ fun y w G2 H2 hy s2 r2 =>
    hy G2 H2 v w ((hh.step s1).step s2).mem (rmono r1 s2.ex) r2 Qv fun d u G3 H3 q s3 r3 => k d u G3 H3 q ((s1.trans s2).trans s3) r3
theorem we_un {r : V → Hp → VK → Prop} (h : WE p ρ ta fun x => RU p r x Q) : WE p ρ (tUn r ta) Q := fun G σ H hh Qv k =>
  h G σ H hh _ fun x v G1 H1 hx s1 r1 => hx G1 H1 v (hh.step s1).mem r1 Qv fun d u G3 H3 q s3 r3 => k d u G3 H3 q (s1.trans s3) r3
theorem we_cb {r : List V → Hp → VK → Prop} {ta : TA} (h : WA p ρ ta fun xs => RC p r xs Q) : WE p ρ (tCB r ta) Q := fun G σ H hh Qv k =>
  h G σ H hh _ fun x v G1 H1 hx s1 r1 => hx G1 H1 v (hh.step s1).mem r1 Qv fun d u G3 H3 q s3 r3 => k d u G3 H3 q (s1.trans s3) r3
theorem wa_nil {Q : List D → Prop} (q : Q []) : WA p ρ tNil Q := fun G σ H hh Qv k => k [] [] G H q hh.mem.refl .nil
theorem wa_cons {Q : List D → Prop} {tr : TA} (h : WE p ρ te fun x => WA p ρ tr fun xs => Q (x :: xs)) : WA p ρ (tCons te tr) Q := fun G σ H hh Qv k =>
  h G σ H hh _ fun x v G1 H1 hx s1 r1 => hx G1 σ H1 (hh.step s1) _ fun xs vs G2 H2 q s2 r2 => k (x :: xs) (v :: vs) G2 H2 q (s1.trans s2) (.cons (rmono r1 s2.ex) r2)

/-! ### scalars -/
/-- a scalar value as data -/
def inj : V → D
  | .non => .non
  | .bl b => .bl b
  | .int i => .int i
  | .str x => .str x
  | v => .raw v
theorem rp_inj {K : PySem.W.Frag} {h : Hnd} {G : Hp} : ∀ v : V, Rp K h G v (inj v)
  | .non => .non
  | .bl b => .bl b
  | .int i => .int i
  | .str x => .str x
  | .byt b => .raw _
  | .flt b => .raw _
  | .ref a => .raw _
  | .ty n => .raw _
theorem rp_int {K : PySem.W.Frag} {h : Hnd} {G : Hp} {v : V} {i : Int} (r : Rp K h G v (.int i)) : v = .int i := by cases r; rfl
theorem rp_bl {K : PySem.W.Frag} {h : Hnd} {G : Hp} {v : V} {i : Bool} (r : Rp K h G v (.bl i)) : v = .bl i := by cases r; rfl
theorem rp_str {K : PySem.W.Frag} {h : Hnd} {G : Hp} {v : V} {i : Str} (r : Rp K h G v (.str i)) : v = .str i := by cases r; rfl
theorem rp_non {K : PySem.W.Frag} {h : Hnd} {G : Hp} {v : V} (r : Rp K h G v .non) : v = .non := by cases r; rfl
theorem we_I0 {g : Int → Int → V} (h : WE p ρ ta fun x => ∃ i, x = .int i ∧ WE p ρ tb fun y => ∃ j, y = .int j ∧ Q (inj (g i j))) : WE p ρ (tOp (rI0 g) ta tb) Q :=
  we_op (h.imp fun x ⟨i, e, h⟩ => h.imp fun y ⟨j, e2, q⟩ => fun G H v w m r1 r2 Qv k => by
    subst e e2
    exact ⟨i, j, rp_int r1, rp_int r2, k _ _ G H q m.refl (rp_inj _)⟩)
theorem we_I {C : Int → Int → Prop} {g : Int → Int → V} (h : WE p ρ ta fun x => ∃ i, x = .int i ∧ WE p ρ tb fun y => ∃ j, y = .int j ∧ C i j ∧ Q (inj (g i j))) : WE p ρ (tOp (rI C g) ta tb) Q :=
  we_op (h.imp fun x ⟨i, e, h⟩ => h.imp fun y ⟨j, e2, c, q⟩ => fun G H v w m r1 r2 Qv k => by
    subst e e2
    exact ⟨i, j, rp_int r1, rp_int r2, c, k _ _ G H q m.refl (rp_inj _)⟩)
theorem we_U {g : Int → V} (h : WE p ρ ta fun x => ∃ i, x = .int i ∧ Q (inj (g i))) : WE p ρ (tUn (rU g) ta) Q :=
  we_un (h.imp fun x ⟨i, e, q⟩ => fun G H v m r1 Qv k => by
    subst e
    exact ⟨i, rp_int r1, k _ _ G H q m.refl (rp_inj _)⟩)
theorem we_notV (h : WE p ρ ta fun x => ∃ b, x = .bl b ∧ Q (.bl (!b))) : WE p ρ (tNotV ta) Q := fun G σ H hh Qv k =>
  h G σ H hh _ fun x v G1 H1 ⟨b, e, q⟩ s1 r1 => by
    subst e
    exact ⟨b, rp_bl r1, k _ _ G1 H1 q s1 (.bl _)⟩
theorem we_andV (h : WE p ρ ta fun x => ∃ b, x = .bl b ∧ (b = true → WE p ρ tb Q) ∧ (b = false → Q (.bl false))) : WE p ρ (tAndV ta tb) Q := fun G σ H hh Qv k =>
  h G σ H hh _ fun x v G1 H1 ⟨b, e, q1, q2⟩ s1 r1 => by
    subst e
    refine ⟨b, rp_bl r1, ?_⟩
    cases b with
    | true => rw [if_pos rfl]; exact q1 rfl G1 σ H1 (hh.step s1) Qv fun d u G2 H2 q s2 r2 => k d u G2 H2 q (s1.trans s2) r2
    | false => rw [if_neg (by decide)]; exact k _ _ G1 H1 (q2 rfl) s1 (.bl _)
theorem we_orV (h : WE p ρ ta fun x => ∃ b, x = .bl b ∧ (b = false → WE p ρ tb Q) ∧ (b = true → Q (.bl true))) : WE p ρ (tOrV ta tb) Q := fun G σ H hh Qv k =>
  h G σ H hh _ fun x v G1 H1 ⟨b, e, q1, q2⟩ s1 r1 => by
    subst e
    refine ⟨b, rp_bl r1, ?_⟩
    cases b with
    | false => rw [if_neg (by decide)]; exact q1 rfl G1 σ H1 (hh.step s1) Qv fun d u G2 H2 q s2 r2 => k d u G2 H2 q (s1.trans s2) r2
    | true => rw [if_pos rfl]; exact k _ _ G1 H1 (q2 rfl) s1 (.bl _)
theorem we_if (h : WT p ρ tt fun b => if b = true then WE p ρ ta Q else WE p ρ tb Q) : WE p ρ (tIf tt ta tb) Q := fun G σ H hh Qv k =>
  h G σ H hh _ fun b G1 H1 q s1 => by
    cases b with
    | true => rw [if_pos rfl] at q ⊢; exact q G1 σ H1 (hh.step s1) Qv fun d u G2 H2 q s2 r2 => k d u G2 H2 q (s1.trans s2) r2
    | false => rw [if_neg (by decide)] at q ⊢; exact q G1 σ H1 (hh.step s1) Qv fun d u G2 H2 q s2 r2 => k d u G2 H2 q (s1.trans s2) r2
/-! ### tests -/
variable {R : Bool → Prop}
theorem wt_B (h : WE p ρ te fun x => ∃ b, x = .bl b ∧ R b) : WT p ρ (tB te) R := fun G σ H hh Qv k =>
  h G σ H hh _ fun x v G1 H1 ⟨b, e, q⟩ s1 r1 => by subst e; exact ⟨b, rp_bl r1, k b G1 H1 q s1⟩
theorem wt_T (h : WE p ρ te fun x => ∃ b, x = .bl b ∧ R b) : WT p ρ (tTest te) R := fun G σ H hh Qv k =>
  h G σ H hh _ fun x v G1 H1 ⟨b, e, q⟩ s1 r1 => by subst e; exact ⟨b, rp_bl r1, k b G1 H1 q s1⟩
theorem wt_not (h : WT p ρ tt fun b => R (!b)) : WT p ρ (tNot tt) R := fun G σ H hh Qv k => h G σ H hh _ fun b G1 H1 q s1 => k (!b) G1 H1 q s1
theorem wt_and (h : WT p ρ tt fun b => (b = true → WT p ρ tu R) ∧ (b = false → R false)) : WT p ρ (tAnd tt tu) R := fun G σ H hh Qv k => h G σ H hh _ fun b G1 H1 ⟨q1, q2⟩ s1 => by
  cases b with
  | true => show tu σ H1 Qv; exact q1 rfl G1 σ H1 (hh.step s1) Qv fun d G2 H2 q s2 => k d G2 H2 q (s1.trans s2)
  | false => show Qv false H1; exact k false G1 H1 (q2 rfl) s1
theorem wt_or (h : WT p ρ tt fun b => (b = false → WT p ρ tu R) ∧ (b = true → R true)) : WT p ρ (tOr tt tu) R := fun G σ H hh Qv k => h G σ H hh _ fun b G1 H1 ⟨q1, q2⟩ s1 => by
  cases b with
  | false => show tu σ H1 Qv; exact q1 rfl G1 σ H1 (hh.step s1) Qv fun d G2 H2 q s2 => k d G2 H2 q (s1.trans s2)
  | true => show Qv true H1; exact k true G1 H1 (q2 rfl) s1
theorem wt_yes (h : R true) : WT p ρ tYes R := fun G σ H hh Qv k => k true G H h hh.mem.refl
end

/-! ### tuples, lists -/
theorem sz {n : Nat} (h : n ≤ 4000000) : n ≤ sizeLine := Nat.le_trans h (by rw [sizeLine_eq]; decide)
section
variable {p : Par} {ρ : Rho} {Q : D → Prop} {ta tb te : TE} {tt tu : TT}
theorem we_tup {ta : TA} (h : WA p ρ ta fun ds => ds.length ≤ 4000000 ∧ Q (.tup ds)) : WE p ρ (tTup ta) Q := fun G σ H hh Qv k =>
  h G σ H hh _ fun ds vs G1 H1 ⟨hl, q⟩ s1 r1 => ⟨sz (by rw [r1.length]; exact hl), fun a ha => k _ _ _ _ q (s1.trans ((hh.step s1).mem.grow ha)) (.tup upd_same (lmono r1 ((hh.step s1).mem.grow (o := .tup vs) ha).ex))⟩
end
theorem Mem.backN {p : Par} {G H G1 H1 : Hp} {a : Addr} (m : Mem p G H) (s : Stp p G H G1 H1) (n : Nil (H1 a)) : Nil (H a) := fun u z => by
  refine Classical.byContradiction fun nt => ?_
  by_cases hb : a = p.h.a
  · obtain ⟨u', hu⟩ := s.hand.some
    obtain ⟨ps, e⟩ := n _ (by rw [hb]; exact hu)
    cases e
  · exact nt (n u (s.base a u hb (fun ps e => nt ⟨ps, e⟩) z))
theorem Mem.back {p : Par} {G H G1 H1 : Hp} {a : Addr} (m : Mem p G H) (s : Stp p G H G1 H1) (n : H1 a = none) : Nil (H a) := m.backN s (Nil.no n)
/-- frozen -/
def Cell.toD : Cell → D
  | .d x => x
  | .ol xs => .lst xs
  | .ok kvs => .dK kvs
  | .ot kvs => .dT kvs
  | .rw a _ => .raw (.ref a)
  | .lk kvs => .dK kvs
  | .lt kvs => .dT kvs
  | .oi _ C kvs => .ins C kvs
theorem Mem.know {p : Par} {G H : Hp} {a : Addr} {o : HO} (m : Mem p G H) (ow : Own p G a) (e : H a = some o) (nt : ∀ ps, o ≠ .tbl ps) : Mem p (upd G a o) H ∧ Ex G (upd G a o) := by
  have ex : Ex G (upd G a o) := fun b u z => by rw [upd_ne (ne_of_none z ow.1)]; exact z
  exact ⟨⟨fun b u z => by
      by_cases hb : b = a
      · subst hb; rw [upd_same] at z; cases z; exact e
      · rw [upd_ne hb] at z; exact m.sub b u z, by rw [upd_ne (Ne.symm ow.2.2)]; exact m.gh, m.base, fun b u z => ex b u (m.g0 b u z), fun b u z => by
      by_cases hb : b = a
      · subst hb; exact .inr (.inl ow.2.1)
      · rw [upd_ne hb] at z; exact m.new b u z, m.hand.mono ex rfl, fun b ps z => by
      by_cases hb : b = a
      · subst hb; rw [upd_same] at z; exact nt ps (Option.some.inj z)
      · rw [upd_ne hb] at z; exact m.gt b ps z, m.tab⟩, ex⟩
theorem Slot.toD {p : Par} {G H : Hp} {a : Addr} {c : Cell} (x : Slot p G H (some (.ref a)) c) (ho : c.isOwn = true) : ∃ o, H a = some o ∧ Own p G a ∧ Rp p.K p.h (upd G a o) (.ref a) c.toD := by
  have ex : ∀ {o : HO}, Own p G a → Ex G (upd G a o) := fun {o} ow b u z => by rw [upd_ne (ne_of_none z ow.1)]; exact z
  cases c with
  | d x => cases ho
  | ol xs => obtain ⟨b, vs, h1, h2, h3, h4⟩ := x; cases h1; exact ⟨_, h3, h2, .lst upd_same (lmono h4 (ex h2))⟩
  | ok xs => obtain ⟨b, vs, h1, h2, h3, h4⟩ := x; cases h1; exact ⟨_, h3, h2, .dK (.inl upd_same) (RpK.mono (ex h2) _ _ h4)⟩
  | ot xs => obtain ⟨b, vs, h1, h2, h3, h4⟩ := x; cases h1; exact ⟨_, h3, h2, .dT (.inl upd_same) (RpT.mono (ex h2) _ _ h4)⟩
  | rw b o => obtain ⟨h1, h2, h3, _⟩ := x; cases h1; exact ⟨_, h3, h2, .raw _⟩
  | lk xs => obtain ⟨b, od, vs, h1, h2, h3, h4⟩ := x; cases h1; exact ⟨_, h3, h2, .dK (.inr ⟨od, upd_same⟩) (RpK.mono (ex h2) _ _ h4)⟩
  | lt xs => obtain ⟨b, od, vs, h1, h2, h3, h4⟩ := x; cases h1; exact ⟨_, h3, h2, .dT (.inr ⟨od, upd_same⟩) (RpT.mono (ex h2) _ _ h4)⟩
  | oi _ C xs => obtain ⟨b, od, vs, h1, h2, h3, h4⟩ := x; cases h1; exact ⟨_, h3, h2, .ins upd_same (RpF.mono (ex h2) _ _ h4.1) h4.2.2⟩
section
variable {p : Par} {ρ : Rho} {Q : D → Prop} {ta tb te : TE} {tt tu : TT}
theorem we_F (h : WF p ρ te fun c => Q c.toD) : WE p ρ te Q := fun G σ H hh Qv k =>
  h G σ H hh _ fun c a G1 H1 q ho s1 n x => by
    have m1 := (hh.step s1).mem
    -- told of the callee's own view: a is new to H
    obtain ⟨o, e, ow, r⟩ := x.toD ho
    have ow2 : Own ⟨p.K, p.h, H, G⟩ G1 a := ⟨ow.1, n, ow.2.2⟩
    exact k _ _ _ _ q (Mem.know s1 ow2 e (x.nt ho e).tbl).1 r
theorem wf_lst {Q : Cell → Prop} {ta : TA} (h : WA p ρ ta fun ds => ds.length ≤ 4000000 ∧ Q (.ol ds)) : WF p ρ (tLst ta) Q := fun G σ H hh Qv k =>
  h G σ H hh _ fun ds vs G1 H1 ⟨hl, q⟩ s1 r1 => ⟨sz (by rw [r1.length]; exact hl), fun a ha => by
    have m1 := (hh.step s1).mem
    exact k _ a _ _ q rfl (s1.trans (m1.growO ha)) (hh.mem.back s1 ha) ⟨a, vs, rfl, m1.fresh ha, upd_same, r1⟩⟩
theorem we_lst {ta : TA} (h : WA p ρ ta fun ds => ds.length ≤ 4000000 ∧ Q (.lst ds)) : WE p ρ (tLst ta) Q := we_F (wf_lst h)
theorem wf_dK {Q : Cell → Prop} (h : Q (.ok [])) : WF p ρ tDNewK Q := fun G σ H hh Qv k a ha => k _ a _ _ h rfl (hh.mem.growO ha) (Nil.no ha) ⟨a, [], rfl, hh.mem.fresh ha, upd_same, .nil⟩
theorem wf_dT {Q : Cell → Prop} (h : Q (.ot [])) : WF p ρ tDNewT Q := fun G σ H hh Qv k a ha => k _ a _ _ h rfl (hh.mem.growO ha) (Nil.no ha) ⟨a, [], rfl, hh.mem.fresh ha, upd_same, .nil⟩

/-! ### subscripts -/
theorem atI_rp {G : Hp} {vs : List V} {ds : List D} {i : Int} {d : D} (r : RpL p.K p.h G vs ds) (e : atI ds i = some d) : ∃ v, atI vs i = some v ∧ Rp p.K p.h G v d := by
  unfold atI at e ⊢
  rw [r.length]
  cases z : ixN ds.length i with
  | none => rw [z] at e; cases e
  | some j =>
    rw [z] at e
    obtain ⟨v, h1, h2⟩ := r.get (i := j) (d := d) e
    exact ⟨v, h1, h2⟩
theorem we_ixT (h : WE p ρ ta fun x => ∃ ds, x = .tup ds ∧ WE p ρ tb fun y => ∃ i d, y = .int i ∧ atI ds i = some d ∧ Q d) : WE p ρ (tOp (rIxT p.K) ta tb) Q :=
  we_op (h.imp fun x ⟨ds, e, h⟩ => h.imp fun y ⟨i, d, e2, c, q⟩ => fun G H v w m r1 r2 Qv k => by
    subst e e2
    obtain ⟨a, vs, ev, hs, hl⟩ := r1.tup_inv
    obtain ⟨u, h1, h2⟩ := atI_rp hl c
    exact ⟨a, vs, i, u, ev, rp_int r2, tq m.sub hs, h1, k _ _ G H q m.refl h2⟩)
theorem we_ixL (h : WE p ρ ta fun x => ∃ ds, x = .lst ds ∧ WE p ρ tb fun y => ∃ i d, y = .int i ∧ atI ds i = some d ∧ Q d) : WE p ρ (tOp (rIxL p.K) ta tb) Q :=
  we_op (h.imp fun x ⟨ds, e, h⟩ => h.imp fun y ⟨i, d, e2, c, q⟩ => fun G H v w m r1 r2 Qv k => by
    subst e e2
    obtain ⟨a, vs, ev, hs, hl⟩ := r1.lst_inv
    obtain ⟨u, h1, h2⟩ := atI_rp hl c
    exact ⟨a, vs, i, u, ev, rp_int r2, lq m.sub hs, h1, k _ _ G H q m.refl h2⟩)
/-- an item of a list that slot i owns -/
theorem we_ixO {i : Nat} {xs : List D} (e : ρ[i]? = some (some (.ol xs))) (h : WE p ρ tb fun y => ∃ i d, y = .int i ∧ atI xs i = some d ∧ Q d) : WE p ρ (tOp (rIxL p.K) (tVar i) tb) Q := fun G σ H hh Qv k => by
  obtain ⟨sv, h1, a, vs, h2, _, _, _⟩ := hh.slot i _ e
  subst h2
  refine ⟨.ref a, h1, h G σ H hh _ fun y w G1 H1 ⟨j, d, e2, c, q⟩ s1 r1 => ?_⟩
  obtain ⟨sv', h1', a', vs', h2', h3, h4, h5⟩ := (hh.step s1).slot i _ e
  subst h2'
  rw [h1] at h1'
  cases h1'
  subst e2
  obtain ⟨u, g1, g2⟩ := atI_rp h5 c
  exact ⟨a, vs', j, u, rfl, rp_int r1, sq_of h4, g1, k _ _ G1 H1 q s1 g2⟩
/-! ### len -/
theorem call_len_rc {xs : List D} (h : ∃ ds, (xs = [.lst ds] ∨ xs = [.tup ds]) ∧ Q (.int ds.length)) : RC p (fun xs H Q => ∃ q ys, xs = [.ref q] ∧ (SqL p.K H q ys ∨ SqT p.K H q ys) ∧ Q (.int ys.length) H) xs Q := fun G H vs m r Qv k => by
  obtain ⟨ds, e | e, q⟩ := h
  · subst e
    cases r with
    | cons r rn =>
      cases rn
      obtain ⟨a, us, ev, hs, hl⟩ := r.lst_inv
      subst ev
      refine ⟨a, us, rfl, .inl (lq m.sub hs), k _ _ G H q m.refl ?_⟩
      rw [hl.length]; exact .int _
  · subst e
    cases r with
    | cons r rn =>
      cases rn
      obtain ⟨a, us, ev, hs, hl⟩ := r.tup_inv
      subst ev
      refine ⟨a, us, rfl, .inr (tq m.sub hs), k _ _ G H q m.refl ?_⟩
      rw [hl.length]; exact .int _
theorem we_len (h : WE p ρ te fun x => ∃ ds, (x = .lst ds ∨ x = .tup ds) ∧ Q (.int ds.length)) : WE p ρ (tCB (fun xs H Q => ∃ q ys, xs = [.ref q] ∧ (SqL p.K H q ys ∨ SqT p.K H q ys) ∧ Q (.int ys.length) H) (tCons te tNil)) Q :=
  we_cb (wa_cons (h.imp fun x ⟨ds, e, q⟩ => wa_nil (call_len_rc ⟨ds, by rcases e with e | e; exact .inl (by rw [e]); exact .inr (by rw [e]), q⟩)))
theorem we_lenO {i : Nat} {xs : List D} (e : ρ[i]? = some (some (.ol xs))) (q : Q (.int xs.length)) : WE p ρ (tCB (fun xs H Q => ∃ q ys, xs = [.ref q] ∧ (SqL p.K H q ys ∨ SqT p.K H q ys) ∧ Q (.int ys.length) H) (tCons (tVar i) tNil)) Q := fun G σ H hh Qv k => by
  obtain ⟨sv, h1, a, vs, h2, _, h4, h5⟩ := hh.slot i _ e
  subst h2
  refine ⟨.ref a, h1, a, vs, rfl, .inl (sq_of h4), ?_⟩
  rw [h5.length]
  exact k _ _ G H q hh.mem.refl (.int _)
/-! ### calls of built-ins of ints -/
theorem we_int1 (h : WE p ρ te fun x => ∃ i, x = .int i ∧ Q (.int i)) : WE p ρ (tCB (fun xs H Q => (∃ i, xs = [V.int i] ∧ Q (.int i) H) ∨ ∃ k, xs = [V.bl k] ∧ Q (.int (if k then 1 else 0)) H) (tCons te tNil)) Q :=
  we_cb (wa_cons (h.imp fun x ⟨i, e, q⟩ => wa_nil fun G H vs m r Qv k => by
    subst e
    cases r with
    | cons r rn => cases rn; cases r; exact .inl ⟨i, rfl, k _ _ G H q m.refl (.int _)⟩))
def absI (i : Int) : Int := if i < 0 then -i else i
def maxI (i j : Int) : Int := if j > i then j else i
def minI (i j : Int) : Int := if j < i then j else i
theorem absI_nn (i : Int) : 0 ≤ absI i := by unfold absI; split <;> omega
theorem absI_eq (i : Int) : absI i = (i.natAbs : Int) := by unfold absI; split <;> omega
theorem we_abs (h : WE p ρ te fun x => ∃ i, x = .int i ∧ Q (.int (absI i))) : WE p ρ (tCB (fun xs H Q => ∃ i, xs = [V.int i] ∧ Q (.int (if i < 0 then -i else i)) H) (tCons te tNil)) Q :=
  we_cb (wa_cons (h.imp fun x ⟨i, e, q⟩ => wa_nil fun G H vs m r Qv k => by
    subst e
    cases r with
    | cons r rn => cases rn; cases r; exact ⟨i, rfl, k _ _ G H q m.refl (.int _)⟩))
theorem we_max2 (h : WE p ρ ta fun x => ∃ i, x = .int i ∧ WE p ρ tb fun y => ∃ j, y = .int j ∧ Q (.int (maxI i j))) : WE p ρ (tCB (fun xs H Q => ∃ i j, xs = [V.int i, V.int j] ∧ Q (.int (if j > i then j else i)) H) (tCons ta (tCons tb tNil))) Q :=
  we_cb (wa_cons (h.imp fun x ⟨i, e, h⟩ => wa_cons (h.imp fun y ⟨j, e2, q⟩ => wa_nil fun G H vs m r Qv k => by
    subst e e2
    cases r with
    | cons r rn => cases rn with | cons r2 rn => cases rn; cases r; cases r2; exact ⟨i, j, rfl, k _ _ G H q m.refl (.int _)⟩)))
theorem we_min2 (h : WE p ρ ta fun x => ∃ i, x = .int i ∧ WE p ρ tb fun y => ∃ j, y = .int j ∧ Q (.int (minI i j))) : WE p ρ (tCB (fun xs H Q => ∃ i j, xs = [V.int i, V.int j] ∧ Q (.int (if j < i then j else i)) H) (tCons ta (tCons tb tNil))) Q :=
  we_cb (wa_cons (h.imp fun x ⟨i, e, h⟩ => wa_cons (h.imp fun y ⟨j, e2, q⟩ => wa_nil fun G H vs m r Qv k => by
    subst e e2
    cases r with
    | cons r rn => cases rn with | cons r2 rn => cases rn; cases r; cases r2; exact ⟨i, j, rfl, k _ _ G H q m.refl (.int _)⟩)))
theorem we_gcd (h : WE p ρ ta fun x => ∃ i, x = .int i ∧ WE p ρ tb fun y => ∃ j, y = .int j ∧ Q (.int ((Nat.gcd i.natAbs j.natAbs : Nat) : Int))) : WE p ρ (tCB rGcd (tCons ta (tCons tb tNil))) Q :=
  we_cb (wa_cons (h.imp fun x ⟨i, e, h⟩ => wa_cons (h.imp fun y ⟨j, e2, q⟩ => wa_nil fun G H vs m r Qv k => by
    subst e e2
    cases r with
    | cons r rn => cases rn with | cons r2 rn => cases rn; cases r; cases r2; exact ⟨i, j, rfl, k _ _ G H q m.refl (.int _)⟩)))
/-- == and != of scalars -/
def D.sc : D → Bool
  | .non => true | .bl _ => true | .int _ => true | .str _ => true | _ => false
theorem we_eqI (h : WE p ρ ta fun x => ∃ i, x = .int i ∧ WE p ρ tb fun y => ∃ j, y = .int j ∧ Q (.bl (decide (i = j)))) : WE p ρ (tOp rEq ta tb) Q :=
  we_op (h.imp fun x ⟨i, e, h⟩ => h.imp fun y ⟨j, e2, q⟩ => fun G H v w m r1 r2 Qv k => by
    subst e e2
    rw [rp_int r1, rp_int r2]
    refine ⟨rfl, ?_⟩
    have z : decide (V.int i = V.int j) = decide (i = j) := by
      by_cases e : i = j
      · subst e; simp
      · rw [decide_eq_false e, decide_eq_false fun q => e (V.int.inj q)]
    rw [z]
    exact k _ _ G H q m.refl (.bl _))
theorem we_neI (h : WE p ρ ta fun x => ∃ i, x = .int i ∧ WE p ρ tb fun y => ∃ j, y = .int j ∧ Q (.bl (!decide (i = j)))) : WE p ρ (tOp rNe ta tb) Q :=
  we_op (h.imp fun x ⟨i, e, h⟩ => h.imp fun y ⟨j, e2, q⟩ => fun G H v w m r1 r2 Qv k => by
    subst e e2
    rw [rp_int r1, rp_int r2]
    refine ⟨rfl, ?_⟩
    have z : decide (V.int i = V.int j) = decide (i = j) := by
      by_cases e : i = j
      · subst e; simp
      · rw [decide_eq_false e, decide_eq_false fun q => e (V.int.inj q)]
    rw [z]
    exact k _ _ G H q m.refl (.bl _))
end

theorem Ex.rfl' {G : Hp} : Ex G G := fun _ _ e => e
theorem ex_tr {A B C : Hp} (a : Ex A B) (b : Ex B C) : Ex A C := fun x o e => b x o (a x o e)

/-! ### statements -/
section
variable {p : Par} {ρ : Rho} {Q : D → Prop} {ta tb te td ty : TE} {tt tu : TT} {P : Post} {ts tv : TS}
theorem ws_next (h : P.n ρ) : WS p ρ tNext P := fun G σ H hh E kn kr kb kc => kn ρ G σ H h Ex.rfl' hh
theorem ws_break (h : P.b ρ) : WS p ρ tBreak P := fun G σ H hh E kn kr kb kc => kb ρ G σ H h Ex.rfl' hh
theorem ws_cont (h : P.c ρ) : WS p ρ tCont P := fun G σ H hh E kn kr kb kc => kc ρ G σ H h Ex.rfl' hh
theorem ws_never (h : False) : WS p ρ ts P := h.elim
theorem ws_seq (h : WS p ρ ts { P with n := fun ρ' => WS p ρ' tv P }) : WS p ρ (tSeq ts tv) P := fun G σ H hh E kn kr kb kc =>
  h G σ H hh { E with nx := tv E } (fun ρ' G' σ' H' z e hh' => z G' σ' H' hh' E (fun ρ2 G2 σ2 H2 z2 e2 => kn ρ2 G2 σ2 H2 z2 (ex_tr e e2)) kr (fun ρ2 G2 σ2 H2 z2 e2 => kb ρ2 G2 σ2 H2 z2 (ex_tr e e2)) (fun ρ2 G2 σ2 H2 z2 e2 => kc ρ2 G2 σ2 H2 z2 (ex_tr e e2))) kr kb kc
theorem ws_drop (h : WE p ρ te fun _ => P.n ρ) : WS p ρ (tDrop te) P := fun G σ H hh E kn kr kb kc => h G σ H hh _ fun d v G' H' z s r => kn ρ G' σ H' z s.ex (hh.step s)
theorem ws_ret (h : WE p ρ te P.r) : WS p ρ (tRet te) P := fun G σ H hh E kn kr kb kc => h G σ H hh _ fun d v G' H' z s r => kr d v G' H' z (hh.step s).mem r
theorem ws_retN (h : P.r .non) : WS p ρ tRetN P := fun G σ H hh E kn kr kb kc => kr .non .non G H h hh.mem .non
theorem ws_if (h : WT p ρ tt fun b => if b = true then WS p ρ ts P else WS p ρ tv P) : WS p ρ (tIfS tt ts tv) P := fun G σ H hh E kn kr kb kc =>
  h G σ H hh _ fun b G1 H1 q s1 => by
    cases b with
    | true =>
      rw [if_pos rfl] at q ⊢
      exact q G1 σ H1 (hh.step s1) E (fun ρ2 G2 σ2 H2 z2 e2 => kn ρ2 G2 σ2 H2 z2 (ex_tr s1.ex e2)) kr (fun ρ2 G2 σ2 H2 z2 e2 => kb ρ2 G2 σ2 H2 z2 (ex_tr s1.ex e2)) (fun ρ2 G2 σ2 H2 z2 e2 => kc ρ2 G2 σ2 H2 z2 (ex_tr s1.ex e2))
    | false =>
      rw [if_neg (by decide)] at q ⊢
      exact q G1 σ H1 (hh.step s1) E (fun ρ2 G2 σ2 H2 z2 e2 => kn ρ2 G2 σ2 H2 z2 (ex_tr s1.ex e2)) kr (fun ρ2 G2 σ2 H2 z2 e2 => kb ρ2 G2 σ2 H2 z2 (ex_tr s1.ex e2)) (fun ρ2 G2 σ2 H2 z2 e2 => kc ρ2 G2 σ2 H2 z2 (ex_tr s1.ex e2))
/-! ### targets -/
theorem wg_name {i : Nat} {x : D} {N : Rho → Prop} (h : N (ρ.set i (some (.d x)))) : WG p ρ (gName i) x N := fun G σ H v hh r Qs k => k _ G _ H h Ex.rfl' (hh.setD r)
theorem wgs_nil {xs : List D} {N : Rho → Prop} (h : xs = [] ∧ N ρ) : WGs p ρ gNil xs N := fun G σ H vs hh r Qs k => by
  obtain ⟨e, h⟩ := h
  subst e
  cases r
  exact ⟨rfl, k _ G σ H h Ex.rfl' hh⟩
theorem wgs_cons {g : TG} {gs : TGs} {xs : List D} {N : Rho → Prop} (h : ∃ x r, xs = x :: r ∧ WG p ρ g x fun ρ' => WGs p ρ' gs r N) : WGs p ρ (gCons g gs) xs N := fun G σ H vs hh r Qs k => by
  obtain ⟨x, xr, e, h⟩ := h
  subst e
  cases r with
  | @cons v vs _ _ a b =>
    exact ⟨v, vs, rfl, h G σ H v hh a _ fun ρ1 G1 σ1 H1 z e1 hh1 => z G1 σ1 H1 vs hh1 (lmono b e1) Qs fun ρ2 G2 σ2 H2 z2 e2 => k ρ2 G2 σ2 H2 z2 (ex_tr e1 e2)⟩
theorem wg_tup {n : Nat} {gs : TGs} {x : D} {N : Rho → Prop} (h : ∃ xs, x = .tup xs ∧ xs.length = n ∧ WGs p ρ gs xs N) : WG p ρ (gTup p.K n gs) x N := fun G σ H v hh r Qs k => by
  obtain ⟨xs, e, hl, h⟩ := h
  subst e
  obtain ⟨a, vs, ev, hs, hr⟩ := r.tup_inv
  exact ⟨a, vs, ev, tq hh.mem.sub hs, by rw [hr.length]; exact hl, h G σ H vs hh hr Qs k⟩
theorem ws_asgG {g : TG} (h : WE p ρ te fun x => WG p ρ g x P.n) : WS p ρ (tAsg te g) P := fun G σ H hh E kn kr kb kc =>
  h G σ H hh _ fun d v G' H' z s r => z G' σ H' v (hh.step s) r E.nx fun ρ2 G2 σ2 H2 z2 e2 => kn ρ2 G2 σ2 H2 z2 (ex_tr s.ex e2)
theorem ws_asg {i : Nat} (h : WE p ρ te fun x => P.n (ρ.set i (some (.d x)))) : WS p ρ (tAsg te (gName i)) P := ws_asgG (h.imp fun _ z => wg_name z)
/-- a new list, a new dict, from now on the slot's own -/
theorem ws_asgF {i : Nat} (h : WF p ρ te fun c => P.n (ρ.set i (some c))) : WS p ρ (tAsg te (gName i)) P := fun G σ H hh E kn kr kb kc =>
  h G σ H hh _ fun c a G' H' z ho s n x => kn _ G' _ H' z s.ex (hh.setNew s n x)
/-- x = y, both names of one object that y owned: x owns it from now on, y is forgotten -/
theorem ws_move {i j : Nat} {c : Cell} (e : ρ[j]? = some (some c)) (ho : c.isOwn = true) (h : P.n ((ρ.set j none).set i (some c))) : WS p ρ (tAsg (tVar j) (gName i)) P := fun G σ H hh E kn kr kb kc => by
  obtain ⟨sv, h1, h2⟩ := hh.slot j _ e
  obtain ⟨a, u, h3, h4, h5⟩ := Cell.own_ref h2 ho
  subst h3
  refine ⟨.ref a, h1, kn _ G _ H h Ex.rfl' ((hh.drop j).setO h2 fun m c' em o q => ?_)⟩
  by_cases hm : j = m
  · subst hm
    rw [List.getElem?_set_self (List.getElem?_eq_some_iff.mp e).1] at em
    cases em
  · rw [List.getElem?_set_ne hm] at em
    exact absurd (hh.sep j m c c' a e ho em o h1 q) hm
/-- what slot i owns is from now on plain data -/
theorem ws_freeze (i : Nat) {c : Cell} (e : ρ[i]? = some (some c)) (ho : c.isOwn = true) (h : WS p (ρ.set i (some (.d c.toD))) ts P) : WS p ρ ts P := fun G σ H hh E kn kr kb kc => by
  obtain ⟨sv, h1, h2⟩ := hh.slot i _ e
  obtain ⟨a, u, h3, _, _⟩ := Cell.own_ref h2 ho
  subst h3
  obtain ⟨o, ha, ow, r⟩ := h2.toD ho
  obtain ⟨hh2, ex⟩ := hh.freeze e ho h1 ow ha r
  exact h _ σ H hh2 E (fun ρ2 G2 σ2 H2 z2 e2 => kn ρ2 G2 σ2 H2 z2 (ex_tr ex e2)) kr (fun ρ2 G2 σ2 H2 z2 e2 => kb ρ2 G2 σ2 H2 z2 (ex_tr ex e2)) (fun ρ2 G2 σ2 H2 z2 e2 => kc ρ2 G2 σ2 H2 z2 (ex_tr ex e2))
theorem we_freeze (i : Nat) {c : Cell} (e : ρ[i]? = some (some c)) (ho : c.isOwn = true) (h : WS p (ρ.set i (some (.d c.toD))) (tRet te) P) : WS p ρ (tRet te) P := ws_freeze i e ho h
theorem ws_drop1 (i : Nat) (h : WS p (ρ.set i none) ts P) : WS p ρ ts P := fun G σ H hh => h G σ H (hh.drop i)
theorem ws_par {i j : Nat} {ta : TA} (h : WA p ρ ta fun ds => ∃ x y, ds = [x, y] ∧ P.n ((ρ.set i (some (.d x))).set j (some (.d y)))) : WS p ρ (tPar i j ta) P := fun G σ H hh E kn kr kb kc =>
  h G σ H hh _ fun ds vs G' H' ⟨x, y, e, z⟩ s r => by
    subst e
    cases r with
    | @cons v _ _ _ r1 rn => cases rn with | @cons w _ _ _ r2 rn => cases rn; exact ⟨v, w, rfl, kn _ G' _ H' z s.ex (((hh.step s).setD r1).setD r2)⟩
theorem ws_aug {i : Nat} {f : Int → Int → Int} {a : Int} (e : ρ[i]? = some (some (.d (.int a)))) (h : WE p ρ te fun y => ∃ b, y = .int b ∧ P.n (ρ.set i (some (.d (.int (f a b)))))) : WS p ρ (tAug i te (ipI f)) P := fun G σ H hh E kn kr kb kc => by
  obtain ⟨sv, h1, v, h2, r⟩ := hh.slot i _ e
  subst h2
  cases r
  exact ⟨_, h1, h G σ H hh _ fun d w G' H' ⟨b, eb, z⟩ s r => by
    subst eb
    exact ⟨a, b, rfl, rp_int r, kn _ G' _ H' z s.ex ((hh.step s).setD (.int _))⟩⟩
/-- xs.append(e), xs slot i's own -/
theorem ws_append {i : Nat} {xs : List D} (e : ρ[i]? = some (some (.ol xs))) (hl : xs.length < 4000000) (h : WE p ρ te fun x => P.n (ρ.set i (some (.ol (xs ++ [x]))))) : WS p ρ (tDrop (tBM p.K "list" rAppend (tVar i) (tCons te tNil))) P := fun G σ H hh E kn kr kb kc => by
  obtain ⟨sv, h1, a, vs, h2, ow, h4, h5⟩ := hh.slot i _ e
  subst h2
  refine ⟨.ref a, h1, Or.inl ⟨rfl, vs, sq_of h4⟩, h G σ H hh _ fun d w G' H' z s r => ?_⟩
  obtain ⟨sv', h1', a', vs', h2', ow', h4', h5'⟩ := (hh.step s).slot i _ e
  subst h2'
  rw [h1] at h1'
  cases h1'
  have hz := h5'.length
  exact ⟨a, vs', w, rfl, rfl, h4', by rw [sizeLine_eq]; omega, kn _ G' σ _ z s.ex ((hh.step s).write e rfl h1 ow' ⟨a, _, rfl, ow', upd_same, h5'.append (.cons r .nil)⟩)⟩

/-! ### dicts that a slot owns -/
/-- a key as data -/
def kD : Key → D
  | .inl i => .int i
  | .inr x => .str x
theorem kD_rp {G : Hp} {v : V} : ∀ {k : Key}, Rp p.K p.h G v (kD k) → v = kV k
  | .inl i, r => by cases r; rfl
  | .inr x, r => by cases r; rfl
theorem rp_kD {G : Hp} : ∀ {k : Key}, Rp p.K p.h G (kV k) (kD k)
  | .inl i => .int i
  | .inr x => .str x
/-- d[k] = e -/
theorem ws_dput {i : Nat} {kvs : List (Key × D)} (e : ρ[i]? = some (some (.ok kvs))) (hl : kvs.length < 4000000) (h : WE p ρ te fun x => WE p ρ ty fun y => ∃ k, y = kD k ∧ P.n (ρ.set i (some (.ok (dPut kvs k x))))) : WS p ρ (sDPut (tVar i) ty te) P := fun G σ H hh E kn kr kb kc =>
  h G σ H hh _ fun x v G1 H1 q1 s1 r1 => by
    obtain ⟨sv, h1, a, vs, h2, ow, h4, h5⟩ := (hh.step s1).slot i _ e
    subst h2
    refine ⟨.ref a, h1, q1 G1 σ H1 (hh.step s1) _ fun y w G2 H2 ⟨k, ek, z⟩ s2 r2 => ?_⟩
    subst ek
    have hh2 := (hh.step s1).step s2
    obtain ⟨sv', h1', a', vs', h2', ow', h4', h5'⟩ := hh2.slot i _ e
    subst h2'
    rw [h1] at h1'
    cases h1'
    have hz := h5'.length
    refine ⟨a, _, rfl, .inl ⟨vs', k, h4', kD_rp r2, by rw [sizeLine_eq]; omega, rfl⟩, kn _ G2 σ _ z (ex_tr s1.ex s2.ex) (hh2.write e rfl h1 ow' ⟨a, _, rfl, ow', upd_same, h5'.put k (rmono r1 s2.ex)⟩)⟩
theorem dget_own {i : Nat} {kvs : List (Key × D)} {G : Hp} {σ : L2.St} {H : Hp} (hh : Hold p ρ G σ H) (e : ρ[i]? = some (some (.ok kvs))) : ∃ a vs, σ[i]? = some (some (.ref a)) ∧ H a = some (.dK vs) ∧ RpK p.K p.h G vs kvs := by
  obtain ⟨sv, h1, a, vs, h2, ow, h4, h5⟩ := hh.slot i _ e
  subst h2
  exact ⟨a, vs, h1, h4, h5⟩
/-- d[k], there -/
theorem we_dget {i : Nat} {kvs : List (Key × D)} (e : ρ[i]? = some (some (.ok kvs))) (h : WE p ρ ty fun y => ∃ k x, y = kD k ∧ dGet kvs k = some x ∧ Q x) : WE p ρ (tDGet (tVar i) ty) Q := fun G σ H hh Qv kk => by
  obtain ⟨a, vs, h1, _, _⟩ := dget_own hh e
  refine ⟨.ref a, h1, h G σ H hh _ fun y w G1 H1 ⟨k, x, ey, ex, q⟩ s1 r1 => ?_⟩
  subst ey
  obtain ⟨a', vs', h1', h2', h3'⟩ := dget_own (hh.step s1) e
  rw [h1] at h1'
  cases h1'
  rcases h3'.find k with ⟨_, z⟩ | ⟨v, d, z1, z2, z3⟩
  · rw [ex] at z; cases z
  · rw [ex] at z2; cases z2
    exact ⟨a, v, rfl, .inl ⟨vs', k, .inl h2', kD_rp r1, z1.symm⟩, kk _ _ G1 H1 q s1 z3⟩
/-- k in d, k not in d -/
theorem we_din {i : Nat} {kvs : List (Key × D)} (e : ρ[i]? = some (some (.ok kvs))) (h : WE p ρ ty fun y => ∃ k, y = kD k ∧ Q (.bl (dGet kvs k).isSome)) : WE p ρ (tDIn ty (tVar i)) Q := fun G σ H hh Qv kk =>
  h G σ H hh _ fun y w G1 H1 ⟨k, ey, q⟩ s1 r1 => by
    subst ey
    obtain ⟨a, vs, h1, h2, h3⟩ := dget_own (hh.step s1) e
    refine ⟨.ref a, h1, a, valV vs k, rfl, .inl ⟨vs, k, .inl h2, kD_rp r1, rfl⟩, ?_⟩
    have z : (valV vs k).isSome = (dGet kvs k).isSome := by
      rcases h3.find k with ⟨z1, z2⟩ | ⟨v, d, z1, z2, _⟩ <;> rw [z1, z2] <;> rfl
    rw [z]
    exact kk _ _ G1 H1 q s1 (.bl _)
theorem we_dnotin {i : Nat} {kvs : List (Key × D)} (e : ρ[i]? = some (some (.ok kvs))) (h : WE p ρ ty fun y => ∃ k, y = kD k ∧ Q (.bl (!(dGet kvs k).isSome))) : WE p ρ (tDNotIn ty (tVar i)) Q := fun G σ H hh Qv kk =>
  h G σ H hh _ fun y w G1 H1 ⟨k, ey, q⟩ s1 r1 => by
    subst ey
    obtain ⟨a, vs, h1, h2, h3⟩ := dget_own (hh.step s1) e
    refine ⟨.ref a, h1, a, valV vs k, rfl, .inl ⟨vs, k, .inl h2, kD_rp r1, rfl⟩, ?_⟩
    have z : (valV vs k).isSome = (dGet kvs k).isSome := by
      rcases h3.find k with ⟨z1, z2⟩ | ⟨v, d, z1, z2, _⟩ <;> rw [z1, z2] <;> rfl
    rw [z]
    exact kk _ _ G1 H1 q s1 (.bl _)
/-- d.get(k, x) -/
theorem we_dget2 {i : Nat} {kvs : List (Key × D)} {tx : TE} (e : ρ[i]? = some (some (.ok kvs))) (h : WE p ρ ty fun y => ∃ k, y = kD k ∧ WE p ρ tx fun x => Q ((dGet kvs k).getD x)) : WE p ρ (tDGet2 (tVar i) ty tx) Q := fun G σ H hh Qv kk => by
  obtain ⟨a, vs, h1, h2, h3⟩ := dget_own hh e
  refine ⟨.ref a, h1, a, rfl, .inl ⟨vs, .inl h2⟩, h G σ H hh _ fun y w G1 H1 ⟨k, ey, q⟩ s1 r1 => q G1 σ H1 (hh.step s1) _ fun x u G2 H2 q2 s2 r2 => ?_⟩
  subst ey
  obtain ⟨a', vs', h1', h2', h3'⟩ := dget_own ((hh.step s1).step s2) e
  rw [h1] at h1'
  cases h1'
  refine ⟨valV vs' k, .inl ⟨vs', k, .inl h2', kD_rp r1, rfl⟩, ?_⟩
  rcases h3'.find k with ⟨z1, z2⟩ | ⟨v, d, z1, z2, z3⟩
  · rw [z1]; rw [z2] at q2; exact kk _ _ G2 H2 q2 (s1.trans s2) r2
  · rw [z1]; rw [z2] at q2; exact kk _ _ G2 H2 q2 (s1.trans s2) z3

/-! ### loops -/
theorem ws_while (I : Nat → Rho → Prop) (m0 : Nat) (h0 : I m0 ρ)
    (hs : ∀ m ρ', I m ρ' → WT p ρ' tt fun b => if b = true then WS p ρ' ts ⟨fun ρ2 => ∃ m', m' < m ∧ I m' ρ2, P.r, P.n, fun ρ2 => ∃ m', m' < m ∧ I m' ρ2⟩ else P.n ρ') : WS p ρ (tWhile tt ts) P := fun G σ H hh E kn kr kb kc => by
  refine ⟨fun m σ' H' => ∃ ρ' G', I m ρ' ∧ Ex G G' ∧ Hold p ρ' G' σ' H', ⟨m0, ρ, G, h0, Ex.rfl', hh⟩, ?_⟩
  rintro m σ' H' ⟨ρ', G', hi, e, hh'⟩
  refine hs m ρ' hi G' σ' H' hh' _ fun b G1 H1 q s1 => ?_
  cases b with
  | false =>
    rw [if_neg (by decide)] at q ⊢
    exact kn ρ' G1 σ' H1 q (ex_tr e s1.ex) (hh'.step s1)
  | true =>
    rw [if_pos rfl] at q ⊢
    refine ⟨fun σ2 H2 => ∃ m', m' < m ∧ ∃ ρ2 G2, I m' ρ2 ∧ Ex G G2 ∧ Hold p ρ2 G2 σ2 H2, fun σ2 H2 ⟨m', l, z⟩ => ⟨m', l, z⟩, ?_⟩
    exact q G1 σ' H1 (hh'.step s1) _ (fun ρ2 G2 σ2 H2 ⟨m', l, z⟩ e2 hh2 => ⟨m', l, ρ2, G2, z, ex_tr (ex_tr e s1.ex) e2, hh2⟩) kr (fun ρ2 G2 σ2 H2 z e2 hh2 => kn ρ2 G2 σ2 H2 z (ex_tr (ex_tr e s1.ex) e2) hh2)
      (fun ρ2 G2 σ2 H2 ⟨m', l, z⟩ e2 hh2 => ⟨m', l, ρ2, G2, z, ex_tr (ex_tr e s1.ex) e2, hh2⟩)
/-- for over a range: the item is lo + k -/
theorem for_rng {g : TG} {lo : Int} {n : Nat} {G : Hp} {σ : L2.St} {H : Hp} {E : Ends} (I : Nat → Rho → Prop) (h0 : I 0 ρ) (hh : Hold p ρ G σ H)
    (hs : ∀ k ρ', k < n → I k ρ' → WG p ρ' g (.int (lo + (k : Int))) fun ρ2 => WS p ρ2 ts ⟨I (k + 1), P.r, P.n, I (k + 1)⟩) (hd : ∀ ρ', I n ρ' → P.n ρ')
    (kn : ∀ ρ' G' σ' H', P.n ρ' → Ex G G' → Hold p ρ' G' σ' H' → E.nx σ' H') (kr : ∀ d v G' H', P.r d → Mem p G' H' → Rp p.K p.h G' v d → E.rt v H') :
    ∃ W : Nat → Nat → L2.St → Hp → Prop, (∃ m, W 0 m σ H) ∧ ∀ i m σ H, W i m σ H →
      ((Itr lo n).stop i H ∧ E.nx σ H) ∨ ((Itr lo n).go i H ∧ ∃ N : L2.St → Hp → Prop, (∀ σ' H', N σ' H' → ∃ m', m' < m ∧ W (i + 1) m' σ' H') ∧ ∀ x H', (Itr lo n).yld i H x H' → g x σ H' fun σ2 H2 => ts { E with nx := N, ct := N, bk := E.nx } σ2 H2) :=
  for_range (lo := lo) (n := n) (fun k σ' H' => ∃ ρ' G', I k ρ' ∧ Ex G G' ∧ Hold p ρ' G' σ' H') ⟨ρ, G, h0, Ex.rfl', hh⟩ (fun k σ' H' hk ⟨ρ', G', hi, e, hh'⟩ =>
    hs k ρ' hk hi G' σ' H' _ hh' (.int _) _ fun ρ2 G2 σ2 H2 z e2 hh2 => z G2 σ2 H2 hh2 _ (fun ρ3 G3 σ3 H3 z3 e3 hh3 => ⟨ρ3, G3, z3, ex_tr (ex_tr e e2) e3, hh3⟩) kr (fun ρ3 G3 σ3 H3 z3 e3 hh3 => kn ρ3 G3 σ3 H3 z3 (ex_tr (ex_tr e e2) e3) hh3)
      (fun ρ3 G3 σ3 H3 z3 e3 hh3 => ⟨ρ3, G3, z3, ex_tr (ex_tr e e2) e3, hh3⟩)) fun σ' H' ⟨ρ', G', hi, e, hh'⟩ => kn ρ' G' σ' H' (hd ρ' hi) e hh'
theorem ws_for1 {g : TG} {ta : TA} (h : WA p ρ ta fun ds => ∃ n : Int, ds = [.int n] ∧ n < 2 ^ 62 ∧ -(2 ^ 62) ≤ n ∧ ∃ I : Nat → Rho → Prop, I 0 ρ ∧
    (∀ k ρ', k < n.toNat → I k ρ' → WG p ρ' g (.int (k : Int)) fun ρ2 => WS p ρ2 ts ⟨I (k + 1), P.r, P.n, I (k + 1)⟩) ∧ ∀ ρ', I n.toNat ρ' → P.n ρ') : WS p ρ (tFor (iRng1 ta) g ts) P := fun G σ H hh E kn kr kb kc =>
  h G σ H hh _ fun ds vs G' H' ⟨n, e, l1, l2, I, h0, hs, hd⟩ s r => by
    subst e
    cases r with
    | cons r rn =>
      cases rn; cases r
      refine ⟨n, rfl, l2, l1, for_rng (P := P) I h0 (hh.step s) (fun k ρ' hk hi => ?_) hd (fun ρ2 G2 σ2 H2 z2 e2 => kn ρ2 G2 σ2 H2 z2 (ex_tr s.ex e2)) kr⟩
      rw [Int.zero_add]
      exact hs k ρ' hk hi
theorem ws_for2 {g : TG} {ta : TA} (h : WA p ρ ta fun ds => ∃ lo n : Int, ds = [.int lo, .int n] ∧ (-(2 ^ 62) ≤ lo ∧ lo < 2 ^ 62 ∧ -(2 ^ 62) ≤ n ∧ n < 2 ^ 62) ∧ ∃ I : Nat → Rho → Prop, I 0 ρ ∧
    (∀ k ρ', k < (n - lo).toNat → I k ρ' → WG p ρ' g (.int (lo + (k : Int))) fun ρ2 => WS p ρ2 ts ⟨I (k + 1), P.r, P.n, I (k + 1)⟩) ∧ ∀ ρ', I (n - lo).toNat ρ' → P.n ρ') : WS p ρ (tFor (iRng2 ta) g ts) P := fun G σ H hh E kn kr kb kc =>
  h G σ H hh _ fun ds vs G' H' ⟨lo, n, e, l, I, h0, hs, hd⟩ s r => by
    subst e
    cases r with
    | cons r rn =>
      cases rn with
      | cons r2 rn =>
        cases rn; cases r; cases r2
        exact ⟨lo, n, rfl, l, for_rng (P := P) I h0 (hh.step s) hs hd (fun ρ2 G2 σ2 H2 z2 e2 => kn ρ2 G2 σ2 H2 z2 (ex_tr s.ex e2)) kr⟩
theorem ws_forL {g : TG} (h : WE p ρ te fun x => ∃ xs, x = .lst xs ∧ ∃ I : Nat → Rho → Prop, I 0 ρ ∧
    (∀ k x ρ', xs[k]? = some x → I k ρ' → WG p ρ' g x fun ρ2 => WS p ρ2 ts ⟨I (k + 1), P.r, P.n, I (k + 1)⟩) ∧ ∀ ρ', I xs.length ρ' → P.n ρ') : WS p ρ (tFor (iList p.K te) g ts) P := fun G σ H hh E kn kr kb kc =>
  h G σ H hh _ fun x v G0 H0 ⟨xs, e, I, h0, hs, hd⟩ s r => by
    subst e
    obtain ⟨a, vs, ev, hq, hl⟩ := r.lst_inv
    have hh0 := hh.step s
    refine ⟨a, ev, ⟨vs, lq hh0.mem.sub hq⟩, for_list (xs := vs) (fun k σ' H' => ∃ ρ' G', I k ρ' ∧ Ex G0 G' ∧ Hold p ρ' G' σ' H') ⟨ρ, G0, h0, Ex.rfl', hh0⟩ (fun k σ' H' _ ⟨ρ', G', hi, e, hh'⟩ => lq hh'.mem.sub (e _ _ hq)) (fun k x σ' H' hk ⟨ρ', G', hi, e, hh'⟩ => ?_)
      fun σ' H' ⟨ρ', G', hi, e, hh'⟩ => kn ρ' G' σ' H' (hd ρ' (by rw [← hl.length]; exact hi)) (ex_tr s.ex e) hh'⟩
    obtain ⟨d, hd1, hd2⟩ := hl.get' hk
    exact hs k d ρ' hd1 hi G' σ' H' _ hh' (rmono hd2 e) _ fun ρ2 G2 σ2 H2 z e2 hh2 => z G2 σ2 H2 hh2 _ (fun ρ3 G3 σ3 H3 z3 e3 hh3 => ⟨ρ3, G3, z3, ex_tr (ex_tr e e2) e3, hh3⟩) kr (fun ρ3 G3 σ3 H3 z3 e3 hh3 => kn ρ3 G3 σ3 H3 z3 (ex_tr s.ex (ex_tr (ex_tr e e2) e3)) hh3)
      (fun ρ3 G3 σ3 H3 z3 e3 hh3 => ⟨ρ3, G3, z3, ex_tr (ex_tr e e2) e3, hh3⟩)
theorem ws_forT {g : TG} (h : WE p ρ te fun x => ∃ xs, x = .tup xs ∧ ∃ I : Nat → Rho → Prop, I 0 ρ ∧
    (∀ k x ρ', xs[k]? = some x → I k ρ' → WG p ρ' g x fun ρ2 => WS p ρ2 ts ⟨I (k + 1), P.r, P.n, I (k + 1)⟩) ∧ ∀ ρ', I xs.length ρ' → P.n ρ') : WS p ρ (tFor (iTup p.K te) g ts) P := fun G σ H hh E kn kr kb kc =>
  h G σ H hh _ fun x v G0 H0 ⟨xs, e, I, h0, hs, hd⟩ s r => by
    subst e
    obtain ⟨a, vs, ev, hq, hl⟩ := r.tup_inv
    have hh0 := hh.step s
    refine ⟨a, ev, ⟨vs, tq hh0.mem.sub hq⟩, for_tup (xs := vs) (fun k σ' H' => ∃ ρ' G', I k ρ' ∧ Ex G0 G' ∧ Hold p ρ' G' σ' H') ⟨ρ, G0, h0, Ex.rfl', hh0⟩ (fun k σ' H' _ ⟨ρ', G', hi, e, hh'⟩ => tq hh'.mem.sub (e _ _ hq)) (fun k x σ' H' hk ⟨ρ', G', hi, e, hh'⟩ => ?_)
      fun σ' H' ⟨ρ', G', hi, e, hh'⟩ => kn ρ' G' σ' H' (hd ρ' (by rw [← hl.length]; exact hi)) (ex_tr s.ex e) hh'⟩
    obtain ⟨d, hd1, hd2⟩ := hl.get' hk
    exact hs k d ρ' hd1 hi G' σ' H' _ hh' (rmono hd2 e) _ fun ρ2 G2 σ2 H2 z e2 hh2 => z G2 σ2 H2 hh2 _ (fun ρ3 G3 σ3 H3 z3 e3 hh3 => ⟨ρ3, G3, z3, ex_tr (ex_tr e e2) e3, hh3⟩) kr (fun ρ3 G3 σ3 H3 z3 e3 hh3 => kn ρ3 G3 σ3 H3 z3 (ex_tr s.ex (ex_tr (ex_tr e e2) e3)) hh3)
      (fun ρ3 G3 σ3 H3 z3 e3 hh3 => ⟨ρ3, G3, z3, ex_tr (ex_tr e e2) e3, hh3⟩)
end


/-! ### defs -/
/-- a def's promise by data: from S ds R it hands back some d with R d -/
def spD (K : PySem.W.Frag) (S : List D → (D → Prop) → Prop) : Sp := fun vs H Q _ => ∃ h G ds R, RpL K h G vs ds ∧ Mem ⟨K, h, H, G⟩ G H ∧ S ds R ∧ ∀ d v G' H', R d → Mem ⟨K, h, H, G⟩ G' H' → Rp K h G' v d → Q v H'
def rho0 (N : List Str) (ds : List D) : Rho := ds.map (fun d => some (.d d)) ++ List.replicate (N.length - ds.length) none
theorem hold0 {p : Par} {N : List Str} {G H : Hp} {vs : List V} {ds : List D} (m : Mem p G H) (r : RpL p.K p.h G vs ds) : Hold p (rho0 N ds) G (L2.start N vs) H := by
  have hl := r.length
  refine ⟨m, by simp [rho0, L2.start, hl], fun i c e => ?_, fun i j c c' a e1 o1 e2 o2 e3 e4 => ?_⟩
  · unfold rho0 at e
    unfold L2.start
    by_cases hi : i < ds.length
    · rw [List.getElem?_append_left (by rw [List.length_map]; exact hi), List.getElem?_map, List.getElem?_eq_getElem hi] at e
      cases e
      obtain ⟨v, h1, h2⟩ := r.get (List.getElem?_eq_getElem hi)
      refine ⟨some v, ?_, v, rfl, h2⟩
      rw [List.getElem?_append_left (by rw [List.length_map, hl]; exact hi), List.getElem?_map, h1] <;> rfl
    · rw [List.getElem?_append_right (by rw [List.length_map]; omega)] at e
      rw [List.getElem?_replicate] at e
      split at e <;> cases e
  · exfalso
    have dd : ∀ {i : Nat} {c : Cell}, (rho0 N ds)[i]? = some (some c) → c.isOwn = true → False := fun {i c} e o => by
      unfold rho0 at e
      by_cases hi : i < ds.length
      · rw [List.getElem?_append_left (by rw [List.length_map]; exact hi), List.getElem?_map, List.getElem?_eq_getElem hi] at e
        cases e
        cases o
      · rw [List.getElem?_append_right (by rw [List.length_map]; omega)] at e
        rw [List.getElem?_replicate] at e
        split at e <;> cases e
    exact dd e1 o1
/-- where a def of the text stands -/
structure Src (K : PySem.W.Frag) (mg : Str → Option Value) (x : Str) (st : Stmt) : Prop where
  ex : ∃ f fd, mg x = some (.ref f) ∧ Fun K x x st f fd
/-- a def that keeps the promise S, by at most level k -/
structure Dfn (P : Program) (w : World) (K : PySem.W.Frag) (mg : Str → Option Value) (base : Heap) (k : Nat) (x : Str) (ps : List Str) (S : List D → (D → Prop) → Prop) : Prop where
  ex : ∃ f fd, mg x = some (.ref f) ∧ PySem.W.keepIn K (.ref f) = true ∧ FnOk P w K mg base CX0 k f fd ps (spD K S) ∧ Binds K fd ps []
theorem Dfn.mono {P : Program} {w : World} {K : PySem.W.Frag} {mg : Str → Option Value} {base : Heap} {j k : Nat} {x : Str} {ps : List Str} {S : List D → (D → Prop) → Prop} (F : Dfn P w K mg base j x ps S) (h : j ≤ k) : Dfn P w K mg base k x ps S := by
  obtain ⟨f, fd, h1, h2, h3, h4⟩ := F.ex
  exact ⟨f, fd, h1, h2, h3.mono h, h4⟩
theorem Dfn.imp {P : Program} {w : World} {K : PySem.W.Frag} {mg : Str → Option Value} {base : Heap} {k : Nat} {x : Str} {ps : List Str} {S S' : List D → (D → Prop) → Prop} (F : Dfn P w K mg base k x ps S) (h : ∀ ds R, S' ds R → S ds R) : Dfn P w K mg base k x ps S' := by
  obtain ⟨f, fd, h1, h2, h3, h4⟩ := F.ex
  exact ⟨f, fd, h1, h2, h3.imp fun vs H Q E ⟨hd, G, ds, R, a, b, c, d⟩ => ⟨hd, G, ds, R, a, b, h ds R c, d⟩, h4⟩
def retP (R : D → Prop) : Post := ⟨fun _ => R .non, R, fun _ => False, fun _ => False⟩
section
variable {P : Program} {w : World} {K : PySem.W.Frag} {mg : Str → Option Value} {base : Heap}
theorem mkD {x : Str} {st : Stmt} {N ps : List Str} {k : Nat} {S : List D → (D → Prop) → Prop} (F : Src K mg x st) (sc : FnScope N ps (defScope st))
    (hb : ∀ (kV doc pm : Value) (an : Option Addr) (cdv ct : Value) (us : List Value), us.length = ps.length → bindArgs (PySem.W.fnOf x x (defArgs st) (defBody st) (defScope st) .none kV doc pm an cdv ct) ⟨us, []⟩ = pure (ps.zip us))
    (len : ∀ ds R, S ds R → ds.length = ps.length)
    (body : ∀ (f : Addr) (cdv : Value) (A : Around) (outer : List Env) (s : Shared) (H : Hp) (E : XK), Room k (A.deeper (envOfC x (defScope st) s.heap.objs.size f cdv)) →
      ∃ t, PSs (cxOf CX0 P w K mg base N x (defScope st) f cdv A outer s H E).nox (defBody st) t ∧ ∀ (h : Hnd) (H0 G0 : Hp) ds R, S ds R → WS ⟨K, h, H0, G0⟩ (rho0 N ds) t (retP R)) : Dfn P w K mg base (k + 1) x ps S := by
  obtain ⟨f, fd, hm, F⟩ := F.ex
  refine ⟨f, fd, hm, F.kp, F.ok sc (fun vs H Q E h => ?_) (fun cdv A outer s H vs Q E hr h => ?_), F.binds hb⟩
  · obtain ⟨hd, G, ds, R, r, m, hs, q⟩ := h
    rw [r.length]
    exact len ds R hs
  · obtain ⟨hd, G, ds, R, r, m, hs, q⟩ := h
    obtain ⟨t, ht, hw⟩ := body f cdv A outer s H E hr
    refine ⟨t, ht, hw hd H G ds R hs G _ H (hold0 m r) _ (fun ρ' G' σ' H' z e hh => q .non .non G' H' z hh.mem .non) (fun d v G' H' z m' r' => q d v G' H' z m' r') (fun _ _ _ _ z => z.elim) fun _ _ _ _ z => z.elim⟩
/-- a def handled by its own reading -/
theorem mkS {x : Str} {st : Stmt} {N ps : List Str} {k : Nat} {S : List D → (D → Prop) → Prop} (F : Src K mg x st) (sc : FnScope N ps (defScope st))
    (hb : ∀ (kV doc pm : Value) (an : Option Addr) (cdv ct : Value) (us : List Value), us.length = ps.length → bindArgs (PySem.W.fnOf x x (defArgs st) (defBody st) (defScope st) .none kV doc pm an cdv ct) ⟨us, []⟩ = pure (ps.zip us))
    (len : ∀ ds R, S ds R → ds.length = ps.length)
    (body : ∀ (f : Addr) (cdv : Value) (A : Around) (outer : List Env) (s : Shared) (H : Hp) (E : XK), Room k (A.deeper (envOfC x (defScope st) s.heap.objs.size f cdv)) →
      ∃ t, PSs (cxOf CX0 P w K mg base N x (defScope st) f cdv A outer s H E).nox (defBody st) t ∧ ∀ vs Q, spD K S vs H Q E → t { nx := fun _ H' => Q .non H', rt := Q } (L2.start N vs) H) : Dfn P w K mg base (k + 1) x ps S := by
  obtain ⟨f, fd, hm, F⟩ := F.ex
  refine ⟨f, fd, hm, F.kp, F.ok sc (fun vs H Q E h => ?_) (fun cdv A outer s H vs Q E hr h => ?_), F.binds hb⟩
  · obtain ⟨hd, G, ds, R, r, m, hs, q⟩ := h
    rw [r.length]
    exact len ds R hs
  · obtain ⟨t, ht, hw⟩ := body f cdv A outer s H E hr
    exact ⟨t, ht, hw vs Q h⟩
end
section
variable {X : Cx} {x : Str} {p pos : Pos} {e : Expr} {es : List Expr} {t : TA} {k : Nat} {ps : List Str} {S : List D → (D → Prop) → Prop}
theorem pe_callD (F : Dfn X.prog X.w X.K X.mg X.base k x ps S) (hr : Room k X.A) (ha : PA X (e :: es) t) (hg : Gl X x := by rfl) (hdb : (x == ("__debug__" : Str)) = false := by decide)
    (he : starEach (e :: es) X.env = (false, eval e X.env) :: starEach es X.env := by rfl) (hpl : (backTo pos (starEach es X.env)).any (·.1) = false := by rfl) : PE X (.Call (.Name x p) (e :: es) [] pos) (tCall (spD X.K S) [] E0 t) := by
  obtain ⟨f, fd, h1, h2, h3, h4⟩ := F.ex
  exact pe_call h3 hr hg h1 h2 h4 .nil pass0 ha hdb he hpl
theorem pe_call0D (F : Dfn X.prog X.w X.K X.mg X.base k x ps S) (hr : Room k X.A) (hg : Gl X x := by rfl) (hdb : (x == ("__debug__" : Str)) = false := by decide) : PE X (.Call (.Name x p) [] [] pos) (tCall (spD X.K S) [] E0 tNil) := by
  obtain ⟨f, fd, h1, h2, h3, h4⟩ := F.ex
  exact pe_call0 h3 hr hg h1 h2 h4 .nil pass0 hdb
end
section
variable {p : Par} {ρ : Rho} {Q : D → Prop} {ta tb te tl th : TE} {tt tu : TT} {P : Post} {ts tv : TS}
theorem we_call {S : List D → (D → Prop) → Prop} {ta : TA} {E : XK} (h : WA p ρ ta fun ds => S ds Q) : WE p ρ (tCall (spD p.K S) [] E ta) Q := fun G σ H hh Qv k =>
  h G σ H hh _ fun ds vs G1 H1 q s1 r1 => by
    rw [List.append_nil]
    have hh1 := hh.step s1
    exact ⟨p.h, G1, ds, Q, r1, hh1.mem.refl, q, fun d v G' H' z m r => k d v G' H' z (s1.trans m) r⟩

/-! ### slices, sums of tuples and lists -/
def cutD {α : Type} (xs : List α) (lo hi : Option Int) : List α := (xs.drop (HT.sIx xs.length 0 lo)).take (HT.sIx xs.length xs.length hi - HT.sIx xs.length 0 lo)
theorem cut_rp {G : Hp} {vs : List V} {ds : List D} (r : RpL p.K p.h G vs ds) (lo hi : Option Int) : RpL p.K p.h G (cutV vs lo hi) (cutD ds lo hi) := by
  unfold cutV cutD
  rw [r.length]
  exact (r.drop _).take _
theorem cut_whole {α : Type} {xs : List α} {lo hi : Option Int} (h : HT.sIx xs.length 0 lo = 0 ∧ HT.sIx xs.length xs.length hi = xs.length) : cutD xs lo hi = xs := by
  unfold cutD
  rw [h.1, h.2]
  simp
theorem wo_none {Q : Option Int → Prop} (q : Q none) : WO p ρ tNoPart Q := fun G σ H hh Qv k => k none G H q hh.mem.refl
theorem wo_some {Q : Option Int → Prop} (h : WE p ρ te fun x => ∃ i, x = .int i ∧ Q (some i)) : WO p ρ (tPart te) Q := fun G σ H hh Qv k => h G σ H hh _ fun x v G1 H1 ⟨i, e, q⟩ s r => by
  subst e
  exact ⟨i, rp_int r, k _ G1 H1 q s⟩
/-- t[lo:hi] of a tuple -/
theorem we_slT {tl th : TO} (h : WE p ρ te fun x => ∃ xs, x = .tup xs ∧ WO p ρ tl fun lo => WO p ρ th fun hi => Q (.tup (cutD xs lo hi))) : WE p ρ (tSl (rSlA p.K) te tl th) Q := fun G σ H hh Qv k =>
  h G σ H hh _ fun x v G1 H1 ⟨xs, e, q1⟩ s1 r1 => q1 G1 σ H1 (hh.step s1) _ fun lo G2 H2 q2 s2 => q2 G2 σ H2 ((hh.step s1).step s2) _ fun hi G3 H3 q3 s3 => by
    subst e
    obtain ⟨a, vs, ev, hs, hl⟩ := r1.tup_inv
    have hh3 := ((hh.step s1).step s2).step s3
    have ex := ex_tr s2.ex s3.ex
    refine ⟨a, vs, ev, tq hh3.mem.sub (ex _ _ hs), fun hw => ?_, fun hw q hq => ?_⟩
    · rw [hl.length] at hw
      have q3' : Q (.tup (cutD xs lo hi)) := q3
      rw [cut_whole hw] at q3'
      exact k _ _ G3 H3 q3' ((s1.trans s2).trans s3) (.tup (ex _ _ hs) (lmono hl ex))
    · exact k _ _ _ _ q3 (((s1.trans s2).trans s3).trans (hh3.mem.grow hq)) (.tup upd_same (lmono (cut_rp (lmono hl ex) lo hi) (hh3.mem.grow (o := .tup (cutV vs lo hi)) hq).ex))
/-- xs[lo:hi] of a list: a new one -/
theorem wf_slL {Q : Cell → Prop} {tl th : TO} (h : WE p ρ te fun x => ∃ xs, x = .lst xs ∧ WO p ρ tl fun lo => WO p ρ th fun hi => Q (.ol (cutD xs lo hi))) : WF p ρ (tSl (rSlL p.K) te tl th) Q := fun G σ H hh Qv k =>
  h G σ H hh _ fun x v G1 H1 ⟨xs, e, q1⟩ s1 r1 => q1 G1 σ H1 (hh.step s1) _ fun lo G2 H2 q2 s2 => q2 G2 σ H2 ((hh.step s1).step s2) _ fun hi G3 H3 q3 s3 => by
    subst e
    obtain ⟨a, vs, ev, hs, hl⟩ := r1.lst_inv
    have hh3 := ((hh.step s1).step s2).step s3
    have ex := ex_tr s2.ex s3.ex
    refine ⟨a, vs, ev, lq hh3.mem.sub (ex _ _ hs), fun q hq => ?_⟩
    have s := (s1.trans s2).trans s3
    exact k _ q _ _ q3 rfl (s.trans (hh3.mem.growO hq)) (hh.mem.back s hq) ⟨q, _, rfl, hh3.mem.fresh hq, upd_same, cut_rp (lmono hl ex) lo hi⟩
theorem we_slL {tl th : TO} (h : WE p ρ te fun x => ∃ xs, x = .lst xs ∧ WO p ρ tl fun lo => WO p ρ th fun hi => Q (.lst (cutD xs lo hi))) : WE p ρ (tSl (rSlL p.K) te tl th) Q := we_F (wf_slL h)
/-- t + u of tuples -/
theorem we_catT (h : WE p ρ ta fun x => ∃ xs, x = .tup xs ∧ WE p ρ tb fun y => ∃ ys, y = .tup ys ∧ xs.length + ys.length ≤ 4000000 ∧ Q (.tup (xs ++ ys))) : WE p ρ (tOp (rCatA p.K) ta tb) Q :=
  we_op (h.imp fun x ⟨xs, e, h⟩ => h.imp fun y ⟨ys, e2, hz, q⟩ => fun G H v w m r1 r2 Qv k => by
    subst e e2
    obtain ⟨a, vs, ev, hs, hl⟩ := r1.tup_inv
    obtain ⟨b, ws, ew, ht, hm⟩ := r2.tup_inv
    refine ⟨a, b, vs, ws, ev, ew, tq m.sub hs, tq m.sub ht, sz (by rw [hl.length, hm.length]; exact hz), fun e0 => ?_, fun _ e0 => ?_, fun _ _ q' hq => ?_⟩
    · subst e0
      have z := hl.length
      cases xs with
      | nil => exact k _ _ G H q m.refl (.tup ht hm)
      | cons x xs => cases z
    · subst e0
      have z := hm.length
      cases ys with
      | nil => rw [List.append_nil] at q; exact k _ _ G H q m.refl (.tup hs hl)
      | cons x xs => cases z
    · exact k _ _ _ _ q (m.grow hq) (.tup upd_same (lmono (hl.append hm) (m.grow (o := .tup (vs ++ ws)) hq).ex)))
/-- xs + ys of lists: a new one -/
theorem wf_catL {Q : Cell → Prop} (h : WE p ρ ta fun x => ∃ xs, x = .lst xs ∧ WE p ρ tb fun y => ∃ ys, y = .lst ys ∧ xs.length + ys.length ≤ 4000000 ∧ Q (.ol (xs ++ ys))) :
    WF p ρ (tOp rCat ta tb) Q := fun G σ H hh Qv k =>
  h G σ H hh _ fun x v G1 H1 ⟨xs, e, q1⟩ s1 r1 => q1 G1 σ H1 (hh.step s1) _ fun y w G2 H2 ⟨ys, e2, hz, q⟩ s2 r2 => by
    subst e e2
    obtain ⟨a, vs, ev, hs, hl⟩ := r1.lst_inv
    obtain ⟨b, ws, ew, ht, hm⟩ := r2.lst_inv
    have hh2 := (hh.step s1).step s2
    have s := s1.trans s2
    refine ⟨a, b, vs, ws, ev, ew, hh2.mem.sub _ _ (s2.ex _ _ hs), hh2.mem.sub _ _ ht, sz (by rw [hl.length, hm.length]; exact hz), fun q' hq => ?_⟩
    exact k _ q' _ _ q rfl (s.trans (hh2.mem.growO hq)) (hh.mem.back s hq) ⟨q', _, rfl, hh2.mem.fresh hq, upd_same, (lmono hl s2.ex).append hm⟩
/-- tuple(xs) -/
theorem we_tupleOf (h : WE p ρ te fun x => ∃ xs, (x = .lst xs ∨ x = .tup xs) ∧ Q (.tup xs)) :
    WE p ρ (tCB (fun xs H Q => ∃ q ys, xs = [V.ref q] ∧ ((SqL p.K H q ys ∧ ∀ l, H l = none → Q (.ref l) (upd H l (.tup ys))) ∨ (SqT p.K H q ys ∧ Q (.ref q) H))) (tCons te tNil)) Q :=
  we_cb (wa_cons (h.imp fun x ⟨xs, e, q⟩ => wa_nil fun G H vs m r Qv k => by
    cases r with
    | cons r rn =>
      cases rn
      rcases e with e | e
      · subst e
        obtain ⟨a, us, ev, hs, hl⟩ := r.lst_inv
        subst ev
        exact ⟨a, us, rfl, .inl ⟨lq m.sub hs, fun l hq => k _ _ _ _ q (m.grow hq) (.tup upd_same (lmono hl (m.grow (o := .tup us) hq).ex))⟩⟩
      · subst e
        obtain ⟨a, us, ev, hs, hl⟩ := r.tup_inv
        subst ev
        exact ⟨a, us, rfl, .inr ⟨tq m.sub hs, k _ _ G H q m.refl (.tup hs hl)⟩⟩))
/-- list(xs): a new one -/
theorem wf_listOf {Q : Cell → Prop} (h : WE p ρ te fun x => ∃ xs, (x = .lst xs ∨ x = .tup xs) ∧ Q (.ol xs)) :
    WF p ρ (tCB (fun xs H Q => ∃ q ys, xs = [V.ref q] ∧ (SqL p.K H q ys ∨ SqT p.K H q ys) ∧ ∀ l, H l = none → Q (.ref l) (upd H l (.lst ys))) (tCons te tNil)) Q := fun G σ H hh Qv k =>
  h G σ H hh _ fun x v G1 H1 ⟨xs, e, q⟩ s1 r1 => by
    have hh1 := hh.step s1
    rcases e with e | e
    · subst e
      obtain ⟨a, us, ev, hs, hl⟩ := r1.lst_inv
      subst ev
      exact ⟨a, us, rfl, .inl (lq hh1.mem.sub hs), fun l hq => k _ l _ _ q rfl (s1.trans (hh1.mem.growO hq)) (hh.mem.back s1 hq) ⟨l, _, rfl, hh1.mem.fresh hq, upd_same, hl⟩⟩
    · subst e
      obtain ⟨a, us, ev, hs, hl⟩ := r1.tup_inv
      subst ev
      exact ⟨a, us, rfl, .inr (tq hh1.mem.sub hs), fun l hq => k _ l _ _ q rfl (s1.trans (hh1.mem.growO hq)) (hh.mem.back s1 hq) ⟨l, _, rfl, hh1.mem.fresh hq, upd_same, hl⟩⟩
end

/-! ### comprehensions -/
def wipeR (ρ : Rho) : List Nat → Rho
  | [] => ρ
  | v :: vs => (wipeR ρ vs).set v none
section
variable {p : Par} {ρ : Rho} {te : TE} {tt : TT} {g : TG}
theorem Hold.wipe {G H : Hp} {σ : L2.St} (hh : Hold p ρ G σ H) : ∀ vs : List Nat, Hold p (wipeR ρ vs) G (L2.wipe σ vs) H
  | [] => hh
  | v :: vs => (Hold.wipe hh vs).forget v none
theorem wipe_get {σ : L2.St} {j : Nat} : ∀ {vs : List Nat}, (L2.wipe σ vs)[j]? = if j ∈ vs then (if j < σ.length then some none else none) else σ[j]?
  | [] => by simp [L2.wipe]
  | v :: vs => by
    have ih := wipe_get (σ := σ) (j := j) (vs := vs)
    show ((L2.wipe σ vs).set v none)[j]? = _
    by_cases hv : v = j
    · subst hv
      rw [if_pos (by simp)]
      by_cases hl : v < σ.length
      · rw [if_pos hl, List.getElem?_set_self (by rw [L2.wipe_length]; exact hl)]
      · rw [if_neg hl, List.getElem?_eq_none (by rw [List.length_set, L2.wipe_length]; omega)]
    · rw [List.getElem?_set_ne hv, ih]
      by_cases hm : j ∈ vs
      · rw [if_pos hm, if_pos (List.mem_cons_of_mem _ hm)]
      · rw [if_neg hm, if_neg (fun z => by rcases List.mem_cons.mp z with e | e; exact hv e.symm; exact hm e)]
theorem wipe_set {σ : L2.St} {j : Nat} {x : Option V} {vs : List Nat} (h : j ∈ vs) : L2.wipe (σ.set j x) vs = L2.wipe σ vs := by
  refine List.ext_getElem? fun i => ?_
  rw [wipe_get, wipe_get, List.length_set]
  by_cases hm : i ∈ vs
  · rw [if_pos hm, if_pos hm]
  · rw [if_neg hm, if_neg hm, List.getElem?_set_ne (fun z => hm (by rw [← z]; exact h))]
theorem wipe_wipe {σ : L2.St} {vs : List Nat} : L2.wipe (L2.wipe σ vs) vs = L2.wipe σ vs := by
  refine List.ext_getElem? fun i => ?_
  rw [wipe_get, wipe_get, L2.wipe_length]
  by_cases hm : i ∈ vs
  · rw [if_pos hm, if_pos hm]
  · rw [if_neg hm, if_neg hm]
/-- a target that stores into the slots vs alone -/
def WGp (p : Par) (vs : List Nat) (ρ : Rho) (g : TG) (x : D) (N : Rho → Prop) : Prop := ∀ G σ H v, Hold p ρ G σ H → Rp p.K p.h G v x → ∀ Qs : L2.St → Hp → Prop, (∀ ρ' σ', N ρ' → Hold p ρ' G σ' H → L2.wipe σ' vs = L2.wipe σ vs → Qs σ' H) → g v σ H Qs
def WGps (p : Par) (vs : List Nat) (ρ : Rho) (g : TGs) (xs : List D) (N : Rho → Prop) : Prop := ∀ G σ H us, Hold p ρ G σ H → RpL p.K p.h G us xs → ∀ Qs : L2.St → Hp → Prop, (∀ ρ' σ', N ρ' → Hold p ρ' G σ' H → L2.wipe σ' vs = L2.wipe σ vs → Qs σ' H) → g us σ H Qs
theorem wgp_name {vs : List Nat} {i : Nat} {x : D} {N : Rho → Prop} (hi : i ∈ vs) (h : N (ρ.set i (some (.d x)))) : WGp p vs ρ (gName i) x N := fun G σ H v hh r Qs k => k _ _ h (hh.setD r) (wipe_set hi)
theorem wgps_nil {vs : List Nat} {xs : List D} {N : Rho → Prop} (h : xs = [] ∧ N ρ) : WGps p vs ρ gNil xs N := fun G σ H us hh r Qs k => by
  obtain ⟨e, h⟩ := h
  subst e
  cases r
  exact ⟨rfl, k _ σ h hh rfl⟩
theorem wgps_cons {vs : List Nat} {g : TG} {gs : TGs} {xs : List D} {N : Rho → Prop} (h : ∃ x r, xs = x :: r ∧ WGp p vs ρ g x fun ρ' => WGps p vs ρ' gs r N) : WGps p vs ρ (gCons g gs) xs N := fun G σ H us hh r Qs k => by
  obtain ⟨x, xr, e, h⟩ := h
  subst e
  cases r with
  | @cons v us _ _ a b => exact ⟨v, us, rfl, h G σ H v hh a _ fun ρ1 σ1 z hh1 e1 => z G σ1 H us hh1 b Qs fun ρ2 σ2 z2 hh2 e2 => k ρ2 σ2 z2 hh2 (e2.trans e1)⟩
theorem wgp_tup {vs : List Nat} {n : Nat} {gs : TGs} {x : D} {N : Rho → Prop} (h : ∃ xs, x = .tup xs ∧ xs.length = n ∧ WGps p vs ρ gs xs N) : WGp p vs ρ (gTup p.K n gs) x N := fun G σ H v hh r Qs k => by
  obtain ⟨xs, e, hl, h⟩ := h
  subst e
  obtain ⟨a, us, ev, hs, hr⟩ := r.tup_inv
  exact ⟨a, us, ev, tq hh.mem.sub hs, by rw [hr.length]; exact hl, h G σ H us hh hr Qs k⟩
theorem Stp.updO {G H G' H' : Hp} {a : Addr} {o : HO} (s : Stp p G H G' H') (n : H a = none) (ow : Own p G' a) (kn : ∃ u, H' a = some u ∧ NT u) : Stp p G H G' (upd H' a o) :=
  ⟨fun b u z => by rw [upd_ne (ne_of_none z ow.1)]; exact s.sub b u z, s.gh, fun b u hb t z => by
    show upd H' a o b = some u
    rw [upd_ne (ne_of_none z n)]
    exact s.base b u hb t z, s.g0, s.new, s.hand.mono (fun _ _ z => z) (upd_ne (Ne.symm ow.2.2)), s.gt, tabs_upd s.tab (.inr kn)⟩
theorem Own.step {G H G' H' : Hp} {a : Addr} {o : HO} (nt : NT o) (ow : Own p G a) (e : H a = some o) (s : Stp p G H G' H') : Own p G' a ∧ H' a = some o := by
  refine ⟨⟨?_, ow.2⟩, s.base a o ow.2.2 nt.tbl e⟩
  cases z : G' a with
  | none => rfl
  | some u =>
    rcases s.new a u z with r | r | ⟨⟨xs, t⟩, r⟩
    · have r' : G a = some u := r
      rw [ow.1] at r'; cases r'
    · obtain ⟨ps, e'⟩ := r o e
      exact (nt.tbl ps e').elim
    · have r' : H a = some u := r
      rw [e] at r'; cases r'
      exact (nt.tup xs t).elim
/-- what stands between two turns: the list at Dl holds acc -/
def Lc (p : Par) (G1 H1 : Hp) (Dl : Addr) (I : Nat → List D → Prop) (k : Nat) (H' : Hp) : Prop := ∃ acc av G', I k acc ∧ acc.length ≤ k ∧ Stp p G1 H1 G' H' ∧ H' Dl = some (.lst av) ∧ Own p G' Dl ∧ RpL p.K p.h G' av acc
theorem lc_turn {vs : List Nat} {G1 H1 H' : Hp} {σ : L2.St} {Dl : Addr} {I : Nat → List D → Prop} {k : Nat} {x : D} {v : V} (hh : Hold p ρ G1 σ H1) (hn : H1 Dl = none) (hk : k < 4000000) (L : Lc p G1 H1 Dl I k H')
    (hr : ∀ G', Stp p G1 H1 G' H' → ∃ G2, Stp p G' H' G2 H' ∧ Rp p.K p.h G2 v x)
    (h : ∀ acc, I k acc → acc.length ≤ k → WGp p vs (wipeR ρ vs) g x fun ρ2 => WT p ρ2 tt fun b => if b = true then WE p ρ2 te fun y => I (k + 1) (acc ++ [y]) else I (k + 1) acc) :
    g v (L2.wipe σ vs) H' fun σ2 H2 => L2.wipe σ2 vs = L2.wipe σ vs ∧ tt σ2 H2 fun b H3 =>
      if b = true then te σ2 H3 fun y H4 => ∃ acc, H4 Dl = some (.lst acc) ∧ acc.length < sizeLine ∧ Lc p G1 H1 Dl I (k + 1) (upd H4 Dl (.lst (acc ++ [y]))) else Lc p G1 H1 Dl I (k + 1) H3 := by
  obtain ⟨acc, av, G0, hi, hl, s0, e0, ow0, r0⟩ := L
  obtain ⟨G', s00, rx⟩ := hr G0 s0
  have s := s0.trans s00
  obtain ⟨ow, e⟩ := Own.step NT.lst ow0 e0 s00
  have r := lmono r0 s00.ex
  refine h acc hi hl G' _ H' v ((hh.step s).wipe vs) rx _ fun ρ2 σ2 z hh2 ew => ⟨by rw [ew, wipe_wipe], z G' σ2 H' hh2 _ fun b G2 H2 q s2 => ?_⟩
  obtain ⟨ow2, e2⟩ := Own.step NT.lst ow e s2
  cases b with
  | false =>
    rw [if_neg (by decide)] at q ⊢
    exact ⟨acc, av, G2, q, Nat.le_succ_of_le hl, s.trans s2, e2, ow2, lmono r s2.ex⟩
  | true =>
    rw [if_pos rfl] at q ⊢
    refine q G2 σ2 H2 (hh2.step s2) _ fun d y G3 H3 q3 s3 r3 => ?_
    obtain ⟨ow3, e3⟩ := Own.step NT.lst ow2 e2 s3
    have hz := r.length
    refine ⟨av, e3, by rw [sizeLine_eq]; omega, acc ++ [d], av ++ [y], G3, q3, by rw [List.length_append, List.length_singleton]; omega, ((s.trans s2).trans s3).updO hn ow3 ⟨_, e3, NT.lst⟩, upd_same, ow3, (lmono r (ex_tr s2.ex s3.ex)).append (.cons r3 .nil)⟩
theorem lc_start {G1 H1 : Hp} {σ : L2.St} {Dl : Addr} {I : Nat → List D → Prop} (hh : Hold p ρ G1 σ H1) (hn : H1 Dl = none) (h0 : I 0 []) : Lc p G1 H1 Dl I 0 (upd H1 Dl (.lst [])) :=
  ⟨[], [], G1, h0, Nat.le_refl _, hh.mem.growO hn, upd_same, hh.mem.fresh hn, .nil⟩
theorem wf_lcL {tl : TE} {vs : List Nat} {Q : Cell → Prop} (h : WE p ρ tl fun x => ∃ xs, x = .lst xs ∧ xs.length ≤ 4000000 ∧ ∃ I : Nat → List D → Prop, I 0 [] ∧
    (∀ k x acc, xs[k]? = some x → I k acc → acc.length ≤ k → WGp p vs (wipeR ρ vs) g x fun ρ2 => WT p ρ2 tt fun b => if b = true then WE p ρ2 te fun y => I (k + 1) (acc ++ [y]) else I (k + 1) acc) ∧ ∀ acc, I xs.length acc → Q (.ol acc)) :
    WF p ρ (tLc (iList p.K tl) g tt te vs) Q := fun G σ H hh Qv kk =>
  h G σ H hh _ fun x v G1 H1 ⟨xs, e, hz, I, h0, hs, hd⟩ s1 r1 => by
    subst e
    obtain ⟨a, us, ev, hq, hl⟩ := r1.lst_inv
    have hh1 := hh.step s1
    refine ⟨a, ev, ⟨us, lq hh1.mem.sub hq⟩, fun Dl hn => lc_list (xs := us) (Lc p G1 H1 Dl I) (lc_start hh1 hn h0) (fun k H' _ L => ?_) (fun k y H' hk L => ?_) fun H' L => ?_⟩
    · obtain ⟨acc, av, G', _, _, s, _⟩ := L
      exact lq s.sub (s.ex _ _ hq)
    · obtain ⟨d, hd1, hd2⟩ := hl.get' hk
      have hk' : k < us.length := (List.getElem?_eq_some_iff.mp hk).1
      exact lc_turn hh1 hn (by have := hl.length; omega) L (fun G' s => ⟨G', (hh1.step s).mem.refl, rmono hd2 s.ex⟩) fun acc hi hle => hs k d acc hd1 hi hle
    · obtain ⟨acc, av, G', hi, _, s, e, ow, r⟩ := L
      rw [hl.length] at hi
      exact kk _ Dl G' H' (hd acc hi) rfl (s1.trans s) (hh.mem.back s1 hn) ⟨Dl, av, rfl, ow, e, r⟩
theorem wf_lcT {tl : TE} {vs : List Nat} {Q : Cell → Prop} (h : WE p ρ tl fun x => ∃ xs, x = .tup xs ∧ xs.length ≤ 4000000 ∧ ∃ I : Nat → List D → Prop, I 0 [] ∧
    (∀ k x acc, xs[k]? = some x → I k acc → acc.length ≤ k → WGp p vs (wipeR ρ vs) g x fun ρ2 => WT p ρ2 tt fun b => if b = true then WE p ρ2 te fun y => I (k + 1) (acc ++ [y]) else I (k + 1) acc) ∧ ∀ acc, I xs.length acc → Q (.ol acc)) :
    WF p ρ (tLc (iTup p.K tl) g tt te vs) Q := fun G σ H hh Qv kk =>
  h G σ H hh _ fun x v G1 H1 ⟨xs, e, hz, I, h0, hs, hd⟩ s1 r1 => by
    subst e
    obtain ⟨a, us, ev, hq, hl⟩ := r1.tup_inv
    have hh1 := hh.step s1
    refine ⟨a, ev, ⟨us, tq hh1.mem.sub hq⟩, fun Dl hn => lc_tup (xs := us) (Lc p G1 H1 Dl I) (lc_start hh1 hn h0) (fun k H' _ L => ?_) (fun k y H' hk L => ?_) fun H' L => ?_⟩
    · obtain ⟨acc, av, G', _, _, s, _⟩ := L
      exact tq s.sub (s.ex _ _ hq)
    · obtain ⟨d, hd1, hd2⟩ := hl.get' hk
      have hk' : k < us.length := (List.getElem?_eq_some_iff.mp hk).1
      exact lc_turn hh1 hn (by have := hl.length; omega) L (fun G' s => ⟨G', (hh1.step s).mem.refl, rmono hd2 s.ex⟩) fun acc hi hle => hs k d acc hd1 hi hle
    · obtain ⟨acc, av, G', hi, _, s, e, ow, r⟩ := L
      rw [hl.length] at hi
      exact kk _ Dl G' H' (hd acc hi) rfl (s1.trans s) (hh.mem.back s1 hn) ⟨Dl, av, rfl, ow, e, r⟩
theorem wf_lc1 {ta : TA} {vs : List Nat} {Q : Cell → Prop} (h : WA p ρ ta fun ds => ∃ n : Int, ds = [.int n] ∧ n ≤ 4000000 ∧ -(2 ^ 62) ≤ n ∧ ∃ I : Nat → List D → Prop, I 0 [] ∧
    (∀ k acc, k < n.toNat → I k acc → acc.length ≤ k → WGp p vs (wipeR ρ vs) g (.int (k : Int)) fun ρ2 => WT p ρ2 tt fun b => if b = true then WE p ρ2 te fun y => I (k + 1) (acc ++ [y]) else I (k + 1) acc) ∧ ∀ acc, I n.toNat acc → Q (.ol acc)) :
    WF p ρ (tLc (iRng1 ta) g tt te vs) Q := fun G σ H hh Qv kk =>
  h G σ H hh _ fun ds ws G1 H1 ⟨n, e, hz, hz2, I, h0, hs, hd⟩ s1 r1 => by
    subst e
    cases r1 with
    | cons r1 rn =>
      cases rn; cases r1
      have hh1 := hh.step s1
      refine ⟨n, rfl, hz2, by omega, fun Dl hn => lc_range (lo := 0) (n := n.toNat) (Lc p G1 H1 Dl I) (lc_start hh1 hn h0) (fun k H' hk L => ?_) fun H' L => ?_⟩
      · rw [Int.zero_add]
        exact lc_turn hh1 hn (by omega) L (fun G' s => ⟨G', (hh1.step s).mem.refl, .int _⟩) fun acc hi hle => hs k acc hk hi hle
      · obtain ⟨acc, av, G', hi, _, s, e, ow, r⟩ := L
        exact kk _ Dl G' H' (hd acc hi) rfl (s1.trans s) (hh.mem.back s1 hn) ⟨Dl, av, rfl, ow, e, r⟩
theorem wf_lc2 {ta : TA} {vs : List Nat} {Q : Cell → Prop} (h : WA p ρ ta fun ds => ∃ lo n : Int, ds = [.int lo, .int n] ∧ n - lo ≤ 4000000 ∧ (-(2 ^ 62) ≤ lo ∧ lo < 2 ^ 62 ∧ -(2 ^ 62) ≤ n ∧ n < 2 ^ 62) ∧ ∃ I : Nat → List D → Prop, I 0 [] ∧
    (∀ k acc, k < (n - lo).toNat → I k acc → acc.length ≤ k → WGp p vs (wipeR ρ vs) g (.int (lo + (k : Int))) fun ρ2 => WT p ρ2 tt fun b => if b = true then WE p ρ2 te fun y => I (k + 1) (acc ++ [y]) else I (k + 1) acc) ∧ ∀ acc, I (n - lo).toNat acc → Q (.ol acc)) :
    WF p ρ (tLc (iRng2 ta) g tt te vs) Q := fun G σ H hh Qv kk =>
  h G σ H hh _ fun ds ws G1 H1 ⟨lo, n, e, hz, hz2, I, h0, hs, hd⟩ s1 r1 => by
    subst e
    cases r1 with
    | cons r1 rn =>
      cases rn with
      | cons r2 rn =>
        cases rn; cases r1; cases r2
        have hh1 := hh.step s1
        refine ⟨lo, n, rfl, hz2, fun Dl hn => lc_range (lo := lo) (n := (n - lo).toNat) (Lc p G1 H1 Dl I) (lc_start hh1 hn h0) (fun k H' hk L => ?_) fun H' L => ?_⟩
        · exact lc_turn hh1 hn (by omega) L (fun G' s => ⟨G', (hh1.step s).mem.refl, .int _⟩) fun acc hi hle => hs k acc hk hi hle
        · obtain ⟨acc, av, G', hi, _, s, e, ow, r⟩ := L
          exact kk _ Dl G' H' (hd acc hi) rfl (s1.trans s) (hh.mem.back s1 hn) ⟨Dl, av, rfl, ow, e, r⟩
end
section
variable {p : Par}
/-- a tuple that stands in H may be taken into what is known -/
theorem Mem.learn {G H : Hp} {q : Addr} {xs : List V} (m : Mem p G H) (e : H q = some (.tup xs)) : ∃ G', Stp p G H G' H ∧ G' q = some (.tup xs) := by
  cases hg : G q with
  | some u =>
    have := m.sub q u hg
    rw [e] at this; cases this
    exact ⟨G, m.refl, hg⟩
  | none =>
    have hq2 : q ≠ p.h.a := fun z => by
      obtain ⟨ns, i', r', n', h1', _⟩ := m.hand
      rw [← z, e] at h1'
      cases h1'
    have ex : Ex G (upd G q (.tup xs)) := fun b u z => by rw [upd_ne (ne_of_none z hg)]; exact z
    refine ⟨upd G q (.tup xs), ⟨fun b u z => ?_, ?_, fun _ _ _ _ z => z, ex, fun b u z => ?_, m.hand.mono ex rfl, fun b ps z => ?_, m.tab⟩, upd_same⟩
    · by_cases hb : b = q
      · subst hb; rw [upd_same] at z; cases z; exact e
      · rw [upd_ne hb] at z; exact m.sub b u z
    · show upd G q (.tup xs) p.h.a = none
      rw [upd_ne (Ne.symm hq2)]; exact m.gh
    · by_cases hb : b = q
      · subst hb; rw [upd_same] at z; cases z; exact .inr (.inr ⟨⟨_, rfl⟩, e⟩)
      · rw [upd_ne hb] at z; exact .inl z
    · by_cases hb : b = q
      · subst hb; rw [upd_same] at z; cases z
      · rw [upd_ne hb] at z; exact m.gt b ps z
end
end Cal
set_option Elab.async false
set_option linter.all false
set_option maxRecDepth 100000
set_option maxHeartbeats 2000000
namespace Cal
open PySem L2 PyProof.Rows
open Evl (Ex ex_l ex_t ex_rd sq_of st_of)

/-! ### sum(d.values()) -/
section
variable {X : Cx} {o : Expr} {p pos apos mpos : Pos} {td : TE}
def tSumVals (td : TE) : TE := fun σ H Q => td σ H fun x H1 => ∃ a kvs is, x = V.ref a ∧ H1 a = some (.dK kvs) ∧ kvs.map (·.2) = is.map V.int ∧ Q (.int (List.sum is)) H1
theorem preSum_list : ∀ (is : List Int), PySem.preSum (fun i => is.getD i 0) is.length = is.sum
  | [] => rfl
  | x :: r => by
    have e := PySem.W.kdu_shift (fun i => (x :: r).getD i 0) r.length
    have ih := preSum_list r
    show PySem.preSum (fun i => (x :: r).getD i 0) (r.length + 1) = (x :: r).sum
    rw [e, List.sum_cons]
    have e2 : (fun i => (x :: r).getD (i + 1) 0) = fun i => r.getD i 0 := by funext i; simp
    rw [e2, ih]
    simp
theorem pe_sumVals (hc : X.calm = true) (hg : Gl X "sum") (hm : X.mg "sum" = none) (hd : PE X o td) (hbase : attributeBase o "values" X.env (eval o X.env) = eval o X.env := by rfl) (hline : (apos.endLine == mpos.line) = true := by rfl)
    (hse : starEach [Expr.Call (.Attribute o "values" apos) [] [] mpos] X.env = [(false, eval (Expr.Call (.Attribute o "values" apos) [] [] mpos) X.env)] := by rfl) :
    PE X (.Call (.Name "sum" p) [.Call (.Attribute o "values" apos) [] [] mpos] [] pos) (tSumVals td) := by
  refine ⟨fun pins s σ H Q I h => ?_⟩
  refine wpAny_Call_Name_kw (ld_blt I hg hm (u := .builtin "sum") (by first | rfl | decide +kernel) ?_ (by first | decide +kernel | decide) (by first | decide +kernel | decide))
  rw [hse]
  refine PySem.callWith_builtin1 (wpAny_Call_method0_late hbase hline (thn (hd.run pins s σ H _ I h) fun v s1 ⟨x, H1, I1, r1, a, kvs, is, ex, ha, hv, q⟩ => ?_))
  subst ex
  obtain rfl : v = Value.ref a := r1
  obtain ⟨_, hsys, vs, rel, dof⟩ := dk_of I1.hok ha
  obtain ⟨ep, dat⟩ := dof.dictAt
  have dat' := dat
  obtain ⟨ob, es, ho, ex, hdat, hko, hpr, hnd⟩ := dat'
  refine ⟨"dict", "dict.values", F.plainAttrs_dict, F.slot_dict_values, F.type_dict_values, ⟨ob, ho, ex.1⟩, fun b e => ?_, Calls.callWith_builtin rfl (PySem.evalArgs_none ?_)⟩
  · cases e
    exact ⟨ob, ho, ex.2.1⟩
  refine call_meetsIn F.slot_dict_values ⟨ob, ho, ex.1⟩ F.entry_dict_values (F.args_dict_values_1 _) (meets_dict_values (mixKind X.prog X.w) a hsys) ⟨⟨vs, dof⟩, ?_⟩
  have k1 : ∀ b u, s1.heap.get? b = some u → (s1.heap.push { cls := .type "dict_values", data := .fields #[.ref a] }).get? b = some u := fun b u e => Heap.get?_push_of_some _ e
  have dat1 : (s1.heap.push { cls := .type "dict_values", data := .fields #[.ref a] }).DictAt (mixKind X.prog X.w) a vs ep := dat.keep k1
  have hlv : vs.length = is.length := by
    have e1 := congrArg List.length hv
    rw [List.length_map, List.length_map] at e1
    rw [← e1]
    exact (KV.length rel).symm
  have hval : ∀ (i : Nat) (v : Value), (∃ k, vs[i]? = some (k, v)) → ∃ t, v = Value.int (is.getD i 0) t := fun i v ⟨k, hk⟩ => by
    obtain ⟨x, h1, h2⟩ := KV.at' rel hk
    have e1 : (kvs.map (·.2))[i]? = some x := by rw [List.getElem?_map, h1] <;> rfl
    rw [hv, List.getElem?_map] at e1
    obtain ⟨j, hj, e2⟩ := Option.map_eq_some_iff.mp e1
    subst e2
    obtain ⟨t, e3⟩ := h2
    refine ⟨t, ?_⟩
    rw [e3, List.getD_eq_getElem?_getD, hj] <;> rfl
  refine PySem.call_sum_walkAnyS ?_
  have K := PySem.W.kdl_values (prog := X.prog) (w := X.w) (knd := mixKind X.prog X.w) (r := s1.heap.objs.size) (d := a) (kvs := vs) (ep := ep)
  obtain ⟨oI, St, hit, W, st⟩ := K.iter X.A.in1 { s1 with heap := s1.heap.push { cls := .type "dict_values", data := .fields #[.ref a] } } (I.ok.hd hc) ⟨⟨_, Heap.get?_push_size _ rfl, rfl, rfl⟩, dat1⟩
  have hsz : (s1.heap.push { cls := .type "dict_values", data := .fields #[.ref a] }).objs.size = s1.heap.objs.size + 1 := Heap.size_push _ _
  have hlt : a < s1.heap.objs.size := Heap.lt_size ho
  refine hit _ _ ⟨(s1.heap.push { cls := .type "dict_values", data := .fields #[.ref a] }).objs.size, _, _, _, vs.length, _, _, (fun i => is.getD i 0), rfl, W.toS, st, fun b hb => ?_, hval, fun s' t' hm => ?_⟩
  · show b < ((s1.heap.push _).push oI).objs.size
    rw [Heap.size_push, Heap.size_push]
    rw [hsz] at hb
    rcases List.mem_cons.mp hb with e | hb
    · rw [e]
      exact Nat.lt_succ_self _
    · have e : b = a := List.mem_singleton.mp hb
      rw [e]
      exact Nat.lt_succ_of_lt (Nat.lt_succ_of_lt hlt)
  · have hk : ∀ b o, s1.heap.get? b = some o → s'.heap.get? b = some o := fun b o e =>
      hm.heap b o (fun hI => by
        have e1 : b = (s1.heap.push { cls := .type "dict_values", data := .fields #[.ref a] }).objs.size := List.mem_singleton.mp hI
        have e2 := Heap.lt_size e
        rw [hsz] at e1
        rw [e1] at e2
        exact absurd e2 (Nat.not_lt.mpr (Nat.le_succ _))) (Heap.get?_push_of_some _ (k1 b o e))
    rw [Moved.eq_with hm]
    have e : PySem.preSum (fun i => is.getD i 0) vs.length = is.sum := by rw [hlv]; exact preSum_list is
    rw [e]
    exact ⟨.int _, H1, I1.kept (t' := s'.toks) hk, ⟨t', rfl⟩, q⟩
end
section
variable {p : Par} {ρ : Rho} {Q : D → Prop} {ta tb te td ty : TE} {tt tu : TT} {P : Post} {ts tv : TS}
theorem RpK.vals {K : PySem.W.Frag} {h : Hnd} {G : Hp} : ∀ {vs : List (Key × V)} {ds : List (Key × D)} {is : List Int}, RpK K h G vs ds → ds.map (·.2) = is.map D.int → vs.map (·.2) = is.map V.int
  | [], [], [], _, _ => rfl
  | [], [], i :: is, _, e => by cases e
  | x :: vs, y :: ds, [], r, e => by cases e
  | x :: vs, y :: ds, i :: is, r, e => by
    cases r with
    | cons a b =>
      rw [List.map_cons, List.map_cons] at e
      injection e with e1 e2
      have e1' := e1
      subst e1'
      cases a
      rw [List.map_cons, List.map_cons, RpK.vals b e2]
  | [], d :: ds, _, r, _ => by cases r
  | v :: vs, [], _, r, _ => by cases r
theorem we_sumVals {i : Nat} {kvs : List (Key × D)} {is : List Int} (e : ρ[i]? = some (some (.ok kvs))) (he : kvs.map (·.2) = is.map D.int) (q : Q (.int is.sum)) : WE p ρ (tSumVals (tVar i)) Q := fun G σ H hh Qv k => by
  obtain ⟨a, vs, h1, h2, h3⟩ := dget_own hh e
  exact ⟨.ref a, h1, a, vs, is, rfl, h2, h3.vals he, k _ _ G H q hh.mem.refl (.int _)⟩
/-- {k: v} -/
theorem wf_disp1 {Q : Cell → Prop} {tk tx : TE} (h : WE p ρ tk fun y => ∃ k, y = kD k ∧ WE p ρ tx fun x => Q (.ok [(k, x)])) : WF p ρ (tDisp [(tk, tx)]) Q := fun G σ H hh Qv kk a ha => by
  have s0 := hh.mem.growO (o := .dK []) ha
  have hh0 := hh.step s0
  refine h G σ _ hh0 _ fun y w G1 H1 ⟨k, ey, q⟩ s1 r1 => q G1 σ H1 (hh0.step s1) _ fun x u G2 H2 q2 s2 r2 => ?_
  subst ey
  have ow := hh.mem.fresh ha
  obtain ⟨ow1, e1⟩ := Own.step NT.dK ow upd_same s1
  obtain ⟨ow2, e2⟩ := Own.step NT.dK ow1 e1 s2
  refine ⟨e2, [(k, u)], ?_, by show 1 ≤ 15; decide, ?_⟩
  · rw [kD_rp r1] <;> rfl
  · refine kk _ a G2 _ q2 rfl (Stp.updO ((s0.trans s1).trans s2) ha ow2 ⟨_, e2, NT.dK⟩) (Nil.no ha) ⟨a, _, rfl, ow2, upd_same, ?_⟩
    show RpK p.K p.h G2 (putK [] k u) [(k, x)]
    exact .cons r2 .nil
/-! ### dicts with tuple keys, a slot's own -/
theorem kDs_rp {G : Hp} : ∀ {ks : List Key} {vs : List V}, RpL p.K p.h G vs (ks.map kD) → vs = ks.map kV
  | [], [], _ => rfl
  | k :: ks, v :: vs, r => by
    cases r with
    | cons a b => rw [List.map_cons, kD_rp a, kDs_rp b]
  | [], v :: vs, r => by cases r
  | k :: ks, [], r => by cases r
theorem rp_kDs {G : Hp} : ∀ (ks : List Key), RpL p.K p.h G (ks.map kV) (ks.map kD)
  | [] => .nil
  | k :: ks => .cons rp_kD (rp_kDs ks)
theorem key_at {G H : Hp} {v : V} {ks : List Key} (e : Ex G H) (r : Rp p.K p.h G v (.tup (ks.map kD))) : ∃ b, v = .ref b ∧ H b = some (.tup (ks.map kV)) := by
  obtain ⟨a, vs, ev, h1, h2⟩ := r.tup_inv
  rw [kDs_rp h2] at h1
  exact ⟨a, ev, e _ _ h1⟩
theorem dgetT_own {i : Nat} {kvs : List (List Key × D)} {G : Hp} {σ : L2.St} {H : Hp} (hh : Hold p ρ G σ H) (e : ρ[i]? = some (some (.ot kvs))) : ∃ a vs, σ[i]? = some (some (.ref a)) ∧ H a = some (.dT vs) ∧ RpT p.K p.h G vs kvs := by
  obtain ⟨sv, h1, a, vs, h2, ow, h4, h5⟩ := hh.slot i _ e
  subst h2
  exact ⟨a, vs, h1, h4, h5⟩
theorem we_dgetT {i : Nat} {kvs : List (List Key × D)} (e : ρ[i]? = some (some (.ot kvs))) (h : WE p ρ ty fun y => ∃ k x, y = .tup (k.map kD) ∧ dGet kvs k = some x ∧ Q x) : WE p ρ (tDGet (tVar i) ty) Q := fun G σ H hh Qv kk => by
  obtain ⟨a, vs, h1, _, _⟩ := dgetT_own hh e
  refine ⟨.ref a, h1, h G σ H hh _ fun y w G1 H1 ⟨k, x, ey, ex, q⟩ s1 r1 => ?_⟩
  subst ey
  obtain ⟨a', vs', h1', h2', h3'⟩ := dgetT_own (hh.step s1) e
  rw [h1] at h1'
  cases h1'
  obtain ⟨b, eb, hb⟩ := key_at s1.sub r1
  rcases h3'.find k with ⟨_, z⟩ | ⟨v, d, z1, z2, z3⟩
  · rw [ex] at z; cases z
  · rw [ex] at z2; cases z2
    exact ⟨a, v, rfl, .inr ⟨vs', k, b, .inl h2', eb, hb, z1.symm⟩, kk _ _ G1 H1 q s1 z3⟩
theorem we_dinT {i : Nat} {kvs : List (List Key × D)} (e : ρ[i]? = some (some (.ot kvs))) (h : WE p ρ ty fun y => ∃ k : List Key, y = .tup (k.map kD) ∧ Q (.bl (dGet kvs k).isSome)) : WE p ρ (tDIn ty (tVar i)) Q := fun G σ H hh Qv kk =>
  h G σ H hh _ fun y w G1 H1 ⟨k, ey, q⟩ s1 r1 => by
    subst ey
    obtain ⟨a, vs, h1, h2, h3⟩ := dgetT_own (hh.step s1) e
    obtain ⟨b, eb, hb⟩ := key_at s1.sub r1
    refine ⟨.ref a, h1, a, valV vs k, rfl, .inr ⟨vs, k, b, .inl h2, eb, hb, rfl⟩, ?_⟩
    have z : (valV vs k).isSome = (dGet kvs k).isSome := by
      rcases h3.find k with ⟨z1, z2⟩ | ⟨v, d, z1, z2, _⟩ <;> rw [z1, z2] <;> rfl
    rw [z]
    exact kk _ _ G1 H1 q s1 (.bl _)
theorem we_dnotinT {i : Nat} {kvs : List (List Key × D)} (e : ρ[i]? = some (some (.ot kvs))) (h : WE p ρ ty fun y => ∃ k : List Key, y = .tup (k.map kD) ∧ Q (.bl (!(dGet kvs k).isSome))) : WE p ρ (tDNotIn ty (tVar i)) Q := fun G σ H hh Qv kk =>
  h G σ H hh _ fun y w G1 H1 ⟨k, ey, q⟩ s1 r1 => by
    subst ey
    obtain ⟨a, vs, h1, h2, h3⟩ := dgetT_own (hh.step s1) e
    obtain ⟨b, eb, hb⟩ := key_at s1.sub r1
    refine ⟨.ref a, h1, a, valV vs k, rfl, .inr ⟨vs, k, b, .inl h2, eb, hb, rfl⟩, ?_⟩
    have z : (valV vs k).isSome = (dGet kvs k).isSome := by
      rcases h3.find k with ⟨z1, z2⟩ | ⟨v, d, z1, z2, _⟩ <;> rw [z1, z2] <;> rfl
    rw [z]
    exact kk _ _ G1 H1 q s1 (.bl _)
theorem we_dget2T {i : Nat} {kvs : List (List Key × D)} {tx : TE} (e : ρ[i]? = some (some (.ot kvs))) (h : WE p ρ ty fun y => ∃ k : List Key, y = .tup (k.map kD) ∧ WE p ρ tx fun x => Q ((dGet kvs k).getD x)) : WE p ρ (tDGet2 (tVar i) ty tx) Q := fun G σ H hh Qv kk => by
  obtain ⟨a, vs, h1, h2, h3⟩ := dgetT_own hh e
  refine ⟨.ref a, h1, a, rfl, .inr ⟨vs, .inl h2⟩, h G σ H hh _ fun y w G1 H1 ⟨k, ey, q⟩ s1 r1 => q G1 σ H1 (hh.step s1) _ fun x u G2 H2 q2 s2 r2 => ?_⟩
  subst ey
  obtain ⟨a', vs', h1', h2', h3'⟩ := dgetT_own ((hh.step s1).step s2) e
  rw [h1] at h1'
  cases h1'
  obtain ⟨b, eb, hb⟩ := key_at s2.sub (rmono r1 s2.ex)
  refine ⟨valV vs' k, .inr ⟨vs', k, b, .inl h2', eb, hb, rfl⟩, ?_⟩
  rcases h3'.find k with ⟨z1, z2⟩ | ⟨v, d, z1, z2, z3⟩
  · rw [z1]; rw [z2] at q2; exact kk _ _ G2 H2 q2 (s1.trans s2) r2
  · rw [z1]; rw [z2] at q2; exact kk _ _ G2 H2 q2 (s1.trans s2) z3
theorem ws_dputT {i : Nat} {kvs : List (List Key × D)} (e : ρ[i]? = some (some (.ot kvs))) (hl : kvs.length < 4000000) (h : WE p ρ te fun x => WE p ρ ty fun y => ∃ k : List Key, y = .tup (k.map kD) ∧ P.n (ρ.set i (some (.ot (dPut kvs k x))))) : WS p ρ (sDPut (tVar i) ty te) P := fun G σ H hh E kn kr kb kc =>
  h G σ H hh _ fun x v G1 H1 q1 s1 r1 => by
    obtain ⟨sv, h1, a, vs, h2, ow, h4, h5⟩ := (hh.step s1).slot i _ e
    subst h2
    refine ⟨.ref a, h1, q1 G1 σ H1 (hh.step s1) _ fun y w G2 H2 ⟨k, ek, z⟩ s2 r2 => ?_⟩
    subst ek
    have hh2 := (hh.step s1).step s2
    obtain ⟨sv', h1', a', vs', h2', ow', h4', h5'⟩ := hh2.slot i _ e
    subst h2'
    rw [h1] at h1'
    cases h1'
    have hz := h5'.length
    obtain ⟨b, eb, hb⟩ := key_at s2.sub r2
    refine ⟨a, _, rfl, .inr ⟨vs', k, b, h4', eb, hb, by rw [sizeLine_eq]; omega, rfl⟩, kn _ G2 σ _ z (ex_tr s1.ex s2.ex) (hh2.write e rfl h1 ow' ⟨a, _, rfl, ow', upd_same, h5'.put k (rmono r1 s2.ex)⟩)⟩

/-! ### walks over a dict that a slot owns, locked meanwhile -/
theorem Hold.lock {G : Hp} {σ : L2.St} {H : Hp} (hh : Hold p ρ G σ H) {i : Nat} {c : Cell} {a : Addr} {o : HO} (e : ρ[i]? = some (some c)) (ho : c.isOwn = true) (q : σ[i]? = some (some (.ref a))) (ow : Own p G a) (nt : NT o) :
    Hold p (ρ.set i (some (.rw a o))) G σ (upd H a o) := hh.write e ho q ow ⟨rfl, ow, upd_same, nt⟩
theorem set_set {α : Type} (l : List α) (i : Nat) (a b : α) : (l.set i a).set i b = l.set i b := by simp
/-- for k, v in d.items(): .., d slot i's own; meanwhile nothing is known of slot i -/
theorem ws_items {i : Nat} {g : TG} {kvs : List (Key × D)} (e : ρ[i]? = some (some (.ok kvs))) (I : Nat → Rho → Prop) (hl : ∀ k ρ', I k ρ' → ρ'.length = ρ.length) (h0 : I 0 (ρ.set i none))
    (hs : ∀ (k : Nat) (key : Key) (x : D) (c : Cell) (ρ' : Rho), kvs[k]? = some (key, x) → I k ρ' → WG p (ρ'.set i (some c)) g (.tup [kD key, x]) fun ρ2 => WS p ρ2 ts ⟨fun ρ3 => ρ3[i]? = some (some c) ∧ I (k + 1) (ρ3.set i none), fun _ => False, fun _ => False, fun ρ3 => ρ3[i]? = some (some c) ∧ I (k + 1) (ρ3.set i none)⟩)
    (hd : ∀ ρ', I kvs.length ρ' → P.n (ρ'.set i (some (.ok kvs)))) : WS p ρ (tLock (tFor (iItems (tVar i)) g ts)) P := fun G σ H hh E kn kr kb kc => by
  obtain ⟨sv, h1, a, vs, h2, ow, h4, h5⟩ := hh.slot i _ e
  subst h2
  refine ⟨a, .dK vs, h4, trivial, fun od => ?_⟩
  have hi : i < ρ.length := (List.getElem?_eq_some_iff.mp e).1
  refine ⟨.ref a, h1, a, od, vs, rfl, upd_same, ?_⟩
  -- the word of the walk: slot i holds the locked dict
  have key : ∀ (k : Nat) (ρ' : Rho) (G' : Hp) (σ' : L2.St) (H' : Hp), I k ρ' → Ex G G' → Hold p (ρ'.set i (some (.rw a (.frz od (.dK vs))))) G' σ' H' → H' a = some (.frz od (.dK vs)) ∧ σ'[i]? = some (some (.ref a)) ∧ Own p G' a := fun k ρ' G' σ' H' hi' ex hh' => by
    obtain ⟨sv, q1, q2, q3, q4, _⟩ := hh'.slot i (.rw a (.frz od (.dK vs))) (by rw [List.getElem?_set_self (by rw [hl k ρ' hi']; exact hi)])
    subst q2
    exact ⟨q4, q1, q3⟩
  refine ⟨fun k m σ' H' => m = vs.length - k ∧ k ≤ vs.length ∧ ∃ ρ' G', I k ρ' ∧ Ex G G' ∧ Hold p (ρ'.set i (some (.rw a (.frz od (.dK vs))))) G' σ' H', ⟨vs.length, by simp, Nat.zero_le _, ρ.set i none, G, h0, Ex.rfl', by rw [set_set]; exact hh.lock e rfl h1 ow NT.frz⟩, ?_⟩
  rintro k m σ' H' ⟨rfl, hk, ρ', G', hi', ex, hh'⟩
  obtain ⟨w1, w2, w3⟩ := key k ρ' G' σ' H' hi' ex hh'
  by_cases hlt : k < vs.length
  · refine .inr ⟨⟨w1, hlt⟩, fun σ2 H2 => ∃ ρ2 G2, I (k + 1) ρ2 ∧ Ex G G2 ∧ Hold p (ρ2.set i (some (.rw a (.frz od (.dK vs))))) G2 σ2 H2, fun σ2 H2 z => ⟨vs.length - (k + 1), by omega, rfl, hlt, z⟩, fun x H2 y => ?_⟩
    obtain ⟨T, ky, v, hx, ex1, hT, eH⟩ := y
    subst ex1 eH
    obtain ⟨d, hd1, hd2⟩ := h5.get' hx
    have s := hh'.mem.grow (o := .tup [kV ky, v]) hT
    have r : Rp p.K p.h (upd G' T (.tup [kV ky, v])) (.ref T) (.tup [kD ky, d]) := .tup upd_same (.cons rp_kD (.cons (rmono (rmono hd2 ex) s.ex) .nil))
    have back : ∀ {ρ3 : Rho}, ρ3[i]? = some (some (.rw a (.frz od (.dK vs)))) → (ρ3.set i none).set i (some (.rw a (.frz od (.dK vs)))) = ρ3 := fun {ρ3} q => by
      rw [set_set]
      refine List.ext_getElem? fun j => ?_
      by_cases hj : i = j
      · subst hj
        rw [List.getElem?_set_self (List.getElem?_eq_some_iff.mp q).1, q]
      · rw [List.getElem?_set_ne hj]
    exact hs k ky d _ ρ' hd1 hi' _ σ' _ _ (hh'.step s) r _ fun ρ2 G2 σ2 H2 z e2 hh2 => z G2 σ2 H2 hh2 _
      (fun ρ3 G3 σ3 H3 ⟨z3, z4⟩ e3 hh3 => ⟨ρ3.set i none, G3, z4, ex_tr (ex_tr ex s.ex) (ex_tr e2 e3), by rw [back z3]; exact hh3⟩)
      (fun d v G3 H3 z3 _ _ => z3.elim) (fun _ _ _ _ z3 => z3.elim)
      (fun ρ3 G3 σ3 H3 ⟨z3, z4⟩ e3 hh3 => ⟨ρ3.set i none, G3, z4, ex_tr (ex_tr ex s.ex) (ex_tr e2 e3), by rw [back z3]; exact hh3⟩)
  · have ek : k = vs.length := by omega
    subst ek
    refine .inl ⟨⟨w1, Nat.le_refl _⟩, w1, ?_⟩
    have hh2 : Hold p ((ρ'.set i (some (.rw a (.frz od (.dK vs))))).set i (some (.ok kvs))) G' σ' (upd H' a (.dK vs)) :=
      hh'.write (c := .rw a (.frz od (.dK vs))) (by rw [List.getElem?_set_self (by rw [hl _ ρ' hi']; exact hi)]) rfl w2 w3 ⟨a, vs, rfl, w3, upd_same, RpK.mono ex _ _ h5⟩
    rw [set_set] at hh2
    exact kn _ G' σ' _ (hd ρ' (by rw [← h5.length]; exact hi')) ex hh2
end
/-! ### comprehensions over a dict that a slot owns -/
section
variable {p : Par} {ρ : Rho} {Q : D → Prop} {ta tb te td ty : TE} {tt tu : TT} {P : Post} {ts tv : TS} {g : TG}
theorem we_dgetLT {i : Nat} {kvs : List (List Key × D)} (e : ρ[i]? = some (some (.lt kvs))) (h : WE p ρ ty fun y => ∃ k x, y = .tup (k.map kD) ∧ dGet kvs k = some x ∧ Q x) : WE p ρ (tDGet (tVar i) ty) Q := fun G σ H hh Qv kk => by
  obtain ⟨sv, h1, a, od, vs, h2, _⟩ := hh.slot i _ e
  subst h2
  refine ⟨.ref a, h1, h G σ H hh _ fun y w G1 H1 ⟨k, x, ey, ex, q⟩ s1 r1 => ?_⟩
  subst ey
  obtain ⟨sv', h1', a', od', vs', h2', ow', h4', h5'⟩ := (hh.step s1).slot i _ e
  subst h2'
  rw [h1] at h1'
  cases h1'
  obtain ⟨b, eb, hb⟩ := key_at s1.sub r1
  rcases h5'.find k with ⟨_, z⟩ | ⟨v, d, z1, z2, z3⟩
  · rw [ex] at z; cases z
  · rw [ex] at z2; cases z2
    exact ⟨a, v, rfl, .inr ⟨vs', k, b, .inr ⟨_, h4'⟩, eb, hb, z1.symm⟩, kk _ _ G1 H1 q s1 z3⟩
theorem we_dgetLK {i : Nat} {kvs : List (Key × D)} (e : ρ[i]? = some (some (.lk kvs))) (h : WE p ρ ty fun y => ∃ k x, y = kD k ∧ dGet kvs k = some x ∧ Q x) : WE p ρ (tDGet (tVar i) ty) Q := fun G σ H hh Qv kk => by
  obtain ⟨sv, h1, a, od, vs, h2, _⟩ := hh.slot i _ e
  subst h2
  refine ⟨.ref a, h1, h G σ H hh _ fun y w G1 H1 ⟨k, x, ey, ex, q⟩ s1 r1 => ?_⟩
  subst ey
  obtain ⟨sv', h1', a', od', vs', h2', ow', h4', h5'⟩ := (hh.step s1).slot i _ e
  subst h2'
  rw [h1] at h1'
  cases h1'
  rcases h5'.find k with ⟨_, z⟩ | ⟨v, d, z1, z2, z3⟩
  · rw [ex] at z; cases z
  · rw [ex] at z2; cases z2
    exact ⟨a, v, rfl, .inl ⟨vs', k, .inr ⟨_, h4'⟩, kD_rp r1, z1.symm⟩, kk _ _ G1 H1 q s1 z3⟩
/-- the walk over the keys of a locked dict with tuple keys, told as a new list -/
theorem lcKeysT {i : Nat} {vs : List Nat} {kvs : List (List Key × D)} {G : Hp} {σ : L2.St} {H : Hp} {Qv : VK} {a : Addr} {od : Obj} {us : List (List Key × V)} (hh : Hold p ρ G σ H) (hq : σ[i]? = some (some (.ref a))) (ha : H a = some (.frz od (.dT us))) (oa : Own p G a) (hl : RpT p.K p.h G us kvs) (hz : kvs.length ≤ 4000000)
    (I : Nat → List D → Prop) (h0 : I 0 [])
    (hs : ∀ (k : Nat) (key : List Key) (x : D) acc, kvs[k]? = some (key, x) → I k acc → acc.length ≤ k → WGp p vs (wipeR ρ vs) g (.tup (key.map kD)) fun ρ2 => WT p ρ2 tt fun b => if b = true then WE p ρ2 te fun y => I (k + 1) (acc ++ [y]) else I (k + 1) acc)
    (kk : ∀ acc Dl G' H', I kvs.length acc → Stp p G H G' H' → H Dl = none → Slot p G' H' (some (.ref Dl)) (.ol acc) → Qv (.ref Dl) H') : tLc (iKeys (tVar i)) g tt te vs σ H Qv := by
  refine ⟨.ref a, hq, a, od, rfl, .inr ⟨us, ha, fun Dl hn => ?_⟩⟩
  refine ⟨fun k m H' => m = us.length - k ∧ k ≤ us.length ∧ Lc p G H Dl I k H', ⟨us.length, by simp, Nat.zero_le _, lc_start hh hn h0⟩, ?_⟩
  rintro k m H' ⟨rfl, hk, L⟩
  have hfrz : H' a = some (.frz od (.dT us)) := by
    obtain ⟨acc, av, G', _, _, s, _⟩ := L
    exact s.base a _ oa.2.2 NT.frz.tbl ha
  by_cases hlt : k < us.length
  · refine .inr ⟨⟨hfrz, hlt⟩, Lc p G H Dl I (k + 1), fun H2 z => ⟨us.length - (k + 1), by omega, rfl, hlt, z⟩, fun x H2 y => ?_⟩
    obtain ⟨eH, ky, v, q, hx, ex, hT⟩ := y
    subst ex eH
    obtain ⟨d, hd1, hd2⟩ := hl.get' hx
    have hlen := hl.length
    exact lc_turn hh hn (by omega) L (fun G' s => by
      obtain ⟨G2, s2, hq2⟩ := Mem.learn (p := p) (hh.step s).mem hT
      exact ⟨G2, s2, .tup hq2 (rp_kDs ky)⟩) fun acc hi hle => hs k ky d acc hd1 hi hle
  · have ek : k = us.length := by omega
    subst ek
    obtain ⟨acc, av, G', hi, _, s, e, ow, r⟩ := L
    exact .inl ⟨⟨hfrz, Nat.le_refl _⟩, kk acc Dl G' H' (by rw [← hl.length]; exact hi) s hn ⟨Dl, av, rfl, ow, e, r⟩⟩
/-- y = [.. for k in d ..], d slot i's own with tuple keys -/
theorem ws_lcKeysT {i j : Nat} {vs : List Nat} {kvs : List (List Key × D)} (e : ρ[i]? = some (some (.ot kvs))) (hz : kvs.length ≤ 4000000) (I : Nat → List D → Prop) (h0 : I 0 [])
    (hs : ∀ (k : Nat) (key : List Key) (x : D) acc, kvs[k]? = some (key, x) → I k acc → acc.length ≤ k → WGp p vs (wipeR (ρ.set i (some (.lt kvs))) vs) g (.tup (key.map kD)) fun ρ2 => WT p ρ2 tt fun b => if b = true then WE p ρ2 te fun y => I (k + 1) (acc ++ [y]) else I (k + 1) acc)
    (hd : ∀ acc, I kvs.length acc → P.n (ρ.set j (some (.ol acc)))) (hij : i ≠ j) : WS p ρ (tLock (tAsg (tLc (iKeys (tVar i)) g tt te vs) (gName j))) P := fun G σ H hh E kn kr kb kc => by
  obtain ⟨sv, h1, a, us, h2, ow, h4, h5⟩ := hh.slot i _ e
  subst h2
  refine ⟨a, .dT us, h4, trivial, fun od => ?_⟩
  have hi : i < ρ.length := (List.getElem?_eq_some_iff.mp e).1
  have hh1 : Hold p (ρ.set i (some (.lt kvs))) G σ (upd H a (.frz od (.dT us))) := hh.write e rfl h1 ow ⟨a, od, us, rfl, ow, upd_same, h5⟩
  refine lcKeysT hh1 h1 upd_same ow h5 hz I h0 hs fun acc Dl G' H' hacc s hn x => ?_
  have hfr : H' a = some (.frz od (.dT us)) := s.base a _ ow.2.2 NT.frz.tbl upd_same
  refine ⟨hfr, ?_⟩
  have hh2 := hh1.setNew (i := j) s (Nil.no hn) x
  have hlt : (ρ.set i (some (.lt kvs)) : Rho)[i]? = some (some (.lt kvs)) := List.getElem?_set_self hi
  have ow2 : Own p G' a := (Own.step NT.frz ow (upd_same (H := H) (o := .frz od (.dT us))) s).1
  have hh3 : Hold p (((ρ.set i (some (.lt kvs))).set j (some (.ol acc))).set i (some (.ot kvs))) G' (σ.set j (some (.ref Dl))) (upd H' a (.dT us)) :=
    hh2.write (c := .lt kvs) (by rw [List.getElem?_set_ne (Ne.symm hij)]; exact hlt) rfl (by rw [List.getElem?_set_ne (Ne.symm hij)]; exact h1) ow2 ⟨a, us, rfl, ow2, upd_same, RpT.mono s.ex _ _ h5⟩
  have er : (((ρ.set i (some (.lt kvs))).set j (some (.ol acc))).set i (some (.ot kvs))) = ρ.set j (some (.ol acc)) := by
    rw [List.set_comm _ _ (Ne.symm hij), set_set]
    congr 1
    refine List.ext_getElem? fun m => ?_
    by_cases hm : i = m
    · subst hm
      rw [List.getElem?_set_self hi, e]
    · rw [List.getElem?_set_ne hm]
  rw [er] at hh3
  exact kn _ G' _ _ (hd acc hacc) s.ex hh3
end
end Cal
set_option Elab.async false
set_option linter.all false
set_option maxRecDepth 100000
set_option maxHeartbeats 2000000
namespace Cal
open PySem L2 PyProof.Rows
open Evl (Ex ex_l ex_t ex_rd sq_of st_of)
/-! ### isinstance -/
def tyD : D → Option String
  | .non => some "NoneType" | .bl _ => some "bool" | .int _ => some "int" | .str _ => some "str" | .tup _ => some "tuple" | .lst _ => some "list" | .dK _ => some "dict" | _ => none
section
variable {p : Par} {ρ : Rho} {Q : D → Prop} {ta tb te td ty : TE} {tt tu : TT} {P : Post} {ts tv : TS} {g : TG}
theorem tyD_x {G H : Hp} {v : V} {t : String} (e : Ex G H) : ∀ {x : D}, Rp p.K p.h G v x → tyD x = some t → TyX p.K H v (.type t)
  | .non, r, h => by cases r; cases h; exact .base .non
  | .bl b, r, h => by cases r; cases h; exact .base (.bl b)
  | .int i, r, h => by cases r; cases h; exact .base (.int i)
  | .str x, r, h => by cases r; cases h; exact .base (.str x)
  | .tup xs, r, h => by
    cases h
    obtain ⟨a, vs, ev, h1, _⟩ := r.tup_inv
    subst ev
    exact .base (.tup (e _ _ h1))
  | .lst xs, r, h => by
    cases h
    obtain ⟨a, vs, ev, h1, _⟩ := r.lst_inv
    subst ev
    exact .base (.lst (e _ _ h1))
  | .dK kvs, r, h => by
    cases h
    cases r with
    | dK q _ =>
      rcases ex_rd e q with q | ⟨o, q⟩
      · exact .base (.dK q)
      · exact .fDict q
  | .hand, _, h => by cases h
  | .dT _, _, h => by cases h
  | .raw _, _, h => by cases h
  | .ins _ _, _, h => by cases h
theorem we_isi {T : String} (h : WE p ρ te fun x => ∃ t b, tyD x = some t ∧ kitB t T = some b ∧ Q (.bl b)) : WE p ρ (tCB (rIsi p.K) (tCons te (tCons (tC (.ty T)) tNil))) Q := fun G σ H hh Qv k =>
  h G σ H hh _ fun x v G1 H1 ⟨t, b, e1, e2, q⟩ s r => ⟨v, .ty T, .type t, .type T, b, rfl, .ty T, tyD_x s.sub r e1, kit_ty e2, k _ _ G1 H1 q s (.bl _)⟩
end
theorem kb_int_int : kitB "int" "int" = some true := by decide +kernel
theorem kb_bool_int : kitB "bool" "int" = some true := by decide +kernel
theorem kb_tuple_int : kitB "tuple" "int" = some false := by decide +kernel
theorem kb_list_int : kitB "list" "int" = some false := by decide +kernel
theorem kb_str_int : kitB "str" "int" = some false := by decide +kernel
theorem kb_none_int : kitB "NoneType" "int" = some false := by decide +kernel
theorem kb_dict_int : kitB "dict" "int" = some false := by decide +kernel
theorem kb_int_bool : kitB "int" "bool" = some false := by decide +kernel
theorem kb_bool_bool : kitB "bool" "bool" = some true := by decide +kernel
theorem kb_tuple_bool : kitB "tuple" "bool" = some false := by decide +kernel
theorem kb_list_bool : kitB "list" "bool" = some false := by decide +kernel
theorem kb_str_bool : kitB "str" "bool" = some false := by decide +kernel
theorem kb_none_bool : kitB "NoneType" "bool" = some false := by decide +kernel
theorem kb_dict_bool : kitB "dict" "bool" = some false := by decide +kernel
theorem kb_int_tuple : kitB "int" "tuple" = some false := by decide +kernel
theorem kb_bool_tuple : kitB "bool" "tuple" = some false := by decide +kernel
theorem kb_tuple_tuple : kitB "tuple" "tuple" = some true := by decide +kernel
theorem kb_list_tuple : kitB "list" "tuple" = some false := by decide +kernel
theorem kb_str_tuple : kitB "str" "tuple" = some false := by decide +kernel
theorem kb_none_tuple : kitB "NoneType" "tuple" = some false := by decide +kernel
theorem kb_dict_tuple : kitB "dict" "tuple" = some false := by decide +kernel
theorem kb_int_list : kitB "int" "list" = some false := by decide +kernel
theorem kb_int_dict : kitB "int" "dict" = some false := by decide +kernel

/-! ### ints -/
theorem ix0 {α : Type} {xs : List α} {n : Nat} {x : α} (h : xs[n]? = some x) : atI xs (n : Int) = some x := by
  unfold atI ixN
  have hl : n < xs.length := (List.getElem?_eq_some_iff.mp h).1
  rw [if_pos (by omega), if_pos (by omega)]
  simpa using h
theorem atI_of {α : Type} {xs : List α} {i : Int} (h0 : 0 ≤ i) (h : i < xs.length) : ∃ x, atI xs i = some x ∧ xs[i.toNat]? = some x := by
  have hl : i.toNat < xs.length := by omega
  refine ⟨xs[i.toNat], ?_, List.getElem?_eq_getElem hl⟩
  unfold atI ixN
  rw [if_pos h0, if_pos h]
  exact List.getElem?_eq_getElem hl
/-- products of ints below 2 ^ 500000 -/
theorem mulOk {i j : Int} (hi : i.natAbs < 2 ^ 499999) (hj : j.natAbs < 2 ^ 499999) : CMulW i j := wide_mul (a := 499999) (b := 499999) hi hj (by decide) (by decide) (by decide)
theorem mulS {i j : Int} (a b : Nat) (hi : i.natAbs < 2 ^ a) (hj : j.natAbs < 2 ^ b) (h0 : 0 < a) (h1 : 0 < b) (h : a + b ≤ 1000000) : CMulW i j := wide_mul hi hj h0 h1 h
theorem big {n : Nat} {k : Nat} (h : n < 18446744073709551616) (hk : 64 ≤ k) : n < 2 ^ k := Nat.lt_of_lt_of_le (show n < 2 ^ 64 from h) (Nat.pow_le_pow_right (by decide) hk)
theorem natAbs_lt {i : Int} {n : Nat} (h1 : -(n : Int) < i) (h2 : i < n) : i.natAbs < n := by omega
/-- products of ints below 2 ^ 64 -/
theorem mul64 {i j : Int} (hi : i.natAbs < 18446744073709551616) (hj : j.natAbs < 18446744073709551616) : CMulW i j := mulS 64 64 hi hj (by decide) (by decide) (by decide)
theorem div64 {j : Int} (i : Int) (h : 0 < j) (hj : j < 18446744073709551616) : CDivW i j := by
  refine wide_div (b := 64) h ?_ (by decide) (by decide)
  have e : (2 : Nat) ^ 64 = 18446744073709551616 := by decide
  rw [e]
  omega
/-- a product: one side below 2 ^ 64, or both together not too long -/
def CMulA (i j : Int) : Prop := (-18446744073709551616 < i ∧ i < 18446744073709551616) ∨ (-18446744073709551616 < j ∧ j < 18446744073709551616) ∨ CMulW i j
def CDivA (_ j : Int) : Prop := 0 < j ∧ (j < 18446744073709551616 ∨ j.natAbs.log2 < 9000)
theorem op_mulA {X : Cx} : OpR X (binaryOp .Mult) (rI CMulA fun i j => .int (i * j)) := by
  intro pins s σ H x y v u Q I rx ry h
  obtain ⟨i, j, ex, ey, c, q⟩ := h
  have e : (2 : Int) ^ 64 = 18446744073709551616 := by decide
  rcases c with c | c | c
  · exact op_mul pins s σ H x y v u Q I rx ry ⟨i, j, ex, ey, .inl (by rw [e]; exact c), q⟩
  · exact op_mul pins s σ H x y v u Q I rx ry ⟨i, j, ex, ey, .inr (by rw [e]; exact c), q⟩
  · exact op_mulW pins s σ H x y v u Q I rx ry ⟨i, j, ex, ey, c, q⟩
theorem op_divA {X : Cx} : OpR X (binaryOp .FloorDiv) (rI CDivA fun i j => .int (i / j)) := by
  intro pins s σ H x y v u Q I rx ry h
  obtain ⟨i, j, ex, ey, ⟨c1, c2⟩, q⟩ := h
  refine op_fdivW pins s σ H x y v u Q I rx ry ⟨i, j, ex, ey, ?_, q⟩
  rcases c2 with c | c
  · exact div64 i c1 c
  · exact ⟨c1, c⟩
/-! ### the hand -/
section
variable {p : Par} {ρ : Rho} {Q : D → Prop} {ta tb te td ty : TE} {tt tu : TT} {P : Post} {ts tv : TS} {g : TG}
theorem we_hand0 (h : WE p ρ ta fun x => x = .hand ∧ ∀ ns : List Int, ns.length ≤ 63 → Q (.lst (ns.map D.int))) : WE p ρ (tOp (rIxL p.K) ta (tC (.int 0))) Q := fun G σ H hh Qv k =>
  h G σ H hh _ fun x v G1 H1 ⟨e, q⟩ s1 r1 => by
    subst e
    cases r1
    obtain ⟨ns, i, r, n, h1, h2, h3, _⟩ := s1.hand
    exact ⟨p.h.a, _, 0, .ref p.h.c, rfl, rfl, sq_of h1, rfl, k _ _ G1 H1 (q ns h3) s1 (.lst h2 (RpL.ofInts ns))⟩
theorem we_handN {j : Int} (hj : j = 1 ∨ j = 2 ∨ j = 3) (h : WE p ρ ta fun x => x = .hand ∧ ∀ i : Int, 0 ≤ i → Q (.int i)) : WE p ρ (tOp (rIxL p.K) ta (tC (.int j))) Q := fun G σ H hh Qv k =>
  h G σ H hh _ fun x v G1 H1 ⟨e, q⟩ s1 r1 => by
    subst e
    cases r1
    obtain ⟨ns, i, r, n, h1, h2, h3, h4, h5, h6⟩ := s1.hand
    rcases hj with e | e | e
    · subst e; exact ⟨p.h.a, _, 1, .int i, rfl, rfl, sq_of h1, rfl, k _ _ G1 H1 (q i h4) s1 (.int _)⟩
    · subst e; exact ⟨p.h.a, _, 2, .int r, rfl, rfl, sq_of h1, rfl, k _ _ G1 H1 (q r h5) s1 (.int _)⟩
    · subst e; exact ⟨p.h.a, _, 3, .int n, rfl, rfl, sq_of h1, rfl, k _ _ G1 H1 (q n h6) s1 (.int _)⟩
theorem Hold.handed {G : Hp} {σ : L2.St} {H H' : Hp} (hh : Hold p ρ G σ H) (hne : ∀ a, a ≠ p.h.a → H' a = H a) (hd : Hand p.K G H' p.h) : Hold p ρ G σ H' := by
  refine ⟨⟨fun b u z => ?_, hh.mem.gh, fun b u n t z => by rw [hne b n]; exact hh.mem.base b u n t z, hh.mem.g0, hh.mem.new, hd, hh.mem.gt, fun q hq => ?_⟩, hh.len, fun j c e => ?_, hh.sep⟩
  · rw [hne b (fun y => by rw [y, hh.mem.gh] at z; cases z)]; exact hh.mem.sub b u z
  · obtain ⟨xs, hx⟩ := hh.mem.hand.some
    have ne : ∀ {b : Addr} {u : HO}, H b = some u → (∀ ys, u ≠ .lst ys) → H' b = some u := fun {b u} e t => by
      rw [hne b (fun z => by rw [z, hx] at e; exact t xs (Option.some.inj e).symm)]
      exact e
    obtain ⟨ps, h1, h2, h3⟩ := hh.mem.tab q hq
    refine ⟨ps, ne h1 (fun ys z => by cases z), h2, fun pos cv hc => ?_⟩
    obtain ⟨c, e1, e2⟩ := h3 pos cv hc
    exact ⟨c, e1, ne e2 (fun ys z => by unfold LamX.CodeO at z; cases z)⟩
  · obtain ⟨sv, h1, h2⟩ := hh.slot j c e
    refine ⟨sv, h1, ?_⟩
    cases c with
    | d x => exact h2
    | ol xs => obtain ⟨b, vs, h3, h4, h5, h6⟩ := h2; exact ⟨b, vs, h3, h4, by rw [hne b h4.2.2]; exact h5, h6⟩
    | ok xs => obtain ⟨b, vs, h3, h4, h5, h6⟩ := h2; exact ⟨b, vs, h3, h4, by rw [hne b h4.2.2]; exact h5, h6⟩
    | ot xs => obtain ⟨b, vs, h3, h4, h5, h6⟩ := h2; exact ⟨b, vs, h3, h4, by rw [hne b h4.2.2]; exact h5, h6⟩
    | rw b u => obtain ⟨h3, h4, h5, h6⟩ := h2; exact ⟨h3, h4, by rw [hne b h4.2.2]; exact h5, h6⟩
    | lk xs => obtain ⟨b, od, vs, h3, h4, h5, h6⟩ := h2; exact ⟨b, od, vs, h3, h4, by rw [hne b h4.2.2]; exact h5, h6⟩
    | lt xs => obtain ⟨b, od, vs, h3, h4, h5, h6⟩ := h2; exact ⟨b, od, vs, h3, h4, by rw [hne b h4.2.2]; exact h5, h6⟩
    | oi _ C xs => obtain ⟨b, od, vs, h3, h4, h5, h6⟩ := h2; exact ⟨b, od, vs, h3, h4, by rw [hne b h4.2.2]; exact h5, h6⟩
theorem ws_handN {j : Int} (hj : j = 1 ∨ j = 2 ∨ j = 3) (h : WE p ρ te fun y => ∃ i, y = .int i ∧ 0 ≤ i ∧ WE p ρ ta fun x => x = .hand ∧ P.n ρ) : WS p ρ (tAsg te (gSub ta (tC (.int j)) rSetL)) P := fun G σ H hh E kn kr kb kc =>
  h G σ H hh _ fun y w G1 H1 ⟨z, e, hz, q⟩ s1 r1 => q G1 σ H1 (hh.step s1) _ fun x v G2 H2 ⟨e2, q2⟩ s2 r2 => by
    subst e e2
    cases r1
    cases r2
    have hh2 := (hh.step s1).step s2
    obtain ⟨ns, i, r, n, h1, h2, h3, h4, h5, h6⟩ := s2.hand
    have go : ∀ (jn : Nat) (xs' : List V), Hand p.K G2 (upd H2 p.h.a (.lst xs')) p.h → E.nx σ (upd H2 p.h.a (.lst xs')) := fun jn xs' hd =>
      kn ρ G2 σ _ q2 (ex_tr s1.ex s2.ex) (hh2.handed (fun a ha => upd_ne ha) hd)
    rcases hj with e | e | e
    · subst e
      exact ⟨p.h.a, _, 1, 1, rfl, rfl, h1, rfl, go 1 _ ⟨ns, z, r, n, upd_same, h2, h3, hz, h5, h6⟩⟩
    · subst e
      exact ⟨p.h.a, _, 2, 2, rfl, rfl, h1, rfl, go 2 _ ⟨ns, i, z, n, upd_same, h2, h3, h4, hz, h6⟩⟩
    · subst e
      exact ⟨p.h.a, _, 3, 3, rfl, rfl, h1, rfl, go 3 _ ⟨ns, i, r, z, upd_same, h2, h3, h4, h5, hz⟩⟩
end
/-! ### chains, truth -/
section
variable {p : Par} {ρ : Rho} {Q : D → Prop} {ta tb tc te td ty : TE} {tt tu : TT} {P : Post} {ts tv : TS} {g : TG}
theorem we_chain {f f' : Int → Int → Bool} (h : WE p ρ ta fun x => ∃ i, x = .int i ∧ WE p ρ tb fun y => ∃ j, y = .int j ∧ (f i j = true → WE p ρ tc fun z => ∃ k, z = .int k ∧ Q (.bl (f' j k))) ∧ (f i j = false → Q (.bl false))) :
    WE p ρ (tChain (rI0 fun i j => .bl (f i j)) (rI0 fun i j => .bl (f' i j)) ta tb tc) Q := fun G σ H hh Qv k =>
  h G σ H hh _ fun x v G1 H1 ⟨i, e1, h2⟩ s1 r1 => h2 G1 σ H1 (hh.step s1) _ fun y w G2 H2 ⟨j, e2, q1, q2⟩ s2 r2 => by
    subst e1 e2
    refine ⟨i, j, rp_int r1, rp_int r2, f i j, rfl, ?_⟩
    cases hb : f i j with
    | false => rw [if_neg (by decide)]; exact k _ _ G2 H2 (q2 hb) (s1.trans s2) (.bl _)
    | true =>
      rw [if_pos rfl]
      refine q1 hb G2 σ H2 ((hh.step s1).step s2) _ fun z u G3 H3 ⟨l, e3, q⟩ s3 r3 => ?_
      subst e3
      exact ⟨j, l, rp_int r2, rp_int r3, k _ _ G3 H3 q ((s1.trans s2).trans s3) (.bl _)⟩
end
/-! ### kinds -/
def isIB : D → Bool | .int _ => true | .bl _ => true | _ => false
def isBl : D → Bool | .bl _ => true | _ => false
def isI : D → Bool | .int _ => true | _ => false
def isTu : D → Bool | .tup _ => true | _ => false
def isLs : D → Bool | .lst _ => true | _ => false
theorem kb_int : ∀ {x : D} {t : String}, tyD x = some t → kitB t "int" = some (isIB x)
  | .non, _, h => by cases h; exact kb_none_int
  | .bl _, _, h => by cases h; exact kb_bool_int
  | .int _, _, h => by cases h; exact kb_int_int
  | .str _, _, h => by cases h; exact kb_str_int
  | .tup _, _, h => by cases h; exact kb_tuple_int
  | .lst _, _, h => by cases h; exact kb_list_int
  | .dK _, _, h => by cases h; exact kb_dict_int
  | .hand, _, h => by cases h
  | .dT _, _, h => by cases h
  | .raw _, _, h => by cases h
  | .ins _ _, _, h => by cases h
theorem kb_bool : ∀ {x : D} {t : String}, tyD x = some t → kitB t "bool" = some (isBl x)
  | .non, _, h => by cases h; exact kb_none_bool
  | .bl _, _, h => by cases h; exact kb_bool_bool
  | .int _, _, h => by cases h; exact kb_int_bool
  | .str _, _, h => by cases h; exact kb_str_bool
  | .tup _, _, h => by cases h; exact kb_tuple_bool
  | .lst _, _, h => by cases h; exact kb_list_bool
  | .dK _, _, h => by cases h; exact kb_dict_bool
  | .hand, _, h => by cases h
  | .dT _, _, h => by cases h
  | .raw _, _, h => by cases h
  | .ins _ _, _, h => by cases h
theorem kb_tuple : ∀ {x : D} {t : String}, tyD x = some t → kitB t "tuple" = some (isTu x)
  | .non, _, h => by cases h; exact kb_none_tuple
  | .bl _, _, h => by cases h; exact kb_bool_tuple
  | .int _, _, h => by cases h; exact kb_int_tuple
  | .str _, _, h => by cases h; exact kb_str_tuple
  | .tup _, _, h => by cases h; exact kb_tuple_tuple
  | .lst _, _, h => by cases h; exact kb_list_tuple
  | .dK _, _, h => by cases h; exact kb_dict_tuple
  | .hand, _, h => by cases h
  | .dT _, _, h => by cases h
  | .raw _, _, h => by cases h
  | .ins _ _, _, h => by cases h
/-! ### more built-ins -/
section
variable {p : Par} {ρ : Rho} {Q : D → Prop} {ta tb tc te td ty : TE} {tt tu : TT} {P : Post} {ts tv : TS} {g : TG}
theorem we_isiT {A B : String} (h : WE p ρ te fun x => ∃ t a b, tyD x = some t ∧ kitB t A = some a ∧ kitB t B = some b ∧ Q (.bl (a || b))) : WE p ρ (tCB (rIsiT p.K) (tCons te (tCons (tTup (tCons (tC (.ty A)) (tCons (tC (.ty B)) tNil))) tNil))) Q := fun G σ H hh Qv k =>
  h G σ H hh _ fun x v G1 H1 ⟨t, a, b, e1, e2, e3, q⟩ s r => ⟨sz (Nat.le_of_ble_eq_true rfl), fun tp hp => by
    have s2 := (hh.step s).mem.grow (o := .tup [.ty A, .ty B]) hp
    refine ⟨v, tp, [.ty A, .ty B], .type t, [.type A, .type B], a || b, rfl, upd_same, .cons (.ty A) (.cons (.ty B) .nil), tyD_x s2.sub (rmono r s2.ex) e1, ?_, k _ _ _ _ q (s.trans s2) (.bl _)⟩
    refine kitAny_cons (kit_ty e2) (fun ha => ?_) (fun ha => by rw [ha]; rfl)
    rw [ha]
    refine kitAny_cons (kit_ty e3) (fun hb => ?_) (fun hb => by rw [hb]; rfl)
    rw [hb]
    exact kitAny_nil⟩
theorem we_eqB (h : WE p ρ ta fun x => ∃ i, x = .bl i ∧ WE p ρ tb fun y => ∃ j, y = .bl j ∧ Q (.bl (i == j))) : WE p ρ (tOp rEq ta tb) Q :=
  we_op (h.imp fun x ⟨i, e, h⟩ => h.imp fun y ⟨j, e2, q⟩ => fun G H v w m r1 r2 Qv k => by
    subst e e2
    rw [rp_bl r1, rp_bl r2]
    refine ⟨rfl, ?_⟩
    rw [dec_bl]
    exact k _ _ G H q m.refl (.bl _))
theorem we_sum (h : WE p ρ te fun x => ∃ ns : List Int, x = .lst (ns.map D.int) ∧ Q (.int ns.sum)) : WE p ρ (tCB (rSum p.K) (tCons te tNil)) Q :=
  we_cb (wa_cons (h.imp fun x ⟨ns, e, q⟩ => wa_nil fun G H vs m r Qv k => by
    subst e
    cases r with
    | cons r rn =>
      cases rn
      obtain ⟨a, us, ev, hs, hl⟩ := r.lst_inv
      subst ev
      rw [hl.ints] at hs
      exact ⟨a, ns, rfl, lq m.sub hs, k _ _ G H q m.refl (.int _)⟩))
end
/-! ### the law's own start -/
/-- a def by a promise of its own -/
structure DfnR (P : Program) (w : World) (K : PySem.W.Frag) (mg : Str → Option Value) (base : Heap) (k : Nat) (x : Str) (ps : List Str) (sp : Sp) : Prop where
  ex : ∃ f fd, mg x = some (.ref f) ∧ PySem.W.keepIn K (.ref f) = true ∧ FnOk P w K mg base CX0 k f fd ps sp ∧ Binds K fd ps []
section
variable {X : Cx} {x : Str} {p pos : Pos} {e : Expr} {es : List Expr} {t : TA} {k : Nat} {ps : List Str} {sp : Sp}
theorem pe_callR (F : DfnR X.prog X.w X.K X.mg X.base k x ps sp) (hr : Room k X.A) (ha : PA X (e :: es) t) (hg : Gl X x := by rfl) (hdb : (x == ("__debug__" : Str)) = false := by decide)
    (he : starEach (e :: es) X.env = (false, eval e X.env) :: starEach es X.env := by rfl) (hpl : (backTo pos (starEach es X.env)).any (·.1) = false := by rfl) : PE X (.Call (.Name x p) (e :: es) [] pos) (tCall sp [] E0 t) := by
  obtain ⟨f, fd, h1, h2, h3, h4⟩ := F.ex
  exact pe_call h3 hr hg h1 h2 h4 .nil pass0 ha hdb he hpl
end
section
variable {P : Program} {w : World} {K : PySem.W.Frag} {mg : Str → Option Value} {base : Heap}
theorem mkR {x : Str} {st : Stmt} {N ps : List Str} {k : Nat} {sp : Sp} (F : Src K mg x st) (sc : FnScope N ps (defScope st))
    (hb : ∀ (kV doc pm : Value) (an : Option Addr) (cdv ct : Value) (us : List Value), us.length = ps.length → bindArgs (PySem.W.fnOf x x (defArgs st) (defBody st) (defScope st) .none kV doc pm an cdv ct) ⟨us, []⟩ = pure (ps.zip us))
    (len : ∀ vs H Q E, sp vs H Q E → vs.length = ps.length)
    (body : ∀ (f : Addr) (cdv : Value) (A : Around) (outer : List Env) (s : Shared) (H : Hp) (E : XK), Room k (A.deeper (envOfC x (defScope st) s.heap.objs.size f cdv)) →
      ∃ t, PSs (cxOf CX0 P w K mg base N x (defScope st) f cdv A outer s H E).nox (defBody st) t ∧ ∀ vs Q, sp vs H Q E → t { nx := fun _ H' => Q .non H', rt := Q } (L2.start N vs) H) : DfnR P w K mg base (k + 1) x ps sp := by
  obtain ⟨f, fd, hm, F⟩ := F.ex
  refine ⟨f, fd, hm, F.kp, F.ok sc len (fun cdv A outer s H vs Q E hr h => ?_), F.binds hb⟩
  obtain ⟨t, ht, hw⟩ := body f cdv A outer s H E hr
  exact ⟨t, ht, hw vs Q h⟩
end
/-- _law_hand's promise -/
def spHand (K : PySem.W.Frag) : Sp := fun vs H Q _ => ∃ (a : Addr) (ns : List Int), vs = [.ref a] ∧ SqL K H a (ns.map V.int) ∧ ns.length ≤ 63 ∧
  ∀ (h c : Addr) (H' : Hp), Ex H H' → h ≠ c → H' h = some (.lst [.ref c, .int 0, .int 0, .int 0]) → H' c = some (.lst (ns.map V.int)) → Q (.ref h) H'
def spLaw (K : PySem.W.Frag) : Sp := fun vs H Q _ => ∃ (a : Addr) (ns : List Int), vs = [.ref a] ∧ SqL K H a (ns.map V.int) ∧ ns.length ≤ 63 ∧ ∀ H', Q (.bl true) H'
def lawP : Post := ⟨fun _ => False, fun d => d = .bl true, fun _ => False, fun _ => False⟩
theorem law_go {K : PySem.W.Frag} {H : Hp} {h c : Addr} {T : List (Addr × Str)} {ns : List Int} {σ : L2.St} {ts : TS} {E : Ends} (ρ : Rho) (hne : h ≠ c) (hl : ns.length ≤ 63) (hh : H h = some (.lst [.ref c, .int 0, .int 0, .int 0])) (hc : H c = some (.lst (ns.map V.int)))
    (len : σ.length = ρ.length) (hρ : ∀ (i : Nat) (x : Cell), ρ[i]? = some (some x) → x = .d .hand ∧ σ[i]? = some (some (.ref h))) (hw : ∀ H0 G0, WS ⟨K, ⟨h, c, T⟩, H0, G0⟩ ρ ts lawP) (hE : ∀ H', E.rt (.bl true) H') (hT : LamX.Tabs T H) : ts E σ H := by
  let G : Hp := fun a => if a = h then none else match H a with
    | some (.tbl _) => none
    | o => o
  have hG : ∀ a o, G a = some o → H a = some o ∧ a ≠ h ∧ ∀ ps, o ≠ .tbl ps := fun a o e => by
    by_cases ha : a = h
    · have : G a = none := if_pos ha
      rw [this] at e; cases e
    · have : G a = match H a with
          | some (.tbl _) => none
          | o => o := if_neg ha
      rw [this] at e
      split at e
      · cases e
      · rename_i x
        exact ⟨e, ha, fun ps z => by subst z; exact x _ e⟩
  have hGc : G c = some (.lst (ns.map V.int)) := by
    have : G c = match H c with
          | some (.tbl _) => none
          | o => o := if_neg (Ne.symm hne)
    rw [this, hc]
  have m : Mem ⟨K, ⟨h, c, T⟩, H, G⟩ G H := ⟨fun a o e => (hG a o e).1, if_pos rfl, fun _ _ _ _ e => e, fun _ _ e => e, fun _ _ e => .inl e, ⟨ns, 0, 0, 0, hh, hGc, hl, by omega, by omega, by omega⟩, fun a ps e => (hG a _ e).2.2 ps rfl, hT⟩
  refine hw H G G σ H ⟨m, len, fun i x e => ?_, fun i j x x' a e1 o1 e2 o2 _ _ => ?_⟩ E (fun _ _ _ _ z => z.elim) (fun d v G' H' z _ r => ?_) (fun _ _ _ _ z => z.elim) fun _ _ _ _ z => z.elim
  · obtain ⟨rfl, q⟩ := hρ i x e
    exact ⟨_, q, _, rfl, .hand⟩
  · obtain ⟨rfl, _⟩ := hρ i x e1
    cases o1
  · have z' : d = .bl true := z
    subst z'
    rw [rp_bl r]
    exact hE H'
/-- behind a statement what slot i owns is plain data -/
theorem ws_endfreeze {p : Par} {ρ : Rho} {ts : TS} {P : Post} (i : Nat) (h : WS p ρ ts { P with n := fun ρ' => ∃ c, ρ'[i]? = some (some c) ∧ c.isOwn = true ∧ P.n (ρ'.set i (some (.d c.toD))) }) : WS p ρ ts P := fun G σ H hh E kn kr kb kc =>
  h G σ H hh E (fun ρ' G' σ' H' ⟨c, e, ho, z⟩ ex hh' => by
    obtain ⟨sv, h1, h2⟩ := hh'.slot i _ e
    obtain ⟨a, u, h3, _, _⟩ := Cell.own_ref h2 ho
    subst h3
    obtain ⟨o, ha, ow, r⟩ := h2.toD ho
    obtain ⟨hh2, ex2⟩ := hh'.freeze e ho h1 ow ha r
    exact kn _ _ σ' H' z (ex_tr ex ex2) hh2) kr kb kc
theorem law_go1T {K : PySem.W.Frag} {H : Hp} {h c a : Addr} {T : List (Addr × Str)} {ns : List Int} {ts : TS} {E : Ends} (k : Nat) (hne : h ≠ c) (hl : ns.length ≤ 63) (hh : H h = some (.lst [.ref c, .int 0, .int 0, .int 0])) (hc : H c = some (.lst (ns.map V.int)))
    (hw : ∀ H0 G0, WS ⟨K, ⟨h, c, T⟩, H0, G0⟩ (none :: some (.d .hand) :: List.replicate k none) ts lawP) (hE : ∀ H', E.rt (.bl true) H') (hT : LamX.Tabs T H) : ts E (some (.ref a) :: some (.ref h) :: List.replicate k none) H := by
  refine law_go (none :: some (.d .hand) :: List.replicate k none) hne hl hh hc (by simp) (fun i x e => ?_) hw hE hT
  match i, e with
  | 0, e => simp at e
  | 1, e =>
    simp only [List.getElem?_cons_succ, List.getElem?_cons_zero, Option.some.injEq] at e
    subst e
    exact ⟨rfl, rfl⟩
  | i + 2, e =>
    simp only [List.getElem?_cons_succ, List.getElem?_replicate] at e
    split at e <;> cases e
theorem law_go1 {K : PySem.W.Frag} {H : Hp} {h c a : Addr} {ns : List Int} {ts : TS} {E : Ends} (k : Nat) (hne : h ≠ c) (hl : ns.length ≤ 63) (hh : H h = some (.lst [.ref c, .int 0, .int 0, .int 0])) (hc : H c = some (.lst (ns.map V.int)))
    (hw : ∀ H0 G0, WS ⟨K, ⟨h, c, []⟩, H0, G0⟩ (none :: some (.d .hand) :: List.replicate k none) ts lawP) (hE : ∀ H', E.rt (.bl true) H') : ts E (some (.ref a) :: some (.ref h) :: List.replicate k none) H :=
  law_go1T (T := []) k hne hl hh hc hw hE (fun _ z => nomatch z)
/-! ### the rules with the written part by its name -/
section
variable {X : Cx} {K0 : PySem.W.Frag}
theorem ix_tupK (hK : X.K = K0) : IxR X (rIxT K0) := hK ▸ ix_tup
theorem ix_listK (hK : X.K = K0) : IxR X (rIxL K0) := hK ▸ ix_list
theorem sl_tupK (hK : X.K = K0) : SlR X (rSlA K0) := hK ▸ sl_tupA
theorem sl_listK (hK : X.K = K0) : SlR X (rSlL K0) := hK ▸ sl_list
theorem op_catK (hK : X.K = K0) : OpR X (binaryOp .Add) (rCatA K0) := hK ▸ op_catA
theorem op_eqK (hK : X.K = K0) (hu : X.A.units + 64 < cLine) : OpR X (compareOp .Eq) (rEqD K0) := hK ▸ op_eqD hu
theorem op_neK (hK : X.K = K0) (hu : X.A.units + 64 < cLine) : OpR X (compareOp .NotEq) (rNeD K0) := hK ▸ op_neD hu
theorem call_lenK (hK : X.K = K0) : CallR X (.builtin "len") (fun xs H Q => ∃ q ys, xs = [V.ref q] ∧ (SqL K0 H q ys ∨ SqT K0 H q ys) ∧ Q (.int ys.length) H) := hK ▸ call_len_seq
theorem call_tupleK (hK : X.K = K0) : CallR X (.type "tuple") (fun xs H Q => ∃ q ys, xs = [V.ref q] ∧ ((SqL K0 H q ys ∧ ∀ l, H l = none → Q (.ref l) (upd H l (.tup ys))) ∨ (SqT K0 H q ys ∧ Q (.ref q) H))) := hK ▸ call_tuple_of
theorem call_listK (hK : X.K = K0) : CallR X (.type "list") (fun xs H Q => ∃ q ys, xs = [V.ref q] ∧ (SqL K0 H q ys ∨ SqT K0 H q ys) ∧ ∀ l, H l = none → Q (.ref l) (upd H l (.lst ys))) := hK ▸ call_list_of
theorem call_isiK0 (hK : X.K = K0) : CallR X (.builtin "isinstance") (rIsi K0) := hK ▸ call_isi
theorem call_isiTK (hK : X.K = K0) : CallR X (.builtin "isinstance") (rIsiT K0) := hK ▸ call_isiT
theorem cr_sumK (hK : X.K = K0) (hc : X.calm = true) : CallR X (.builtin "sum") (rSum K0) := hK ▸ cr_sum hc
variable {x : Str} {p pos : Pos} {e : Expr} {es : List Expr} {t : TA} {k : Nat} {ps : List Str} {S : List D → (D → Prop) → Prop}
theorem pe_callK0 (hK : X.K = K0) (F : Dfn X.prog X.w K0 X.mg X.base k x ps S) (hr : Room k X.A) (ha : PA X (e :: es) t) (hg : Gl X x := by rfl) (hdb : (x == ("__debug__" : Str)) = false := by decide)
    (he : starEach (e :: es) X.env = (false, eval e X.env) :: starEach es X.env := by rfl) (hpl : (backTo pos (starEach es X.env)).any (·.1) = false := by rfl) : PE X (.Call (.Name x p) (e :: es) [] pos) (tCall (spD K0 S) [] E0 t) := by
  subst hK
  exact pe_callD F hr ha hg hdb he hpl
theorem pe_call00 (hK : X.K = K0) (F : Dfn X.prog X.w K0 X.mg X.base k x ps S) (hr : Room k X.A) (hg : Gl X x := by rfl) (hdb : (x == ("__debug__" : Str)) = false := by decide) : PE X (.Call (.Name x p) [] [] pos) (tCall (spD K0 S) [] E0 tNil) := by
  subst hK
  exact pe_call0D F hr hg hdb
variable {tg l : Expr} {tl : TE}
theorem pi_listK (hK : X.K = K0) (hl : PE X l tl) : PI X tg l (iList K0 tl) := by subst hK; exact pi_list hl
theorem pi_tupK (hK : X.K = K0) (hl : PE X l tl) : PI X tg l (iTup K0 tl) := by subst hK; exact pi_tup hl
end
end Cal
set_option Elab.async false
set_option linter.all false
set_option maxRecDepth 100000
set_option maxHeartbeats 4000000
namespace Cal
open PySem L2 PyProof.Rows
section
variable {X : Cx} {x : Str} {C : Addr} {e : Expr} {es : List Expr} {ta : TA} {te : TE} {p p1 p2 pos : Pos}
/-- C.__init__(e, ..) of a class of the program that has ValueError's own __init__ -/
theorem pe_cinit {pl : Sem Bool} (hm : X.mg x = some (.ref C)) (hga : PySem.W.specialIn X.K (.ref C) "__getattribute__" = some (some (.builtin "type.__getattribute__"))) (hr : PySem.W.readsIn X.K C (.type "type") = true)
    (hv : PySem.W.findCls X.K (.ref C) (.type "type") "__init__" = some (.val (.builtin "ValueError.__init__"))) (ha : PA X (e :: es) ta) (hg : Gl X x := by rfl) (hdb : (x == ("__debug__" : Str)) = false := by decide)
    (hc : eval (.Call (.Attribute (.Name x p1) "__init__" p2) (e :: es) [] pos) X.env = (do let ov ← eval (.Name x p1) X.env; standAt p2.atName; let (f, first) ← holding [ov] (getMethod ov "__init__" pl); callWith pos f first (backTo pos (starEach (e :: es) X.env)) (backToKw pos (keywordEach [] X.env))) := by rfl)
    (he : starEach (e :: es) X.env = (false, eval e X.env) :: starEach es X.env := by rfl) (hpl : (backTo pos (starEach es X.env)).any (·.1) = false := by rfl) : PE X (.Call (.Attribute (.Name x p1) "__init__" p2) (e :: es) [] pos) (tVeI X.K ta) := by
  refine ⟨fun pins s σ H Q I h => PySem.W.methodCall_KW (ld_glob I hg hm ?_ hdb) hc⟩
  refine PySem.W.method_cls I.kIn hga (PySem.W.cls_value I.kIn hr hv rfl ?_)
  show wpAny _ _ (callWith pos (Value.builtin "ValueError.__init__") [] (backTo pos (starEach (e :: es) X.env)) []) _ _ _
  refine PyProof.Rows.callWith_method1 (thn (ha.run pos pins _ σ H _ ((I.tok _).tok _) h) fun us s1 hh => ?_) he hpl
  obtain ⟨vs, H1, I1, r1, a, C', ws, ev, hl, T, ea, q⟩ := hh
  subst ev
  cases r1 with
  | @cons _ u0 _ ur ra rw' =>
    have eu : u0 = Value.ref a := ra
    subst eu
    exact oinit_ok T I1 ea (by rw [← Paired.length rw', sizeLine_eq]; omega) fun s' J => ⟨.non, H1, J, rfl, q⟩

/-- behind C(): the exception, that has no dict, is let go -/
theorem mk_endN {X : Cx} {pins : List (Addr × Obj)} {σ : L2.St} {H1 H2 : Hp} {Q : XK} {hp hp2 h2 : Heap} {g1 g2 : Array GenState} {d1 d2 : Drawn} {t1 t2 : Nat} {os1 os2 : OsState} {a C : Addr} (T : Raises X (.ref C)) (I1 : Inv X pins σ H1 ⟨hp, g1, d1, t1, os1⟩)
    (ha : hp.objs.size ≤ a) (k : ∀ b o, hp.get? b = some o → hp2.get? b = some o) (un : Un (frs X.stack) [] (upd H1 a (exo a C none)) H2 hp2 h2) (hok : HOk X.prog X.w H2 h2) (ho : os2 = os1) (hb : AllBare g2) (ea : H2 a = some (exo a C none)) (q : Q (.ref C) none (del H2 a)) :
    MkP X pins σ Q (.ref a) ⟨h2, g2, d2, t2, os2⟩ := by
  obtain ⟨t0, hoe⟩ := exo_at hok ea
  have hn : H1 a = none := I1.hok.fresh ha
  obtain ⟨G, gk0, ge0⟩ := restrict h2 fun b => decide (b ≠ a)
  have gk : ∀ b, b ≠ a → G.get? b = h2.get? b := fun b hb' => gk0 b (decide_eq_true hb')
  have ge : G.get? a = none := ge0 a (by simp)
  have nha : ∀ {b : Addr} {o : Obj}, hp.get? b = some o → b ≠ a := fun {b o} z => Nat.ne_of_lt (Nat.lt_of_lt_of_le (Heap.lt_size z) ha)
  have up : ∀ {b : Addr}, b ≠ a → H1 b = none → upd H1 a (exo a C none) b = none := fun {b} hb' n => (upd_ne hb').trans n
  have U : Un (frs X.stack) [] H1 (del H2 a) hp G := by
    constructor
    · intro b o z n hf hx; rw [gk b (nha z)]; exact un.keep b o (k b o z) (up (nha z) n) hf hx
    · intro b o z n hf hx; rw [gk b (nha z)]; exact un.slot b o (k b o z) (up (nha z) n) hf hx
    · intro b o z n hx; rw [del_ne (nha z)]; exact un.free b o (k b o z) (up (nha z) n) hx
    · intro b o z hx; rw [gk b (nha z)]; exact un.there b o (k b o z) hx
    · intro b xs z; rw [del_ne (ne_of_none z hn)]; exact un.tups b xs ((upd_ne (ne_of_none z hn)).trans z)
    · intro b o v z; rw [del_ne (ne_of_none z hn)]; exact un.frzs b o v ((upd_ne (ne_of_none z hn)).trans z)
    · intro b ps z; rw [del_ne (ne_of_none z hn)]; exact un.tbls b ps ((upd_ne (ne_of_none z hn)).trans z)
  have hok3 : HOk X.prog X.w (del H2 a) G := by
    intro b o z
    have hba : b ≠ a := fun e' => by rw [e', del_same] at z; cases z
    rw [del_ne hba] at z
    have noa : ∀ {c : Addr}, H2 c = some (.own b) → c ≠ a := fun {c} hc => at_ne ea hc exo_own
    refine (hok b o z).stay (fun c v hc y => ?_) (fun c hc => (del_ne (noa hc)).trans hc) fun c xs hc => (del_ne (at_ne ea hc exo_tup)).trans hc
    have hca : c ≠ a := by rcases hc with rfl | hc <;> first | exact hba | exact noa hc
    rw [gk c hca]; exact y
  have J : Inv X pins σ (del H2 a) ⟨G, g2, d2, t2, os2⟩ := I1.call' (ch := []) ho U hok3 hb fun b z => absurd z (by simp)
  refine ⟨a, _, _, ⟨G, g2, d2, t2, os2⟩, _, .ref C, none, rfl, J, fun b o z => ?_, ge, hoe, ⟨rfl, rfl⟩, rfl, rfl, del_same, rfl, hb, T, q⟩
  by_cases hba : b = a
  · rw [hba, ge] at z; cases z
  · exact (gk b hba).symm.trans z
/-- C() of an own exception class whose __init__ keeps nothing -/
def tMk0 (C : Addr) (sp : Sp) : L2.St → Hp → XK → Prop := fun _ H Q => ∀ a, H a = none → sp [.ref a] (upd H a (exo a C none)) (fun v H2 => v = .non ∧ H2 a = some (exo a C none) ∧ Q (.ref C) none (del H2 a)) E0
theorem pmk_oe0 {CX : CXT} {fI : Addr} {k : Nat} {fd : FuncData} {ps : List Str} {sp : Sp} (T : OexC X.K C) (iC : PySem.W.findIn X.K (.ref C) "__init__" = some (some (.ref fI))) (tI : PySem.W.typeIn X.K (.ref fI) = some (.type "function"))
    (F1 : FnOk X.prog X.w X.K X.mg X.base CX k fI fd ps sp) (hr : Room (k + 1) X.A) (hb : Binds X.K fd ps []) (hx : Passes CX X E0) (hm : X.mg x = some (.ref C)) (hg : Gl X x := by rfl) (hdb : (x == ("__debug__" : Str)) = false := by decide) :
    PMk X (.Call (.Name x p) [] [] pos) (tMk0 C sp) := by
  intro pins s σ H Q I h
  obtain ⟨nm, q, N, bs, bm, sn, sub, ab, col, dd, k0, k1, k2, k3, k5, hC, hbm⟩ := T.cls
  refine wpAny_Call_Name_kw (ld_glob I hg hm ?_ hdb)
  refine PySem.W.callWith_K0 I.kIn T.kC ?_
  show wpAny _ _ (call (.ref C) []) _ _ _
  obtain ⟨hp, g, dr, tk, os⟩ := s
  have hsz : hp.objs.size ≤ hp.objs.size + 1 := Nat.le_succ _
  have hq := h (hp.objs.size + 1) (I.hok.fresh hsz)
  have kk : ∀ b o, hp.get? b = some o → ((hp.push (PySem.W.kdv_tup [])).push (PySem.HandSPX.excO C hp.objs.size)).get? b = some o := fun b o e' => Heap.get?_push_of_some _ (Heap.get?_push_of_some _ e')
  have hget : ((hp.push (PySem.W.kdv_tup [])).push (PySem.HandSPX.excO C hp.objs.size)).get? (hp.objs.size + 1) = some (PySem.HandSPX.excO C hp.objs.size) := by heap_get
  have I2 : Inv X pins σ (upd H (hp.objs.size + 1) (exo (hp.objs.size + 1) C none)) ⟨(hp.push (PySem.W.kdv_tup [])).push (PySem.HandSPX.excO C hp.objs.size), g, dr, tk, os⟩ := I.laid (t' := tk) kk hsz (exo_ok hget)
  have r2 : Vals [V.ref (hp.objs.size + 1)] [Value.ref (hp.objs.size + 1)] := .cons rfl .nil
  have hl : ([Value.ref (hp.objs.size + 1)] ++ []).length = ps.length := (F1.len _ _ _ _ hq)
  refine wpAny_call (PySem.HandSPX.call_own F.excBase_ValueError (fun Y => PySem.HandSPX.refsVE_contains Y bm hbm) (I.kIn _ _ hC) (PySem.W.looks_findIn I.kIn iC) (fun self => PySem.W.bind_fn I.kIn self tI) (Nat.zero_le _)
    (codeAny_mono (F1.run _ X.stack _ _ ⟨[Value.ref (hp.objs.size + 1)], []⟩ [Value.ref (hp.objs.size + 1)] _ _ E0 (hr.make C [] []) (I2.env0.make C [] []) (hb _ [Value.ref (hp.objs.size + 1)] I2.kIn hl) r2 hq) fun r s' hq' => ?_))
  cases r with
  | error er => exact hx pins σ _ _ er s' I2 hq'
  | ok fl =>
    cases fl with
    | ret u =>
      obtain ⟨v, H2, os2, bare2, un2, hok2, rv, ev, ea, q2⟩ := hq'
      subst ev
      obtain ⟨h2, g2, d2, t2, os'⟩ := s'
      exact ⟨rv, mk_endN (raises_own T.exC T.tyC) I hsz kk un2 hok2 os2 bare2 ea q2⟩
    | next => exact False.elim hq'
    | brk => exact False.elim hq'
    | cont => exact False.elim hq'
end
end Cal
set_option Elab.async false
set_option linter.all false
set_option maxRecDepth 100000
set_option maxHeartbeats 4000000
namespace Cal
open PySem L2 PyProof.Rows
open Evl (Ex)
/-! ### outcomes: a value, or an error of the class of a name with its fields -/
inductive Out where
  | ok (d : D) | ex (x : Str) (fs : List (Str × D))
  /-- a new object that nobody else knows -/
  | new (c : Cell)
def Out.cas (Q : D → Prop) (X : Str → List (Str × D) → Prop) : Out → Prop
  | .ok d => Q d
  | .ex x fs => X x fs
  | .new c => Q c.toD
/-- only what is new is handed back -/
def Out.casN (Q : Cell → Prop) (X : Str → List (Str × D) → Prop) : Out → Prop
  | .ok _ => False
  | .ex x fs => X x fs
  | .new c => Q c
/-- the dict of an error -/
def XR (K : PySem.W.Frag) (h : Hnd) (G : Hp) (d : Option Addr) (fs : List (Str × D)) : Prop :=
  (fs = [] ∧ d = none) ∨ ∃ dd vfs, d = some dd ∧ G dd = some (.xd vfs) ∧ vfs.map (·.1) = fs.map (·.1) ∧ RpL K h G (vfs.map (·.2)) (fs.map (·.2))
theorem XR.mono {K : PySem.W.Frag} {h : Hnd} {G G' : Hp} {d : Option Addr} {fs : List (Str × D)} (x : XR K h G d fs) (e : Ex G G') : XR K h G' d fs := by
  rcases x with x | ⟨dd, vfs, h1, h2, h3, h4⟩
  · exact .inl x
  · exact .inr ⟨dd, vfs, h1, e _ _ h2, h3, lmono h4 e⟩
theorem lookup_if {α : Type} (f g : Str) (y : α) (fs : List (Str × α)) : ((f, y) :: fs).lookup g = if g = f then some y else fs.lookup g := by
  by_cases h : g = f
  · rw [if_pos h, h]; simp [List.lookup]
  · have e : (g == f) = false := by simpa using h
    rw [if_neg h]; simp [List.lookup, e]
theorem lookup_of {K : PySem.W.Frag} {h : Hnd} {G : Hp} {f : Str} {y : D} : ∀ {vfs : List (Str × V)} {fs : List (Str × D)}, vfs.map (·.1) = fs.map (·.1) → RpL K h G (vfs.map (·.2)) (fs.map (·.2)) → fs.lookup f = some y → ∃ v, vfs.lookup f = some v ∧ Rp K h G v y
  | [], [], _, _, e => by cases e
  | [], p :: fs, e, _, _ => by cases e
  | p :: vfs, [], e, _, _ => by cases e
  | (g, v) :: vfs, (g', d) :: fs, e, r, l => by
    have e1 : g = g' := (List.cons.inj e).1
    have e2 := (List.cons.inj e).2
    subst e1
    cases r with
    | cons a b =>
      rw [lookup_if] at l ⊢
      by_cases hf : f = g
      · rw [if_pos hf] at l ⊢
        cases l
        exact ⟨v, rfl, a⟩
      · rw [if_neg hf] at l ⊢
        exact lookup_of e2 b l
/-- what is wished of the errors that leave a piece of a body -/
def XW (mg : Str → Option Value) (p : Par) (Xp : Rho → Str → List (Str × D) → Prop) (W : WX) : Prop := ∀ ρ G σ H x fs C d, Xp ρ x fs → mg x = some (.ref C) → Hold p ρ G σ H → XR p.K p.h G d fs → W (.ref C) d σ H
/-- the promise of a def that may raise -/
def spX (K : PySem.W.Frag) (mg : Str → Option Value) (S : List D → (Out → Prop) → Prop) : Sp := fun vs H Q E => ∃ h G ds R, RpL K h G vs ds ∧ Mem ⟨K, h, H, G⟩ G H ∧ S ds R ∧ (∀ d v G' H', R (.ok d) → Mem ⟨K, h, H, G⟩ G' H' → Rp K h G' v d → Q v H') ∧
  (∀ c a G' H', R (.new c) → c.isOwn = true → Mem ⟨K, h, H, G⟩ G' H' → Slot ⟨K, h, H, G⟩ G' H' (some (.ref a)) c → Q (.ref a) H') ∧ ∀ x fs C d G' H', R (.ex x fs) → mg x = some (.ref C) → Mem ⟨K, h, H, G⟩ G' H' → XR K h G' d fs → E (.ref C) d H'
/-- as WS, with what is handed back new -/
def WSO (p : Par) (ρ : Rho) (ts : TS) (P : Post) (O : Cell → Prop) : Prop := ∀ G σ H, Hold p ρ G σ H → ∀ E : Ends,
  (∀ ρ' G' σ' H', P.n ρ' → Ex G G' → Hold p ρ' G' σ' H' → E.nx σ' H') → (∀ d v G' H', P.r d → Mem p G' H' → Rp p.K p.h G' v d → E.rt v H') →
  (∀ ρ' G' σ' H', P.b ρ' → Ex G G' → Hold p ρ' G' σ' H' → E.bk σ' H') → (∀ ρ' G' σ' H', P.c ρ' → Ex G G' → Hold p ρ' G' σ' H' → E.ct σ' H') →
  (∀ c a G' H', O c → c.isOwn = true → Mem p G' H' → Slot p G' H' (some (.ref a)) c → E.rt (.ref a) H') → ts E σ H
theorem WS.o {p : Par} {ρ : Rho} {ts : TS} {P : Post} {O : Cell → Prop} (h : WS p ρ ts P) : WSO p ρ ts P O := fun G σ H hh E kn kr kb kc _ => h G σ H hh E kn kr kb kc
theorem wso_seq {p : Par} {ρ : Rho} {ts tv : TS} {P : Post} {O : Cell → Prop} (h : WS p ρ ts { P with n := fun ρ' => WSO p ρ' tv P O, r := P.r }) : WSO p ρ (tSeq ts tv) P O := fun G σ H hh E kn kr kb kc ko =>
  h G σ H hh { E with nx := tv E } (fun ρ' G' σ' H' z e hh' => z G' σ' H' hh' E (fun ρ2 G2 σ2 H2 z2 e2 => kn ρ2 G2 σ2 H2 z2 (ex_tr e e2)) kr (fun ρ2 G2 σ2 H2 z2 e2 => kb ρ2 G2 σ2 H2 z2 (ex_tr e e2)) (fun ρ2 G2 σ2 H2 z2 e2 => kc ρ2 G2 σ2 H2 z2 (ex_tr e e2)) ko) kr kb kc
theorem wso_retF {p : Par} {ρ : Rho} {te : TE} {P : Post} {O : Cell → Prop} (h : WF p ρ te O) : WSO p ρ (tRet te) P O := fun G σ H hh E kn kr kb kc ko =>
  h G σ H hh _ fun c a G' H' z ho s n x => ko c a G' H' z ho (hh.step s).mem x
theorem wso_freeze {p : Par} {ρ : Rho} {ts : TS} {P : Post} {O : Cell → Prop} (i : Nat) {c : Cell} (e : ρ[i]? = some (some c)) (ho : c.isOwn = true) (h : WSO p (ρ.set i (some (.d c.toD))) ts P O) : WSO p ρ ts P O := fun G σ H hh E kn kr kb kc ko => by
  obtain ⟨sv, h1, h2⟩ := hh.slot i _ e
  obtain ⟨a, u, e1, ow, e3⟩ := Cell.own_ref h2 ho
  subst e1
  obtain ⟨o, e4, _, r⟩ := h2.toD ho
  obtain ⟨hh', ex⟩ := hh.freeze e ho h1 ow e4 r
  exact h _ σ H hh' E (fun ρ' G' σ' H' z e' => kn ρ' G' σ' H' z (ex_tr ex e')) kr (fun ρ' G' σ' H' z e' => kb ρ' G' σ' H' z (ex_tr ex e')) (fun ρ' G' σ' H' z e' => kc ρ' G' σ' H' z (ex_tr ex e')) ko
theorem Slot.up {p : Par} {G H G' H' : Hp} {a : Addr} {c : Cell} (m : Mem p G H) (x : Slot ⟨p.K, p.h, H, G⟩ G' H' (some (.ref a)) c) (ho : c.isOwn = true) : Slot p G' H' (some (.ref a)) c ∧ Nil (H a) := by
  have up : ∀ {b : Addr}, Own ⟨p.K, p.h, H, G⟩ G' b → Own p G' b := fun {b} o => ⟨o.1, (m.nilFresh o.2.1).2.1, o.2.2⟩
  cases c with
  | d x => cases ho
  | ol xs => obtain ⟨b, vs, h1, h2, h3⟩ := x; cases h1; exact ⟨⟨a, vs, rfl, up h2, h3⟩, h2.2.1⟩
  | ok xs => obtain ⟨b, vs, h1, h2, h3⟩ := x; cases h1; exact ⟨⟨a, vs, rfl, up h2, h3⟩, h2.2.1⟩
  | ot xs => obtain ⟨b, vs, h1, h2, h3⟩ := x; cases h1; exact ⟨⟨a, vs, rfl, up h2, h3⟩, h2.2.1⟩
  | rw b o => obtain ⟨h1, h2, h3⟩ := x; cases h1; exact ⟨⟨rfl, up h2, h3⟩, h2.2.1⟩
  | lk xs => obtain ⟨b, od, vs, h1, h2, h3⟩ := x; cases h1; exact ⟨⟨a, od, vs, rfl, up h2, h3⟩, h2.2.1⟩
  | lt xs => obtain ⟨b, od, vs, h1, h2, h3⟩ := x; cases h1; exact ⟨⟨a, od, vs, rfl, up h2, h3⟩, h2.2.1⟩
  | oi _ C xs => obtain ⟨b, od, vs, h1, h2, h3⟩ := x; cases h1; exact ⟨⟨a, od, vs, rfl, up h2, h3⟩, h2.2.1⟩
structure DfnX (P : Program) (w : World) (K : PySem.W.Frag) (mg : Str → Option Value) (base : Heap) (k : Nat) (x : Str) (ps : List Str) (S : List D → (Out → Prop) → Prop) : Prop where
  ex : ∃ f fd, mg x = some (.ref f) ∧ PySem.W.keepIn K (.ref f) = true ∧ FnOk P w K mg base (L2.CX P w) k f fd ps (spX K mg S) ∧ Binds K fd ps []
section
variable {P : Program} {w : World} {K : PySem.W.Frag} {mg : Str → Option Value} {base : Heap}
theorem DfnX.mono {j k : Nat} {x : Str} {ps : List Str} {S : List D → (Out → Prop) → Prop} (F : DfnX P w K mg base j x ps S) (h : j ≤ k) : DfnX P w K mg base k x ps S := by
  obtain ⟨f, fd, h1, h2, h3, h4⟩ := F.ex
  exact ⟨f, fd, h1, h2, h3.mono h, h4⟩
theorem DfnX.imp {k : Nat} {x : Str} {ps : List Str} {S S' : List D → (Out → Prop) → Prop} (F : DfnX P w K mg base k x ps S) (h : ∀ ds R, S' ds R → S ds R) : DfnX P w K mg base k x ps S' := by
  obtain ⟨f, fd, h1, h2, h3, h4⟩ := F.ex
  exact ⟨f, fd, h1, h2, h3.imp fun vs H Q E ⟨hd, G, ds, R, a, b, c, d⟩ => ⟨hd, G, ds, R, a, b, h ds R c, d⟩, h4⟩
/-- a def that raises nothing, among those that may -/
theorem Dfn.toX {k : Nat} {x : Str} {ps : List Str} {S : List D → (D → Prop) → Prop} (F : Dfn P w K mg base k x ps S) : DfnX P w K mg base k x ps fun ds R => S ds fun d => R (.ok d) := by
  obtain ⟨f, fd, h1, h2, h3, h4⟩ := F.ex
  refine ⟨f, fd, h1, h2, ⟨fun vs H Q E ⟨hd, G, ds, R, a, b, c, d, eo, e⟩ => h3.len vs H Q E ⟨hd, G, ds, _, a, b, c, d⟩, fun A outer s H args us vs Q E hr he hb hv ⟨hd, G, ds, R, a, b, c, d, eo, e⟩ => ?_⟩, h4⟩
  refine codeAny_mono (h3.run A outer s H args us vs Q E hr he hb hv ⟨hd, G, ds, _, a, b, c, d⟩) fun r s' q => ?_
  cases r with
  | error z => exact (show False from q).elim
  | ok fl =>
    cases fl with
    | ret u => exact q
    | next => exact (show False from q).elim
    | brk => exact (show False from q).elim
    | cont => exact (show False from q).elim
theorem mkX {x : Str} {st : Stmt} {N ps : List Str} {k : Nat} {S : List D → (Out → Prop) → Prop} (F : Src K mg x st) (sc : FnScope N ps (defScope st))
    (hb : ∀ (kV doc pm : Value) (an : Option Addr) (cdv ct : Value) (us : List Value), us.length = ps.length → bindArgs (PySem.W.fnOf x x (defArgs st) (defBody st) (defScope st) .none kV doc pm an cdv ct) ⟨us, []⟩ = pure (ps.zip us))
    (len : ∀ ds R, S ds R → ds.length = ps.length)
    (body : ∀ (f : Addr) (cdv : Value) (A : Around) (outer : List Env) (s : Shared) (H : Hp) (E : XK), Room k (A.deeper (envOfC x (defScope st) s.heap.objs.size f cdv)) →
      ∃ t, PSs (cxOf (L2.CX P w) P w K mg base N x (defScope st) f cdv A outer s H E) (defBody st) t ∧ ∀ (h : Hnd) (H0 G0 : Hp) ds R, S ds R → XW mg ⟨K, h, H0, G0⟩ (fun _ x fs => R (.ex x fs)) (fun cls d _ H => E cls d H) → WSO ⟨K, h, H0, G0⟩ (rho0 N ds) t (retP fun d => R (.ok d)) fun c => R (.new c)) :
    DfnX P w K mg base (k + 1) x ps S := by
  obtain ⟨f, fd, hm, F⟩ := F.ex
  refine ⟨f, fd, hm, F.kp, F.okX sc (fun vs H Q E h => ?_) (fun cdv A outer s H vs Q E hr h => ?_), F.binds hb⟩
  · obtain ⟨hd, G, ds, R, r, m, hs, q⟩ := h
    rw [r.length]; exact len ds R hs
  · obtain ⟨hd, G, ds, R, r, m, hs, q, qo, qx⟩ := h
    obtain ⟨t, ht, hw⟩ := body f cdv A outer s H E hr
    exact ⟨t, ht, hw hd H G ds R hs (fun ρ G' σ H' x fs C d z hm hh xr => qx x fs C d G' H' z hm hh.mem xr) G _ H (hold0 m r) _ (fun ρ' G' σ' H' z e hh => q .non .non G' H' z hh.mem .non) (fun d v G' H' z m' r' => q d v G' H' z m' r') (fun _ _ _ _ z => z.elim) (fun _ _ _ _ z => z.elim) fun c a G' H' z ho m' x => qo c a G' H' z ho m' x⟩
end
section
variable {X : Cx} {x : Str} {p pos : Pos} {e : Expr} {es : List Expr} {t : TA} {k : Nat} {ps : List Str} {S : List D → (Out → Prop) → Prop} {W : WX}
theorem pe_callX (F : DfnX X.prog X.w X.K X.mg X.base k x ps S) (hr : Room k X.A) (tk : Takes X W) (ha : PA X (e :: es) t) (hg : Gl X x := by rfl) (hdb : (x == ("__debug__" : Str)) = false := by decide)
    (he : starEach (e :: es) X.env = (false, eval e X.env) :: starEach es X.env := by rfl) (hpl : (backTo pos (starEach es X.env)).any (·.1) = false := by rfl) : PE X (.Call (.Name x p) (e :: es) [] pos) (tCallS (spX X.K X.mg S) (L2.WE W) t) := by
  obtain ⟨f, fd, h1, h2, h3, h4⟩ := F.ex
  exact pe_callS h3 hr hg h1 h2 h4 (fun σ => passAt tk σ) ha hdb he hpl
end
section
variable {p : Par} {ρ : Rho} {Q : D → Prop} {ta tb te tl th : TE} {tt tu : TT} {P : Post} {ts tv : TS} {mg : Str → Option Value} {Xp : Rho → Str → List (Str × D) → Prop} {W : WX}
theorem we_callX {S : List D → (Out → Prop) → Prop} {ta : TA} (hW : XW mg p Xp W) (h : WA p ρ ta fun ds => S ds (Out.cas Q (Xp ρ))) : WE p ρ (tCallS (spX p.K mg S) (L2.WE W) ta) Q := fun G σ H hh Qv k =>
  h G σ H hh _ fun ds vs G1 H1 q s1 r1 => by
    have hh1 := hh.step s1
    exact ⟨p.h, G1, ds, _, r1, hh1.mem.refl, q, fun d v G' H' z m r => k d v G' H' z (s1.trans m) r, fun c a G' H' z ho m x => by
      obtain ⟨x', n⟩ := x.up hh1.mem ho
      have hh2 := hh1.step m
      obtain ⟨o, e4, ow, r⟩ := x'.toD ho
      obtain ⟨o2, e5, ow2, _⟩ := x.toD ho
      have m2 := Mem.know (p := ⟨p.K, p.h, H1, G1⟩) m ow2 e4 (x'.nt ho e4).tbl
      exact k _ _ _ _ z (s1.trans m2.1) r, fun x fs C d G' H' z hm m xr => hW ρ G' σ H' x fs C d z hm (hh1.step m) xr⟩
theorem wf_callX {S : List D → (Out → Prop) → Prop} {Qc : Cell → Prop} {ta : TA} (hW : XW mg p Xp W) (h : WA p ρ ta fun ds => S ds (Out.casN Qc (Xp ρ))) : WF p ρ (tCallS (spX p.K mg S) (L2.WE W) ta) Qc := fun G σ H hh Qv k =>
  h G σ H hh _ fun ds vs G1 H1 q s1 r1 => by
    have hh1 := hh.step s1
    exact ⟨p.h, G1, ds, _, r1, hh1.mem.refl, q, fun d v G' H' z m r => z.elim, fun c a G' H' z ho m x => by
      obtain ⟨x', n⟩ := x.up hh1.mem ho
      exact k c a G' H' z ho (s1.trans m) (hh.mem.backN s1 n) x', fun x fs C d G' H' z hm m xr => hW ρ G' σ H' x fs C d z hm (hh1.step m) xr⟩

/-! ### errors that are made -/
/-- __init__ of a class with one field -/
def spI1 (C : Addr) (f : Str) : Sp := fun vs H Q _ => ∃ a y, vs = [.ref a, y] ∧ H a = some (exo a C none) ∧ ∀ dx, H dx = none → dx ≠ a → Q .non (upd (upd H dx (exd dx [(f, y)])) a (exo a C (some dx)))
/-- .. with none -/
def spI0 (C : Addr) : Sp := fun vs H Q _ => ∃ a, vs = [.ref a] ∧ H a = some (exo a C none) ∧ Q .non H
theorem ws_raise1 {x : Str} {C : Addr} {f : Str} (hW : XW mg p Xp W) (hm : mg x = some (.ref C)) (h : WE p ρ te fun y => Xp ρ x [(f, y)]) : WS p ρ (fun _ σ H => tMkO C (spI1 C f) [] (tCons te tNil) σ H fun cls d H' => W cls d σ H') P := fun G σ H hh E kn kr kb kc => by
  refine h G σ H hh _ fun d v G1 H1 hx s1 r1 => ?_
  have hh1 := hh.step s1
  refine ⟨by show 1 ≤ 1000; decide, fun a ha => ⟨a, v, rfl, upd_same, fun dx hdx hne => ⟨rfl, dx, [(f, v)], upd_same, ?_, ?_, ?_⟩⟩⟩
  · rw [upd_ne hne, upd_same]
  · rw [upd_ne hne] at hdx; exact hdx
  · rw [upd_ne hne] at hdx
    have e : upd (del (upd (upd (upd H1 a (exo a C none)) dx (exd dx [(f, v)])) a (exo a C (some dx))) a) dx (.xd [(f, v)]) = upd H1 dx (.xd [(f, v)]) := by
      funext b
      by_cases hb : b = dx
      · rw [hb, upd_same, upd_same]
      · rw [upd_ne hb, upd_ne hb]
        by_cases hba : b = a
        · rw [hba, del_same, ha]
        · rw [del_ne hba, upd_ne hba, upd_ne hb, upd_ne hba]
    rw [e]
    have g := hh1.mem.grow (o := .xd [(f, v)]) hdx
    exact hW ρ _ σ _ x [(f, d)] C (some dx) hx hm (hh1.step g) (.inr ⟨dx, [(f, v)], rfl, upd_same, rfl, .cons (rmono r1 g.ex) .nil⟩)
theorem ws_raise0 {x : Str} {C : Addr} (hW : XW mg p Xp W) (hm : mg x = some (.ref C)) (h : Xp ρ x []) : WS p ρ (fun _ σ H => tMk0 C (spI0 C) σ H fun cls d H' => W cls d σ H') P := fun G σ H hh E kn kr kb kc => by
  refine fun a ha => ⟨a, rfl, upd_same, rfl, upd_same, ?_⟩
  have e : del (upd H a (exo a C none)) a = H := by
    funext b
    by_cases hba : b = a
    · rw [hba, del_same, ha]
    · rw [del_ne hba, upd_ne hba]
  rw [e]
  exact hW ρ G σ H x [] C none h hm hh (.inl ⟨rfl, rfl⟩)
/-! ### errors that are caught -/
/-- with what is known from some state on -/
def WSg (p : Par) (G1 : Hp) (ρ : Rho) (ts : TS) (P : Post) : Prop := ∀ G σ H, Ex G1 G → Hold p ρ G σ H → ∀ E : Ends,
  (∀ ρ' G' σ' H', P.n ρ' → Ex G G' → Hold p ρ' G' σ' H' → E.nx σ' H') → (∀ d v G' H', P.r d → Mem p G' H' → Rp p.K p.h G' v d → E.rt v H') →
  (∀ ρ' G' σ' H', P.b ρ' → Ex G G' → Hold p ρ' G' σ' H' → E.bk σ' H') → (∀ ρ' G' σ' H', P.c ρ' → Ex G G' → Hold p ρ' G' σ' H' → E.ct σ' H') → ts E σ H
theorem WS.g {G1 : Hp} (h : WS p ρ ts P) : WSg p G1 ρ ts P := fun G σ H _ hh E kn kr kb kc => h G σ H hh E kn kr kb kc
/-- a suite that hands back -/
def outP (R : D → Prop) : Post := ⟨fun _ => False, R, fun _ => False, fun _ => False⟩
theorem ws_try_as {tb : WX → TS} {tsu : Addr → Value → Option Addr → TS} {Wout : WX} {c : Value} {i : Nat} (Xb : Rho → Str → List (Str × D) → Prop) (hc : ∀ ρ' x fs C, Xb ρ' x fs → mg x = some (.ref C) → PySem.W.exmOne p.K (.ref C) c = some true)
    (hb : ∀ W, XW mg p Xb W → WS p ρ (tb W) P) (hs : ∀ ρ' x fs a C d G1, Xb ρ' x fs → mg x = some (.ref C) → XR p.K p.h G1 d fs → WSg p G1 (ρ'.set i (some (.d (.raw (.ref a))))) (tsu a (.ref C) d) (outP P.r)) :
    WS p ρ (fun D σ H => tb (wAs p.K c i tsu Wout D) D σ H) P := fun G σ H hh D kn kr kb kc => by
  refine hb (wAs p.K c i tsu Wout D) (fun ρ' G' σ' H' x fs C d z hm hh' xr => ⟨true, hc ρ' x fs C z hm, fun _ a na => ?_, fun q => Bool.noConfusion q⟩) G σ H hh D kn kr kb kc
  exact hs ρ' x fs a C d G' z hm xr G' _ H' (fun _ _ e => e) (hh'.setD (.raw (.ref a))) _ (fun _ _ _ _ z => z.elim) kr (fun _ _ _ _ z => z.elim) fun _ _ _ _ z => z.elim
theorem wso_try_as {tb : WX → TS} {tsu : Addr → Value → Option Addr → TS} {Wout : WX} {c : Value} {i : Nat} {O : Cell → Prop} (Xb : Rho → Str → List (Str × D) → Prop) (hc : ∀ ρ' x fs C, Xb ρ' x fs → mg x = some (.ref C) → PySem.W.exmOne p.K (.ref C) c = some true)
    (hb : ∀ W, XW mg p Xb W → WSO p ρ (tb W) P O) (hs : ∀ ρ' x fs a C d G1, Xb ρ' x fs → mg x = some (.ref C) → XR p.K p.h G1 d fs → WSg p G1 (ρ'.set i (some (.d (.raw (.ref a))))) (tsu a (.ref C) d) (outP P.r)) :
    WSO p ρ (fun D σ H => tb (wAs p.K c i tsu Wout D) D σ H) P O := fun G σ H hh D kn kr kb kc ko => by
  refine hb (wAs p.K c i tsu Wout D) (fun ρ' G' σ' H' x fs C d z hm hh' xr => ⟨true, hc ρ' x fs C z hm, fun _ a na => ?_, fun q => Bool.noConfusion q⟩) G σ H hh D kn kr kb kc ko
  exact hs ρ' x fs a C d G' z hm xr G' _ H' (fun _ _ e => e) (hh'.setD (.raw (.ref a))) _ (fun _ _ _ _ z => z.elim) kr (fun _ _ _ _ z => z.elim) fun _ _ _ _ z => z.elim
theorem ws_try_only {tb : WX → TS} {tsu : Addr → Value → Option Addr → TS} {Wout : WX} {c : Value} (Xb : Rho → Str → List (Str × D) → Prop) (hc : ∀ ρ' x fs C, Xb ρ' x fs → mg x = some (.ref C) → PySem.W.exmOne p.K (.ref C) c = some true)
    (hb : ∀ W, XW mg p Xb W → WS p ρ (tb W) P) (hs : ∀ ρ' x fs a C d G1, Xb ρ' x fs → mg x = some (.ref C) → XR p.K p.h G1 d fs → WSg p G1 ρ' (tsu a (.ref C) d) (outP P.r)) :
    WS p ρ (fun D σ H => tb (wOnly p.K c tsu Wout D) D σ H) P := fun G σ H hh D kn kr kb kc => by
  refine hb (wOnly p.K c tsu Wout D) (fun ρ' G' σ' H' x fs C d z hm hh' xr => ⟨true, hc ρ' x fs C z hm, fun _ a na => ?_, fun q => Bool.noConfusion q⟩) G σ H hh D kn kr kb kc
  exact hs ρ' x fs a C d G' z hm xr G' _ H' (fun _ _ e => e) hh' _ (fun _ _ _ _ z => z.elim) kr (fun _ _ _ _ z => z.elim) fun _ _ _ _ z => z.elim
/-- return e.f -/
theorem wsg_retf {G1 : Hp} {R : D → Prop} {a C : Addr} {d : Option Addr} {f : Str} {i : Nat} {fs : List (Str × D)} {y : D} (e : ρ[i]? = some (some (.d (.raw (.ref a))))) (xr : XR p.K p.h G1 d fs) (hf : fs.lookup f = some y) (hR : R y) :
    WSg p G1 ρ (tRet (tXf a (.ref C) d C f (tVar i))) (outP R) := fun G σ H ex hh E kn kr kb kc => by
  obtain ⟨sv, h1, v, h2, h3⟩ := hh.slot i _ e
  subst h2
  have hv : v = .ref a := by cases h3; rfl
  subst hv
  rcases xr.mono ex with ⟨rfl, _⟩ | ⟨dd, vfs, q1, q2, q3, q4⟩
  · cases hf
  · obtain ⟨v, l1, l2⟩ := lookup_of q3 q4 hf
    exact ⟨_, h1, rfl, rfl, dd, vfs, v, q1, hh.mem.sub _ _ q2, l1, kr y v G H hR hh.mem l2⟩
end
end Cal
set_option Elab.async false
set_option linter.all false
set_option maxRecDepth 100000
set_option maxHeartbeats 4000000
namespace Cal
open PySem L2 PyProof.Rows
open Evl (Ex)
/-! ### the classes of errors in the text -/
/-- an error class with its __init__ -/
structure XSrc (K : PySem.W.Frag) (mg : Str → Option Value) (x : Str) (fl : List Str) (st : Stmt) (q : Str) : Prop where
  ex : ∃ C fI fd, mg x = some (.ref C) ∧ OexC K C ∧ PySem.W.findIn K (.ref C) "__init__" = some (some (.ref fI)) ∧ PySem.W.typeIn K (.ref fI) = some (.type "function") ∧ Fun K "__init__" q st fI fd ∧
    PySem.W.exmOne K (.ref C) (.ref C) = some true ∧ XfC K C ∧ ∀ f, f ∈ fl → PySem.W.findIn K (.ref C) f = some none
/-- a class that has ValueError's own __init__ -/
structure XBase (K : PySem.W.Frag) (mg : Str → Option Value) (x : Str) : Prop where
  ex : ∃ C, mg x = some (.ref C) ∧ PySem.W.specialIn K (.ref C) "__getattribute__" = some (some (.builtin "type.__getattribute__")) ∧ PySem.W.readsIn K C (.type "type") = true ∧
    PySem.W.findCls K (.ref C) (.type "type") "__init__" = some (.val (.builtin "ValueError.__init__"))
/-- an error of a class is what a clause that names the class takes -/
theorem exm_same {K : PySem.W.Frag} {C : Addr} (h1 : PySem.W.subIn K (.ref C) (.type "BaseException") = some true) (h2 : PySem.W.isClsIn K C = true) (h3 : PySem.W.typeIn K (.ref C) = some (.type "type")) (h4 : PySem.W.subIn K (.ref C) (.ref C) = some true) : PySem.W.exmOne K (.ref C) (.ref C) = some true := by
  have h2' : (PySem.W.clsIn K C).isSome = true := h2
  have e1 : (PySem.W.subIn K (.ref C) (.type "BaseException") == some true) = true := by rw [h1]; rfl
  have e2 : ((PySem.W.clsIn K C).isSome && PySem.W.typeIn K (.ref C) == some (.type "type")) = true := by rw [h2', h3]; rfl
  refine Eq.trans (b := if (PySem.W.subIn K (.ref C) (.type "BaseException") == some true) = true then (if ((PySem.W.clsIn K C).isSome && PySem.W.typeIn K (.ref C) == some (.type "type")) = true then PySem.W.subIn K (.ref C) (.ref C) else none) else none) rfl ?_
  rw [if_pos e1, if_pos e2, h4]
/-- an error class that can be made: sp its __init__'s promise -/
structure XDef (P : Program) (w : World) (K : PySem.W.Frag) (mg : Str → Option Value) (base : Heap) (k : Nat) (x : Str) (fl : List Str) (sp : Addr → Sp) (C : Addr) : Prop where
  gC : mg x = some (.ref C)
  ox : OexC K C
  te : PySem.W.exmOne K (.ref C) (.ref C) = some true
  xf : XfC K C
  no : ∀ f, f ∈ fl → PySem.W.findIn K (.ref C) f = some none
  ini : ∃ fI fd ps, PySem.W.findIn K (.ref C) "__init__" = some (some (.ref fI)) ∧ PySem.W.typeIn K (.ref fI) = some (.type "function") ∧ FnOk P w K mg base CX0 k fI fd ps (sp C) ∧ Binds K fd ps []
section
variable {P : Program} {w : World} {K : PySem.W.Frag} {mg : Str → Option Value} {base : Heap}
theorem xdef1 {x q f y : Str} {m : PySem.Str} {st : Stmt} (S : XSrc K mg x [f] st q) (B : XBase K mg b) (sc : FnScope ["self", y] ["self", y] (defScope st))
    (hb : ∀ (kV doc pm : Value) (an : Option Addr) (cdv ct : Value) (us : List Value), us.length = 2 → bindArgs (PySem.W.fnOf "__init__" q (defArgs st) (defBody st) (defScope st) .none kV doc pm an cdv ct) ⟨us, []⟩ = pure ((["self", y] : List Str).zip us))
    (body : ∀ (C f' : Addr) (cdv : Value) (A : Around) (outer : List Env) (s : Shared) (H : Hp) (E : XK), mg b = some (.ref C) → PySem.W.specialIn K (.ref C) "__getattribute__" = some (some (.builtin "type.__getattribute__")) → PySem.W.readsIn K C (.type "type") = true →
      PySem.W.findCls K (.ref C) (.type "type") "__init__" = some (.val (.builtin "ValueError.__init__")) →
      PSs (cxOf CX0 P w K mg base ["self", y] q (defScope st) f' cdv A outer s H E).nox (defBody st) (tSeq (tDrop (tVeI K (tCons (tVar 0) (tCons (tC (.str m)) tNil)))) (tOst K f (tVar 0) (tVar 1)))) :
    ∃ C, XDef P w K mg base 1 x [f] (fun C => spI1 C f) C := by
  obtain ⟨C, fI, fd, h1, h2, h3, h4, F, h6, h7, h8⟩ := S.ex
  obtain ⟨CB, b1, b2, b3, b4⟩ := B.ex
  refine ⟨C, h1, h2, h6, h7, h8, fI, fd, ["self", y], h3, h4, F.ok sc (fun vs H Q E h => ?_) (fun cdv A outer s H vs Q E hr h => ⟨_, body CB fI cdv A outer s H E b1 b2 b3 b4, ?_⟩), F.binds hb⟩
  · obtain ⟨a, z, rfl, _⟩ := h; rfl
  · obtain ⟨a, z, rfl, ha, hQ⟩ := h
    have hn := h8 f (List.mem_singleton.mpr rfl)
    refine ⟨_, rfl, a, C, [.str m], rfl, by show 1 ≤ 1000; decide, h2, ha, ?_⟩
    refine ⟨_, rfl, _, rfl, a, C, rfl, h2, hn, .inl ⟨ha, fun dx n1 n2 => hQ dx n1 n2⟩⟩
theorem xdef0 {x q : Str} {m : PySem.Str} {st : Stmt} (S : XSrc K mg x [] st q) (B : XBase K mg b) (sc : FnScope ["self"] ["self"] (defScope st))
    (hb : ∀ (kV doc pm : Value) (an : Option Addr) (cdv ct : Value) (us : List Value), us.length = 1 → bindArgs (PySem.W.fnOf "__init__" q (defArgs st) (defBody st) (defScope st) .none kV doc pm an cdv ct) ⟨us, []⟩ = pure ((["self"] : List Str).zip us))
    (body : ∀ (C f' : Addr) (cdv : Value) (A : Around) (outer : List Env) (s : Shared) (H : Hp) (E : XK), mg b = some (.ref C) → PySem.W.specialIn K (.ref C) "__getattribute__" = some (some (.builtin "type.__getattribute__")) → PySem.W.readsIn K C (.type "type") = true →
      PySem.W.findCls K (.ref C) (.type "type") "__init__" = some (.val (.builtin "ValueError.__init__")) →
      PSs (cxOf CX0 P w K mg base ["self"] q (defScope st) f' cdv A outer s H E).nox (defBody st) (tDrop (tVeI K (tCons (tVar 0) (tCons (tC (.str m)) tNil))))) :
    ∃ C, XDef P w K mg base 1 x [] (fun C => spI0 C) C := by
  obtain ⟨C, fI, fd, h1, h2, h3, h4, F, h6, h7, h8⟩ := S.ex
  obtain ⟨CB, b1, b2, b3, b4⟩ := B.ex
  refine ⟨C, h1, h2, h6, h7, h8, fI, fd, ["self"], h3, h4, F.ok sc (fun vs H Q E h => ?_) (fun cdv A outer s H vs Q E hr h => ⟨_, body CB fI cdv A outer s H E b1 b2 b3 b4, ?_⟩), F.binds hb⟩
  · obtain ⟨a, rfl, _⟩ := h; rfl
  · obtain ⟨a, rfl, ha, hQ⟩ := h
    exact ⟨_, rfl, a, C, [.str m], rfl, by show 1 ≤ 1000; decide, h2, ha, hQ⟩
end
section
variable {X : Cx} {x : Str} {C : Addr} {fl : List Str} {f : Str} {k : Nat} {W : WX} {e : Expr} {te : TE} {p p1 pos pos' : Pos}
/-- raise C(e) -/
theorem ps_rz1 (D : XDef X.prog X.w X.K X.mg X.base k x fl (fun C => spI1 C f) C) (hr : Room (k + 1) X.A) (tk : Takes X W) (he : PE X e te) (hc : X.calm = true := by rfl) (hg : Gl X x := by rfl) (hdb : (x == ("__debug__" : Str)) = false := by decide)
    (hs : starEach [e] X.env = (false, eval e X.env) :: starEach [] X.env := by rfl) : PS X (.Raise (some (.Call (.Name x p) [e] [] pos)) none pos') (fun _ σ H => tMkO C (spI1 C f) [] (tCons te tNil) σ H fun cls d H' => W cls d σ H') := by
  obtain ⟨fI, fd, ps, h1, h2, h3, h4⟩ := D.ini
  exact ps_raise hc tk (pmk_oex D.ox h1 h2 h3 hr h4 .nil pass0 hg D.gC (pa_cons he pa_nil hs) hdb hs rfl)
/-- raise C() -/
theorem ps_rz0 (D : XDef X.prog X.w X.K X.mg X.base k x fl (fun C => spI0 C) C) (hr : Room (k + 1) X.A) (tk : Takes X W) (hc : X.calm = true := by rfl) (hg : Gl X x := by rfl) (hdb : (x == ("__debug__" : Str)) = false := by decide) :
    PS X (.Raise (some (.Call (.Name x p) [] [] pos)) none pos') (fun _ σ H => tMk0 C (spI0 C) σ H fun cls d H' => W cls d σ H') := by
  obtain ⟨fI, fd, ps, h1, h2, h3, h4⟩ := D.ini
  exact ps_raise hc tk (pmk_oe0 D.ox h1 h2 h3 hr h4 pass0 D.gC hg hdb)
end
end Cal
set_option Elab.async false
set_option linter.all false
set_option maxRecDepth 100000
set_option maxHeartbeats 4000000
namespace Cal
open PySem L2 PyProof.Rows
open Evl (Ex)
/-! ### loops over reversed(..), enumerate(..), zip(..) of lists; xs[::-1] -/
theorem for_any {T : It} {n : Nat} {g : TG} {tb : TS} {D : Ends} {σ : L2.St} {H : Hp} (Pv : Nat → L2.St → Hp → Prop) (h0 : Pv 0 σ H) (hgo : ∀ i σ H, i < n → Pv i σ H → T.go i H) (hst : ∀ σ H, Pv n σ H → T.stop n H)
    (hs : ∀ i x σ H H', i < n → Pv i σ H → T.yld i H x H' → g x σ H' fun σ2 H2 => tb { D with nx := Pv (i + 1), ct := Pv (i + 1), bk := D.nx } σ2 H2) (hd : ∀ σ H, Pv n σ H → D.nx σ H) :
    ∃ W : Nat → Nat → L2.St → Hp → Prop, (∃ m, W 0 m σ H) ∧ ∀ i m σ H, W i m σ H →
      (T.stop i H ∧ D.nx σ H) ∨ (T.go i H ∧ ∃ N : L2.St → Hp → Prop, (∀ σ' H', N σ' H' → ∃ m', m' < m ∧ W (i + 1) m' σ' H') ∧ ∀ x H', T.yld i H x H' → g x σ H' fun σ2 H2 => tb { D with nx := N, ct := N, bk := D.nx } σ2 H2) := by
  refine ⟨fun i m σ H => m = n - i ∧ i ≤ n ∧ Pv i σ H, ⟨n, rfl, Nat.zero_le _, h0⟩, fun i m σ H ⟨e, hi, q⟩ => ?_⟩
  by_cases hlt : i < n
  · exact .inr ⟨hgo i σ H hlt q, Pv (i + 1), fun σ' H' q' => ⟨n - (i + 1), by omega, rfl, hlt, q'⟩, fun x H' y => hs i x σ H H' hlt q y⟩
  · have hi' : i = n := by omega
    subst hi'
    exact .inl ⟨hst σ H q, hd σ H q⟩
section
variable {p : Par} {ρ : Rho} {Q : D → Prop} {ta tb te tl th : TE} {tt tu : TT} {P : Post} {ts tv : TS}
theorem ws_forRev {g : TG} {ta : TA} (h : WA p ρ ta fun ds => ∃ xs, ds = [.lst xs] ∧ ∃ I : Nat → Rho → Prop, I 0 ρ ∧
    (∀ k x ρ', xs.reverse[k]? = some x → I k ρ' → WG p ρ' g x fun ρ2 => WS p ρ2 ts ⟨I (k + 1), P.r, P.n, I (k + 1)⟩) ∧ ∀ ρ', I xs.length ρ' → P.n ρ') : WS p ρ (tFor (iRev p.K ta) g ts) P := fun G σ H hh E kn kr kb kc =>
  h G σ H hh _ fun ds vs0 G0 H0 ⟨xs, e, I, h0, hs, hd⟩ s r => by
    subst e
    cases r with
    | cons r rn =>
    cases rn
    obtain ⟨a, vs, ev, hq, hl⟩ := r.lst_inv
    subst ev
    have hh0 := hh.step s
    have hn := hl.length
    have sq : ∀ {G' H'}, Ex G0 G' → Ex G' H' → SqL p.K H' a vs := fun e1 e2 => lq e2 (e1 _ _ hq)
    refine ⟨a, vs, rfl, lq hh0.mem.sub hq, for_any (n := vs.length) (fun k σ' H' => ∃ ρ' G', I k ρ' ∧ Ex G0 G' ∧ Hold p ρ' G' σ' H') ⟨ρ, G0, h0, Ex.rfl', hh0⟩ (fun k σ' H' hk ⟨ρ', G', hi, e, hh'⟩ => ?_) (fun σ' H' _ => Nat.le_refl _) (fun k x σ' H' H2 hk ⟨ρ', G', hi, e, hh'⟩ hy => ?_) fun σ' H' ⟨ρ', G', hi, e, hh'⟩ => kn ρ' G' σ' H' (hd ρ' (by rw [← hn]; exact hi)) (ex_tr s.ex e) hh'⟩
    · exact ⟨hk, vs, vs[vs.length - 1 - k], sq e hh'.mem.sub, List.getElem?_eq_getElem (by omega)⟩
    · obtain ⟨e2, hx⟩ := hy
      subst e2
      have hx' := hx vs (sq e hh'.mem.sub)
      obtain ⟨d, hd1, hd2⟩ := hl.get' hx'
      refine hs k d ρ' ?_ hi G' σ' _ _ hh' (rmono hd2 e) _ fun ρ2 G2 σ2 H2 z e2 hh2 => z G2 σ2 H2 hh2 _ (fun ρ3 G3 σ3 H3 z3 e3 hh3 => ⟨ρ3, G3, z3, ex_tr (ex_tr e e2) e3, hh3⟩) kr (fun ρ3 G3 σ3 H3 z3 e3 hh3 => kn ρ3 G3 σ3 H3 z3 (ex_tr s.ex (ex_tr (ex_tr e e2) e3)) hh3)
        (fun ρ3 G3 σ3 H3 z3 e3 hh3 => ⟨ρ3, G3, z3, ex_tr (ex_tr e e2) e3, hh3⟩)
      rw [List.getElem?_reverse (by omega), ← hn]
      exact hd1
theorem ws_forEnum {g : TG} {ta : TA} (h : WA p ρ ta fun ds => ∃ xs, ds = [.lst xs] ∧ ∃ I : Nat → Rho → Prop, I 0 ρ ∧
    (∀ k x ρ', xs[k]? = some x → I k ρ' → WG p ρ' g (.tup [.int (k : Int), x]) fun ρ2 => WS p ρ2 ts ⟨I (k + 1), P.r, P.n, I (k + 1)⟩) ∧ ∀ ρ', I xs.length ρ' → P.n ρ') : WS p ρ (tFor (iEnum p.K ta) g ts) P := fun G σ H hh E kn kr kb kc =>
  h G σ H hh _ fun ds vs0 G0 H0 ⟨xs, e, I, h0, hs, hd⟩ s r => by
    subst e
    cases r with
    | cons r rn =>
    cases rn
    obtain ⟨a, vs, ev, hq, hl⟩ := r.lst_inv
    subst ev
    have hh0 := hh.step s
    have hn := hl.length
    have sq : ∀ {G' H'}, Ex G0 G' → Ex G' H' → SqL p.K H' a vs := fun e1 e2 => lq e2 (e1 _ _ hq)
    refine ⟨a, vs, rfl, lq hh0.mem.sub hq, for_any (n := vs.length) (fun k σ' H' => ∃ ρ' G', I k ρ' ∧ Ex G0 G' ∧ Hold p ρ' G' σ' H') ⟨ρ, G0, h0, Ex.rfl', hh0⟩ (fun k σ' H' hk ⟨ρ', G', hi, e, hh'⟩ => ?_) (fun σ' H' ⟨ρ', G', hi, e, hh'⟩ => ⟨vs, sq e hh'.mem.sub, Nat.le_refl _⟩) (fun k x σ' H' H2 hk ⟨ρ', G', hi, e, hh'⟩ hy => ?_) fun σ' H' ⟨ρ', G', hi, e, hh'⟩ => kn ρ' G' σ' H' (hd ρ' (by rw [← hn]; exact hi)) (ex_tr s.ex e) hh'⟩
    · exact ⟨vs, vs[k], sq e hh'.mem.sub, List.getElem?_eq_getElem hk⟩
    · obtain ⟨T, x', e1, hT, e2, hx⟩ := hy
      subst e1 e2
      have hx' := hx vs (sq e hh'.mem.sub)
      obtain ⟨d, hd1, hd2⟩ := hl.get' hx'
      have gr := hh'.mem.grow (o := .tup [.int (k : Int), x']) hT
      have e4 := ex_tr e gr.ex
      refine hs k d ρ' hd1 hi _ σ' _ _ (hh'.step gr) (.tup upd_same (.cons (.int _) (.cons (rmono hd2 e4) .nil))) _ fun ρ2 G2 σ2 H2 z e2 hh2 => z G2 σ2 H2 hh2 _ (fun ρ3 G3 σ3 H3 z3 e3 hh3 => ⟨ρ3, G3, z3, ex_tr (ex_tr e4 e2) e3, hh3⟩) kr
        (fun ρ3 G3 σ3 H3 z3 e3 hh3 => kn ρ3 G3 σ3 H3 z3 (ex_tr s.ex (ex_tr (ex_tr e4 e2) e3)) hh3) (fun ρ3 G3 σ3 H3 z3 e3 hh3 => ⟨ρ3, G3, z3, ex_tr (ex_tr e4 e2) e3, hh3⟩)
theorem wf_revL {Q : Cell → Prop} (h : WE p ρ te fun x => ∃ xs, x = .lst xs ∧ Q (.ol xs.reverse)) : WF p ρ (tRevL p.K te) Q := fun G σ H hh Qv k =>
  h G σ H hh _ fun x v G1 H1 ⟨xs, e, q⟩ s1 r1 => by
    subst e
    obtain ⟨a, vs, ev, hq, hl⟩ := r1.lst_inv
    have m1 := (hh.step s1).mem
    refine ⟨a, vs, ev, lq m1.sub hq, fun b hb => k _ b _ _ q rfl (s1.trans (m1.growO hb)) (hh.mem.back s1 hb) ⟨b, vs.reverse, rfl, m1.fresh hb, upd_same, ?_⟩⟩
    have rev : ∀ {us : List V} {es : List D}, RpL p.K p.h G1 us es → RpL p.K p.h G1 us.reverse es.reverse := by
      intro us
      induction us with
      | nil => intro es r; cases r; exact .nil
      | cons u us ih =>
        intro es r
        cases r with
        | cons a b => rw [List.reverse_cons, List.reverse_cons]; exact (ih b).append (.cons a .nil)
    exact rev hl
theorem we_revL (h : WE p ρ te fun x => ∃ xs, x = .lst xs ∧ Q (.lst xs.reverse)) : WE p ρ (tRevL p.K te) Q := we_F (wf_revL h)
end
end Cal
set_option Elab.async false
set_option linter.all false
set_option maxRecDepth 100000
set_option maxHeartbeats 4000000
namespace Cal
open PySem L2 PyProof.Rows
open Evl (Ex)
/-! ### comprehensions over zip(..), all(..), any(..), != of flags -/
theorem lc_any {J : It} {n : Nat} {g : TG} {tt : TT} {te : TE} {vs : List Nat} {σ : L2.St} {H1 : Hp} {Dl : Addr} {Qd : Hp → Prop} (Pv : Nat → Hp → Prop) (h0 : Pv 0 (upd H1 Dl (.lst []))) (hgo : ∀ i H, i < n → Pv i H → J.go i H) (hst : ∀ H, Pv n H → J.stop n H)
    (hs : ∀ i x H H', i < n → Pv i H → J.yld i H x H' → g x (L2.wipe σ vs) H' fun σ2 H2 => L2.wipe σ2 vs = L2.wipe σ vs ∧ tt σ2 H2 fun b H3 => if b = true then te σ2 H3 fun y H4 => ∃ acc, H4 Dl = some (.lst acc) ∧ acc.length < sizeLine ∧ Pv (i + 1) (upd H4 Dl (.lst (acc ++ [y]))) else Pv (i + 1) H3)
    (hd : ∀ H, Pv n H → Qd H) : ∃ W : Nat → Nat → Hp → Prop, (∃ m, W 0 m (upd H1 Dl (.lst []))) ∧ ∀ i m H, W i m H →
      (J.stop i H ∧ Qd H) ∨ (J.go i H ∧ ∃ Nx : Hp → Prop, (∀ H', Nx H' → ∃ m', m' < m ∧ W (i + 1) m' H') ∧ ∀ x H', J.yld i H x H' → g x (L2.wipe σ vs) H' fun σ2 H2 => L2.wipe σ2 vs = L2.wipe σ vs ∧ tt σ2 H2 fun b H3 =>
        if b = true then te σ2 H3 fun y H4 => ∃ acc, H4 Dl = some (.lst acc) ∧ acc.length < sizeLine ∧ Nx (upd H4 Dl (.lst (acc ++ [y]))) else Nx H3) := by
  refine ⟨fun i m H => m = n - i ∧ i ≤ n ∧ Pv i H, ⟨n, rfl, Nat.zero_le _, h0⟩, fun i m H ⟨e, hi, q⟩ => ?_⟩
  by_cases hlt : i < n
  · exact .inr ⟨hgo i H hlt q, Pv (i + 1), fun H' q' => ⟨n - (i + 1), by omega, rfl, hlt, q'⟩, fun x H' y => hs i x H H' hlt q y⟩
  · have hi' : i = n := by omega
    subst hi'
    exact .inl ⟨hst H q, hd H q⟩
section
variable {p : Par} {ρ : Rho} {Q : D → Prop} {ta tb te tl th : TE} {tt tu : TT} {P : Post} {ts tv : TS} {g : TG}
theorem lc_grow {G1 H1 H' : Hp} {σ : L2.St} {Dl T : Addr} {o : HO} {I : Nat → List D → Prop} {k : Nat} (hh : Hold p ρ G1 σ H1) (L : Lc p G1 H1 Dl I k H') (hT : H' T = none) : Lc p G1 H1 Dl I k (upd H' T o) := by
  obtain ⟨acc, av, G', hi, hle, s, e, ow, r⟩ := L
  exact ⟨acc, av, G', hi, hle, s.trans ((hh.step s).mem.growO hT), by rw [upd_ne (ne_of_none e hT)]; exact e, ow, r⟩
theorem wf_lcZip {ta : TA} {vs : List Nat} {Q : Cell → Prop} (h : WA p ρ ta fun ds => ∃ xs ys, (ds = [.lst xs, .lst ys] ∨ ds = [.tup xs, .tup ys]) ∧ xs.length = ys.length ∧ xs.length ≤ 4000000 ∧ ∃ I : Nat → List D → Prop, I 0 [] ∧
    (∀ k x y acc, xs[k]? = some x → ys[k]? = some y → I k acc → acc.length ≤ k → WGp p vs (wipeR ρ vs) g (.tup [x, y]) fun ρ2 => WT p ρ2 tt fun b => if b = true then WE p ρ2 te fun y => I (k + 1) (acc ++ [y]) else I (k + 1) acc) ∧ ∀ acc, I xs.length acc → Q (.ol acc)) :
    WF p ρ (tLc (RZ.iZipA p.K ta) g tt te vs) Q := fun G σ H hh Qv kk =>
  h G σ H hh _ fun ds vv G1 H1 ⟨xs, ys, e, hxy, hz, I, h0, hs, hd⟩ s1 r1 => by
    have hh1 := hh.step s1
    rcases e with e | e
    · subst e
      cases r1 with
      | cons r rn =>
      cases rn with
      | cons r' rn =>
      cases rn
      obtain ⟨a, us, ev, hq, hl⟩ := r.lst_inv
      obtain ⟨b, ws, ev', hq', hl'⟩ := r'.lst_inv
      subst ev ev'
      have n1 := hl.length
      have n2 := hl'.length
      have sq : ∀ {H' : Hp} {Dl : Addr} {k : Nat}, Lc p G1 H1 Dl I k H' → SqL p.K H' a us ∧ SqL p.K H' b ws := fun {H'} {Dl} {k} L => by
        obtain ⟨acc, av, G', _, _, s, _⟩ := L
        exact ⟨lq s.sub (s.ex _ _ hq), lq s.sub (s.ex _ _ hq')⟩
      refine ⟨a, b, us, ws, rfl, .inl ⟨lq hh1.mem.sub hq, lq hh1.mem.sub hq', fun Dl hn => lc_any (n := us.length) (Lc p G1 H1 Dl I) (lc_start hh1 hn h0) (fun k H' hk L => ?_) (fun H' L => ?_) (fun k v H' H2 hk L hy => ?_) fun H' L => ?_⟩⟩
      · obtain ⟨q1, q2⟩ := sq L
        exact ⟨us, ws, us[k], ws[k]'(by omega), q1, q2, List.getElem?_eq_getElem hk, List.getElem?_eq_getElem (by omega)⟩
      · obtain ⟨q1, q2⟩ := sq L
        exact ⟨us, ws, q1, q2, .inl (Nat.le_refl _)⟩
      · obtain ⟨q1, q2⟩ := sq L
        obtain ⟨T, x', y', e1, hT, e2, hx, hy'⟩ := hy
        subst e1 e2
        obtain ⟨dx, hx1, hx2⟩ := hl.get' (hx us q1)
        obtain ⟨dy, hy1, hy2⟩ := hl'.get' (hy' ws q2)
        refine lc_turn hh1 hn (by omega) (lc_grow hh1 L hT) (fun G' s => ?_) fun acc hi hle => hs k dx dy acc hx1 hy1 hi hle
        obtain ⟨G2, s2, hq2⟩ := Mem.learn (p := p) (hh1.step s).mem upd_same
        exact ⟨G2, s2, .tup hq2 (.cons (rmono hx2 (ex_tr s.ex s2.ex)) (.cons (rmono hy2 (ex_tr s.ex s2.ex)) .nil))⟩
      · obtain ⟨acc, av, G', hi, _, s, e, ow, r⟩ := L
        rw [n1] at hi
        exact kk _ Dl G' H' (hd acc hi) rfl (s1.trans s) (hh.mem.back s1 hn) ⟨Dl, av, rfl, ow, e, r⟩
    · subst e
      cases r1 with
      | cons r rn =>
      cases rn with
      | cons r' rn =>
      cases rn
      obtain ⟨a, us, ev, hq, hl⟩ := r.tup_inv
      obtain ⟨b, ws, ev', hq', hl'⟩ := r'.tup_inv
      subst ev ev'
      have n1 := hl.length
      have n2 := hl'.length
      have sq : ∀ {H' : Hp} {Dl : Addr} {k : Nat}, Lc p G1 H1 Dl I k H' → SqT p.K H' a us ∧ SqT p.K H' b ws := fun {H'} {Dl} {k} L => by
        obtain ⟨acc, av, G', _, _, s, _⟩ := L
        exact ⟨tq s.sub (s.ex _ _ hq), tq s.sub (s.ex _ _ hq')⟩
      refine ⟨a, b, us, ws, rfl, .inr ⟨tq hh1.mem.sub hq, tq hh1.mem.sub hq', fun Dl hn => lc_any (n := us.length) (Lc p G1 H1 Dl I) (lc_start hh1 hn h0) (fun k H' hk L => ?_) (fun H' L => ?_) (fun k v H' H2 hk L hy => ?_) fun H' L => ?_⟩⟩
      · obtain ⟨q1, q2⟩ := sq L
        exact ⟨us, ws, us[k], ws[k]'(by omega), q1, q2, List.getElem?_eq_getElem hk, List.getElem?_eq_getElem (by omega)⟩
      · obtain ⟨q1, q2⟩ := sq L
        exact ⟨us, ws, q1, q2, .inl (Nat.le_refl _)⟩
      · obtain ⟨q1, q2⟩ := sq L
        obtain ⟨T, x', y', e1, hT, e2, hx, hy'⟩ := hy
        subst e1 e2
        obtain ⟨dx, hx1, hx2⟩ := hl.get' (hx us q1)
        obtain ⟨dy, hy1, hy2⟩ := hl'.get' (hy' ws q2)
        refine lc_turn hh1 hn (by omega) (lc_grow hh1 L hT) (fun G' s => ?_) fun acc hi hle => hs k dx dy acc hx1 hy1 hi hle
        obtain ⟨G2, s2, hq2⟩ := Mem.learn (p := p) (hh1.step s).mem upd_same
        exact ⟨G2, s2, .tup hq2 (.cons (rmono hx2 (ex_tr s.ex s2.ex)) (.cons (rmono hy2 (ex_tr s.ex s2.ex)) .nil))⟩
      · obtain ⟨acc, av, G', hi, _, s, e, ow, r⟩ := L
        rw [n1] at hi
        exact kk _ Dl G' H' (hd acc hi) rfl (s1.trans s) (hh.mem.back s1 hn) ⟨Dl, av, rfl, ow, e, r⟩
theorem RpL.bls {K : PySem.W.Frag} {h : Hnd} {G : Hp} : ∀ {vs : List V} {bs : List Bool}, RpL K h G vs (bs.map D.bl) → vs = bs.map V.bl
  | [], [], _ => rfl
  | v :: vs, b :: bs, r => by
    cases r with
    | cons a c => cases a; rw [List.map_cons, RpL.bls c]
  | [], d :: ds, r => by cases r
  | v :: vs, [], r => by cases r
theorem we_all (h : WE p ρ te fun x => ∃ bs : List Bool, x = .lst (bs.map D.bl) ∧ Q (.bl (bs.all id))) : WE p ρ (tCB (rAll p.K) (tCons te tNil)) Q :=
  we_cb (wa_cons (h.imp fun x ⟨bs, e, q⟩ => wa_nil fun G H vs m r Qv k => by
    subst e
    cases r with
    | cons r rn =>
      cases rn
      obtain ⟨a, us, ev, hs, hl⟩ := r.lst_inv
      subst ev
      rw [hl.bls] at hs
      exact ⟨a, bs, rfl, lq m.sub hs, k _ _ G H q m.refl (.bl _)⟩))
theorem we_anyB (h : WE p ρ te fun x => ∃ bs : List Bool, x = .lst (bs.map D.bl) ∧ Q (.bl (bs.any id))) : WE p ρ (tCB (rAny p.K) (tCons te tNil)) Q :=
  we_cb (wa_cons (h.imp fun x ⟨bs, e, q⟩ => wa_nil fun G H vs m r Qv k => by
    subst e
    cases r with
    | cons r rn =>
      cases rn
      obtain ⟨a, us, ev, hs, hl⟩ := r.lst_inv
      subst ev
      rw [hl.bls] at hs
      exact ⟨a, bs, rfl, lq m.sub hs, k _ _ G H q m.refl (.bl _)⟩))
theorem we_neB (h : WE p ρ ta fun x => ∃ i, x = .bl i ∧ WE p ρ tb fun y => ∃ j, y = .bl j ∧ Q (.bl (!(i == j)))) : WE p ρ (tOp rNe ta tb) Q :=
  we_op (h.imp fun x ⟨i, e, h⟩ => h.imp fun y ⟨j, e2, q⟩ => fun G H v w m r1 r2 Qv k => by
    subst e e2
    rw [rp_bl r1, rp_bl r2]
    refine ⟨rfl, ?_⟩
    rw [dec_bl]
    exact k _ _ G H q m.refl (.bl _))
end
/-- nothing is promised -/
theorem Dfn.none {P : Program} {w : World} {K : PySem.W.Frag} {mg : Str → Option Value} {base : Heap} {x : Str} {st : Stmt} {ps : List Str} (F : Src K mg x st) (k : Nat)
    (hb : ∀ (kV doc pm : Value) (an : Option Addr) (cdv ct : Value) (us : List Value), us.length = ps.length → bindArgs (PySem.W.fnOf x x (defArgs st) (defBody st) (defScope st) .none kV doc pm an cdv ct) ⟨us, []⟩ = pure (ps.zip us)) :
    Dfn P w K mg base k x ps fun _ _ => False := by
  obtain ⟨f, fd, hm, F⟩ := F.ex
  exact ⟨f, fd, hm, F.kp, ⟨fun vs H Q E ⟨_, _, _, _, _, _, z, _⟩ => z.elim, fun A outer s H args us vs Q E _ _ _ _ ⟨_, _, _, _, _, _, z, _⟩ => z.elim⟩, F.binds hb⟩
/-! ### data that the laws compare -/
theorem kb_tuple_list : kitB "tuple" "list" = some false := by decide +kernel
theorem kb_list_list : kitB "list" "list" = some true := by decide +kernel
mutual
/-- whether two things are the same, tuples being no lists -/
def isD : D → D → Bool
  | .int i, .int j => decide (i = j)
  | .tup xs, .tup ys => isDL xs ys
  | .lst xs, .lst ys => isDL xs ys
  | _, _ => false
def isDL : List D → List D → Bool
  | [], [] => true
  | x :: xs, y :: ys => isD x y && isDL xs ys
  | _, _ => false
end
/-- of integers, tuples and lists, nested at most n deep, of like kinds at like places -/
inductive P2 : Nat → D → D → Prop
  | int (n : Nat) (i j : Int) : P2 n (.int i) (.int j)
  | tup {n : Nat} {xs ys : List D} : xs.length ≤ 4000000 → (xs.length = ys.length → ∀ (k : Nat) (x y : D), xs[k]? = some x → ys[k]? = some y → P2 n x y) → P2 (n + 1) (.tup xs) (.tup ys)
  | lst {n : Nat} {xs ys : List D} : xs.length ≤ 4000000 → (xs.length = ys.length → ∀ (k : Nat) (x y : D), xs[k]? = some x → ys[k]? = some y → P2 n x y) → P2 (n + 1) (.lst xs) (.lst ys)
theorem isDL_ne : ∀ {xs ys : List D}, xs.length ≠ ys.length → isDL xs ys = false
  | [], [], h => absurd rfl h
  | x :: xs, y :: ys, h => by
    rw [isDL, isDL_ne (xs := xs) (ys := ys) fun e => h (by rw [List.length_cons, List.length_cons, e]), Bool.and_false]
  | [], y :: ys, h => by rw [isDL]; all_goals (intros; simp_all)
  | x :: xs, [], h => by rw [isDL]; all_goals (intros; simp_all)
theorem isDL_all : ∀ {xs ys : List D}, xs.length = ys.length → isDL xs ys = ((xs.zip ys).map fun z => isD z.1 z.2).all id
  | [], [], _ => by rw [isDL]; rfl
  | x :: xs, y :: ys, h => by
    rw [isDL, isDL_all (by simpa using h)]
    rfl
  | [], y :: ys, h => by cases h
  | x :: xs, [], h => by cases h
mutual
theorem isD_self {n : Nat} : ∀ x : D, P2 n x x → isD x x = true
  | .int i, _ => by rw [isD]; exact decide_eq_true rfl
  | .tup xs, h => by
    rw [isD]
    cases h with
    | tup _ q => exact isDL_self xs (fun k x e => q rfl k x x e e)
  | .lst xs, h => by
    rw [isD]
    cases h with
    | lst _ q => exact isDL_self xs (fun k x e => q rfl k x x e e)
  | .non, h => by cases h
  | .bl _, h => by cases h
  | .str _, h => by cases h
  | .hand, h => by cases h
  | .dK _, h => by cases h
  | .dT _, h => by cases h
  | .raw _, h => by cases h
  | .ins _ _, h => by cases h
theorem isDL_self {n : Nat} : ∀ xs : List D, (∀ (k : Nat) (x : D), xs[k]? = some x → P2 n x x) → isDL xs xs = true
  | [], _ => by rw [isDL]
  | x :: xs, h => by
    rw [isDL, isD_self x (h 0 x rfl), isDL_self xs fun k y e => h (k + 1) y (by simpa using e)]
    rfl
end
end Cal
set_option Elab.async false
set_option linter.all false
set_option maxRecDepth 100000
set_option maxHeartbeats 4000000
namespace Cal
open PySem L2 PyProof.Rows
open Evl (Ex sq_of)
section
variable {p : Par} {ρ : Rho} {Q : D → Prop} {ta tb te tl th : TE} {tt tu : TT} {P : Post} {ts tv : TS} {g : TG}
/-- xs.extend(ys), xs slot i's own -/
theorem ws_extend {i : Nat} {xs : List D} (e : ρ[i]? = some (some (.ol xs))) (h : WE p ρ te fun x => ∃ ys, x = .lst ys ∧ xs.length + ys.length ≤ 4000000 ∧ P.n (ρ.set i (some (.ol (xs ++ ys))))) :
    WS p ρ (tDrop (tBM p.K "list" rExtend (tVar i) (tCons te tNil))) P := fun G σ H hh E kn kr kb kc => by
  obtain ⟨sv, h1, a, vs, h2, ow, h4, h5⟩ := hh.slot i _ e
  subst h2
  refine ⟨.ref a, h1, Or.inl ⟨rfl, vs, sq_of h4⟩, h G σ H hh _ fun d w G' H' ⟨ys, ey, hl, z⟩ s r => ?_⟩
  subst ey
  obtain ⟨b, ws, ew, hb, hlr⟩ := r.lst_inv
  subst ew
  have hh' := hh.step s
  obtain ⟨sv', h1', a', vs', h2', ow', h4', h5'⟩ := hh'.slot i _ e
  subst h2'
  rw [h1] at h1'
  cases h1'
  have n1 := h5'.length
  have n2 := hlr.length
  exact ⟨a, b, vs', ws, rfl, rfl, h4', hh'.mem.sub _ _ hb, by rw [sizeLine_eq]; omega, kn _ G' σ _ z s.ex (hh'.write e rfl h1 ow' ⟨a, _, rfl, ow', upd_same, h5'.append hlr⟩)⟩
end
end Cal
set_option Elab.async false
set_option linter.all false
set_option maxRecDepth 100000
set_option maxHeartbeats 4000000
namespace Cal
open PySem L2 PyProof.Rows
open Evl (Ex sq_of)
section
variable {κ : Type} [DecidableEq κ]
theorem dPut_new {kvs : List (κ × D)} {k : κ} {v : D} (h : dGet kvs k = none) : dPut kvs k v = kvs ++ [(k, v)] := by
  unfold dPut
  rw [if_neg]
  intro z
  unfold dGet at h
  rw [Option.map_eq_none_iff, List.find?_eq_none] at h
  obtain ⟨x, hx, e⟩ := List.any_eq_true.mp z
  exact h x hx e
theorem dGet_new {kvs : List (κ × D)} {k : κ} {v : D} (h : dGet kvs k = none) : dGet (kvs ++ [(k, v)]) k = some v := by
  unfold dGet at h ⊢
  rw [Option.map_eq_none_iff] at h
  rw [List.find?_append, h]
  simp
theorem dGet_mem {kvs : List (κ × D)} {k : κ} {v : D} (h : dGet kvs k = some v) : (k, v) ∈ kvs := by
  unfold dGet at h
  obtain ⟨x, hx, e⟩ := Option.map_eq_some_iff.mp h
  have h1 := List.mem_of_find?_eq_some hx
  have h2 := List.find?_some hx
  have h3 : x.1 = k := of_decide_eq_true h2
  rw [← h3, ← e]
  exact h1
theorem dGet_no {kvs : List (κ × D)} {k : κ} (h : dGet kvs k = none) : k ∉ kvs.map (·.1) := by
  intro z
  obtain ⟨x, hx, e⟩ := List.mem_map.mp z
  unfold dGet at h
  rw [Option.map_eq_none_iff, List.find?_eq_none] at h
  exact h x hx (decide_eq_true e)
theorem dGet_not {kvs : List (κ × D)} {k : κ} (h : k ∉ kvs.map (·.1)) : dGet kvs k = none := by
  cases e : dGet kvs k with
  | none => rfl
  | some v => exact (h (List.mem_map.mpr ⟨_, dGet_mem e, rfl⟩)).elim
end
section
variable {p : Par} {ρ : Rho} {Q : D → Prop} {ta tb te tl th : TE} {tt tu : TT} {P : Post} {ts tv : TS} {g : TG}
/-- a, b, c, d = [], x, {}, {}: the dicts with tuples for keys -/
theorem ws_new4T {i j k l r0 : Nat} {x : D} (e : ρ[r0]? = some (some (.d x))) (h : P.n ((((ρ.set i (some (.ol []))).set j (some (.d x))).set k (some (.ot []))).set l (some (.ot [])))) :
    WS p ρ (tAsg (tTup (tCons (tLst tNil) (tCons (tVar r0) (tCons tDNewT (tCons tDNewT tNil))))) (gTup p.K 4 (gCons (gName i) (gCons (gName j) (gCons (gName k) (gCons (gName l) gNil)))))) P := fun G σ H hh E kn kr kb kc => by
  obtain ⟨sv, h1, v, h2, h3⟩ := hh.slot r0 _ e
  subst h2
  refine ⟨sz (Nat.zero_le _), fun a ha => ⟨v, h1, fun b hb c hc => ⟨sz (by show 4 ≤ 4000000; decide), fun t ht => ?_⟩⟩⟩
  have s1 := hh.mem.growO (o := .lst []) ha
  have h1 := hh.setNew (i := i) (c := .ol []) s1 (Nil.no ha) ⟨a, [], rfl, hh.mem.fresh ha, upd_same, .nil⟩
  have h2 := h1.setD (i := j) h3
  have s3 := h2.mem.growO (o := .dT []) hb
  have h4 := h2.setNew (i := k) (c := .ot []) s3 (Nil.no hb) ⟨b, [], rfl, h2.mem.fresh hb, upd_same, .nil⟩
  have s5 := h4.mem.growO (o := .dT []) hc
  have h6 := h4.setNew (i := l) (c := .ot []) s5 (Nil.no hc) ⟨c, [], rfl, h4.mem.fresh hc, upd_same, .nil⟩
  have h7 := h6.step (h6.mem.growO (o := .tup [.ref a, v, .ref b, .ref c]) ht)
  refine ⟨t, _, rfl, Evl.st_of upd_same, rfl, ⟨_, _, rfl, ⟨_, _, rfl, ⟨_, _, rfl, ⟨_, _, rfl, rfl, ?_⟩⟩⟩⟩⟩
  exact kn _ G _ _ h Ex.rfl' h7
end
end Cal
set_option Elab.async false
set_option linter.all false
set_option maxRecDepth 100000
set_option maxHeartbeats 4000000
namespace Cal
open PySem L2 PyProof.Rows
open Evl (Ex sq_of st_of)
/-! ### == and != of nested data -/
mutual
/-- as the data of the comparison of nested things (what has no such data: None) -/
def toPy : D → PyData
  | .non => .none
  | .bl b => .bool b
  | .int i => .int i
  | .str x => .str x
  | .tup xs => .tuple (toPyL xs)
  | .lst xs => .list (toPyL xs)
  | _ => .none
def toPyL : List D → List PyData
  | [] => []
  | x :: xs => toPy x :: toPyL xs
end
/-- None, flags, integers, texts, tuples and lists of such -/
inductive Cmp : D → Prop
  | non : Cmp .non
  | bl (b : Bool) : Cmp (.bl b)
  | int (i : Int) : Cmp (.int i)
  | str (x : Str) : Cmp (.str x)
  | tup {xs : List D} : (∀ x ∈ xs, Cmp x) → Cmp (.tup xs)
  | lst {xs : List D} : (∀ x ∈ xs, Cmp x) → Cmp (.lst xs)
section
variable {K : PySem.W.Frag} {h : Hnd} {G H : Hp}
mutual
theorem dp_of (e : Ex G H) : ∀ (x : D) (v : V), Cmp x → Rp K h G v x → Dp K H v (toPy x)
  | .non, _, _, r => by cases r; exact .non
  | .bl b, _, _, r => by cases r; exact .bl b
  | .int i, _, _, r => by cases r; exact .int i
  | .str x, _, _, r => by cases r; exact .str x
  | .tup xs, _, c, r => by
    obtain ⟨a, vs, ev, hs, hl⟩ := r.tup_inv
    subst ev
    rw [toPy]
    cases c with
    | tup cs => exact .tup (tq e hs) (dpl_of e xs vs cs hl)
  | .lst xs, _, c, r => by
    obtain ⟨a, vs, ev, hs, hl⟩ := r.lst_inv
    subst ev
    rw [toPy]
    cases c with
    | lst cs => exact .lst (lq e hs) (dpl_of e xs vs cs hl)
  | .hand, _, c, _ => by cases c
  | .dK _, _, c, _ => by cases c
  | .dT _, _, c, _ => by cases c
  | .raw _, _, c, _ => by cases c
  | .ins _ _, _, c, _ => by cases c
theorem dpl_of (e : Ex G H) : ∀ (xs : List D) (vs : List V), (∀ x ∈ xs, Cmp x) → RpL K h G vs xs → DpAll K H vs (toPyL xs)
  | [], _, _, r => by cases r; rw [toPyL]; exact .nil
  | x :: xs, _, c, r => by
    cases r with
    | cons a b =>
      rw [toPyL]
      exact .cons (dp_of e x _ (c x List.mem_cons_self) a) (dpl_of e xs _ (fun y hy => c y (List.mem_cons_of_mem _ hy)) b)
end
end
section
variable {p : Par} {ρ : Rho} {Q : D → Prop} {ta tb te tl th : TE} {tt tu : TT} {P : Post} {ts tv : TS} {g : TG}
theorem we_eqD (h : WE p ρ ta fun x => Cmp x ∧ SeqAt.shaped (toPy x) = true ∧ WE p ρ tb fun y => Cmp y ∧ SeqAt.shaped (toPy y) = true ∧ Q (.bl (PyData.eqv (toPy x) (toPy y)))) : WE p ρ (tOp (rEqD p.K) ta tb) Q :=
  we_op (h.imp fun x ⟨c1, s1, h⟩ => h.imp fun y ⟨c2, s2, q⟩ => fun G H v w m r1 r2 Qv k =>
    ⟨_, _, dp_of m.sub x v c1 r1, dp_of m.sub y w c2 r2, s1, s2, k _ _ G H q m.refl (.bl _)⟩)
theorem we_neD (h : WE p ρ ta fun x => Cmp x ∧ SeqAt.shaped (toPy x) = true ∧ WE p ρ tb fun y => Cmp y ∧ SeqAt.shaped (toPy y) = true ∧ Q (.bl (!PyData.eqv (toPy x) (toPy y)))) : WE p ρ (tOp (rNeD p.K) ta tb) Q :=
  we_op (h.imp fun x ⟨c1, s1, h⟩ => h.imp fun y ⟨c2, s2, q⟩ => fun G H v w m r1 r2 Qv k =>
    ⟨_, _, dp_of m.sub x v c1 r1, dp_of m.sub y w c2 r2, s1, s2, k _ _ G H q m.refl (.bl _)⟩)
/-- max(ns), min(ns) of a list of integers -/
theorem we_maxL (h : WE p ρ te fun x => ∃ ns : List Int, x = .lst (ns.map D.int) ∧ 0 < ns.length ∧ ∀ m, m ∈ ns → (∀ y, y ∈ ns → y ≤ m) → Q (.int m)) : WE p ρ (tCB (rMax p.K) (tCons te tNil)) Q :=
  we_cb (wa_cons (h.imp fun x ⟨ns, e, hn, q⟩ => wa_nil fun G H vs m r Qv k => by
    subst e
    cases r with
    | cons r rn =>
      cases rn
      obtain ⟨a, us, ev, hs, hl⟩ := r.lst_inv
      subst ev
      rw [hl.ints] at hs
      exact ⟨a, ns, rfl, lq m.sub hs, hn, fun z h1 h2 => k _ _ G H (q z h1 h2) m.refl (.int _)⟩))
theorem we_minL (h : WE p ρ te fun x => ∃ ns : List Int, x = .lst (ns.map D.int) ∧ 0 < ns.length ∧ ∀ m, m ∈ ns → (∀ y, y ∈ ns → m ≤ y) → Q (.int m)) : WE p ρ (tCB (rMin p.K) (tCons te tNil)) Q :=
  we_cb (wa_cons (h.imp fun x ⟨ns, e, hn, q⟩ => wa_nil fun G H vs m r Qv k => by
    subst e
    cases r with
    | cons r rn =>
      cases rn
      obtain ⟨a, us, ev, hs, hl⟩ := r.lst_inv
      subst ev
      rw [hl.ints] at hs
      exact ⟨a, ns, rfl, lq m.sub hs, hn, fun z h1 h2 => k _ _ G H (q z h1 h2) m.refl (.int _)⟩))
theorem any_toPy {x : D} {ys : List D} : ((toPyL ys).any fun z => PyData.eqv z (toPy x)) = ys.any fun y => PyData.eqv (toPy y) (toPy x) := by
  induction ys with
  | nil => rw [toPyL]; rfl
  | cons y ys ih => rw [toPyL, List.any_cons, List.any_cons, ih]
theorem we_inD (h : WE p ρ ta fun x => Cmp x ∧ SeqAt.shaped (toPy x) = true ∧ WE p ρ tb fun y => ∃ ys, y = .lst ys ∧ Cmp y ∧ SeqAt.shaped (toPy y) = true ∧ Q (.bl (ys.any fun z => PyData.eqv (toPy z) (toPy x)))) : WE p ρ (tOp (rInD p.K) ta tb) Q :=
  we_op (h.imp fun x ⟨c1, s1, h⟩ => h.imp fun y ⟨ys, ey, c2, s2, q⟩ => fun G H v w m r1 r2 Qv k => by
    subst ey
    have d2 := dp_of m.sub _ w c2 r2
    rw [toPy] at d2 s2
    refine ⟨_, _, dp_of m.sub x v c1 r1, d2, s1, s2, ?_⟩
    rw [any_toPy]
    exact k _ _ G H q m.refl (.bl _))
theorem we_notInD (h : WE p ρ ta fun x => Cmp x ∧ SeqAt.shaped (toPy x) = true ∧ WE p ρ tb fun y => ∃ ys, y = .lst ys ∧ Cmp y ∧ SeqAt.shaped (toPy y) = true ∧ Q (.bl (!ys.any fun z => PyData.eqv (toPy z) (toPy x)))) : WE p ρ (tOp (rNotInD p.K) ta tb) Q :=
  we_op (h.imp fun x ⟨c1, s1, h⟩ => h.imp fun y ⟨ys, ey, c2, s2, q⟩ => fun G H v w m r1 r2 Qv k => by
    subst ey
    have d2 := dp_of m.sub _ w c2 r2
    rw [toPy] at d2 s2
    refine ⟨_, _, dp_of m.sub x v c1 r1, d2, s1, s2, ?_⟩
    rw [any_toPy]
    exact k _ _ G H q m.refl (.bl _))
theorem rep_rp {G : Hp} {vs : List V} {ds : List D} (r : RpL p.K p.h G vs ds) : ∀ n : Nat, RpL p.K p.h G (List.replicate n vs).flatten (List.replicate n ds).flatten
  | 0 => .nil
  | n + 1 => by
    rw [List.replicate_succ, List.replicate_succ, List.flatten_cons, List.flatten_cons]
    exact r.append (rep_rp r n)
/-- xs * n -/
theorem we_repL (h : WE p ρ ta fun x => ∃ xs, x = .lst xs ∧ WE p ρ tb fun y => ∃ n : Int, y = .int n ∧ -(2 ^ 63) ≤ n ∧ n < 2 ^ 63 ∧ xs.length * n.toNat ≤ 4000000 ∧ Q (.lst (List.replicate n.toNat xs).flatten)) : WE p ρ (tOp rRep ta tb) Q :=
  we_op (h.imp fun x ⟨xs, ex, h⟩ => h.imp fun y ⟨n, ey, n1, n2, n3, q⟩ => fun G H v w m r1 r2 Qv k => by
    subst ex ey
    obtain ⟨a, vs, ev, hs, hl⟩ := r1.lst_inv
    subst ev
    have hz := hl.length
    refine ⟨a, n, vs, rfl, rp_int r2, m.sub _ _ hs, n1, n2, by rw [hz, sizeLine_eq]; omega, fun b hb => ?_⟩
    have g := m.grow (o := .lst (List.replicate n.toNat vs).flatten) hb
    exact k _ _ _ _ q g (.lst upd_same (lmono (rep_rp hl _) g.ex)))
theorem we_repT (h : WE p ρ ta fun x => ∃ xs, x = .tup xs ∧ xs ≠ [] ∧ xs.length ≤ 1000 ∧ WE p ρ tb fun y => ∃ n : Int, y = .int n ∧ 2 ≤ n ∧ n ≤ 1000 ∧ Q (.tup (List.replicate n.toNat xs).flatten)) : WE p ρ (tOp (rRepT p.K) ta tb) Q :=
  we_op (h.imp fun x ⟨xs, ex, hne, hxl, h⟩ => h.imp fun y ⟨n, ey, n1, n2, q⟩ => fun G H v w m r1 r2 Qv k => by
    subst ex ey
    obtain ⟨a, vs, ev, hs, hl⟩ := r1.tup_inv
    subst ev
    have hz := hl.length
    refine ⟨a, n, vs, rfl, rp_int r2, tq m.sub hs, fun z => hne ?_, n1, n2, by omega, fun b hb => ?_⟩
    · rw [z] at hz
      exact List.length_eq_zero_iff.mp hz.symm
    · have g := m.grow (o := .tup (List.replicate n.toNat vs).flatten) hb
      exact k _ _ _ _ q g (.tup upd_same (lmono (rep_rp hl _) g.ex)))
end
section
variable {X : Cx} {K0 : PySem.W.Frag}
theorem cr_maxK (hK : X.K = K0) (hc : X.calm = true) : CallR X (.builtin "max") (rMax K0) := hK ▸ cr_max hc
theorem cr_minK (hK : X.K = K0) (hc : X.calm = true) : CallR X (.builtin "min") (rMin K0) := hK ▸ cr_min hc
theorem op_inDK (hK : X.K = K0) (hu : X.A.units + 65 < cLine) : OpR X (compareOp .In) (rInD K0) := hK ▸ op_inD hu
theorem op_notInDK (hK : X.K = K0) (hu : X.A.units + 65 < cLine) : OpR X (compareOp .NotIn) (rNotInD K0) := hK ▸ op_notInD hu
theorem op_repTK (hK : X.K = K0) : OpR X (binaryOp .Mult) (rRepT K0) := hK ▸ op_repT
theorem room65 {A : Around} {k : Nat} (hr : Room k A) : A.units + 65 < cLine := by have := hr.un; omega
end
end Cal
set_option Elab.async false
set_option linter.all false
set_option maxRecDepth 100000
set_option maxHeartbeats 4000000
namespace Cal
open PySem L2 PyProof.Rows
open Evl (Ex sq_of st_of)
/-! ### an owned list, lent to an expression that tells a scalar -/
theorem rp_sc {K : PySem.W.Frag} {h : Hnd} {G G' : Hp} {v : V} : ∀ {d : D}, d.sc = true → Rp K h G v d → Rp K h G' v d
  | .non, _, r => by cases r; exact .non
  | .bl b, _, r => by cases r; exact .bl b
  | .int i, _, r => by cases r; exact .int i
  | .str x, _, r => by cases r; exact .str x
  | .hand, h, _ => by cases h
  | .tup _, h, _ => by cases h
  | .lst _, h, _ => by cases h
  | .dK _, h, _ => by cases h
  | .dT _, h, _ => by cases h
  | .raw _, h, _ => by cases h
  | .ins _ _, h, _ => by cases h
/-- no list of integers alone -/
def D.nonInt : List D → Bool
  | .tup _ :: _ => true | .lst _ :: _ => true | .non :: _ => true | .str _ :: _ => true | .bl _ :: _ => true | _ => false
theorem lent {p : Par} {ρ : Rho} {G G' H H' : Hp} {σ : L2.St} {a : Addr} {vs : List V} {xs : List D} (hh : Hold p ρ G σ H) (ow : Own p G a) (ha : H a = some (.lst vs)) (hl : RpL p.K p.h G vs xs) (hn : D.nonInt xs = true) (s : Stp p (upd G a (.lst vs)) H G' H') :
    Stp p G H (fun b => if b = a then none else G' b) H' := by
  have ne : ∀ {b : Addr} {o : HO}, (if b = a then none else G' b) = some o → b ≠ a ∧ G' b = some o := fun {b o} z => by
    by_cases hb : b = a
    · rw [if_pos hb] at z; cases z
    · rw [if_neg hb] at z; exact ⟨hb, z⟩
  refine ⟨fun b o z => s.sub b o (ne z).2, ?_, s.base, fun b o z => ?_, fun b o z => ?_, ?_, fun b ps z => s.gt b ps (ne z).2, s.tab⟩
  · show (if p.h.a = a then none else G' p.h.a) = none
    rw [if_neg (Ne.symm ow.2.2)]; exact s.gh
  · have hb : b ≠ a := ne_of_none z ow.1
    show (if b = a then none else G' b) = some o
    rw [if_neg hb]
    exact s.g0 b o ((upd_ne hb).trans z)
  · obtain ⟨hb, z2⟩ := ne z
    rcases s.new b o z2 with q | q
    · exact .inl ((upd_ne hb).symm.trans q)
    · exact .inr q
  · obtain ⟨ns, i, r, n, h1, h2, h3⟩ := s.hand
    have hc : p.h.c ≠ a := fun e => by
      obtain ⟨ns2, _, _, _, _, g2, _⟩ := hh.mem.hand
      rw [e, ow.1] at g2
      cases g2
    exact ⟨ns, i, r, n, h1, by show (if p.h.c = a then none else G' p.h.c) = _; rw [if_neg hc]; exact h2, h3⟩
section
variable {p : Par} {ρ : Rho} {Q : D → Prop} {ta tb te : TE} {tt tu : TT}
theorem we_lend (i : Nat) {xs : List D} (e : ρ[i]? = some (some (.ol xs))) (hn : D.nonInt xs = true) (h : WE p (ρ.set i (some (.d (.lst xs)))) te fun d => d.sc = true ∧ Q d) : WE p ρ te Q := fun G σ H hh Qv k => by
  obtain ⟨sv, h1, a, vs, h2, ow, h4, h5⟩ := hh.slot i _ e
  subst h2
  obtain ⟨hh', ex⟩ := hh.freeze e rfl h1 ow h4 (x := .lst xs) (.lst upd_same (lmono h5 fun b u z => by rw [upd_ne (ne_of_none z ow.1)]; exact z))
  refine h _ σ H hh' Qv fun d v G' H' ⟨hd, q⟩ s r => ?_
  exact k d v _ H' q (lent hh ow h4 h5 hn s) (rp_sc hd r)
theorem wt_lend (i : Nat) {xs : List D} {R : Bool → Prop} (e : ρ[i]? = some (some (.ol xs))) (hn : D.nonInt xs = true) (h : WT p (ρ.set i (some (.d (.lst xs)))) tt R) : WT p ρ tt R := fun G σ H hh Qv k => by
  obtain ⟨sv, h1, a, vs, h2, ow, h4, h5⟩ := hh.slot i _ e
  subst h2
  obtain ⟨hh', ex⟩ := hh.freeze e rfl h1 ow h4 (x := .lst xs) (.lst upd_same (lmono h5 fun b u z => by rw [upd_ne (ne_of_none z ow.1)]; exact z))
  exact h _ σ H hh' Qv fun b G' H' q s => k b _ H' q (lent hh ow h4 h5 hn s)
end
end Cal
set_option Elab.async false
set_option linter.all false
set_option maxRecDepth 100000
set_option maxHeartbeats 4000000
namespace Cal
open PySem L2 PyProof.Rows
open Evl (Ex sq_of st_of)
section
variable {p : Par} {ρ : Rho} {Q : D → Prop} {ta tb te tl th : TE} {tt tu : TT} {P : Post} {ts tv : TS} {g : TG}
/-- a comprehension over range(a, b, c) -/
theorem wf_lc3 {ta : TA} {vs : List Nat} {Q : Cell → Prop} (h : WA p ρ ta fun ds => ∃ (lo hi c : Int) (n : Nat), ds = [.int lo, .int hi, .int c] ∧ RgC lo hi c n ∧ n ≤ 4000000 ∧ ∃ I : Nat → List D → Prop, I 0 [] ∧
    (∀ k acc, k < n → I k acc → acc.length ≤ k → WGp p vs (wipeR ρ vs) g (.int (lo + (k : Nat) * c)) fun ρ2 => WT p ρ2 tt fun b => if b = true then WE p ρ2 te fun y => I (k + 1) (acc ++ [y]) else I (k + 1) acc) ∧ ∀ acc, I n acc → Q (.ol acc)) :
    WF p ρ (tLc (iRng3 ta) g tt te vs) Q := fun G σ H hh Qv kk =>
  h G σ H hh _ fun ds ws G1 H1 ⟨lo, hi, c, n, e, hc, hz, I, h0, hs, hd⟩ s1 r1 => by
    subst e
    cases r1 with
    | cons r1 rn =>
      cases rn with
      | cons r2 rn =>
        cases rn with
        | cons r3 rn =>
          cases rn; cases r1; cases r2; cases r3
          have hh1 := hh.step s1
          refine ⟨lo, hi, c, n, rfl, hc, fun Dl hn => lc_any (n := n) (Lc p G1 H1 Dl I) (lc_start hh1 hn h0) (fun k H' hk L => hk) (fun H' L => Nat.le_refl _) (fun k v H' H2 hk L hy => ?_) fun H' L => ?_⟩
          · obtain ⟨e1, e2⟩ := hy
            subst e1 e2
            exact lc_turn hh1 hn (by omega) L (fun G' s => ⟨G', (hh1.step s).mem.refl, .int _⟩) fun acc hi hle => hs k acc hk hi hle
          · obtain ⟨acc, av, G', hi, _, s, e, ow, r⟩ := L
            exact kk _ Dl G' H' (hd acc hi) rfl (s1.trans s) (hh.mem.back s1 hn) ⟨Dl, av, rfl, ow, e, r⟩
theorem fits {z : Int} (h : -9000000 ≤ z ∧ z ≤ 9000000) : Builtin.Range.rangeFitsLong z = true := by
  unfold Builtin.Range.rangeFitsLong
  rw [decide_eq_true (show -(2 ^ 63) ≤ z by omega), decide_eq_true (show z < 2 ^ 63 by omega)]
  rfl
theorem rgc2 (m : Nat) (h : m ≤ 4000000) : RgC 0 ((2 * m : Nat) : Int) 2 m := by
  have e : Builtin.Range.rangeSize 0 ((2 * m : Nat) : Int) 2 = m := by
    unfold Builtin.Range.rangeSize
    rw [if_pos (by decide)]
    split <;> omega
  refine ⟨by decide, by decide, ?_, e⟩
  unfold Builtin.Range.small
  rw [e, if_pos (by decide), fits (by omega), fits (by omega), fits (by omega), fits (by omega), fits (by omega), Bool.or_true]
  rfl
/-- whether an int is not 0 -/
theorem wt_truI {R : Bool → Prop} (h : WE p ρ te fun x => ∃ i : Int, x = .int i ∧ R (decide (i ≠ 0))) : WT p ρ (fun σ H Q => te σ H fun x H' => ∃ k, TruV p.K x H' k ∧ Q k H') R := fun G σ H hh Qv k =>
  h G σ H hh _ fun x v G1 H1 ⟨i, e, q⟩ s1 r1 => by
    subst e
    cases r1
    refine ⟨decide (i ≠ 0), ?_, k _ G1 H1 q s1⟩
    show decide (i ≠ 0) = (i != 0)
    by_cases hi : i = 0
    · rw [hi]; rfl
    · rw [decide_eq_true hi]; simpa using hi
/-- by way of what is known between -/
theorem ws_to (M : Rho → Prop) (h : WS p ρ ts ⟨M, P.r, P.b, P.c⟩) (k : ∀ ρ', M ρ' → P.n ρ') : WS p ρ ts P := fun G σ H hh E kn kr kb kc =>
  h G σ H hh E (fun ρ' G' σ' H' z e hh' => kn ρ' G' σ' H' (k ρ' z) e hh') kr kb kc
theorem band1 (x : Int) : Builtin.bitAnd x 1 = x % 2 := bitAnd_m1 x
end
end Cal
set_option Elab.async false
set_option linter.all false
set_option maxRecDepth 100000
set_option maxHeartbeats 4000000
namespace Cal
open PySem L2 PyProof.Rows
open Evl (Ex sq_of st_of)
section
variable {p : Par} {ρ : Rho} {Q : D → Prop} {ta tb te tl th : TE} {tt tu : TT} {P : Post} {ts tv : TS} {g : TG}
/-- a, b = two new things -/
theorem ws_newPair {i j : Nat} (h : WF p ρ ta fun c1 => WF p ρ tb fun c2 => P.n ((ρ.set i (some c1)).set j (some c2))) :
    WS p ρ (tAsg (tTup (tCons ta (tCons tb tNil))) (gTup p.K 2 (gCons (gName i) (gCons (gName j) gNil)))) P := fun G σ H hh E kn kr kb kc => by
  refine h G σ H hh _ fun c1 a G1 H1 q ho1 s1 n1 x1 => q G1 σ H1 (hh.step s1) _ fun c2 b G2 H2 q2 ho2 s2 n2 x2 => ⟨sz (by show 2 ≤ 4000000; decide), fun t ht => ?_⟩
  have h1 := hh.setNew (i := i) s1 n1 x1
  have h2 := h1.setNew (i := j) s2 n2 x2
  have h3 := h2.step (h2.mem.growO (o := .tup [.ref a, .ref b]) ht)
  exact ⟨t, _, rfl, Evl.st_of upd_same, rfl, ⟨_, _, rfl, ⟨_, _, rfl, rfl, kn _ G2 _ _ q2 (ex_tr s1.ex s2.ex) h3⟩⟩⟩
/-- a, b, c = [], x, {}: the dict with tuples for keys -/
theorem ws_new3T {i j l r0 : Nat} {x : D} (e : ρ[r0]? = some (some (.d x))) (h : P.n (((ρ.set i (some (.ol []))).set j (some (.d x))).set l (some (.ot [])))) :
    WS p ρ (tPar3 i j l (tCons (tLst tNil) (tCons (tVar r0) (tCons tDNewT tNil)))) P := fun G σ H hh E kn kr kb kc => by
  obtain ⟨sv, h1, v, h2, h3⟩ := hh.slot r0 _ e
  subst h2
  refine ⟨sz (Nat.zero_le _), fun a ha => ⟨v, h1, fun c hc => ?_⟩⟩
  have s1 := hh.mem.growO (o := .lst []) ha
  have h1 := hh.setNew (i := i) (c := .ol []) s1 (Nil.no ha) ⟨a, [], rfl, hh.mem.fresh ha, upd_same, .nil⟩
  have h2 := h1.setD (i := j) h3
  have s5 := h2.mem.growO (o := .dT []) hc
  have h6 := h2.setNew (i := l) (c := .ot []) s5 (Nil.no hc) ⟨c, [], rfl, h2.mem.fresh hc, upd_same, .nil⟩
  exact ⟨_, _, _, rfl, kn _ G _ _ h Ex.rfl' h6⟩
theorem RpL.last {K : PySem.W.Frag} {h : Hnd} {G : Hp} {vs : List V} {xs : List D} {x : D} (r : RpL K h G vs (xs ++ [x])) : ∃ v, vs[vs.length - 1]? = some v ∧ Rp K h G v x ∧ RpL K h G vs.dropLast xs := by
  have hl := r.length
  rw [List.length_append, List.length_singleton] at hl
  obtain ⟨v, h1, h2⟩ := r.get (i := xs.length) (d := x) (by rw [List.getElem?_append_right (Nat.le_refl _), Nat.sub_self]; rfl)
  refine ⟨v, by rw [hl, Nat.add_sub_cancel]; exact h1, h2, ?_⟩
  have h3 := r.take xs.length
  rw [List.take_append_of_le_length (Nat.le_refl _), List.take_length] at h3
  rw [List.dropLast_eq_take, hl, Nat.add_sub_cancel]
  exact h3
/-- b = [a.pop()] + .. -/
theorem ws_popcat {i j : Nat} {xs : List D} {x : D} (e : ρ[i]? = some (some (.ol (xs ++ [x])))) (h : WE p (ρ.set i (some (.ol xs))) tb fun y => ∃ ys, y = .lst ys ∧ ys.length < 4000000 ∧ P.n ((ρ.set i (some (.ol xs))).set j (some (.d (.lst (x :: ys)))))) :
    WS p ρ (tAsg (tOp rCat (tLst (tCons (tBM0 p.K "list" rPop (tVar i)) tNil)) tb) (gName j)) P := fun G σ H hh E kn kr kb kc => by
  obtain ⟨sv, h1, a, vs, h2, ow, h4, h5⟩ := hh.slot i _ e
  subst h2
  obtain ⟨v, hv, rv, rd⟩ := h5.last
  refine ⟨.ref a, h1, .inl ⟨rfl, vs, sq_of h4⟩, a, vs, v, rfl, rfl, h4, hv, sz (by show 1 ≤ 4000000; decide), fun b hb => ?_⟩
  have hh1 : Hold p (ρ.set i (some (.ol xs))) G σ (upd H a (.lst vs.dropLast)) := hh.write e rfl h1 ow ⟨a, _, rfl, ow, upd_same, rd⟩
  have g1 := hh1.mem.grow (o := .lst [v]) hb
  have hh2 := hh1.step g1
  refine h _ σ _ hh2 _ fun y w G3 H3 ⟨ys, ey, hz, hP⟩ s3 r3 => ?_
  subst ey
  obtain ⟨c, ws, ew, ht, hm⟩ := r3.lst_inv
  subst ew
  have hh3 := hh2.step s3
  have hb3 : H3 b = some (.lst [v]) := hh3.mem.sub _ _ (s3.ex _ _ upd_same)
  have hz2 := hm.length
  refine ⟨b, c, [v], ws, rfl, rfl, hb3, hh3.mem.sub _ _ ht, sz (by show 1 + ws.length ≤ 4000000; omega), fun q hq => ?_⟩
  have g4 := hh3.mem.grow (o := .lst ([v] ++ ws)) hq
  have hh4 := hh3.step g4
  have ex4 : Ex G (upd G3 q (.lst ([v] ++ ws))) := ex_tr (ex_tr g1.ex s3.ex) g4.ex
  exact kn _ _ _ _ hP ex4 (hh4.setD (.lst upd_same (.cons (rmono rv ex4) (lmono hm g4.ex))))
/-- <= of lists of ints -/
def rLeL (K : PySem.W.Frag) : R2 := fun x y H Q => ∃ (a b : Addr) (ns ms : List Int), x = .ref a ∧ y = .ref b ∧ SqL K H a (ns.map V.int) ∧ SqL K H b (ms.map V.int) ∧
  Q (.bl (SeqAt.firstLt (fun j => decide (ns.getD j 0 = ms.getD j 0)) (fun j => decide (ns.getD j 0 ≤ ms.getD j 0)) (decide (ns.length ≤ ms.length)) (List.range (min ns.length ms.length)))) H
/-- what stands in an array of ints -/
theorem arr_int {its : List Value} {ns : List Int} (r : IntsAre its ns) {j : Nat} (hj : j < its.toArray.size) : ∃ t, its.toArray[j] = .int (ns.getD j 0) t := IntsAre.int_at r _ _ (by
  rw [List.size_toArray] at hj
  simp [hj])
theorem eq_ints {A : Around} {s : Shared} (i j : Int) (t u : Tok) : SeqAt.EqAt A s (.int i t) (.int j u) (decide (i = j)) := by
  rw [show decide (i = j) = (i == j) by by_cases h : i = j <;> simp [h]]
  exact SeqAt.EqAt.int_int _ _ _ _
theorem op_leL {X : Cx} (hu : X.A.units < cLine) : OpR X (compareOp .LtE) (rLeL X.K) := by
  rintro pins s σ H x y v u Q I rx ry ⟨a, b, ns, ms, rfl, rfl, ha, hb, q⟩
  cases rx; cases ry
  rcases I.list ha with ⟨vs, rv, ⟨o, m, g1, g2, _, g4⟩, _⟩
  rcases I.list hb with ⟨ws, rw', ⟨o', m', k1, k2, _, k4⟩, _⟩
  have iv := Vals.ints rv
  have iw := Vals.ints rw'
  have lv : vs.toArray.size = ns.length := (List.size_toArray).trans iv.length
  have lw : ws.toArray.size = ms.length := (List.size_toArray).trans iw.length
  have le := SeqAt.RcOp.lists_le (e := fun j => decide (ns.getD j 0 = ms.getD j 0)) (r := fun j => decide (ns.getD j 0 ≤ ms.getD j 0)) ⟨o, g1, g2, m, g4⟩ ⟨o', k1, k2, m', k4⟩ hu
    (fun j h1 h2 => by
      rcases arr_int iv h1 with ⟨t, e1⟩
      rcases arr_int iw h2 with ⟨t', e2⟩
      rw [e1, e2]; exact eq_ints _ _ _ _)
    (fun j h1 h2 _ => by
      rcases arr_int iv h1 with ⟨t, e1⟩
      rcases arr_int iw h2 with ⟨t', e2⟩
      rw [e1, e2]; exact fun _ _ _ _ h => le_int h)
  rw [lv, lw] at le
  exact (le X.prog X.w X.xe (EP X pins σ Q) ⟨.bl _, H, I, rfl, q⟩ : wpAny (model X.prog X.w) X.A (compareOp .LtE (.ref a) (.ref b)) (EP X pins σ Q) X.xe s)
theorem roomU {A : Around} {k : Nat} (hr : Room k A) : A.units < cLine := by have := hr.un; omega
theorem op_leLK {X : Cx} {K0 : PySem.W.Frag} (hK : X.K = K0) (hu : X.A.units < cLine) : OpR X (compareOp .LtE) (rLeL K0) := hK ▸ op_leL hu
end
section
variable {p : Par} {ρ : Rho} {Q : D → Prop} {ta tb tc te tl th : TE} {tt tu : TT} {P : Post} {ts tv : TS} {g : TG}
def firstI (ns ms : List Int) : Bool := SeqAt.firstLt (fun j => decide (ns.getD j 0 = ms.getD j 0)) (fun j => decide (ns.getD j 0 ≤ ms.getD j 0)) (decide (ns.length ≤ ms.length)) (List.range (min ns.length ms.length))
/-- a <= b <= c of lists of ints -/
theorem we_chainL (h : WE p ρ ta fun x => ∃ ns : List Int, x = .lst (ns.map D.int) ∧ WE p ρ tb fun y => ∃ ms : List Int, y = .lst (ms.map D.int) ∧ (firstI ns ms = true → WE p ρ tc fun z => ∃ ks : List Int, z = .lst (ks.map D.int) ∧ Q (.bl (firstI ms ks))) ∧ (firstI ns ms = false → Q (.bl false))) :
    WE p ρ (tChain (rLeL p.K) (rLeL p.K) ta tb tc) Q := fun G σ H hh Qv k =>
  h G σ H hh _ fun x v G1 H1 ⟨ns, e1, h2⟩ s1 r1 => h2 G1 σ H1 (hh.step s1) _ fun y w G2 H2 ⟨ms, e2, q1, q2⟩ s2 r2 => by
    subst e1 e2
    obtain ⟨a, us, ev, hs, hl⟩ := r1.lst_inv
    obtain ⟨b, ws, ew, ht, hm⟩ := r2.lst_inv
    subst ev ew
    rw [hl.ints] at hs
    rw [hm.ints] at ht
    have hh2 := (hh.step s1).step s2
    refine ⟨a, b, ns, ms, rfl, rfl, lq hh2.mem.sub (s2.ex _ _ hs), lq hh2.mem.sub ht, firstI ns ms, rfl, ?_⟩
    cases hb : firstI ns ms with
    | false => rw [if_neg (by decide)]; exact k _ _ G2 H2 (q2 hb) (s1.trans s2) (.bl _)
    | true =>
      rw [if_pos rfl]
      refine q1 hb G2 σ H2 hh2 _ fun z u G3 H3 ⟨ks, e3, q⟩ s3 r3 => ?_
      subst e3
      obtain ⟨c, zs, ez, hu, hn⟩ := r3.lst_inv
      subst ez
      rw [hn.ints] at hu
      have hh3 := hh2.step s3
      exact ⟨b, c, ms, ks, rfl, rfl, lq hh3.mem.sub (s3.ex _ _ ht), lq hh3.mem.sub hu, k _ _ G3 H3 q ((s1.trans s2).trans s3) (.bl _)⟩
/-- a is not b, of flags -/
theorem we_isnotB (h : WE p ρ ta fun x => ∃ a, x = .bl a ∧ WE p ρ tb fun y => ∃ b, y = .bl b ∧ Q (.bl (!decide (a = b)))) : WE p ρ (tOp (fun x y H Q => ∃ a b, x = .bl a ∧ y = .bl b ∧ Q (.bl (!decide (a = b))) H) ta tb) Q :=
  we_op (h.imp fun x ⟨a, ex, h⟩ => h.imp fun y ⟨b, ey, q⟩ => fun G H v w m r1 r2 Qv k => by
    subst ex ey
    cases r1
    cases r2
    exact ⟨a, b, rfl, rfl, k _ _ G H q m.refl (.bl _)⟩)
end
end Cal
set_option Elab.async false
set_option linter.all false
set_option maxRecDepth 100000
set_option maxHeartbeats 4000000
namespace Cal
open PySem L2 PyProof.Rows
open Evl (Ex sq_of st_of)
/-! ### objects of a class of the program -/
def putD (f : Str) (y : D) : List (Str × D) → List (Str × D)
  | [] => [(f, y)]
  | (g, x) :: r => if g = f then (g, y) :: r else (g, x) :: putD f y r
section
variable {K : PySem.W.Frag} {h : Hnd} {G : Hp}
theorem RpF.length : ∀ {vs : List (Str × V)} {fs : List (Str × D)}, RpF K h G vs fs → vs.length = fs.length
  | [], [], _ => rfl
  | v :: vs, d :: ds, r => by cases r with | cons a b => rw [List.length_cons, List.length_cons, RpF.length b]
  | [], d :: ds, r => by cases r
  | v :: vs, [], r => by cases r
theorem RpF.lookup {f : Str} {y : D} : ∀ {vs : List (Str × V)} {fs : List (Str × D)}, RpF K h G vs fs → fs.lookup f = some y → ∃ v, vs.lookup f = some v ∧ Rp K h G v y
  | [], [], _, e => by cases e
  | v :: vs, d :: ds, r, e => by
    cases r with
    | @cons g v _ d _ a b =>
      rw [lookup_if] at e ⊢
      by_cases hg : f = g
      · rw [if_pos hg] at e ⊢
        cases e
        exact ⟨v, rfl, a⟩
      · rw [if_neg hg] at e ⊢
        exact RpF.lookup b e
  | [], d :: ds, r, _ => by cases r
  | v :: vs, [], r, _ => by cases r
theorem RpF.put {f : Str} {v : V} {y : D} (q : Rp K h G v y) : ∀ {vs : List (Str × V)} {fs : List (Str × D)}, RpF K h G vs fs → RpF K h G (putF f v vs) (putD f y fs)
  | [], [], _ => .cons q .nil
  | x :: vs, d :: ds, r => by
    cases r with
    | @cons g v' _ d' _ a b =>
      rw [putF, putD]
      by_cases hg : g = f
      · rw [if_pos hg, if_pos hg]; exact .cons q b
      · rw [if_neg hg, if_neg hg]; exact .cons a (RpF.put q b)
  | [], d :: ds, r => by cases r
  | v :: vs, [], r => by cases r
end
section
variable {p : Par} {ρ : Rho} {Q : D → Prop} {ta tb te tl th : TE} {tt tu : TT} {P : Post} {ts tv : TS} {g : TG}
theorem look_mem {f : Str} {y : D} : ∀ {fs : List (Str × D)}, fs.lookup f = some y → f ∈ fs.map (·.1)
  | [], e => by cases e
  | d :: ds, e => by
    rw [show d = (d.1, d.2) from rfl, lookup_if] at e
    by_cases h : f = d.1
    · rw [h]; exact List.mem_cons_self
    · rw [if_neg h] at e
      exact List.mem_cons_of_mem _ (look_mem e)
theorem putD_mem {f g : Str} {y : D} : ∀ {fs : List (Str × D)}, g ∈ (putD f y fs).map (·.1) → g = f ∨ g ∈ fs.map (·.1)
  | [], h => by
    rw [putD] at h
    exact .inl (List.mem_singleton.mp h)
  | d :: ds, h => by
    rw [show d = (d.1, d.2) from rfl, putD] at h
    by_cases hd : d.1 = f
    · rw [if_pos hd] at h
      exact .inr h
    · rw [if_neg hd] at h
      rcases List.mem_cons.mp h with h | h
      · exact .inr (by rw [h]; exact List.mem_cons_self)
      · rcases putD_mem h with h | h
        · exact .inl h
        · exact .inr (List.mem_cons_of_mem _ h)
/-- e.f -/
theorem we_fld {f : Str} (h : WE p ρ te fun x => ∃ C fs y, x = .ins C fs ∧ fs.lookup f = some y ∧ Q y) : WE p ρ (tFld p.K te f) Q := fun G σ H hh Qv k =>
  h G σ H hh _ fun x v G1 H1 ⟨C, fs, y, e, hl, q⟩ s1 r1 => by
    subst e
    cases r1 with
    | @ins a _ dx vf _ ha hr hk =>
      obtain ⟨w, w1, w2⟩ := hr.lookup hl
      exact ⟨a, C, dx, vf, w, rfl, s1.sub _ _ ha, hk.1, hk.2 f (look_mem hl), w1, k y w G1 H1 q s1 w2⟩
/-- self.f = e, of the object that is being made -/
theorem ws_sfld {i : Nat} {b C : Addr} {fs : List (Str × D)} {f : Str} (e : ρ[i]? = some (some (.oi b C fs))) (hc : Cls p.K C) (hn : NoAttr p.K C f) (hl : fs.length < 1000) (h : WE p ρ te fun y => P.n (ρ.set i (some (.oi b C (putD f y fs))))) :
    WS p ρ (sFld p.K (tVar i) te f) P := fun G σ H hh E kn kr kb kc =>
  h G σ H hh _ fun y v G1 H1 hP s1 r1 => by
    have hh1 := hh.step s1
    obtain ⟨sv, h1, a, dx, vs, h2, ow, h4, h5, h6⟩ := hh1.slot i _ e
    subst h2
    have hz := h5.length
    refine ⟨.ref a, h1, a, C, dx, vs, rfl, h4, hc, hn, by omega, kn _ G1 σ _ hP s1.ex ?_⟩
    exact hh1.write e rfl h1 ow ⟨a, dx, _, rfl, ow, upd_same, h5.put r1, h6.1, h6.2.1, fun g hg => by
      rcases putD_mem hg with z | z
      · rw [z]; exact hn
      · exact h6.2.2 g z⟩
end
/-- the promise of __init__: the arguments behind self, what the object is then, or an error -/
def spMk (K : PySem.W.Frag) (mg : Str → Option Value) (C : Addr) (S : Addr → List D → (Out → Prop) → Prop) : Sp := fun vs H Q E => ∃ h G H1 x dx us ds R, vs = .ref x :: us ∧ H = upd (upd H1 dx (.own x)) x (.ins C dx []) ∧ H1 x = none ∧ H1 dx = none ∧ dx ≠ x ∧
  RpL K h G us ds ∧ Mem ⟨K, h, H1, G⟩ G H1 ∧ S C ds R ∧ (∀ fs G' H', R (.ok (.ins C fs)) → Mem ⟨K, h, H1, G⟩ G' H' → Slot ⟨K, h, H1, G⟩ G' H' (some (.ref x)) (.oi x C fs) → Q .non H') ∧
  ∀ y fs C' d G' H', R (.ex y fs) → mg y = some (.ref C') → Mem ⟨K, h, H1, G⟩ G' H' → XR K h G' d fs → E (.ref C') d H'
structure MakX (P : Program) (w : World) (K : PySem.W.Frag) (mg : Str → Option Value) (base : Heap) (k : Nat) (x : Str) (C : Addr) (ps : List Str) (S : Addr → List D → (Out → Prop) → Prop) : Prop where
  ex : ∃ f fd, mg x = some (.ref C) ∧ Mk K C f ∧ FnOk P w K mg base (L2.CX P w) k f fd ps (spMk K mg C S) ∧ Binds K fd ps []
section
variable {X : Cx} {x : Str} {p pos : Pos} {e : Expr} {es : List Expr} {t : TA} {k : Nat} {ps : List Str} {C : Addr} {S : Addr → List D → (Out → Prop) → Prop}
/-- what raises nothing when it is made so -/
theorem pe_mk0 (F : MakX X.prog X.w X.K X.mg X.base k x C ps S) (hr : Room (k + 1) X.A) (ha : PA X (e :: es) t) (hg : Gl X x := by rfl) (hdb : (x == ("__debug__" : Str)) = false := by decide)
    (he : starEach (e :: es) X.env = (false, eval e X.env) :: starEach es X.env := by rfl) (hpl : (backTo pos (starEach es X.env)).any (·.1) = false := by rfl) : PE X (.Call (.Name x p) (e :: es) [] pos) (tMake C (spMk X.K X.mg C S) [] (fun _ _ _ => False) t) := by
  obtain ⟨f, fd, h1, h2, h3, h4⟩ := F.ex
  exact pe_make h2 h3 hr hg h1 h4 .nil (passes_call takes0 fun _ _ _ _ z => z) ha hdb he hpl
end
section
variable {p : Par} {ρ : Rho} {Q : D → Prop} {ta tb te tl th : TE} {tt tu : TT} {P : Post} {ts tv : TS} {g : TG} {mg : Str → Option Value}
theorem we_mk {C : Addr} {S : Addr → List D → (Out → Prop) → Prop} {ta : TA} (h : WA p ρ ta fun ds => S C ds (Out.cas Q fun _ _ => False)) : WE p ρ (tMake C (spMk p.K mg C S) [] (fun _ _ _ => False) ta) Q := fun G σ H hh Qv k =>
  h G σ H hh _ fun ds vs G1 H1 q s1 r1 x dx hx hdx hne => by
    have hh1 := hh.step s1
    refine ⟨p.h, G1, H1, x, dx, vs, ds, _, by rw [List.append_nil], rfl, hx, hdx, hne, r1, hh1.mem.refl, q, fun fs G' H' z m sl => ?_, fun y fs C' d G' H' z _ _ _ => z.elim⟩
    obtain ⟨x', n⟩ := sl.up hh1.mem rfl
    obtain ⟨o, e4, ow, r⟩ := x'.toD rfl
    obtain ⟨o2, e5, ow2, _⟩ := sl.toD rfl
    have m2 := Mem.know (p := ⟨p.K, p.h, H1, G1⟩) m ow2 e4 (x'.nt rfl e4).tbl
    exact ⟨rfl, k _ _ _ _ z (s1.trans m2.1) r⟩
end
section
variable {P : Program} {w : World} {K : PySem.W.Frag} {mg : Str → Option Value} {base : Heap}
/-- the first state of __init__: the object, and the arguments -/
theorem hold_self {N : List Str} {h : Hnd} {G H1 : Hp} {x dx C : Addr} {us : List V} {ds : List D} (hc : Cls K C) (hx : H1 x = none) (hdx : H1 dx = none) (hne : dx ≠ x) (m : Mem ⟨K, h, H1, G⟩ G H1) (r : RpL K h G us ds) (hN : us.length + 1 ≤ N.length) :
    Hold ⟨K, h, H1, G⟩ ((rho0 N (.non :: ds)).set 0 (some (.oi x C []))) G (L2.start N (.ref x :: us)) (upd (upd H1 dx (.own x)) x (.ins C dx [])) := by
  have m1 := m.growO (o := .own x) hdx
  have hx1 : upd H1 dx (HO.own x) x = none := by rw [upd_ne (Ne.symm hne)]; exact hx
  have hb : Hold ⟨K, h, H1, G⟩ (rho0 N (.non :: ds)) G (L2.start N (.non :: us)) H1 := hold0 m (.cons .non r)
  have hb1 := hb.step m1
  have s2 := hb1.mem.growO (o := .ins C dx []) hx1
  have h3 := hb1.setNew (i := 0) (c := .oi x C []) s2 (Nil.no hx1) ⟨x, dx, [], rfl, hb1.mem.fresh hx1, upd_same, .nil, rfl, hc, fun g hg => by cases hg⟩
  have e : (L2.start N (.non :: us)).set 0 (some (.ref x)) = L2.start N (.ref x :: us) := rfl
  rw [e] at h3
  exact h3
/-- a class with its __init__, and the names that its objects have for attributes -/
structure CSrc (K : PySem.W.Frag) (mg : Str → Option Value) (x : Str) (fl : List Str) (st : Stmt) (q : Str) : Prop where
  ex : ∃ C f fd, mg x = some (.ref C) ∧ Mk K C f ∧ Cls K C ∧ Fun K "__init__" q st f fd ∧ ∀ g, g ∈ fl → NoAttr K C g
theorem mkC {x q : Str} {fl : List Str} {st : Stmt} {N ps : List Str} {k : Nat} {S : Addr → List D → (Out → Prop) → Prop} (F : CSrc K mg x fl st q) (sc : FnScope N ps (defScope st))
    (hb : ∀ (kV doc pm : Value) (an : Option Addr) (cdv ct : Value) (us : List Value), us.length = ps.length → bindArgs (PySem.W.fnOf "__init__" q (defArgs st) (defBody st) (defScope st) .none kV doc pm an cdv ct) ⟨us, []⟩ = pure (ps.zip us))
    (len : ∀ C ds R, S C ds R → ds.length + 1 = ps.length) (hN : ps.length ≤ N.length)
    (body : ∀ (C b f : Addr) (cdv : Value) (A : Around) (outer : List Env) (s : Shared) (H : Hp) (E : XK), Cls K C → (∀ g, g ∈ fl → NoAttr K C g) → Room k (A.deeper (envOfC q (defScope st) s.heap.objs.size f cdv)) →
      ∃ t, PSs (cxOf (L2.CX P w) P w K mg base N q (defScope st) f cdv A outer s H E) (defBody st) t ∧ ∀ (h : Hnd) (H0 G0 : Hp) ds R, S C ds R → XW mg ⟨K, h, H0, G0⟩ (fun _ x fs => R (.ex x fs)) (fun cls d _ H => E cls d H) →
        WS ⟨K, h, H0, G0⟩ ((rho0 N (.non :: ds)).set 0 (some (.oi b C []))) t ⟨fun ρ => ∃ fs, ρ[0]? = some (some (.oi b C fs)) ∧ R (.ok (.ins C fs)), fun _ => False, fun _ => False, fun _ => False⟩) :
    ∃ C, mg x = some (.ref C) ∧ Cls K C ∧ (∀ g, g ∈ fl → NoAttr K C g) ∧ MakX P w K mg base (k + 1) x C ps S := by
  obtain ⟨C, f, fd, hm, hk, hc, F, hn⟩ := F.ex
  refine ⟨C, hm, hc, hn, f, fd, hm, hk, F.okX sc (fun vs H Q E z => ?_) (fun cdv A outer s H vs Q E hr z => ?_), F.binds hb⟩
  · obtain ⟨h, G, H1, a, dx, us, ds, R, rfl, _, _, _, _, r, _, hs, _⟩ := z
    rw [List.length_cons, r.length]
    exact len C ds R hs
  · obtain ⟨h, G, H1, a, dx, us, ds, R, rfl, rfl, hx, hdx, hne, r, m, hs, q, qx⟩ := z
    have hl := len C ds R hs
    have hz := r.length
    obtain ⟨t, ht, hw⟩ := body C a f cdv A outer s _ E hc hn hr
    refine ⟨t, ht, hw h H1 G ds R hs (fun ρ G' σ H' x fs C' d z hm' hh xr => qx x fs C' d G' H' z hm' hh.mem xr) G _ _ (hold_self hc hx hdx hne m r (by omega)) _ (fun ρ' G' σ' H' z e hh => ?_) (fun _ _ _ _ z => z.elim) (fun _ _ _ _ z => z.elim) fun _ _ _ _ z => z.elim⟩
    obtain ⟨fs, e0, hR⟩ := z
    obtain ⟨sv, e1, sl⟩ := hh.slot 0 _ e0
    obtain ⟨a', dx', vs', h2, ow, h4, h5, h6, h7⟩ := sl
    subst h6 h2
    exact q fs G' H' hR hh.mem ⟨a', dx', vs', rfl, ow, h4, h5, rfl, h7⟩
end
end Cal
set_option Elab.async false
set_option linter.all false
set_option maxRecDepth 100000
set_option maxHeartbeats 4000000
namespace PySem
open Sem (wp)
open AutoSeq1
/-- a list grows by what a tuple has, whatever else hangs on the tuple's object -/
theorem extTup {l b : Addr} {as bs : Array Value} {n m : Nat} {dd : Option Addr} {sl : Array (Option Value)} (h1 : ¬(!as.isEmpty && Builtin.List.listTooLong (as.size + bs.size)) = true) (h2 : as.size + bs.size ≤ sizeLine) :
    Meets (Builtin.«list.extend» ⟨[.ref l, .ref b], []⟩) (fun _ R s => s.heap.get? l = some { cls := .type "list", dict := none, data := .seq as n, slots := #[] } ∧ s.heap.get? b = some { cls := .type "tuple", dict := dd, data := .seq bs m, slots := sl } ∧
      R (.ok (.ret Value.none)) { s with heap := s.heap.update l (Obj.mapSeq fun x => x ++ bs), toks := s.toks }) :=
  .of_wp fun prog w A R ⟨hp, g, d, tk, os⟩ ⟨e1, e2, q⟩ => by
    have f2 := sub_tuple_tuple
    have f4 := sub_tuple_list
    have f3 := sub_list_list
    have f5 := sub_list_tuple
    have f1 := idx_int
    have hz : (as ++ bs).size ≤ sizeLine + 1 := by rw [Array.size_append]; omega
    have ha : as.size ≤ sizeLine := by omega
    wp_walk using (wpAny_updateSeq e1 rfl (hz := ha) (_hz' := hz)), wpAny_loadPart' e1, wpAny_loadPart' e2
    exact ⟨_, rfl, q⟩
theorem enNew {v : Value} {o : Obj} {J : Heap → Prop} (B : Begins v o J) :
    Meets (Builtin.«enumerate.__new__» ⟨[.type "enumerate", v], []⟩) (fun _ R s => J s.heap ∧
      R (.ok (.ret (.ref (s.heap.push o).objs.size))) { s with heap := (s.heap.push o).push { cls := .type "enumerate", data := .fields #[.none, .bool false, .ref s.heap.objs.size, rawInt 0, .none, .none] } }) :=
  .of_wp fun prog w A R ⟨hp, g, d, tk, os⟩ ⟨e1, q⟩ => by
    have hs := sub_enumerate
    have hi : ∀ {A' : Around} {E : Value → Shared → Prop} {Q : Value → Shared → Prop}, Q (.ref hp.objs.size) ⟨hp.push o, g, d, tk, os⟩ → wpAny (model prog w) A' (pyIter v) Q E ⟨hp, g, d, tk, os⟩ :=
      fun z => B.iter prog w _ _ ⟨hp, g, d, tk, os⟩ _ e1 z
    wp_walk using hi
    refine wpAny_stack_any fun st => wpAny_pure ?_
    split
    · rename_i c _ _ _ _ _
      cases (c == Value.type "enumerate") <;> (wp_walk using hi; exact ⟨_, rfl, q⟩)
    · wp_walk using hi
      exact ⟨_, rfl, q⟩
section
variable {prog : Program} {w : World} {A : Around} {E : Value → Shared → Prop} {s : Shared}
/-- enumerate(v): two new objects -/
theorem enBegin {v : Value} {o : Obj} {J : Heap → Prop} {Q : Value → Shared → Prop} (B : Begins v o J) (h1 : J s.heap)
    (h : ∀ h', IsEnum h' (s.heap.objs.size + 1) s.heap.objs.size 0 .none → h'.get? s.heap.objs.size = some o → (∀ b ob, s.heap.get? b = some ob → h'.get? b = some ob) → Q (.ref (s.heap.objs.size + 1)) { s with heap := h' }) :
    wpAny (model prog w) A (call (.type "enumerate") [v]) Q E s := by
  refine callType_new F.called_enumerate (by decide) (F.typeCall_enumerate_1 _) (F.newCall_enumerate_1 _) (fun obj => F.args_object_init_2 obj _) F.entry_enumerate_new (enNew B) ⟨h1, ?_⟩
  have hz : (s.heap.push o).objs.size = s.heap.objs.size + 1 := Heap.size_push ..
  have z := Heap.get?_push_size (s.heap.push o) (o := { cls := .type "enumerate", data := .fields #[.none, .bool false, .ref s.heap.objs.size, rawInt 0, .none, .none] }) rfl
  show _ ∧ _
  rw [hz] at z ⊢
  exact ⟨⟨_, z, rfl⟩, h _ z (Heap.get?_push_of_some _ (Heap.get?_push_size _ B.free)) fun b ob x => Heap.get?_push_of_some _ (Heap.get?_push_of_some _ x)⟩
end
end PySem
namespace Cal
open PySem L2 PyProof.Rows
open Evl (Ex sq_of st_of)
/-! ### xs.extend(t), t a tuple -/
def rExtT (K : PySem.W.Frag) : V → List V → Hp → VK → Prop := fun x us H Q => ∃ l b xs ys, x = .ref l ∧ us = [.ref b] ∧ H l = some (.lst xs) ∧ SqT K H b ys ∧ xs.length + ys.length ≤ sizeLine ∧ Q .non (upd H l (.lst (xs ++ ys)))
theorem mt_extT {X : Cx} {K0 : PySem.W.Frag} (hK : X.K = K0) : MtM X "list.extend" (rExtT K0) := by
  subst hK
  rintro pins s σ H x us v ws Q I rx rv ⟨l, b, xs, ys, rfl, rfl, hl, hb, hz, q⟩
  cases rx
  obtain ⟨u, rfl, ru⟩ := rv.one
  cases ru
  obtain ⟨_, as, n, ra, la, ea⟩ := I.lstM hl
  obtain ⟨bs, rb, ⟨⟨cl, dd, dt, sl⟩, eb, hc, m, hd⟩, _⟩ := I.tuple hb
  dsimp only at hc hd
  subst hc hd
  have n1 := ra.length
  have n2 := rb.length
  have hs : as.toArray.size + bs.toArray.size ≤ sizeLine := by rw [List.size_toArray, List.size_toArray]; omega
  refine call_meets F.slot_list_extend ⟨_, ea, rfl⟩ F.entry_list_extend (F.args_list_extend_2 _ _) (extTup (by rw [notLongL hs, Bool.and_false]; exact Bool.false_ne_true) hs) ⟨ea, eb, .non, _, I.lset (its' := as ++ bs) hl ea (by simp) (ra.append rb) ?_, rfl, q⟩
  rw [List.length_append]
  exact hz
section
variable {p : Par} {ρ : Rho} {Q : D → Prop} {ta tb te tl th : TE} {tt tu : TT} {P : Post} {ts tv : TS} {g : TG}
/-- xs.extend(t), xs slot i's own -/
theorem ws_extendT {i : Nat} {xs : List D} (e : ρ[i]? = some (some (.ol xs))) (h : WE p ρ te fun x => ∃ ys, x = .tup ys ∧ xs.length + ys.length ≤ 4000000 ∧ P.n (ρ.set i (some (.ol (xs ++ ys))))) :
    WS p ρ (tDrop (tBM p.K "list" (rExtT p.K) (tVar i) (tCons te tNil))) P := fun G σ H hh E kn kr kb kc => by
  obtain ⟨sv, h1, a, vs, h2, ow, h4, h5⟩ := hh.slot i _ e
  subst h2
  refine ⟨.ref a, h1, Or.inl ⟨rfl, vs, sq_of h4⟩, h G σ H hh _ fun d w G' H' ⟨ys, ey, hl, z⟩ s r => ?_⟩
  subst ey
  obtain ⟨b, ws, ew, hb, hlr⟩ := r.tup_inv
  subst ew
  have hh' := hh.step s
  obtain ⟨sv', h1', a', vs', h2', ow', h4', h5'⟩ := hh'.slot i _ e
  subst h2'
  rw [h1] at h1'
  cases h1'
  have n1 := h5'.length
  have n2 := hlr.length
  exact ⟨a, b, vs', ws, rfl, rfl, h4', tq hh'.mem.sub hb, by rw [sizeLine_eq]; omega, kn _ G' σ _ z s.ex (hh'.write e rfl h1 ow' ⟨a, _, rfl, ow', upd_same, h5'.append hlr⟩)⟩
end
end Cal
set_option Elab.async false
set_option linter.all false
set_option maxRecDepth 100000
set_option maxHeartbeats 4000000
namespace Cal
open PySem L2 PyProof.Rows
open Evl (Ex sq_of st_of)
/-! ### enumerate of a tuple -/
/-- the tuple at a, each item behind its number in a new pair -/
def IteT (K : PySem.W.Frag) (a : Addr) : It :=
  ⟨fun i H => ∃ (xs : List V) (x : V), SqT K H a xs ∧ xs[i]? = some x, fun i H v H' => ∃ T x, v = .ref T ∧ H T = none ∧ H' = upd H T (.tup [.int (i : Nat), x]) ∧ ∀ xs, SqT K H a xs → xs[i]? = some x,
    fun i H => ∃ xs : List V, SqT K H a xs ∧ xs.length = i⟩
/-- a tuple's object is no other kind of object -/
theorem tup_apart {h : Heap} {a b : Addr} {xs : Array Value} {o : Obj} (ht : IsTup h a xs) (ho : h.get? b = some o) (hc : o.cls ≠ .type "tuple") : a ≠ b := fun z => by
  obtain ⟨o', e, c, _⟩ := ht
  rw [z, ho] at e
  cases e
  exact hc c
theorem turn_enT {P : Program} {w : World} {K : PySem.W.Frag} {elts : List Expr} {kk : Nat} {tpos : Pos} (a e it : Addr) :
    Turn P w K (.Tuple elts kk tpos) (IteT K a) [e, it] e fun i h => (∃ old, IsEnum h e it ((i : Nat) : Int) old) ∧ h.IsTupleIter it a i ∧ e ≠ it := by
  have two : ∀ {b : Addr}, b ∈ [e, it] → b = e ∨ b = it := fun hb => by simpa using hb
  have draws : ∀ {X : Cx} {pins : List (Addr × Obj)} {σ : L2.St} {H : Hp} {s : Shared} {i : Nat} {old : Value} {its : List Value}, Inv X pins σ H s → X.calm = true → IsEnum s.heap e it (i : Int) old → s.heap.IsTupleIter it a i → e ≠ it → IsTup s.heap a its.toArray →
      Draws X.prog X.w X.A.in1 it [it, a] its.toArray.size (fun i v => its.toArray[i]? = some v) (fun i h => h.IsTupleIter it a i ∧ h.IsTuple a its.toArray) ∧ e ∉ [it, a] := fun {X pins σ H s i old its} I hc he hi hne ht => by
    obtain ⟨o, ho, hcl, _⟩ := id hi
    have n1 : a ≠ it := tup_apart ht ho (by rw [hcl]; decide)
    have n2 : a ≠ e := tup_apart ht he (by show Value.type "enumerate" ≠ _; decide)
    refine ⟨Draws.tuple (A := X.A.in1) (show X.A.in1.handled = none from I.ok.hd hc) it a n1 its.toArray, fun hm => ?_⟩
    rcases List.mem_cons.mp hm with z | z
    · exact hne z
    · exact n2 (List.mem_singleton.mp z).symm
  refine ⟨List.mem_cons_self, ?_, ?_, ?_, ?_, ?_⟩
  · rintro i h ⟨⟨old, he⟩, ⟨o, ho, _, hd⟩, _⟩ b hb
    rcases two hb with z | z
    · rw [z]; exact ⟨_, he, fun v q => nomatch q⟩
    · rw [z]; exact ⟨o, ho, fun v q => by rw [hd] at q; cases q⟩
  · rintro i h h' ⟨⟨old, he⟩, hi, hne⟩ k
    exact ⟨⟨old, k e List.mem_cons_self _ he⟩, hi.at fun o q => k it (by simp) o q, hne⟩
  · rintro X rfl rfl rfl hc i pins s σ H E I hf ⟨⟨old, he⟩, hi, hne⟩ ⟨xs, x, hq, hx⟩
    obtain ⟨its, rv, ht, hz⟩ := I.tuple hq
    obtain ⟨u, hu, ru⟩ := rv.get hx
    obtain ⟨D, hef⟩ := draws I hc he hi hne ht
    have hlt : i < its.toArray.size := by rw [List.size_toArray]; exact (List.getElem?_eq_some_iff.mp hu).1
    have lte : e < s.heap.objs.size := Heap.lt_size he
    have lti : it < s.heap.objs.size := by obtain ⟨_, q, _⟩ := hi; exact Heap.lt_size q
    refine wpAny_pyNext_enum_itemD D he ⟨hi, ht⟩ hlt hne hef fun v h' tk hP ho hs hT _ hk => ?_
    have hv : v = u := by
      have z : its[i]? = some v := by simpa using hP
      rw [hu] at z; cases z; rfl
    subst hv
    refine ⟨_, rfl, wpAny_letOwnedTupleGo_enum (s := { s with heap := h', toks := tk + 1 }) ho fun h2 he2 sb => ?_⟩
    have hT2 : h2.get? s.heap.objs.size = some { cls := .type "tuple", data := .seq #[.int i tk, v] } := (sb.2 _ (Nat.ne_of_gt lte)).trans hT
    have new : ObjOk X.prog X.w (upd H s.heap.objs.size (.tup [.int (i : Nat), x])) h2 s.heap.objs.size (.tup [.int (i : Nat), x]) :=
      ⟨by show 2 ≤ sizeLine; decide, [.int i tk, v], .cons ⟨_, rfl⟩ (.cons ru .nil), ⟨_, hT2, rfl, _, rfl⟩⟩
    have I1 : Inv X pins σ (upd H s.heap.objs.size (.tup [.int (i : Nat), x])) { s with heap := h2, toks := tk + 1 } :=
      I.turnedNew (ch := [e, it]) (fun b ob hb q => (sb.2 b fun z => hb (by simp [z])).trans (hk b ob (fun z => hb (by simp [z])) (fun z => hb (by simp [z])) q)) hf (Nat.le_refl _) new
    have e1 : ((i + 1 : Nat) : Int) = (i : Int) + 1 := by omega
    refine ⟨.ref s.heap.objs.size, _, I1, rfl, ⟨_, x, rfl, I.hok.fresh (Nat.le_refl _), rfl, fun ys hy => by rw [I.tuple_inj hy hq]; exact hx⟩, ⟨⟨v, by rw [e1]; exact he2⟩, hs.1.at fun o q => (sb.2 it (Ne.symm hne)).trans q, hne⟩, fun b hb => ?_⟩
    have hb' : b < s.heap.objs.size := by
      rcases two hb with z | z
      · rw [z]; exact lte
      · rw [z]; exact lti
    rw [upd_ne (Nat.ne_of_lt hb')]
    exact (hf b hb).1
  · rintro X rfl rfl rfl hc i pins s σ H E I hf ⟨⟨old, he⟩, hi, hne⟩ ⟨xs, hq, hx⟩
    obtain ⟨its, rv, ht, hz⟩ := I.tuple hq
    obtain ⟨D, hef⟩ := draws I hc he hi hne ht
    have hl : its.toArray.size = i := by rw [List.size_toArray, ← rv.length]; exact hx
    obtain ⟨f0, f1, f2, f3, f4, f5⟩ := hf it (by simp)
    exact wpAny_pyNext_enum_endD D he ⟨hl ▸ hi, ht⟩ fun h' eb => ⟨rfl, I.turned (t' := s.toks) (fun b o hb q => eb b o hb q) f0 f1 f3 f4 f5⟩
  · rintro A i s Q E ⟨⟨_, he⟩, _⟩ h
    exact wpAny_pyIter_enum he h
def iEnumT (K : PySem.W.Frag) (ta : TA) : TI := fun σ H R => ta σ H fun vs H1 => ∃ a xs, vs = [.ref a] ∧ SqT K H1 a xs ∧ R (IteT K a) H1
theorem pi_enT {X : Cx} {K0 : PySem.W.Frag} {e : Expr} {ta : TA} {p pos tpos : Pos} {elts : List Expr} {kk : Nat} (hK : X.K = K0) (hg : Gl X "enumerate") (hm : X.mg "enumerate" = none) (ha : PA X [e] ta) (hs : starEach [e] X.env = [(false, eval e X.env)] := by rfl) :
    PI X (.Tuple elts kk tpos) (.Call (.Name "enumerate" p) [e] [] pos) (iEnumT K0 ta) := by
  subst hK
  refine ⟨fun pins s σ H R I h => Call_ (ld_blt I hg hm boot_enumerate (PyProof.Rows.callWith_type1 (thn (ha.run pos pins s σ H _ I h) fun us s1 ⟨vs, H1, I1, r1, a, xs, ex, hq, q⟩ => ?_) hs rfl))⟩
  subst ex
  obtain ⟨u, rfl, ru⟩ := r1.one
  cases ru
  obtain ⟨its, rv, ht, hz⟩ := I1.tuple hq
  refine enBegin (begins_tuple a its.toArray) ht fun h' he hi hk => wpAny_pyIter_enum he ?_
  refine ⟨s1.heap.objs.size + 1, [s1.heap.objs.size + 1, s1.heap.objs.size], _, _, H1, rfl, I1.kept (t' := s1.toks) hk, turn_enT a _ s1.heap.objs.size, ⟨⟨.none, he⟩, ⟨_, hi, rfl, rfl⟩, Nat.succ_ne_self _⟩, fun b hb => ?_, q⟩
  have hle : s1.heap.objs.size ≤ b := by
    rcases List.mem_cons.mp hb with z | z
    · rw [z]; exact Nat.le_add_right _ _
    · exact Nat.le_of_eq (List.mem_singleton.mp z).symm
  exact I1.fpOk hle (I1.hok.fresh hle)
end Cal
set_option Elab.async false
set_option linter.all false
set_option maxRecDepth 100000
set_option maxHeartbeats 4000000
namespace Cal
open PySem L2 PyProof.Rows
open Evl (Ex sq_of st_of)
/-! ### a list or a tuple, gone through; enumerate of a tuple -/
def iSeq (K : PySem.W.Frag) (tl : TE) : TI := fun σ H R => tl σ H fun x H1 => ∃ a, x = .ref a ∧ (((∃ xs, SqL K H1 a xs) ∧ R (Itl K a) H1) ∨ ((∃ xs, SqT K H1 a xs) ∧ R (Itt K a) H1))
theorem pi_seqK {X : Cx} {K0 : PySem.W.Frag} {tg l : Expr} {tl : TE} (hK : X.K = K0) (hl : PE X l tl) : PI X tg l (iSeq K0 tl) := by
  subst hK
  refine ⟨fun pins s σ H R I h => thn (hl.run pins s σ H _ I h) fun v s1 ⟨x, H1, I1, r1, a, e, q⟩ => ?_⟩
  subst e
  cases r1
  rcases q with ⟨⟨xs, hq⟩, q⟩ | ⟨⟨xs, hq⟩, q⟩
  · obtain ⟨its, rv, p, hz⟩ := I1.list hq
    exact wpAny_pyIter_list p.isList (pi_one (tk := s1.toks) I1 _ (turn_list a _) ⟨_, Heap.get?_push_size _ rfl, rfl, rfl⟩ q)
  · obtain ⟨its, rv, p, hz⟩ := I1.tuple hq
    exact wpAny_pyIter_tuple (show s1.heap.IsTuple a its.toArray from p) (pi_one (tk := s1.toks) I1 _ (turn_tuple a _) ⟨_, Heap.get?_push_size _ rfl, rfl, rfl⟩ q)
section
variable {p : Par} {ρ : Rho} {Q : D → Prop} {ta tb te tl th : TE} {tt tu : TT} {P : Post} {ts tv : TS} {g : TG}
theorem ws_forS {g : TG} (h : WE p ρ te fun x => ∃ xs, (x = .lst xs ∨ x = .tup xs) ∧ ∃ I : Nat → Rho → Prop, I 0 ρ ∧
    (∀ k x ρ', xs[k]? = some x → I k ρ' → WG p ρ' g x fun ρ2 => WS p ρ2 ts ⟨I (k + 1), P.r, P.n, I (k + 1)⟩) ∧ ∀ ρ', I xs.length ρ' → P.n ρ') : WS p ρ (tFor (iSeq p.K te) g ts) P := fun G σ H hh E kn kr kb kc =>
  h G σ H hh _ fun x v G0 H0 ⟨xs, e, I, h0, hs, hd⟩ s r => by
    have hh0 := hh.step s
    have turn : ∀ {vs : List V}, RpL p.K p.h G0 vs xs → ∀ k y σ' H', vs[k]? = some y → (∃ ρ' G', I k ρ' ∧ Ex G0 G' ∧ Hold p ρ' G' σ' H') →
        g y σ' H' fun σ2 H2 => ts { E with nx := fun σ3 H3 => ∃ ρ' G', I (k + 1) ρ' ∧ Ex G0 G' ∧ Hold p ρ' G' σ3 H3, ct := fun σ3 H3 => ∃ ρ' G', I (k + 1) ρ' ∧ Ex G0 G' ∧ Hold p ρ' G' σ3 H3, bk := E.nx } σ2 H2 := fun hl k y σ' H' hk ⟨ρ', G', hi, e, hh'⟩ => by
      obtain ⟨d, hd1, hd2⟩ := hl.get' hk
      exact hs k d ρ' hd1 hi G' σ' H' _ hh' (rmono hd2 e) _ fun ρ2 G2 σ2 H2 z e2 hh2 => z G2 σ2 H2 hh2 _ (fun ρ3 G3 σ3 H3 z3 e3 hh3 => ⟨ρ3, G3, z3, ex_tr (ex_tr e e2) e3, hh3⟩) kr (fun ρ3 G3 σ3 H3 z3 e3 hh3 => kn ρ3 G3 σ3 H3 z3 (ex_tr s.ex (ex_tr (ex_tr e e2) e3)) hh3)
        (fun ρ3 G3 σ3 H3 z3 e3 hh3 => ⟨ρ3, G3, z3, ex_tr (ex_tr e e2) e3, hh3⟩)
    rcases e with e | e
    · subst e
      obtain ⟨a, vs, ev, hq, hl⟩ := r.lst_inv
      exact ⟨a, ev, .inl ⟨⟨vs, lq hh0.mem.sub hq⟩, for_list (xs := vs) (fun k σ' H' => ∃ ρ' G', I k ρ' ∧ Ex G0 G' ∧ Hold p ρ' G' σ' H') ⟨ρ, G0, h0, Ex.rfl', hh0⟩ (fun k σ' H' _ ⟨ρ', G', hi, e, hh'⟩ => lq hh'.mem.sub (e _ _ hq)) (fun k x σ' H' hk hp => turn hl k x σ' H' hk hp)
        fun σ' H' ⟨ρ', G', hi, e, hh'⟩ => kn ρ' G' σ' H' (hd ρ' (by rw [← hl.length]; exact hi)) (ex_tr s.ex e) hh'⟩⟩
    · subst e
      obtain ⟨a, vs, ev, hq, hl⟩ := r.tup_inv
      exact ⟨a, ev, .inr ⟨⟨vs, tq hh0.mem.sub hq⟩, for_tup (xs := vs) (fun k σ' H' => ∃ ρ' G', I k ρ' ∧ Ex G0 G' ∧ Hold p ρ' G' σ' H') ⟨ρ, G0, h0, Ex.rfl', hh0⟩ (fun k σ' H' _ ⟨ρ', G', hi, e, hh'⟩ => tq hh'.mem.sub (e _ _ hq)) (fun k x σ' H' hk hp => turn hl k x σ' H' hk hp)
        fun σ' H' ⟨ρ', G', hi, e, hh'⟩ => kn ρ' G' σ' H' (hd ρ' (by rw [← hl.length]; exact hi)) (ex_tr s.ex e) hh'⟩⟩
theorem wf_lcS {tl : TE} {vs : List Nat} {Q : Cell → Prop} (h : WE p ρ tl fun x => ∃ xs, (x = .lst xs ∨ x = .tup xs) ∧ xs.length ≤ 4000000 ∧ ∃ I : Nat → List D → Prop, I 0 [] ∧
    (∀ k x acc, xs[k]? = some x → I k acc → acc.length ≤ k → WGp p vs (wipeR ρ vs) g x fun ρ2 => WT p ρ2 tt fun b => if b = true then WE p ρ2 te fun y => I (k + 1) (acc ++ [y]) else I (k + 1) acc) ∧ ∀ acc, I xs.length acc → Q (.ol acc)) :
    WF p ρ (tLc (iSeq p.K tl) g tt te vs) Q := fun G σ H hh Qv kk =>
  h G σ H hh _ fun x v G1 H1 ⟨xs, e, hz, I, h0, hs, hd⟩ s1 r1 => by
    have hh1 := hh.step s1
    rcases e with e | e
    · subst e
      obtain ⟨a, us, ev, hq, hl⟩ := r1.lst_inv
      refine ⟨a, ev, .inl ⟨⟨us, lq hh1.mem.sub hq⟩, fun Dl hn => lc_list (xs := us) (Lc p G1 H1 Dl I) (lc_start hh1 hn h0) (fun k H' _ L => ?_) (fun k y H' hk L => ?_) fun H' L => ?_⟩⟩
      · obtain ⟨acc, av, G', _, _, s, _⟩ := L
        exact lq s.sub (s.ex _ _ hq)
      · obtain ⟨d, hd1, hd2⟩ := hl.get' hk
        have hk' : k < us.length := (List.getElem?_eq_some_iff.mp hk).1
        exact lc_turn hh1 hn (by have := hl.length; omega) L (fun G' s => ⟨G', (hh1.step s).mem.refl, rmono hd2 s.ex⟩) fun acc hi hle => hs k d acc hd1 hi hle
      · obtain ⟨acc, av, G', hi, _, s, e, ow, r⟩ := L
        rw [hl.length] at hi
        exact kk _ Dl G' H' (hd acc hi) rfl (s1.trans s) (hh.mem.back s1 hn) ⟨Dl, av, rfl, ow, e, r⟩
    · subst e
      obtain ⟨a, us, ev, hq, hl⟩ := r1.tup_inv
      refine ⟨a, ev, .inr ⟨⟨us, tq hh1.mem.sub hq⟩, fun Dl hn => lc_tup (xs := us) (Lc p G1 H1 Dl I) (lc_start hh1 hn h0) (fun k H' _ L => ?_) (fun k y H' hk L => ?_) fun H' L => ?_⟩⟩
      · obtain ⟨acc, av, G', _, _, s, _⟩ := L
        exact tq s.sub (s.ex _ _ hq)
      · obtain ⟨d, hd1, hd2⟩ := hl.get' hk
        have hk' : k < us.length := (List.getElem?_eq_some_iff.mp hk).1
        exact lc_turn hh1 hn (by have := hl.length; omega) L (fun G' s => ⟨G', (hh1.step s).mem.refl, rmono hd2 s.ex⟩) fun acc hi hle => hs k d acc hd1 hi hle
      · obtain ⟨acc, av, G', hi, _, s, e, ow, r⟩ := L
        rw [hl.length] at hi
        exact kk _ Dl G' H' (hd acc hi) rfl (s1.trans s) (hh.mem.back s1 hn) ⟨Dl, av, rfl, ow, e, r⟩
theorem ws_forEnumT {g : TG} {ta : TA} (h : WA p ρ ta fun ds => ∃ xs, ds = [.tup xs] ∧ ∃ I : Nat → Rho → Prop, I 0 ρ ∧
    (∀ k x ρ', xs[k]? = some x → I k ρ' → WG p ρ' g (.tup [.int (k : Int), x]) fun ρ2 => WS p ρ2 ts ⟨I (k + 1), P.r, P.n, I (k + 1)⟩) ∧ ∀ ρ', I xs.length ρ' → P.n ρ') : WS p ρ (tFor (iEnumT p.K ta) g ts) P := fun G σ H hh E kn kr kb kc =>
  h G σ H hh _ fun ds vs0 G0 H0 ⟨xs, e, I, h0, hs, hd⟩ s r => by
    subst e
    cases r with
    | cons r rn =>
    cases rn
    obtain ⟨a, vs, ev, hq, hl⟩ := r.tup_inv
    subst ev
    have hh0 := hh.step s
    have hn := hl.length
    have sq : ∀ {G' H'}, Ex G0 G' → Ex G' H' → SqT p.K H' a vs := fun e1 e2 => tq e2 (e1 _ _ hq)
    refine ⟨a, vs, rfl, tq hh0.mem.sub hq, for_any (n := vs.length) (fun k σ' H' => ∃ ρ' G', I k ρ' ∧ Ex G0 G' ∧ Hold p ρ' G' σ' H') ⟨ρ, G0, h0, Ex.rfl', hh0⟩ (fun k σ' H' hk ⟨ρ', G', hi, e, hh'⟩ => ?_) (fun σ' H' ⟨ρ', G', hi, e, hh'⟩ => ⟨vs, sq e hh'.mem.sub, rfl⟩) (fun k x σ' H' H2 hk ⟨ρ', G', hi, e, hh'⟩ hy => ?_) fun σ' H' ⟨ρ', G', hi, e, hh'⟩ => kn ρ' G' σ' H' (hd ρ' (by rw [← hn]; exact hi)) (ex_tr s.ex e) hh'⟩
    · exact ⟨vs, vs[k], sq e hh'.mem.sub, List.getElem?_eq_getElem hk⟩
    · obtain ⟨T, x', e1, hT, e2, hx⟩ := hy
      subst e1 e2
      have hx' := hx vs (sq e hh'.mem.sub)
      obtain ⟨d, hd1, hd2⟩ := hl.get' hx'
      have gr := hh'.mem.grow (o := .tup [.int (k : Int), x']) hT
      have e4 := ex_tr e gr.ex
      refine hs k d ρ' hd1 hi _ σ' _ _ (hh'.step gr) (.tup upd_same (.cons (.int _) (.cons (rmono hd2 e4) .nil))) _ fun ρ2 G2 σ2 H2 z e2 hh2 => z G2 σ2 H2 hh2 _ (fun ρ3 G3 σ3 H3 z3 e3 hh3 => ⟨ρ3, G3, z3, ex_tr (ex_tr e4 e2) e3, hh3⟩) kr
        (fun ρ3 G3 σ3 H3 z3 e3 hh3 => kn ρ3 G3 σ3 H3 z3 (ex_tr s.ex (ex_tr (ex_tr e4 e2) e3)) hh3) (fun ρ3 G3 σ3 H3 z3 e3 hh3 => ⟨ρ3, G3, z3, ex_tr (ex_tr e4 e2) e3, hh3⟩)
end
end Cal
set_option Elab.async false
set_option linter.all false
set_option maxRecDepth 100000
set_option maxHeartbeats 4000000
namespace Cal
open PySem L2 PyProof.Rows
open Evl (Ex sq_of st_of)
section
variable {p : Par} {ρ : Rho} {Q : D → Prop} {ta tb te tl th : TE} {tt tu : TT} {P : Post} {ts tv : TS} {g : TG}
/-- a, b = two new things, neither of them captured -/
theorem ws_newPar {i j : Nat} (h : WF p ρ ta fun c1 => WF p ρ tb fun c2 => P.n ((ρ.set i (some c1)).set j (some c2))) :
    WS p ρ (tPar i j (tCons ta (tCons tb tNil))) P := fun G σ H hh E kn kr kb kc => by
  refine h G σ H hh _ fun c1 a G1 H1 q ho1 s1 n1 x1 => q G1 σ H1 (hh.step s1) _ fun c2 b G2 H2 q2 ho2 s2 n2 x2 => ?_
  exact ⟨_, _, rfl, kn _ G2 _ _ q2 (ex_tr s1.ex s2.ex) ((hh.setNew (i := i) s1 n1 x1).setNew (i := j) s2 n2 x2)⟩
end
end Cal
set_option Elab.async false
set_option linter.all false
set_option maxRecDepth 100000
set_option maxHeartbeats 4000000
namespace Cal
open PySem L2 PyProof.Rows HT
open Evl (Ex sq_of st_of)
/-! ### t[::-1], t a tuple -/
theorem filterMap_all {α β : Type} {f : α → Option β} {g : α → β} : ∀ {l : List α}, (∀ x ∈ l, f x = some (g x)) → l.filterMap f = l.map g
  | [], _ => rfl
  | x :: r, h => by
    rw [List.filterMap_cons, h x List.mem_cons_self, List.map_cons, filterMap_all fun y hy => h y (List.mem_cons_of_mem _ hy)]
theorem pickBack (xs : Array Value) : ((List.range xs.size).filterMap fun (k : Nat) => xs[(((xs.size : Int) - 1) + (k : Int) * (-1)).toNat]?) = xs.toList.reverse := by
  refine List.ext_getElem? fun i => ?_
  have e : ((List.range xs.size).filterMap fun (k : Nat) => xs[(((xs.size : Int) - 1) + (k : Int) * (-1)).toNat]?) = (List.range xs.size).map fun k => xs.toList.reverse.getD k .none := by
    refine filterMap_all fun k hk => ?_
    have hk := List.mem_range.mp hk
    have e1 : (((xs.size : Int) - 1) + (k : Int) * (-1)).toNat = xs.size - 1 - k := by omega
    rw [e1]
    show xs[xs.size - 1 - k]? = some (xs.toList.reverse.getD k .none)
    rw [List.getD_eq_getElem?_getD, List.getElem?_reverse (by rw [Array.length_toList]; exact hk), Array.length_toList, Array.getElem?_toList, Array.getElem?_eq_getElem (by omega)]
    rfl
  rw [e, List.getElem?_map]
  by_cases h : i < xs.size
  · rw [List.getElem?_range h]
    show some (xs.toList.reverse.getD i .none) = _
    rw [List.getD_eq_getElem?_getD, List.getElem?_eq_getElem (by rw [List.length_reverse, Array.length_toList]; exact h)]
    rfl
  · rw [List.getElem?_eq_none (by rw [List.length_range]; omega), List.getElem?_eq_none (by rw [List.length_reverse, Array.length_toList]; omega)]
    rfl
section
variable {prog : Program} {w : World} {A : Around} {E : Value → Shared → Prop} {s : Shared}
theorem slBack {sl : Addr} {vl vu vs : Value} {n : Nat} {Q : Int × Int × Nat → Shared → Prop} (hs : s.heap.IsSliceOf sl vl vu vs) (pl : IsPart vl none) (pu : IsPart vu none) (ps : IsPart vs (some (-1)))
    (h : Q ((n : Int) - 1, -1, n) s) : wpAny (model prog w) A (Builtin.Slice.sliceApplied (.ref sl) (pure (n : Int))) Q E s := by
  obtain ⟨o, ho, hc, hd⟩ := id hs
  unfold Builtin.Slice.sliceApplied Builtin.Slice.sliceFields
  refine wpAny_bind (wpAny_bind (wpAny_field ho hd (x := vl) rfl (wpAny_bind (wpAny_field ho hd (x := vu) rfl (wpAny_bind (wpAny_field ho hd (x := vs) rfl (wpAny_pure ?_)))))))
  refine wpAny_bind (slicePart_ ps ?_)
  show wpAny _ _ (if ((-1 : Int) == 0) = true then _ else _) _ _ s
  rw [if_neg (by decide)]
  refine wpAny_bind (slicePart_ pl (wpAny_bind (slicePart_ pu (wpAny_bind (wpAny_pure ?_)))))
  have e : Builtin.Slice.sliceAdjust none none (-1) (n : Int) = ((n : Int) - 1, -1) := by
    unfold Builtin.Slice.sliceAdjust
    simp
  show wpAny _ _ (match Builtin.Slice.sliceAdjust none none (-1) (n : Int) with | (lo, hi) => pure (lo, (-1 : Int), Builtin.Slice.slicePlaces lo hi (-1))) _ _ s
  rw [e]
  have e2 : Builtin.Slice.slicePlaces ((n : Int) - 1) (-1) (-1) = n := by
    unfold Builtin.Slice.slicePlaces
    simp
    try omega
  show wpAny _ _ (pure ((n : Int) - 1, (-1 : Int), Builtin.Slice.slicePlaces ((n : Int) - 1) (-1) (-1))) _ _ s
  rw [e2]
  exact wpAny_pure h
theorem getBack {t sl : Addr} {items : Array Value} {vl vu vs : Value} {Q : Value → Shared → Prop} (ht : IsTup s.heap t items) (hs : s.heap.IsSliceOf sl vl vu vs) (pl : IsPart vl none) (pu : IsPart vu none) (ps : IsPart vs (some (-1)))
    (h : Q (.ref s.heap.objs.size) { s with heap := s.heap.push { cls := .type "tuple", data := .seq items.toList.reverse.toArray } }) (hz : items.size ≤ sizeLine) : wpAny (model prog w) A (getItem (.ref t) (.ref sl)) Q E s := by
  have ok : sizeOk (.seq items.toList.reverse.toArray) := by
    show items.toList.reverse.toArray.size ≤ sizeLine
    rw [List.size_toArray, List.length_reverse, Array.length_toList]
    exact hz
  obtain ⟨o, ho, hc, hd⟩ := id hs
  have hT : s.TypeIs (.ref sl) "slice" := ⟨o, ho, hc⟩
  unfold getItem
  try with_reducible refine wpAny_holding ?_
  first | refine wpAny_bind (wpAny_pure ?_) | skip
  refine wpAny_bind (wpAny_sequenceKey ht.typeIs (by decide) ?_)
  refine wpAny_bind (wpAny_callSpecial?_slot (name := Str.ofString "__getitem__") ht.typeIs PyProof.Rows.slot_tuple_getitem (wpAny_call_entry PyProof.Rows.slot_tuple_getitem ht.typeIs entry_tuple_getitem ?_ (args_tuple_getitem _ _)))
  show wpAny _ _ (Builtin.Tuple.tupleItemsOf (.ref t) >>= _) _ _ s
  refine wpAny_bind (tupleItemsOf_ ht (wpAny_bind (wpAny_typeOf hT ?_)))
  rw [if_pos (by decide)]
  refine wpAny_bind (slBack hs pl pu ps ?_)
  have no : ¬ ((((items.size : Int) - 1) == 0 && (-1 : Int) == 1 && items.size == items.size) = true) := by
    rw [show ((-1 : Int) == 1) = false by decide, Bool.and_false, Bool.false_and]
    exact Bool.false_ne_true
  show wpAny _ _ (if (((items.size : Int) - 1) == 0 && (-1 : Int) == 1 && items.size == items.size) = true then _ else _) _ _ s
  rw [if_neg no, pickBack]
  first
    | exact wpAny_bind (m := Builtin.Tuple.tupleExact _) (wpAny_newObj_type (wpAny_pure ⟨_, rfl, wpAny_pure h⟩) ok)
    | exact wpAny_bind (m := Builtin.Tuple.tupleExact _) (wpAny_newObj_type (wpAny_bind (wpAny_pure (wpAny_pure ⟨_, rfl, wpAny_pure h⟩))) ok)
    | exact wpAny_bind (wpAny_bind (m := Builtin.Tuple.tupleExact _) (wpAny_newObj_type (wpAny_pure (wpAny_pure ⟨_, rfl, wpAny_pure h⟩)) ok))
    | exact wpAny_bind (wpAny_bind (m := Builtin.Tuple.tupleExact _) (wpAny_newObj_type (wpAny_pure ⟨_, rfl, wpAny_pure h⟩) ok))
end
/-- t[::-1], t a tuple -/
def tRevT (K : PySem.W.Frag) (te : TE) : TE := fun σ H Q => te σ H fun x H1 => ∃ a xs, x = .ref a ∧ SqT K H1 a xs ∧ ∀ p, H1 p = none → Q (.ref p) (upd H1 p (.tup xs.reverse))
theorem pe_revT {X : Cx} {K0 : PySem.W.Frag} {e : Expr} {te : TE} {k : Nat} {p1 p2 p3 pos : Pos} (hK : X.K = K0) (he : PE X e te) : PE X (.Subscript e (.Slice none none (some (.UnaryOp .USub (.Constant (.int 1) k p1) p2)) p3) pos) (tRevT K0 te) := by
  subst hK
  refine ⟨fun pins s σ H Q I h => Subscript_ (thn (he.run pins s σ H _ I h) fun v s1 ⟨x, H1, I1, r1, a, xs, ex, hx, q⟩ => ?_)⟩
  subst ex
  cases r1
  have hst : PO X (some (.UnaryOp .USub (.Constant (.int 1) k p1) p2)) (tPart (tUn (rU fun i => .int (-i)) (tC (.int 1)))) := po_some (pe_un un_neg pe_int)
  refine wpAny_Slice (thn (po_none.run pins s1 σ H1 (fun o H2 => o = none ∧ H2 = H1) I1 ⟨rfl, rfl⟩) fun vl s2 ⟨l, H2, I2, pl, el, e2⟩ => ?_)
  subst el e2
  refine thn (po_none.run pins s2 σ H2 (fun o H3 => o = none ∧ H3 = H2) I2 ⟨rfl, rfl⟩) fun vu s3 ⟨u, H3, I3, pu, eu, e3⟩ => ?_
  subst eu e3
  refine thn (hst.run pins s3 σ H3 (fun o H4 => o = some (-1) ∧ H4 = H3) I3 ⟨1, rfl, -1, rfl, rfl, rfl⟩) fun vs s4 ⟨o, H4, I4, ps, eo, e4⟩ => ?_
  subst eo e4
  have I5 : Inv X pins σ H4 { s4 with heap := s4.heap.push { cls := .type "slice", data := .fields #[vl, vu, vs] } } := I4.kept (t' := s4.toks) fun b ob q => Heap.get?_push_of_some _ q
  obtain ⟨its, r, ht, hz⟩ := I5.tuple hx
  have hlen := r.length
  show wpAny (model X.prog X.w) X.A (subscriptTail e (.Slice none none (some (.UnaryOp .USub (.Constant (.int 1) k p1) p2)) p3) (.ref a) (.ref s4.heap.objs.size)) (EP X pins σ Q) X.xe { s4 with heap := s4.heap.push { cls := .type "slice", data := .fields #[vl, vu, vs] } }
  refine tail_any (ops := [.ref a, .ref s4.heap.objs.size]) ht.typeIs (PyProof.Rows.slot_tuple_getitem.lookup) ?_ (by with_unfolding_all rfl)
  refine getBack ht (Heap.IsSliceOf.new _ vl vu vs) pl pu ps ?_ (by rw [List.size_toArray]; omega)
  refine ⟨.ref _, _, I5.laid (t' := s4.toks) (o := .tup xs.reverse) (fun b ob q => Heap.get?_push_of_some _ q) (Nat.le_refl _) ?_, rfl, q _ (I5.hok.fresh (Nat.le_refl _))⟩
  exact ⟨by rw [List.length_reverse]; exact hz, _, r.reverse, IsTup.new _ _⟩
section
variable {p : Par} {ρ : Rho} {Q : D → Prop} {ta tb te tl th : TE} {tt tu : TT} {P : Post} {ts tv : TS} {g : TG}
theorem RpL.rev {K : PySem.W.Frag} {h : Hnd} {G : Hp} : ∀ {us : List V} {es : List D}, RpL K h G us es → RpL K h G us.reverse es.reverse
  | [], [], _ => .nil
  | u :: us, e :: es, r => by
    cases r with
    | cons a b => rw [List.reverse_cons, List.reverse_cons]; exact (RpL.rev b).append (.cons a .nil)
  | [], e :: es, r => by cases r
  | u :: us, [], r => by cases r
theorem we_revT (h : WE p ρ te fun x => ∃ xs, x = .tup xs ∧ Q (.tup xs.reverse)) : WE p ρ (tRevT p.K te) Q := fun G σ H hh Qv k =>
  h G σ H hh _ fun x v G1 H1 ⟨xs, e, q⟩ s1 r1 => by
    subst e
    obtain ⟨a, vs, ev, hq, hl⟩ := r1.tup_inv
    have m1 := (hh.step s1).mem
    refine ⟨a, vs, ev, tq m1.sub hq, fun b hb => ?_⟩
    have gr := m1.grow (o := .tup vs.reverse) hb
    exact k _ _ _ _ q (s1.trans gr) (.tup upd_same (lmono (RpL.rev hl) gr.ex))
end
end Cal
set_option Elab.async false
set_option linter.all false
set_option maxRecDepth 100000
set_option maxHeartbeats 4000000
namespace Cal
open PySem L2 PyProof.Rows
open Evl (Ex sq_of st_of)
section
variable {p : Par} {ρ : Rho} {Q : D → Prop} {ta tb te tl th : TE} {tt tu : TT} {P : Post} {ts tv : TS} {g : TG}
/-- i, j = a new thing, something -/
theorem ws_newParD {i j : Nat} (h : WF p ρ ta fun c1 => WE p ρ tb fun x => P.n ((ρ.set i (some c1)).set j (some (.d x)))) :
    WS p ρ (tPar i j (tCons ta (tCons tb tNil))) P := fun G σ H hh E kn kr kb kc => by
  refine h G σ H hh _ fun c1 a G1 H1 q ho1 s1 n1 x1 => q G1 σ H1 (hh.step s1) _ fun x v G2 H2 q2 s2 r2 => ?_
  exact ⟨_, _, rfl, kn _ G2 _ _ q2 (ex_tr s1.ex s2.ex) (((hh.setNew (i := i) s1 n1 x1).step s2).setD r2)⟩
end
/-! lists and tuples of ints as data of ==  -/
theorem py_intsC : ∀ xs : List Int, PyData.canLayAll0 (toPyL (xs.map D.int)) = true ∧ PyData.depthAll (toPyL (xs.map D.int)) = 0
  | [] => ⟨rfl, rfl⟩
  | x :: xs => by
    obtain ⟨h1, h2⟩ := py_intsC xs
    rw [List.map_cons, toPyL, toPy, PyData.canLayAll0, PyData.depthAll, PyData.canLay0, PyData.depth, h1, h2]
    exact ⟨rfl, rfl⟩
theorem lst_cmp (c : List Int) : Cmp (.lst (c.map D.int)) := .lst fun x hx => by
  obtain ⟨i, _, rfl⟩ := List.mem_map.mp hx
  exact .int i
theorem lst_shaped (c : List Int) : SeqAt.shaped (toPy (.lst (c.map D.int))) = true := by
  obtain ⟨h1, h2⟩ := py_intsC c
  unfold SeqAt.shaped
  rw [toPy, PyData.canLay0, h1, PyData.depth, h2]
  rfl
theorem eqv_self {x : D} (h : SeqAt.shaped (toPy x) = true) : PyData.eqv (toPy x) (toPy x) = true := SeqAt.eqv_refl _ (SeqAt.canLay_of_shaped h)
theorem tup2_shaped (c : List Int) (i : Int) : SeqAt.shaped (toPy (.tup [.tup (c.map D.int), .int i])) = true := by
  obtain ⟨h1, h2⟩ := py_intsC c
  unfold SeqAt.shaped
  rw [toPy, toPyL, toPyL, toPyL, toPy, toPy, PyData.canLay0, PyData.canLayAll0, PyData.canLayAll0, PyData.canLayAll0, PyData.canLay0, PyData.canLay0, h1, PyData.depth, PyData.depthAll, PyData.depthAll, PyData.depthAll, PyData.depth, PyData.depth, h2]
  rfl
theorem tup2_cmp (c : List Int) (i : Int) : Cmp (.tup [.tup (c.map D.int), .int i]) := .tup fun x hx => by
  simp only [List.mem_cons, List.not_mem_nil, or_false] at hx
  rcases hx with rfl | rfl
  · exact .tup fun x hx => by
      obtain ⟨i, _, rfl⟩ := List.mem_map.mp hx
      exact .int i
  · exact .int i
end Cal
set_option Elab.async false
set_option linter.all false
set_option maxRecDepth 100000
set_option maxHeartbeats 4000000
namespace Cal
open PySem L2 PyProof.Rows LamX
open Evl (Ex sq_of st_of)
/-! ### clauses and classes -/
/-- what a clause that names y, or isinstance with y, says of an error of x -/
structure XM (K : PySem.W.Frag) (mg : Str → Option Value) (x y : Str) (b : Bool) : Prop where
  m : ∀ C1 C2, mg x = some (.ref C1) → mg y = some (.ref C2) → PySem.W.exmOne K (.ref C1) (.ref C2) = some b ∧ PySem.W.kitOne K (.ref C1) (.ref C2) = some b
theorem xm_mk {K : PySem.W.Frag} {mg : Str → Option Value} {x y : Str} {b : Bool} {C1 C2 : Addr} (g1 : mg x = some (.ref C1)) (g2 : mg y = some (.ref C2)) (h1 : PySem.W.subIn K (.ref C2) (.type "BaseException") = some true) (h2 : PySem.W.isClsIn K C2 = true)
    (h3 : PySem.W.typeIn K (.ref C2) = some (.type "type")) (h4 : PySem.W.subIn K (.ref C1) (.ref C2) = some b) (h5 : b = true ∨ C1 ≠ C2) : XM K mg x y b := ⟨fun D1 D2 e1 e2 => by
  rw [g1] at e1
  rw [g2] at e2
  cases e1
  cases e2
  have q1 : (PySem.W.clsIn K C2).isSome = true := h2
  have q2 : ((PySem.W.clsIn K C2).isSome && PySem.W.typeIn K (.ref C2) == some (.type "type")) = true := by rw [q1, h3]; rfl
  have kc : PySem.W.kitCls K (.ref C1) (.ref C2) = some b := by
    refine Eq.trans (b := if ((PySem.W.clsIn K C2).isSome && PySem.W.typeIn K (.ref C2) == some (.type "type")) = true then PySem.W.subIn K (.ref C1) (.ref C2) else none) rfl ?_
    rw [if_pos q2, h4]
  refine ⟨?_, ?_⟩
  · unfold PySem.W.exmOne
    rw [if_pos (by rw [h1]; rfl)]
    exact kc
  · unfold PySem.W.kitOne
    by_cases hb : b = true
    · subst hb
      split
      · rfl
      · exact kc
    · rcases h5 with h5 | h5
      · exact (hb h5).elim
      · rw [if_neg (fun z => by
          have z' : Value.ref C1 = Value.ref C2 := by simpa using z
          cases z'
          exact h5 rfl)]
        exact kc⟩
/-! ### a def that calls what it is handed and says a word -/
/-- the word for each class of errors, and where nothing is raised -/
def TTw (mg : Str → Option Value) (wd : Str → Option Str) (ret : Str) : (XK → Hp → VK → Prop) → Hp → VK → Prop := fun tl H Q =>
  tl (fun cls _ H' => ∃ y C s, cls = .ref C ∧ mg y = some (.ref C) ∧ wd y = some s ∧ Q (.str s) H') H fun _ H' => Q (.str ret) H'
/-- the clauses lead an error of the class cls to the word s -/
def Leads (K : PySem.W.Frag) (cls : Value) (s : Str) : List (Addr × Str) → Prop
  | [] => False
  | (C, w) :: r => ∃ b, PySem.W.exmOne K cls (.ref C) = some b ∧ (b = true → s = w) ∧ (b = false → Leads K cls s r)
theorem leads_many {K : PySem.W.Frag} {Wout : WX} {D : Ends} {cls : Value} {d : Option Addr} {s : Str} {σ : L2.St} {H : Hp} (h : D.rt (.str s) H) : ∀ {cl : List (Addr × Str)}, Leads K cls s cl →
    wMany K Wout D (cl.map fun z => (Value.ref z.1, fun _ _ _ => tRet (tC (.str z.2)))) cls d σ H
  | [], l => l.elim
  | (C, w) :: r, ⟨b, e, l1, l2⟩ => ⟨b, e, fun hb a _ => by rw [← l1 hb]; exact h, fun hb => leads_many h (l2 hb)⟩
section
variable {X : Cx}
theorem words_give {Ng : List Str} {x a q ret : Str} {sg : Scope} {g : Addr} {cdg : Value} {h₀ : ExceptHandler} {hds : List ExceptHandler} {wd : Str → Option Str} {cl : List (Addr × Str)} {j : Nat} {p1 p2 p3 p5 p6 p8 : Pos}
    (hh : ∀ (s : Shared) (H : Hp), HdsOk (cxOf C8.CX0 X.prog X.w X.K X.mg X.base Ng x sg g cdg X.A X.stack s H C8.E0).nox (h₀ :: hds) (cl.map fun z => (Value.ref z.1, fun _ _ _ => tRet (tC (.str z.2)))))
    (hw : ∀ (y : Str) (C : Addr) (s : Str), X.mg y = some (.ref C) → wd y = some s → Leads X.K (.ref C) s cl) :
    GivesTo X Ng x sg g cdg [.Try [.Expr (.Call (.Name a p1) [] [] p2) p3] (h₀ :: hds) [] [] p8, .Return (some (.Constant (.str ret) j p5)) p6] a q (TTw X.mg wd ret) := by
  intro f c' s H Q tl act hc h
  refine ⟨_, pss_cons (ps_try_many (X := (cxOf C8.CX0 X.prog X.w X.K X.mg X.base Ng x sg g cdg X.A X.stack s H C8.E0).nox) (Wout := fun _ _ _ _ => False)
      (tb := fun W D σ H => ∃ Ech : XK, (∀ cls d σ' H', Ech cls d H' → W cls d σ' H') ∧ σ[0]? = some (some (.ref f)) ∧ H c' = some (CodeO c' q) ∧ tl Ech H fun _ H1 => D.nx σ H1)
      rfl rfl LamX.takes0 (fun W pn xe tk _ => ?_) (hh s H)) (pss_one (ps_ret pe_str)), ?_⟩
  · refine ⟨fun pins s' σ H' D I h' => ?_⟩
    obtain ⟨Ech, hW, h1, h2, h3⟩ := h'
    have hq := pss_one (ps_expr (pos := p3) (act W pn xe Ech p1 p2 tk hW))
    exact hq.run pins s' σ H' D I ⟨h1, h2, h3⟩
  · exact ⟨fun cls _ H' => ∃ y C s, cls = .ref C ∧ X.mg y = some (.ref C) ∧ wd y = some s ∧ Q (.str s) H', fun cls d σ' H' ⟨y, C, s, e1, e2, e3, e4⟩ => by
      subst e1
      exact leads_many (D := _) e4 (hw y C s e2 e3), rfl, hc, h⟩
/-- x(lambda: body), x a def of the text -/
theorem pe_lam {T : List (Addr × Str)} {TT : (XK → Hp → VK → Prop) → Hp → VK → Prop} {x a : Str} {st : Stmt} {c P : Addr} {k : Nat} {Ng : List Str} {params : Arguments} {body : Expr} {scope : Scope} {t : XK → TE} {p lpos pos : Pos} (F : Src X.K X.mg x st)
    (sc : FnScope Ng [a] (defScope st)) (hb : ∀ (kV doc pm : Value) (an : Option Addr) (cdv ct : Value) (us : List Value), us.length = ([a] : List Str).length → bindArgs (PySem.W.fnOf x x (defArgs st) (defBody st) (defScope st) .none kV doc pm an cdv ct) ⟨us, []⟩ = pure (([a] : List Str).zip us))
    (hNg : Ng[0]? = some a) (hva : Vis (defScope st) a) (hG : ∀ (g : Addr) (cdg : Value), GivesTo X Ng x (defScope st) g cdg (defBody st) a (X.env.qual ++ "<lambda>") TT) (TB : TabB X.base X.mg c P) (hcode : X.env.code = .ref c) (hT : T = [(P, X.env.qual ++ "<lambda>")]) (hr : Room (k + 2) X.A) (L : LamS X.env.scope scope)
    (hdef : defaultsOf params X.env = ([], [])) (hbind : ∀ (q : Str) (cl : List (Str × Addr)) (pm cv ctv : Value), bindArgs (PySem.W.kla_fn "<lambda>" q params body scope cl pm cv ctv) ⟨[], []⟩ = pure [])
    (hbody : ∀ (A : Around) (outer : List Env) (s : Shared) (H : Hp) (E : XK) (f c' : Addr), Room k (A.deeper (lamEnv X scope s.heap.objs.size f c')) → PE (lamCx X A outer s H E scope f c') body (t E))
    (hg : Gl X x := by rfl) (hdb : (x == ("__debug__" : Str)) = false := by decide) (hd : (a == ("__debug__" : Str)) = false := by decide) (hcd : (a == ("__classdict__" : Str)) = false := by decide) :
    PE X (.Call (.Name x p) [.Lambda params body scope lpos] [] pos) (tLam T TT t) := by
  obtain ⟨f, fd, hm, Fn⟩ := F.ex
  have hbf := Fn.binds hb
  obtain ⟨oc, od, kV, doc, pm, an, cdv, ct, osl, rfl, lk, hcf⟩ := Fn.ex
  subst hT
  exact pe_lamcall hg hm Fn.kp lk hcf hbf sc hNg hva (hG f cdv) TB hcode (.head _) (fun z hz _ => by cases List.mem_singleton.mp hz; rfl) hr L hdef hbind hbody hdb hd hcd
end
/-! ### read -/
section
variable {p : Par} {ρ : Rho} {Q : D → Prop} {mg : Str → Option Value}
/-- the word that is said of what a call gives -/
def wordOf (Q : D → Prop) (wd : Str → Option Str) (ret : Str) : Out → Prop
  | .ok _ => Q (.str ret)
  | .new _ => Q (.str ret)
  | .ex y _ => ∃ s, wd y = some s ∧ Q (.str s)
theorem we_lam {T : List (Addr × Str)} {wd : Str → Option Str} {ret : Str} {S : List D → (Out → Prop) → Prop} {ta : TA} (hT : p.h.T = T) (h : WA p ρ ta fun ds => S ds (wordOf Q wd ret)) :
    WE p ρ (tLam T (TTw mg wd ret) fun E => tCallS (spX p.K mg S) (L2.WE fun cls d _ H => E cls d H) ta) Q := fun G σ H hh Qv k => by
  subst hT
  refine ⟨hh.mem.tab, fun H1 eN T1 => ?_⟩
  -- the tables alone have grown
  have s0 : Stp p G H G H1 := ⟨fun a o e => eN a o (hh.mem.sub a o e) fun ps z => hh.mem.gt a ps (by rw [e, z]), hh.mem.gh, fun a o _ t e => eN a o e t, fun _ _ e => e, fun _ _ e => .inl e, by
    obtain ⟨xs, hx⟩ := hh.mem.hand.some
    exact hh.mem.hand.mono (fun _ _ e => e) (by rw [hx]; exact eN _ _ hx fun ps z => by cases z), hh.mem.gt, T1⟩
  have hh0 := hh.step s0
  refine h G σ H1 hh0 _ fun ds vs G2 H2 q s1 r1 => ?_
  have hh1 := hh0.step s1
  have all := s0.trans s1
  refine ⟨p.h, G2, ds, _, r1, hh1.mem.refl, q, fun d v G' H' z m r => k (.str ret) (.str ret) G' H' z (all.trans m) (.str ret), fun c a G' H' z ho m x => k (.str ret) (.str ret) G' H' z (all.trans m) (.str ret), fun y fs C d G' H' z hm m xr => ?_⟩
  obtain ⟨s, e1, e2⟩ := z
  exact ⟨y, C, s, rfl, hm, e1, k (.str s) (.str s) G' H' e2 (all.trans m) (.str s)⟩
end
end Cal
set_option Elab.async false
set_option linter.all false
set_option maxRecDepth 100000
set_option maxHeartbeats 4000000
namespace Cal
open PySem PySem.Spec L2 PyProof.Rows LamX
open Evl (Ex sq_of st_of)
/-! ### a law that makes lambdas -/
/-- a def of the text whose code object is at c -/
structure FunC (K : PySem.W.Frag) (x qual : Str) (st : Stmt) (f c : Addr) (fd : FuncData) : Prop where
  ex : ∃ (oc : Value) (od : Option Addr) (kV doc pm : Value) (an : Option Addr) (ct : Value) (osl : Array (Option Value)),
    fd = PySem.W.fnOf x qual (defArgs st) (defBody st) (defScope st) .none kV doc pm an (.ref c) ct ∧ K.lookup f = some ⟨oc, od, .func fd, osl⟩ ∧ PySem.W.codeIn K (.ref c) qual = true
theorem funC_mk {K : PySem.W.Frag} {x qual : Str} {st : Stmt} {f c : Addr} {oc : Value} {od an : Option Addr} {osl : Array (Option Value)} {kV doc pm cdv ct : Value} (l : K.lookup f = some ⟨oc, od, .func (PySem.W.fnOf x qual (defArgs st) (defBody st) (defScope st) .none kV doc pm an cdv ct), osl⟩)
    (hc : PySem.W.codeIn K cdv qual = true) (e : cdv = .ref c) : FunC K x qual st f c (PySem.W.fnOf x qual (defArgs st) (defBody st) (defScope st) .none kV doc pm an cdv ct) := by
  subst e
  exact ⟨⟨oc, od, kV, doc, pm, an, ct, osl, rfl, l, hc⟩⟩
section
variable {P : Program} {w : World} {K : PySem.W.Frag} {mg : Str → Option Value} {base : Heap}
theorem FunC.ok {x qual : Str} {st : Stmt} {f c : Addr} {fd : FuncData} {N ps : List Str} {k : Nat} {sp : Sp} (F : FunC K x qual st f c fd) (S : FnScope N ps (defScope st)) (len : ∀ vs H Q E, sp vs H Q E → vs.length = ps.length)
    (body : ∀ (A : Around) (outer : List Env) (s : Shared) (H : Hp) (vs : List V) (Q : VK) (E : XK), Room k (A.deeper (envOfC qual (defScope st) s.heap.objs.size f (.ref c))) → sp vs H Q E →
      ∃ t, PSs (cxOf CX0 P w K mg base N qual (defScope st) f (.ref c) A outer s H E).nox (defBody st) t ∧ t { nx := fun _ H' => Q .non H', rt := Q } (start N vs) H) : FnOk P w K mg base CX0 (k + 1) f fd ps sp := by
  obtain ⟨oc, od, kV, doc, pm, an, ct, osl, e, look, cd⟩ := F.ex
  subst e
  refine fn_of look cd S len fun A outer s H vs Q E room prom => ?_
  obtain ⟨t, reads, goal⟩ := body A outer s H vs Q E room prom
  exact ⟨t, reads.nox, goal⟩
end
/-- the law's promise, with its table -/
def spLawT (K : PySem.W.Frag) (T : List (Addr × Str)) : Sp := fun vs H Q _ => ∃ (a : Addr) (ns : List Int), vs = [.ref a] ∧ SqL K H a (ns.map V.int) ∧ ns.length ≤ 63 ∧ Tabs T H ∧ ∀ H', Q (.bl true) H'
theorem noTab {K : PySem.W.Frag} {h : Heap} {P : Addr} (X : K.In h) (hK : PySem.W.noTabs K = true) (e : h.get? P = some { cls := .none, data := .fields #[] }) : K.lookup P = none := by
  cases z : K.lookup P with
  | none => rfl
  | some o =>
    have e2 := X P o z
    rw [e] at e2
    cases e2
    have h2 := List.all_eq_true.mp hK (P, _) (PySem.W.mem_of_lookupK z)
    cases h2
/-- the walk of a law that makes lambdas itself -/
theorem walkT {l : PySem.W.OpenLaw} {q : Program} {loose : List Str} {XP : (Str → Option Value) → Heap → Prop} {YP : World → Heap → Prop} {d : DefRec} {K : Params → PySem.W.Frag} {k : Nat} {qual : Str} (hn : l.most = some 63) (hdf : d.params.defaults = []) (room : Room k callerA)
    (hY : ∀ (w : World) (h : Heap), YP w h → (K w.params).In h) (hK : ∀ w : World, PySem.W.noTabs (K w.params) = true) (hr : ((recsOf q).find? (fun z => z.name == d.name)).isSome = true)
    (F : ∀ (w : World) (mg : Str → Option Value) (fa c : Addr) (h : Heap), (K w.params).In h → h.Ns mainGlobals mg → mg d.name = some (.ref fa) → (∀ o fd, h.get? fa = some o → o.data = .func fd → fd.code = .ref c) →
      ∃ fd : FuncData, (∀ (s : Shared) (u : Value), BindsTo s fd ⟨[u], []⟩ [("script", u)]) ∧ ∀ (base : Heap) (P : Addr), (K w.params).In base → base.Ns mainGlobals mg → TabB base mg c P → FnOk l.prog w (K w.params) mg base CX0 k fa fd ["script"] (spLawT (K w.params) [(P, qual)])) :
    PySem.W.WalkO q loose XP YP l.row.toRowW d [] (fun f vs => PySem.call f vs) := by
  refine Att.attach_callB hn hdf fun w s₀ s₁ mg mb fa o pm cd doc a vs ns ground Y ho hod hcd hmg hobj hints hlen hbits hgens => ?_
  have KX := hY w _ Y
  have top := ground.T
  obtain ⟨r, hr⟩ := Option.isSome_iff_exists.mp hr
  have er : r.name = d.name := beq_iff_eq.mp (List.find?_some (p := fun z : DefRec => z.name == d.name) hr)
  obtain ⟨a2, o2, fd2, c, P, t1, t2, t3, t4, t5, t6⟩ := top.tab r (List.mem_of_find?_eq_some hr)
  rw [er, hmg] at t1
  cases t1
  have hcode : ∀ o' fd', s₁.heap.get? fa = some o' → o'.data = .func fd' → fd'.code = .ref c := fun o' fd' e1 e2 => by
    rw [t2] at e1
    cases e1
    rw [t3] at e2
    cases e2
    exact t4
  obtain ⟨_, tabAt⟩ := id t6
  obtain ⟨fd, hb, hF⟩ := F w mg fa c _ KX top.g hmg hcode
  have one : ∀ {z : Addr × Addr}, z ∈ [(c, P)] → z = (c, P) := fun {z} hz => List.mem_singleton.mp hz
  exact law_callTs (cs := [(c, P)]) (sp := spLawT (K w.params) [(P, qual)]) KX top.g top.b top.builtins top.nolimit hgens (fun z hz => by rw [one hz]; exact tabAt) (fun z hz => by rw [one hz]; exact noTab KX (hK w) tabAt)
    (fun z hz => by rw [one hz]; exact PySem.W.CodeHd.of t5 t6) top.bmain hobj hints (Nat.le_trans hlen (by decide)) room (fun base hi hns hTB => hF base P hi hns (hTB (c, P) (.head _))) hb
    (fun H hH hS => ⟨a, ns, rfl, hS, hlen, fun z hz => by
      rw [List.mem_singleton.mp hz]
      exact TabS.nil (hH (c, P) (.head _)), fun _ => rfl⟩) fun _ _ _ z => z
end Cal
set_option Elab.async false
set_option linter.all false
set_option maxRecDepth 100000
set_option maxHeartbeats 4000000
namespace Cal
open PySem L2 PyProof.Rows
open Evl (Ex sq_of st_of)
section
variable {p : Par} {ρ : Rho} {Q : D → Prop} {ta tb te ti : TE} {P : Post} {N : Rho → Prop}
/-- xs * n, a new list of its own -/
theorem wf_repL {Q : Cell → Prop} (h : WE p ρ ta fun x => ∃ xs, x = .lst xs ∧ WE p ρ tb fun y => ∃ n : Int, y = .int n ∧ -(2 ^ 63) ≤ n ∧ n < 2 ^ 63 ∧ xs.length * n.toNat ≤ 4000000 ∧ Q (.ol (List.replicate n.toNat xs).flatten)) : WF p ρ (tOp rRep ta tb) Q := fun G σ H hh Qv k =>
  h G σ H hh _ fun x v G1 H1 ⟨xs, ex, h1⟩ s1 r1 => h1 G1 σ H1 (hh.step s1) _ fun y w G2 H2 ⟨n, ey, n1, n2, n3, q⟩ s2 r2 => by
    subst ex ey
    obtain ⟨a, vs, ev, hs, hl⟩ := r1.lst_inv
    subst ev
    have hz := hl.length
    have hh2 := (hh.step s1).step s2
    have s := s1.trans s2
    refine ⟨a, n, vs, rfl, rp_int r2, hh2.mem.sub _ _ (s2.ex _ _ hs), n1, n2, by rw [hz, sizeLine_eq]; omega, fun b hb => ?_⟩
    exact k _ b _ _ q rfl (s.trans (hh2.mem.growO hb)) (hh.mem.back s hb) ⟨b, _, rfl, hh2.mem.fresh hb, upd_same, lmono (rep_rp hl _) s2.ex⟩
theorem ixN_nat {len n : Nat} (h : n < len) : ixN len (n : Int) = some n := by
  unfold ixN
  rw [if_pos (by omega), if_pos (by omega)]
  congr 1
/-- the target xs[i], xs a slot's own -/
theorem wg_setO {i : Nat} {xs : List D} {x : D} (e : ρ[i]? = some (some (.ol xs))) (h : WE p ρ ti fun y => ∃ n : Nat, y = .int (n : Int) ∧ n < xs.length ∧ N (ρ.set i (some (.ol (xs.set n x))))) : WG p ρ (gSub (tVar i) ti rSetL) x N := fun G σ H v hh r Qs k => by
  obtain ⟨sv, h1, a, vs, h2, ow, h4, h5⟩ := hh.slot i _ e
  subst h2
  refine ⟨.ref a, h1, h G σ H hh _ fun y w G1 H1 ⟨n, ey, hn, q⟩ s1 r1 => ?_⟩
  subst ey
  rw [rp_int r1]
  have hh1 := hh.step s1
  obtain ⟨ow1, e1⟩ := Own.step NT.lst ow h4 s1
  have hl1 := lmono h5 s1.ex
  refine ⟨a, vs, (n : Int), n, rfl, rfl, e1, ixN_nat (by rw [hl1.length]; exact hn), ?_⟩
  exact k _ G1 σ _ q s1.ex (hh1.write e rfl h1 ow1 ⟨a, _, rfl, ow1, upd_same, hl1.set (rmono r s1.ex) n⟩)
/-- i, j, l = [], something, {} -/
theorem ws_new3K {i j l r0 : Nat} {x : D} (e : ρ[r0]? = some (some (.d x))) (h : P.n (((ρ.set i (some (.ol []))).set j (some (.d x))).set l (some (.ok [])))) :
    WS p ρ (tPar3 i j l (tCons (tLst tNil) (tCons (tVar r0) (tCons tDNewK tNil)))) P := fun G σ H hh E kn kr kb kc => by
  obtain ⟨sv, g1, v, g2, g3⟩ := hh.slot r0 _ e
  subst g2
  refine ⟨sz (Nat.zero_le _), fun a ha => ⟨v, g1, fun c hc => ?_⟩⟩
  have s1 := hh.mem.growO (o := .lst []) ha
  have k1 := hh.setNew (i := i) (c := .ol []) s1 (Nil.no ha) ⟨a, [], rfl, hh.mem.fresh ha, upd_same, .nil⟩
  have k2 := k1.setD (i := j) g3
  have s5 := k2.mem.growO (o := .dK []) hc
  have k6 := k2.setNew (i := l) (c := .ok []) s5 (Nil.no hc) ⟨c, [], rfl, k2.mem.fresh hc, upd_same, .nil⟩
  exact ⟨_, _, _, rfl, kn _ G _ _ h Ex.rfl' k6⟩
/-! ### an owned list of integers lent to a call that gives fractions -/
def frC (x : Int × Int) : D := .tup [.int x.1, .int x.2]
theorem lentI {G G' H H' : Hp} {σ : L2.St} {a : Addr} {vs : List V} (hh : Hold p ρ G σ H) (ow : Own p G a) (s : Stp p (upd G a (.lst vs)) H G' H') : Stp p G H (fun b => if b = a then none else G' b) H' := by
  have ne : ∀ {b : Addr} {o : HO}, (if b = a then none else G' b) = some o → b ≠ a ∧ G' b = some o := fun {b o} z => by
    by_cases hb : b = a
    · rw [if_pos hb] at z; cases z
    · rw [if_neg hb] at z; exact ⟨hb, z⟩
  refine ⟨fun b o z => s.sub b o (ne z).2, ?_, s.base, fun b o z => ?_, fun b o z => ?_, ?_, fun b ps z => s.gt b ps (ne z).2, s.tab⟩
  · show (if p.h.a = a then none else G' p.h.a) = none
    rw [if_neg (Ne.symm ow.2.2)]
    exact s.gh
  · have hb : b ≠ a := ne_of_none z ow.1
    show (if b = a then none else G' b) = some o
    rw [if_neg hb]
    exact s.g0 b o ((upd_ne hb).trans z)
  · obtain ⟨hb, z2⟩ := ne z
    rcases s.new b o z2 with q | q
    · exact .inl ((upd_ne hb).symm.trans q)
    · exact .inr q
  · obtain ⟨ns, i, r, n, h1, h2, h3⟩ := s.hand
    have hc : p.h.c ≠ a := fun e => by
      obtain ⟨ns2, _, _, _, _, g2, _⟩ := hh.mem.hand
      rw [e, ow.1] at g2
      cases g2
    exact ⟨ns, i, r, n, h1, by show (if p.h.c = a then none else G' p.h.c) = _; rw [if_neg hc]; exact h2, h3⟩
theorem rp_frs {K : PySem.W.Frag} {h : Hnd} {G' : Hp} {a : Addr} {ns : List Int} {v : V} {fs : List (Int × Int)} (ha : G' a = some (.lst (ns.map V.int))) (hne : fs ≠ []) (r : Rp K h G' v (.lst (fs.map frC))) : Rp K h (fun b => if b = a then none else G' b) v (.lst (fs.map frC)) := by
  obtain ⟨b, ws, ev, hb, hl⟩ := r.lst_inv
  subst ev
  have hba : b ≠ a := fun z => by
    rw [z, ha] at hb
    cases hb
    cases fs with
    | nil => exact hne rfl
    | cons f fs =>
      cases ns with
      | nil => cases hl
      | cons n ns =>
        cases hl with
        | cons r1 _ => cases r1
  have items : ∀ (fs : List (Int × Int)) (ws : List V), RpL K h G' ws (fs.map frC) → RpL K h (fun b => if b = a then none else G' b) ws (fs.map frC) := by
    intro fs
    induction fs with
    | nil => intro ws hl; cases hl; exact .nil
    | cons f fs ih =>
      intro ws hl
      cases hl with
      | cons r1 r2 =>
        refine .cons ?_ (ih _ r2)
        obtain ⟨t, us, et, ht, hu⟩ := r1.tup_inv
        subst et
        have hta : t ≠ a := fun z => by
          rw [z, ha] at ht
          cases ht
        refine .tup (by show (if t = a then none else G' t) = _; rw [if_neg hta]; exact ht) ?_
        cases hu with
        | cons u1 u2 =>
          cases u2 with
          | cons u2 u3 =>
            cases u3
            cases u1
            cases u2
            exact .cons (.int _) (.cons (.int _) .nil)
  exact .lst (by show (if b = a then none else G' b) = _; rw [if_neg hba]; exact hb) (items fs ws hl)
theorem we_lendF (i : Nat) {ns : List Int} (e : ρ[i]? = some (some (.ol (ns.map D.int)))) (h : WE p (ρ.set i (some (.d (.lst (ns.map D.int))))) te fun d => ∃ fs : List (Int × Int), d = .lst (fs.map frC) ∧ fs ≠ [] ∧ Q d) : WE p ρ te Q := fun G σ H hh Qv k => by
  obtain ⟨sv, h1, a, vs, h2, ow, h4, h5⟩ := hh.slot i _ e
  subst h2
  obtain rfl := h5.ints
  obtain ⟨hh', ex⟩ := hh.freeze e rfl h1 ow h4 (x := .lst (ns.map D.int)) (.lst upd_same (lmono h5 fun b u z => by rw [upd_ne (ne_of_none z ow.1)]; exact z))
  refine h _ σ H hh' Qv fun d v G' H' ⟨fs, ed, hne, q⟩ s r => ?_
  subst ed
  exact k _ _ _ H' q (lentI hh ow s) (rp_frs (s.ex _ _ upd_same) hne r)
/-- a test that is itself `a if c else b` -/
def tIfT (t ta tb : TT) : TT := fun σ H Q => t σ H fun c H1 => if c = true then ta σ H1 Q else tb σ H1 Q
theorem pt_ifE {X : Cx} {c a b : Expr} {pos : Pos} {tA tB1 tB2 : TT} (hc : PT X c tA) (ha : PT X a tB1) (hb : PT X b tB2) : PT X (.IfExp c a b pos) (tIfT tA tB1 tB2) := by
  refine ⟨fun pins s σ H Q I h => ?_⟩
  refine isTrue_IfExp (thn (hc.run pins s σ H _ I h) fun d s1 ⟨H1, I1, q1⟩ => ?_)
  cases d with
  | true => exact ha.run pins s1 σ H1 Q I1 q1
  | false => exact hb.run pins s1 σ H1 Q I1 q1
theorem wt_ifE {R : Bool → Prop} {tt tu tv : TT} (h : WT p ρ tt fun b => if b = true then WT p ρ tu R else WT p ρ tv R) : WT p ρ (tIfT tt tu tv) R := fun G σ H hh Qv k =>
  h G σ H hh _ fun b G1 H1 q s1 => by
    cases b with
    | true => rw [if_pos rfl] at q ⊢; exact q G1 σ H1 (hh.step s1) Qv fun d G2 H2 q s2 => k d G2 H2 q (s1.trans s2)
    | false => rw [if_neg (by decide)] at q ⊢; exact q G1 σ H1 (hh.step s1) Qv fun d G2 H2 q s2 => k d G2 H2 q (s1.trans s2)
end
end Cal
set_option Elab.async false
set_option linter.all false
set_option maxRecDepth 100000
set_option maxHeartbeats 4000000
namespace Cal
open PySem L2 PyProof.Rows
open Evl (Ex sq_of st_of)
/-! ### the sum of flags -/
/-- how many are true -/
def trues (bs : List Bool) : Int := (bs.map fun b => if b = true then (1 : Int) else 0).sum
theorem trues_pre (bs : List Bool) : ∀ n, n ≤ bs.length → preSum (fun i => if bs.getD i false = true then 1 else 0) n = trues (bs.take n)
  | 0, _ => by rw [List.take_zero]; rfl
  | n + 1, h => by
    have hn : n < bs.length := by omega
    have e : bs.take (n + 1) = bs.take n ++ [bs[n]] := by rw [List.take_succ, List.getElem?_eq_getElem hn]; rfl
    show preSum _ n + _ = _
    rw [trues_pre bs n (by omega), e]
    unfold trues
    rw [List.map_append, List.sum_append]
    have e2 : bs.getD n false = bs[n] := by rw [List.getD_eq_getElem?_getD, List.getElem?_eq_getElem hn] <;> rfl
    show _ + (if bs.getD n false = true then (1 : Int) else 0) = _
    rw [e2]
    simp
def rSumB (K : PySem.W.Frag) : List V → Hp → VK → Prop := fun vs H Q => ∃ (a : Addr) (bs : List Bool), vs = [V.ref a] ∧ SqL K H a (bs.map V.bl) ∧ Q (.int (trues bs)) H
theorem cr_sumB {X : Cx} (hc : X.calm = true) : CallR X (.builtin "sum") (rSumB X.K) := by
  intro pins s σ H vs us Q I r h
  obtain ⟨a, bs, rfl, hs, q⟩ := h
  obtain ⟨its, rv, hl, _⟩ := I.list hs
  rw [Vals.ref1 r]
  have hL := hl.isList
  have lt : a < s.heap.objs.size := by obtain ⟨o, ho, _⟩ := hL; exact Heap.lt_size ho
  have hlen : its.length = bs.length := by have := rv.length; rw [List.length_map] at this; exact this.symm
  refine call_sum_walkAnyB (wpAny_pyIter_list hL ?_)
  refine ⟨_, _, _, _, _, _, _, fun i => if bs.getD i false = true then 1 else 0, rfl, (Walks.list (A := X.A.in1) (I.ok.hd hc) s.heap.objs.size a (Nat.ne_of_lt lt) its.toArray).toS, ⟨⟨_, Heap.get?_push_size _ rfl, rfl, rfl⟩, hL.push _⟩, fun b hb => ?_, fun i v hv => ?_, fun s' t' hm => ?_⟩
  · show b < (s.heap.push _).objs.size
    rw [Heap.size_push]
    rcases List.mem_cons.mp hb with rfl | hb
    · exact Nat.lt_succ_self _
    · rw [List.mem_singleton.mp hb]; exact Nat.lt_succ_of_lt lt
  · have hv' : its[i]? = some v := by simpa using hv
    have hi : i < bs.length := by have := (List.getElem?_eq_some_iff.mp hv').1; omega
    obtain ⟨u, h1, h2⟩ := rv.get (i := i) (x := .bl bs[i]) (by rw [List.getElem?_map, List.getElem?_eq_getElem hi]; rfl)
    rw [hv'] at h1
    cases h1
    cases h2
    refine .inr ⟨_, rfl, ?_⟩
    show (if bs.getD i false = true then (1 : Int) else 0) = _
    rw [List.getD_eq_getElem?_getD, List.getElem?_eq_getElem hi] <;> rfl
  · rw [Moved.eq_with hm]
    have e : preSum (fun i => if bs.getD i false = true then 1 else 0) its.toArray.size = trues bs := by
      rw [List.size_toArray, hlen, trues_pre bs _ (Nat.le_refl _), List.take_length]
    rw [e]
    exact ⟨.int _, H, I.kept fun b o z => hm.heap b o (fun hmem => Nat.ne_of_lt (Heap.lt_size z) (List.mem_singleton.mp hmem)) (Heap.get?_push_of_some _ z), ⟨_, rfl⟩, q⟩
end Cal
set_option Elab.async false
set_option linter.all false
set_option maxRecDepth 100000
set_option maxHeartbeats 4000000
namespace Cal
open PySem L2 PyProof.Rows
open Evl (Ex sq_of st_of)
/-! ### what may raise when it is made -/
section
variable {X : Cx} {x : Str} {p pos : Pos} {e : Expr} {es : List Expr} {t : TA} {k n : Nat} {ps : List Str} {C : Addr} {S : Addr → List D → (Out → Prop) → Prop} {W : WX}
theorem pe_mkX (F : MakX X.prog X.w X.K X.mg X.base k x C ps S) (hr : Room (k + 1) X.A) (tk : Takes X W) (hN : X.N.length = n) (ha : PA X (e :: es) t) (hg : Gl X x := by rfl) (hdb : (x == ("__debug__" : Str)) = false := by decide)
    (he : starEach (e :: es) X.env = (false, eval e X.env) :: starEach es X.env := by rfl) (hpl : (backTo pos (starEach es X.env)).any (·.1) = false := by rfl) :
    PE X (.Call (.Name x p) (e :: es) [] pos) (tMake C (spMk X.K X.mg C S) [] (fun cls d H' => ∀ σ' : L2.St, σ'.length = n → W cls d σ' H') t) := by
  obtain ⟨f, fd, h1, h2, h3, h4⟩ := F.ex
  exact pe_make h2 h3 hr hg h1 h4 .nil (fun pins σ H s e s' I c => tk e s' (XE.of_call I (fun cls d H' h => h σ (I.len.trans hN)) c)) ha hdb he hpl
end
section
variable {p : Par} {ρ : Rho} {Q : D → Prop} {ta tb te ti : TE} {P : Post} {N : Rho → Prop} {mg : Str → Option Value} {Xp : Rho → Str → List (Str × D) → Prop} {W : WX}
theorem we_mkX {n : Nat} {C : Addr} {S : Addr → List D → (Out → Prop) → Prop} {ta : TA} (hW : XW mg p Xp W) (h : WA p ρ ta fun ds => S C ds (Out.cas Q (Xp (List.replicate n none)))) :
    WE p ρ (tMake C (spMk p.K mg C S) [] (fun cls d H' => ∀ σ' : L2.St, σ'.length = n → W cls d σ' H') ta) Q := fun G σ H hh Qv k =>
  h G σ H hh _ fun ds vs G1 H1 q s1 r1 x dx hx hdx hne => by
    have hh1 := hh.step s1
    have none_at : ∀ (i : Nat) (c : Cell), (List.replicate n (none : Option Cell))[i]? ≠ some (some c) := fun i c e => by
      rw [List.getElem?_replicate] at e
      split at e <;> cases e
    refine ⟨p.h, G1, H1, x, dx, vs, ds, _, by rw [List.append_nil], rfl, hx, hdx, hne, r1, hh1.mem.refl, q, fun fs G' H' z m sl => ?_, fun y fs C' d G' H' z hm m xr σ' hl => ?_⟩
    · obtain ⟨x', n⟩ := sl.up hh1.mem rfl
      obtain ⟨o, e4, ow, r⟩ := x'.toD rfl
      obtain ⟨o2, e5, ow2, _⟩ := sl.toD rfl
      have m2 := Mem.know (p := ⟨p.K, p.h, H1, G1⟩) m ow2 e4 (x'.nt rfl e4).tbl
      exact ⟨rfl, k _ _ _ _ z (s1.trans m2.1) r⟩
    · exact hW (List.replicate n none) G' σ' H' y fs C' d z hm ⟨(hh1.step m).mem, by rw [hl, List.length_replicate], fun i c e => (none_at i c e).elim, fun i j c c' a e => (none_at i c e).elim⟩ xr
/-- return (e.f,) -/
theorem wsg_retf1 {G1 : Hp} {R : D → Prop} {a C : Addr} {d : Option Addr} {f : Str} {i : Nat} {fs : List (Str × D)} {y : D} (e : ρ[i]? = some (some (.d (.raw (.ref a))))) (xr : XR p.K p.h G1 d fs) (hf : fs.lookup f = some y) (hR : R (.tup [y])) :
    WSg p G1 ρ (tRet (tTup (tCons (tXf a (.ref C) d C f (tVar i)) tNil))) (outP R) := fun G σ H ex hh E kn kr kb kc => by
  obtain ⟨sv, h1, v, h2, h3⟩ := hh.slot i _ e
  subst h2
  have hv : v = .ref a := by cases h3; rfl
  subst hv
  rcases xr.mono ex with ⟨rfl, _⟩ | ⟨dd, vfs, q1, q2, q3, q4⟩
  · cases hf
  · obtain ⟨v, l1, l2⟩ := lookup_of q3 q4 hf
    refine ⟨_, h1, rfl, rfl, dd, vfs, v, q1, hh.mem.sub _ _ q2, l1, sz (Nat.le_of_ble_eq_true rfl), fun b hb => ?_⟩
    have s := hh.mem.grow (o := .tup [v]) hb
    exact kr _ _ _ _ hR (hh.step s).mem (.tup upd_same (.cons (rmono l2 s.ex) .nil))
end
/-! ### == of an own class, whatever it gives -/
def rOwnEq (K : PySem.W.Frag) (C : Addr) (sp : Sp) : R2 := fun x y H Q => ∃ a dx fs tb, x = .ref a ∧ H a = some (.ins C dx fs) ∧ TyX K H y tb ∧ PySem.W.notFirst K C tb = true ∧ sp [x, y] H Q (fun _ _ _ => False)
theorem op_own {X : Cx} {CX : CXT} {k : Nat} {C f : Addr} {fd : FuncData} {ps : List Str} {sp : Sp} (F : FnOk X.prog X.w X.K X.mg X.base CX k f fd ps sp) (hr : Room k X.A)
    (hs : PySem.W.findIn X.K (.ref C) "__eq__" = some (some (.ref f))) (hf : PySem.W.isFn X.K (.ref f) = true) (hb : Binds X.K fd ps []) (hx : Passes CX X (fun _ _ _ => False)) : OpR X (compareOp .Eq) (rOwnEq X.K C sp) := by
  intro pins s σ H x y v u Q I rx ry h
  obtain ⟨a, dx, fs, tb, rfl, ha, hty, hnf, q⟩ := h
  cases rx
  obtain ⟨mA, J, _⟩ := ins_get I.hok ha
  obtain ⟨od, J, _⟩ := J.look
  obtain ⟨m, hF⟩ := I.fr
  obtain ⟨P, kit, hP, _⟩ := kit_of I ry hty
  show wpAny (model X.prog X.w) X.A (richCompare .Eq (.ref a) u) (EP X pins σ Q) X.xe s
  refine PySem.W.cmp_K (op := .Eq) (tb := tb) hr.units0 hF I.ok.mod.kin J (kit.ty _ _ I.kIn hP) hnf hs hf ?_
  refine thn (run_fn (us := [.ref a, u]) (vs := [.ref a, y]) (dvs := []) (ds := []) F hr hb .nil hx I (.cons rfl (.cons ry .nil)) q) fun v' s' hq => ?_
  obtain ⟨z, H', I', rz, q'⟩ := id hq
  cases z <;> first
    | (cases rz; exact hq)
    | (obtain ⟨t, rfl⟩ := rz; exact hq)
/-! ### objects and their kinds -/
/-- what is to be known of a class whose objects are asked after and compared -/
structure EqF (K : PySem.W.Frag) (C : Addr) : Prop where
  cls : Cls K C
  ha : PySem.W.findIn K (.ref C) "__class__" = some (some (.builtin "object.__class__"))
  hn : PySem.W.specialIn K (.builtin "object.__class__") "__get__" = some (some (.builtin "getset_descriptor.__get__"))
  ht : PySem.W.takesIn K (.builtin "object.__class__") = some true
  hm : PySem.W.mroIn K C (.type "object") = some true
  nf : ∀ t, t ∈ (["NoneType", "bool", "int", "str", "tuple", "list", "dict"] : List String) → PySem.W.notFirst K C (.type t) = true
  kc : ∀ t, t ∈ (["NoneType", "bool", "int", "str", "tuple", "list", "dict"] : List String) → PySem.W.kitOne K (.type t) (.ref C) = some false
  kb : ∀ t, t ∈ (["NoneType", "bool", "int", "str", "tuple", "list", "dict"] : List String) → PySem.W.kitOne K (.ref C) (.type t) = some false
  kk : PySem.W.kitOne K (.ref C) (.ref C) = some true
/-- the kind of a thing: a built-in one, or the class C -/
def TyW (C : Addr) (x : D) (t : Value) : Prop := (∃ s, tyD x = some s ∧ t = .type s) ∨ ∃ fs, x = .ins C fs ∧ t = .ref C
theorem tyD_in : ∀ {x : D} {s : String}, tyD x = some s → s ∈ (["NoneType", "bool", "int", "str", "tuple", "list", "dict"] : List String)
  | .non, _, h => by cases h; decide
  | .bl _, _, h => by cases h; decide
  | .int _, _, h => by cases h; decide
  | .str _, _, h => by cases h; decide
  | .tup _, _, h => by cases h; decide
  | .lst _, _, h => by cases h; decide
  | .dK _, _, h => by cases h; decide
  | .hand, _, h => by cases h
  | .dT _, _, h => by cases h
  | .raw _, _, h => by cases h
  | .ins _ _, _, h => by cases h
section
variable {p : Par} {ρ : Rho} {Q : D → Prop} {ta tb te : TE} {C : Addr}
theorem tyW_x (F : EqF p.K C) {G H : Hp} {v : V} {x : D} {t : Value} (e : Ex G H) (r : Rp p.K p.h G v x) (ty : TyW C x t) : TyX p.K H v t := by
  rcases ty with ⟨s, h, rfl⟩ | ⟨fs, rfl, rfl⟩
  · exact tyD_x (p := p) e r h
  · cases r with
    | ins q l c => exact .base (.ins (e _ _ q) F.cls F.ha F.hn F.ht F.hm)
/-- isinstance(e, T), e what it may -/
theorem we_isiW {T : String} (F : EqF p.K C) (h : WE p ρ te fun x => ∃ t b, TyW C x t ∧ PySem.W.kitOne p.K t (.type T) = some b ∧ Q (.bl b)) : WE p ρ (tCB (rIsi p.K) (tCons te (tCons (tC (.ty T)) tNil))) Q := fun G σ H hh Qv k =>
  h G σ H hh _ fun x v G1 H1 ⟨t, b, e1, e2, q⟩ s r => ⟨v, .ty T, t, .type T, b, rfl, .ty T, tyW_x F s.sub r e1, e2, k _ _ G1 H1 q s (.bl _)⟩
/-- isinstance(e, C), C the own class -/
theorem we_isiC (F : EqF p.K C) (h : WE p ρ te fun x => ∃ t b, TyW C x t ∧ PySem.W.kitOne p.K t (.ref C) = some b ∧ Q (.bl b)) : WE p ρ (tCB (rIsi p.K) (tCons te (tCons (tC (.ref C)) tNil))) Q := fun G σ H hh Qv k =>
  h G σ H hh _ fun x v G1 H1 ⟨t, b, e1, e2, q⟩ s r => ⟨v, .ref C, t, .ref C, b, rfl, .own C, tyW_x F s.sub r e1, e2, k _ _ G1 H1 q s (.bl _)⟩
/-- is it an object of a class -/
def isIns : D → Bool | .ins _ _ => true | _ => false
theorem kit_own (F : EqF p.K C) {x : D} {t : Value} (ty : TyW C x t) : PySem.W.kitOne p.K t (.ref C) = some (isIns x) := by
  rcases ty with ⟨s, h, rfl⟩ | ⟨fs, rfl, rfl⟩
  · rw [F.kc s (tyD_in h)]
    cases x <;> first | rfl | cases h
  · exact F.kk
theorem kit_bltn (F : EqF p.K C) {x : D} {t : Value} {T : String} {b : Bool} (ty : TyW C x t) (hT : T ∈ (["NoneType", "bool", "int", "str", "tuple", "list", "dict"] : List String)) (hb : ∀ s, tyD x = some s → kitB s T = some b) (hi : isIns x = true → b = false) : PySem.W.kitOne p.K t (.type T) = some b := by
  rcases ty with ⟨s, h, rfl⟩ | ⟨fs, rfl, rfl⟩
  · exact kit_ty (hb s h)
  · rw [hi rfl]; exact F.kb T hT
/-- == of an own class -/
theorem we_own {S : List D → (D → Prop) → Prop} (F : EqF p.K C) (h : WE p ρ ta fun x => ∃ fs, x = .ins C fs ∧ WE p ρ tb fun y => ∃ t, TyW C y t ∧ S [.ins C fs, y] Q) : WE p ρ (tOp (rOwnEq p.K C (spD p.K S)) ta tb) Q :=
  we_op (h.imp fun x ⟨fs, ex, h⟩ => h.imp fun y ⟨t, ty, q⟩ => fun G H v w m r1 r2 Qv k => by
    subst ex
    have nf : PySem.W.notFirst p.K C t = true := by
      rcases ty with ⟨s, h, rfl⟩ | ⟨_, _, rfl⟩
      · exact F.nf s (tyD_in h)
      · simp [PySem.W.notFirst]
    cases id r1 with
    | ins q1 l c => exact ⟨_, _, _, t, rfl, m.sub _ _ q1, tyW_x F m.sub r2 ty, nf, p.h, G, _, Q, .cons r1 (.cons r2 .nil), m.refl, q, fun d v G' H' z mm rr => k d v G' H' z mm rr⟩)
end
end Cal
set_option Elab.async false
set_option linter.all false
set_option maxRecDepth 100000
set_option maxHeartbeats 4000000
namespace Cal
open PySem L2 PyProof.Rows
open Evl (Ex sq_of st_of)
/-! ### != of a class that has only == -/
/-- the class as it stands: its == is f, it has no != of its own -/
structure NeF (K : PySem.W.Frag) (C f : Addr) : Prop where
  ex : ∃ (nm q : Str) (N : Addr) (bs : List Value) (hdct : Bool) (sn : List Str) (sub : List Value) (ab : Bool) (col : Option Bool) (dd : Option Addr) (k0 k1 k2 k3 k5 : Option Value) (newId : String) (oc : Value) (od : Option Addr) (es : Array DictEntry) (ep : Nat) (sl : Array (Option Value)),
    K.lookup C = some (excClassObj nm q C N bs [.type "object"] hdct sn sub ab col dd k0 k1 k2 k3 k5 newId) ∧ K.lookup N = some ⟨oc, od, .dict es ep, sl⟩ ∧ es.toList.all (fun e => match e.key with | .str _ _ => true | _ => false) = true ∧
    nsFind es "__eq__" = some (.ref f) ∧ nsFind es "__ne__" = none
theorem NeF.own {K : PySem.W.Frag} {C f : Addr} (F : NeF K C f) {h : Heap} {x : Addr} {o of : Obj} (X : K.In h) (hx : h.get? x = some o) (hc : o.cls = .ref C) (hf : h.get? f = some of) (hfc : of.cls = .type "function") : h.OwnEqNoNe x C f "object" [.type "object"] := by
  obtain ⟨nm, q, N, bs, hdct, sn, sub, ab, col, dd, k0, k1, k2, k3, k5, newId, oc, od, es, ep, sl, l1, l2, l3, l4, l5⟩ := F.ex
  refine ⟨o, of, nm, q, N, bs, hdct, sn, sub, ab, col, dd, k0, k1, k2, k3, k5, newId, nsFind es, _, hx, hc, X _ _ l1, ⟨_, es, ep, X _ _ l2, rfl, fun e he => ?_, fun _ => rfl⟩, l4, hf, hfc, rfl, rfl, l5⟩
  have := List.all_eq_true.mp l3 e (by simpa using he)
  cases z : e.key <;> rw [z] at this <;> first | exact ⟨_, _, rfl⟩ | cases this
/-- a != b of two objects of the class -/
def rOwnNe (C : Addr) (sp : Sp) : R2 := fun x y H Q => ∃ a dx fs b dy gs, x = .ref a ∧ y = .ref b ∧ H a = some (.ins C dx fs) ∧ H b = some (.ins C dy gs) ∧ sp [x, y] H (fun v H' => ∃ r, v = .bl r ∧ Q (.bl (!r)) H') (fun _ _ _ => False)
theorem op_ownNe {X : Cx} {k : Nat} {C f : Addr} {fd : FuncData} {ps : List Str} {sp : Sp} (N : NeF X.K C f) (F : FnOk X.prog X.w X.K X.mg X.base CX0 k f fd ps sp) (hf : ∃ of, X.K.lookup f = some of ∧ of.cls = .type "function") (hr : Room (k + 1) X.A) (hb : Binds X.K fd ps []) : OpR X (compareOp .NotEq) (rOwnNe C sp) := by
  intro pins s σ H x y v u Q I rx ry h
  obtain ⟨a, dx, fs, b, dy, gs, rfl, rfl, ha, hb', q⟩ := h
  cases rx
  cases ry
  obtain ⟨mA, J, _⟩ := ins_get I.hok ha
  obtain ⟨mB, J', _⟩ := ins_get I.hok hb'
  obtain ⟨of, lf, fc⟩ := hf
  have own := N.own I.kIn J.obj rfl (I.kIn _ _ lf) fc
  have hl := F.len _ _ _ _ q
  have hu : X.A.units + 1 < cLine := by have := hr.un; omega
  have bd : BindsTo s fd ⟨[.ref a, .ref b], []⟩ (ps.zip [.ref a, .ref b]) := by
    have := hb s [.ref a, .ref b] I.kIn (by simpa using hl)
    simpa using this
  have r2 : Vals [V.ref a, V.ref b] [Value.ref a, Value.ref b] := .cons rfl (.cons rfl .nil)
  refine compareOp_ne_ownEq PySem.F.cmp_object own J'.obj rfl hu ?_
  refine wpAny_call (codeAny_mono (F.run X.A.in1 X.stack s H ⟨[.ref a, .ref b], []⟩ _ _ _ _ hr.in1 I.env0.in1 bd r2 q) fun r s' hq => ?_)
  cases r with
  | error e => exact False.elim hq
  | ok fl =>
    cases fl with
    | ret w =>
      obtain ⟨z, H', I', rz, r', ez, q'⟩ := I.after hq
      subst ez
      cases rz
      exact ⟨r', rfl, .bl (!r'), H', I', rfl, q'⟩
    | next => exact False.elim hq
    | brk => exact False.elim hq
    | cont => exact False.elim hq
/-! ### methods that an operator calls -/
/-- the method m of the class x of the text -/
structure MSrc (K : PySem.W.Frag) (mg : Str → Option Value) (x m : Str) (st : Stmt) (q : Str) : Prop where
  ex : ∃ C f fd, mg x = some (.ref C) ∧ EqF K C ∧ Fun K m q st f fd ∧ PySem.W.findIn K (.ref C) m = some (some (.ref f)) ∧ PySem.W.isFn K (.ref f) = true ∧ (∃ of, K.lookup f = some of ∧ of.cls = .type "function") ∧ (m = "__eq__" → NeF K C f)
/-- a method that keeps the promise S -/
structure MDfn (P : Program) (w : World) (K : PySem.W.Frag) (mg : Str → Option Value) (base : Heap) (k : Nat) (C : Addr) (m : Str) (ps : List Str) (S : List D → (D → Prop) → Prop) : Prop where
  ex : ∃ f fd, PySem.W.findIn K (.ref C) m = some (some (.ref f)) ∧ PySem.W.isFn K (.ref f) = true ∧ (∃ of, K.lookup f = some of ∧ of.cls = .type "function") ∧ (m = "__eq__" → NeF K C f) ∧ FnOk P w K mg base CX0 k f fd ps (spD K S) ∧ Binds K fd ps []
section
variable {P : Program} {w : World} {K : PySem.W.Frag} {mg : Str → Option Value} {base : Heap}
theorem mkM {x m q : Str} {st : Stmt} {N ps : List Str} {k : Nat} {S : Addr → List D → (D → Prop) → Prop} (F : MSrc K mg x m st q) (sc : FnScope N ps (defScope st))
    (hb : ∀ (kV doc pm : Value) (an : Option Addr) (cdv ct : Value) (us : List Value), us.length = ps.length → bindArgs (PySem.W.fnOf m q (defArgs st) (defBody st) (defScope st) .none kV doc pm an cdv ct) ⟨us, []⟩ = pure (ps.zip us))
    (len : ∀ C ds R, S C ds R → ds.length = ps.length)
    (body : ∀ (C f : Addr) (cdv : Value) (A : Around) (outer : List Env) (s : Shared) (H : Hp) (E : XK), mg x = some (.ref C) → EqF K C → Room k (A.deeper (envOfC q (defScope st) s.heap.objs.size f cdv)) →
      ∃ t, PSs (cxOf CX0 P w K mg base N q (defScope st) f cdv A outer s H E).nox (defBody st) t ∧ ∀ (h : Hnd) (H0 G0 : Hp) ds R, S C ds R → WS ⟨K, h, H0, G0⟩ (rho0 N ds) t (retP R)) :
    ∃ C, mg x = some (.ref C) ∧ EqF K C ∧ MDfn P w K mg base (k + 1) C m ps (S C) := by
  obtain ⟨C, f, fd, hm, hE, F, hs, hf, ht, hne⟩ := F.ex
  refine ⟨C, hm, hE, f, fd, hs, hf, ht, hne, F.ok sc (fun vs H Q E h => ?_) (fun cdv A outer s H vs Q E hr h => ?_), F.binds hb⟩
  · obtain ⟨hd, G, ds, R, r, m, hs, q⟩ := h
    rw [r.length]
    exact len C ds R hs
  · obtain ⟨hd, G, ds, R, r, m, hs, q⟩ := h
    obtain ⟨t, ht, hw⟩ := body C f cdv A outer s H E hm hE hr
    exact ⟨t, ht, hw hd H G ds R hs G _ H (hold0 m r) _ (fun ρ' G' σ' H' z e hh => q .non .non G' H' z hh.mem .non) (fun d v G' H' z m' r' => q d v G' H' z m' r') (fun _ _ _ _ z => z.elim) fun _ _ _ _ z => z.elim⟩
end
section
variable {X : Cx} {k : Nat} {C : Addr} {ps : List Str} {S : List D → (D → Prop) → Prop} {a b : Expr} {ta tb : TE} {pos : Pos}
theorem opr_own (F : MDfn X.prog X.w X.K X.mg X.base k C "__eq__" ps S) (hr : Room k X.A) : OpR X (compareOp .Eq) (rOwnEq X.K C (spD X.K S)) := by
  obtain ⟨f, fd, hs, hf, _, _, h3, h4⟩ := F.ex
  exact op_own h3 hr hs hf h4 (fun _ _ _ _ _ _ _ z => z.elim)
theorem opr_ownNe (F : MDfn X.prog X.w X.K X.mg X.base k C "__eq__" ps S) (hr : Room (k + 1) X.A) : OpR X (compareOp .NotEq) (rOwnNe C (spD X.K S)) := by
  obtain ⟨f, fd, hs, hf, ht, hne, h3, h4⟩ := F.ex
  exact op_ownNe (hne rfl) h3 ht hr h4
end
section
variable {p : Par} {ρ : Rho} {Q : D → Prop} {ta tb : TE} {C : Addr}
theorem we_ownNe {S : List D → (D → Prop) → Prop} (h : WE p ρ ta fun x => ∃ fs, x = .ins C fs ∧ WE p ρ tb fun y => ∃ gs, y = .ins C gs ∧ S [.ins C fs, y] fun d => ∃ b, d = .bl b ∧ Q (.bl (!b))) : WE p ρ (tOp (rOwnNe C (spD p.K S)) ta tb) Q :=
  we_op (h.imp fun x ⟨fs, ex, h⟩ => h.imp fun y ⟨gs, ey, q⟩ => fun G H v w m r1 r2 Qv k => by
    subst ex ey
    cases id r1 with
    | ins q1 l1 c1 =>
      cases id r2 with
      | ins q2 l2 c2 =>
        exact ⟨_, _, _, _, _, _, rfl, rfl, m.sub _ _ q1, m.sub _ _ q2, p.h, G, _, _, .cons r1 (.cons r2 .nil), m.refl, q, fun d v G' H' ⟨b, eb, z⟩ mm rr => by
          subst eb
          exact ⟨b, rp_bl rr, k _ _ G' H' z mm (.bl _)⟩⟩)
end
section
variable {p : Par} {ρ : Rho} {Q : D → Prop} {ta tb : TE}
theorem rp_str' {K : PySem.W.Frag} {h : Hnd} {G : Hp} {v : V} {i : Str} (r : Rp K h G v (.str i)) : v = .str i := by cases r; rfl
/-- == of texts -/
theorem we_eqS (h : WE p ρ ta fun x => ∃ i : Str, x = .str i ∧ WE p ρ tb fun y => ∃ j : Str, y = .str j ∧ Q (.bl (decide (i = j)))) : WE p ρ (tOp rEq ta tb) Q :=
  we_op (h.imp fun x ⟨i, e, h⟩ => h.imp fun y ⟨j, e2, q⟩ => fun G H v w m r1 r2 Qv k => by
    subst e e2
    rw [rp_str' r1, rp_str' r2]
    refine ⟨rfl, ?_⟩
    have z : decide (V.str i = V.str j) = decide (i = j) := by
      by_cases e : i = j
      · subst e; simp
      · rw [decide_eq_false e, decide_eq_false fun q => e (V.str.inj q)]
    rw [z]
    exact k _ _ G H q m.refl (.bl _))
end
section
variable {p : Par} {ρ : Rho}
/-- a, b, .. = a list of so many -/
theorem wg_lst {n : Nat} {gs : TGs} {x : D} {N : Rho → Prop} (h : ∃ xs, x = .lst xs ∧ xs.length = n ∧ WGs p ρ gs xs N) : WG p ρ (gLst p.K n gs) x N := fun G σ H v hh r Qs k => by
  obtain ⟨xs, e, hl, h⟩ := h
  subst e
  obtain ⟨a, vs, ev, hs, hr⟩ := r.lst_inv
  exact ⟨a, vs, ev, lq hh.mem.sub hs, by rw [hr.length]; exact hl, h G σ H vs hh hr Qs k⟩
end
section
variable {X : Cx} {K0 : PySem.W.Frag} {k : Nat} {C : Addr} {ps : List Str} {S : List D → (D → Prop) → Prop}
theorem opr_ownK (hK : X.K = K0) (F : MDfn X.prog X.w K0 X.mg X.base k C "__eq__" ps S) (hr : Room k X.A) : OpR X (compareOp .Eq) (rOwnEq K0 C (spD K0 S)) := by
  subst hK
  exact opr_own F hr
theorem opr_ownNeK (hK : X.K = K0) (F : MDfn X.prog X.w K0 X.mg X.base k C "__eq__" ps S) (hr : Room (k + 1) X.A) : OpR X (compareOp .NotEq) (rOwnNe C (spD K0 S)) := by
  subst hK
  exact opr_ownNe F hr
end
end Cal
set_option Elab.async false
set_option linter.all false
set_option maxRecDepth 100000
set_option maxHeartbeats 4000000
namespace Cal
open PySem PySem.Spec L2 PyProof.Rows
open Evl (Ex sq_of st_of)
/-! ### tuple * int, once too -/
theorem tuple_mulW1 (l : Addr) (items : Array Value) (n : Nat) (dd : Option Addr) (sl : Array (Option Value)) (u : Tok) :
    Meets (Builtin.«tuple.__mul__» ⟨[.ref l, .int 1 u], []⟩) (fun _ R s => s.heap.get? l = some { cls := .type "tuple", dict := dd, data := .seq items n, slots := sl } ∧ R (.ok (.ret (Value.ref l))) s) :=
  .of_wp fun prog w A R s h => by
    obtain ⟨hp, g, d, tk, os⟩ := s
    obtain ⟨hl, h⟩ := h
    have f1 := AutoSeq1.idx_int
    have c0 : (decide ((1 : Int) < -(2 ^ 63)) || decide ((1 : Int) ≥ 2 ^ 63)) = false := by decide
    have c1 : (items.isEmpty || (1 : Int) == 1) = true := by rw [Bool.or_eq_true]; exact .inr rfl
    wp_walk using wpAny_loadPart' hl
    repeat (first
      | (refine wpAny_ite_false (decide_eq_false (by rw [c0]; exact Bool.false_ne_true)) ?_; wp_walk using wpAny_loadPart' hl)
      | (refine wpAny_ite_true (decide_eq_true (by rw [c1])) ?_; wp_walk using wpAny_loadPart' hl))
    exact ⟨_, rfl, h⟩
def rRepT1 (K : PySem.W.Frag) : R2 := fun x y H Q => ∃ l k xs, x = .ref l ∧ y = .int k ∧ SqT K H l xs ∧ xs ≠ [] ∧ 1 ≤ k ∧ k ≤ 1000 ∧ xs.length ≤ 1000 ∧ (k = 1 → Q (.ref l) H) ∧ (2 ≤ k → ∀ p, H p = none → Q (.ref p) (upd H p (.tup (List.replicate k.toNat xs).flatten)))
theorem op_repT1 {X : Cx} : OpR X (binaryOp .Mult) (rRepT1 X.K) := by
  intro pins s σ H x y v u Q I rx ry h
  obtain ⟨l, k, xs, rfl, rfl, hT, hne, h1, h2, hz, q1, q2⟩ := h
  by_cases hk : 2 ≤ k
  · exact op_repT pins s σ H _ _ v u Q I rx ry ⟨l, k, xs, rfl, rfl, hT, hne, hk, h2, hz, q2 hk⟩
  have e1 : k = 1 := by omega
  subst e1
  cases rx
  obtain ⟨t, rfl⟩ := ry
  obtain ⟨its, r, ⟨⟨cls, dd, data, sl⟩, ho, hc, n, hd⟩, hs⟩ := I.tuple hT
  simp only at hc hd
  subst hc hd
  exact wpAny_binaryOp_repeat_ref (T := "tuple") (U := "int") (by decide) ⟨_, ho, rfl⟩ (fun s' => typeIs_int s' 1 t) noFill_tuple_mul F.fills_int_mul F.slot_int_rmul repeat_tuple F.slot_int_index.lookup
    (call_meets F.slot_int_rmul (typeIs_int s 1 t) F.entry_int_rmul (F.args_int_rmul_2 _ _) (int_rmul_tuple 1 t l its.toArray n dd sl)
      ⟨ho, rfl, ⟨_, ho, rfl⟩, call_meets F.slot_tuple_mul ⟨_, ho, rfl⟩ F.entry_tuple_mul (F.args_tuple_mul_2 _ _) (tuple_mulW1 l its.toArray n dd sl t) ⟨ho, ⟨.ref l, H, I, rfl, q1 rfl⟩⟩⟩)
theorem op_repT1K {X : Cx} {K0 : PySem.W.Frag} (hK : X.K = K0) : OpR X (binaryOp .Mult) (rRepT1 K0) := hK ▸ op_repT1
section
variable {p : Par} {ρ : Rho} {Q : D → Prop} {ta tb te : TE}
theorem we_repT1 (h : WE p ρ ta fun x => ∃ xs, x = .tup xs ∧ xs ≠ [] ∧ xs.length ≤ 1000 ∧ WE p ρ tb fun y => ∃ n : Int, y = .int n ∧ 1 ≤ n ∧ n ≤ 1000 ∧ Q (.tup (List.replicate n.toNat xs).flatten)) : WE p ρ (tOp (rRepT1 p.K) ta tb) Q :=
  we_op (h.imp fun x ⟨xs, ex, hne, hxl, h⟩ => h.imp fun y ⟨n, ey, n1, n2, q⟩ => fun G H v w m r1 r2 Qv k => by
    subst ex ey
    have r1' := r1
    obtain ⟨a, vs, ev, hs, hl⟩ := r1.tup_inv
    subst ev
    have hz := hl.length
    refine ⟨a, n, vs, rfl, rp_int r2, tq m.sub hs, fun z => hne ?_, n1, n2, by omega, fun e1 => ?_, fun _ b hb => ?_⟩
    · rw [z] at hz
      exact List.length_eq_zero_iff.mp hz.symm
    · subst e1
      have e : (List.replicate (1 : Int).toNat xs).flatten = xs := by
        show (List.replicate 1 xs).flatten = xs
        simp
      rw [e] at q
      exact k _ _ G H q m.refl r1'
    · have g := m.grow (o := .tup (List.replicate n.toNat vs).flatten) hb
      exact k _ _ _ _ q g (.tup upd_same (lmono (rep_rp hl _) g.ex)))
/-- is it None -/
def isNo : D → Option Bool | .non => some true | .raw _ => none | _ => some false
theorem isNo_rp {K : PySem.W.Frag} {h : Hnd} {G : Hp} {v : V} : ∀ {x : D} {b : Bool}, isNo x = some b → Rp K h G v x → decide (v = .non) = b
  | .non, _, e, r => by cases e; cases r; rfl
  | .bl _, _, e, r => by cases e; cases r; rfl
  | .int _, _, e, r => by cases e; cases r; rfl
  | .str _, _, e, r => by cases e; cases r; rfl
  | .tup _, _, e, r => by cases e; cases r; rfl
  | .lst _, _, e, r => by cases e; cases r; rfl
  | .dK _, _, e, r => by cases e; cases r; rfl
  | .dT _, _, e, r => by cases e; cases r; rfl
  | .hand, _, e, r => by cases e; cases r; rfl
  | .raw _, _, e, r => by cases e
  | .ins _ _, _, e, r => by cases e; cases r; rfl
theorem we_isN (h : WE p ρ ta fun x => ∃ b, isNo x = some b ∧ WE p ρ tb fun y => y = .non ∧ Q (.bl b)) : WE p ρ (tOp (fun x y H Q => y = .non ∧ Q (.bl (decide (x = .non))) H) ta tb) Q :=
  we_op (h.imp fun x ⟨b, e, h⟩ => h.imp fun y ⟨ey, q⟩ => fun G H v w m r1 r2 Qv k => by
    subst ey
    cases r2
    refine ⟨rfl, ?_⟩
    rw [isNo_rp e r1]
    exact k _ _ G H q m.refl (.bl _))
theorem we_notN (h : WE p ρ ta fun x => ∃ b, isNo x = some b ∧ WE p ρ tb fun y => y = .non ∧ Q (.bl (!b))) : WE p ρ (tOp (fun x y H Q => y = .non ∧ Q (.bl (!decide (x = .non))) H) ta tb) Q :=
  we_op (h.imp fun x ⟨b, e, h⟩ => h.imp fun y ⟨ey, q⟩ => fun G H v w m r1 r2 Qv k => by
    subst ey
    cases r2
    refine ⟨rfl, ?_⟩
    rw [isNo_rp e r1]
    exact k _ _ G H q m.refl (.bl _))
end
/-! ### EqF from facts that are found -/
abbrev sevenT : List String := ["NoneType", "bool", "int", "str", "tuple", "list", "dict"]
theorem sub_ref (K : PySem.W.Frag) (C : Addr) : ∀ t, t ∈ sevenT → PySem.W.subIn K (.type t) (.ref C) = some false := fun t h => by
  simp only [List.mem_cons, List.not_mem_nil, or_false] at h
  rcases h with rfl | rfl | rfl | rfl | rfl | rfl | rfl <;> rfl
theorem eqf_mk {K : PySem.W.Frag} {C : Addr} (cls : Cls K C) (ha : PySem.W.findIn K (.ref C) "__class__" = some (some (.builtin "object.__class__")))
    (hn : PySem.W.specialIn K (.builtin "object.__class__") "__get__" = some (some (.builtin "getset_descriptor.__get__"))) (ht : PySem.W.takesIn K (.builtin "object.__class__") = some true) (hm : PySem.W.mroIn K C (.type "object") = some true)
    (ic : PySem.W.isClsIn K C = true) (tc : PySem.W.typeIn K (.ref C) = some (.type "type"))
    (s0 : PySem.W.subIn K (.ref C) (.type "NoneType") = some false) (s1 : PySem.W.subIn K (.ref C) (.type "bool") = some false) (s2 : PySem.W.subIn K (.ref C) (.type "int") = some false) (s3 : PySem.W.subIn K (.ref C) (.type "str") = some false)
    (s4 : PySem.W.subIn K (.ref C) (.type "tuple") = some false) (s5 : PySem.W.subIn K (.ref C) (.type "list") = some false) (s6 : PySem.W.subIn K (.ref C) (.type "dict") = some false) : EqF K C := by
  have q1 : (PySem.W.clsIn K C).isSome = true := ic
  have q2 : ((PySem.W.clsIn K C).isSome && PySem.W.typeIn K (.ref C) == some (.type "type")) = true := by rw [q1, tc]; rfl
  refine ⟨cls, ha, hn, ht, hm, fun t h => ?_, fun t h => ?_, fun t h => ?_, ?_⟩
  · unfold PySem.W.notFirst
    rw [sub_ref K C t h]
    simp
  · have kc : PySem.W.kitCls K (.type t) (.ref C) = some false := by
      refine Eq.trans (b := if ((PySem.W.clsIn K C).isSome && PySem.W.typeIn K (.ref C) == some (.type "type")) = true then PySem.W.subIn K (.type t) (.ref C) else none) rfl ?_
      rw [if_pos q2, sub_ref K C t h]
    unfold PySem.W.kitOne
    rw [if_neg (by simp), kc]
  · have sb : PySem.W.subIn K (.ref C) (.type t) = some false := by
      simp only [List.mem_cons, List.not_mem_nil, or_false] at h
      rcases h with rfl | rfl | rfl | rfl | rfl | rfl | rfl <;> assumption
    have km : PySem.W.kitMeta t = true := by
      simp only [List.mem_cons, List.not_mem_nil, or_false] at h
      rcases h with rfl | rfl | rfl | rfl | rfl | rfl | rfl <;> decide +kernel
    have kc : PySem.W.kitCls K (.ref C) (.type t) = some false := by
      refine Eq.trans (b := if PySem.W.kitMeta t = true then PySem.W.subIn K (.ref C) (.type t) else none) rfl ?_
      rw [if_pos km, sb]
    unfold PySem.W.kitOne
    rw [if_neg (by simp), kc]
  · unfold PySem.W.kitOne
    rw [if_pos (by simp)]
end Cal
set_option Elab.async false
set_option linter.all false
set_option maxRecDepth 100000
set_option maxHeartbeats 4000000
namespace Lk07
open PySem L2 PyProof.Rows Cal
open Evl (Ex)
def inClass : Stmt → Nat → Stmt
  | .ClassDef _ _ _ b _ _ _ _ _ _ _, i => b.getD i (.Pass ⟨0, 0, 0, 0⟩)
  | _, _ => .Pass ⟨0, 0, 0, 0⟩
def top (i : Nat) : Stmt := PySem.Challenge.pw_anywriting_k07_machines_judged.main.body.getD i (.Pass ⟨0, 0, 0, 0⟩)
abbrev s_is_integer : Stmt := top 4
abbrev N_is_integer : List Str := ["thing"]
theorem sc_is_integer : FnScope N_is_integer ["thing"] (defScope s_is_integer) := ⟨rfl, rfl, rfl, by decide +kernel, rfl, by decide +kernel, by decide +kernel⟩
abbrev s_is_integer_within : Stmt := top 5
abbrev N_is_integer_within : List Str := ["thing", "low", "high"]
theorem sc_is_integer_within : FnScope N_is_integer_within ["thing", "low", "high"] (defScope s_is_integer_within) := ⟨rfl, rfl, rfl, by decide +kernel, rfl, by decide +kernel, by decide +kernel⟩
abbrev s_is_base : Stmt := top 6
abbrev N_is_base : List Str := ["thing"]
theorem sc_is_base : FnScope N_is_base ["thing"] (defScope s_is_base) := ⟨rfl, rfl, rfl, by decide +kernel, rfl, by decide +kernel, by decide +kernel⟩
abbrev s_is_tuple_of : Stmt := top 7
abbrev N_is_tuple_of : List Str := ["thing", "many"]
theorem sc_is_tuple_of : FnScope N_is_tuple_of ["thing", "many"] (defScope s_is_tuple_of) := ⟨rfl, rfl, rfl, by decide +kernel, rfl, by decide +kernel, by decide +kernel⟩
abbrev s_Machine : Stmt := inClass (top 9) 0
abbrev N_Machine : List Str := ["self", "base", "first", "rows", "state", "row"]
theorem sc_Machine : FnScope N_Machine ["self", "base", "first", "rows"] (defScope s_Machine) := ⟨rfl, rfl, rfl, by decide +kernel, rfl, by decide +kernel, by decide +kernel⟩
abbrev s_Machine_eq : Stmt := inClass (top 9) 1
abbrev N_Machine_eq : List Str := ["self", "other"]
theorem sc_Machine_eq : FnScope N_Machine_eq ["self", "other"] (defScope s_Machine_eq) := ⟨rfl, rfl, rfl, by decide +kernel, rfl, by decide +kernel, by decide +kernel⟩
abbrev s_is_row_of_pairs : Stmt := top 10
abbrev N_is_row_of_pairs : List Str := ["base", "many", "thing", "pair"]
theorem sc_is_row_of_pairs : FnScope N_is_row_of_pairs ["base", "many", "thing"] (defScope s_is_row_of_pairs) := ⟨rfl, rfl, rfl, by decide +kernel, rfl, by decide +kernel, by decide +kernel⟩
abbrev s_is_pair_of_state : Stmt := top 11
abbrev N_is_pair_of_state : List Str := ["many", "thing"]
theorem sc_is_pair_of_state : FnScope N_is_pair_of_state ["many", "thing"] (defScope s_is_pair_of_state) := ⟨rfl, rfl, rfl, by decide +kernel, rfl, by decide +kernel, by decide +kernel⟩
abbrev s_is_index : Stmt := top 12
abbrev N_is_index : List Str := ["many", "thing"]
theorem sc_is_index : FnScope N_is_index ["many", "thing"] (defScope s_is_index) := ⟨rfl, rfl, rfl, by decide +kernel, rfl, by decide +kernel, by decide +kernel⟩
abbrev s_law_hand : Stmt := top 14
abbrev N_law_hand : List Str := ["script", "cell"]
theorem sc_law_hand : FnScope N_law_hand ["script"] (defScope s_law_hand) := ⟨rfl, rfl, rfl, by decide +kernel, rfl, by decide +kernel, by decide +kernel⟩
abbrev s_law_mixed : Stmt := top 15
abbrev N_law_mixed : List Str := ["cell", "turn", "number"]
theorem sc_law_mixed : FnScope N_law_mixed ["cell", "turn"] (defScope s_law_mixed) := ⟨rfl, rfl, rfl, by decide +kernel, rfl, by decide +kernel, by decide +kernel⟩
abbrev s_law_draw : Stmt := top 16
abbrev N_law_draw : List Str := ["hand", "many", "found", "cells", "at", "cell"]
theorem sc_law_draw : FnScope N_law_draw ["hand", "many"] (defScope s_law_draw) := ⟨rfl, rfl, rfl, by decide +kernel, rfl, by decide +kernel, by decide +kernel⟩
abbrev s_law_any : Stmt := top 17
abbrev N_law_any : List Str := ["hand", "some"]
theorem sc_law_any : FnScope N_law_any ["hand", "some"] (defScope s_law_any) := ⟨rfl, rfl, rfl, by decide +kernel, rfl, by decide +kernel, by decide +kernel⟩
abbrev s_law_is_int : Stmt := top 18
abbrev N_law_is_int : List Str := ["thing"]
theorem sc_law_is_int : FnScope N_law_is_int ["thing"] (defScope s_law_is_int) := ⟨rfl, rfl, rfl, by decide +kernel, rfl, by decide +kernel, by decide +kernel⟩
abbrev s_law_is : Stmt := top 19
abbrev N_law_is : List Str := ["one", "other", "here", "there", "key"]
theorem sc_law_is : FnScope N_law_is ["one", "other"] (defScope s_law_is) := ⟨rfl, rfl, rfl, by decide +kernel, rfl, by decide +kernel, by decide +kernel⟩
abbrev s_law_deep : Stmt := top 20
abbrev N_law_deep : List Str := ["found", "turn"]
theorem sc_law_deep : FnScope N_law_deep [] (defScope s_law_deep) := ⟨rfl, rfl, rfl, by decide +kernel, rfl, by decide +kernel, by decide +kernel⟩
abbrev s_law_parts : Stmt := top 21
abbrev N_law_parts : List Str := ["hand", "base", "many", "size", "rows", "state", "row", "turn"]
theorem sc_law_parts : FnScope N_law_parts ["hand"] (defScope s_law_parts) := ⟨rfl, rfl, rfl, by decide +kernel, rfl, by decide +kernel, by decide +kernel⟩
abbrev s_law_is_row : Stmt := top 22
abbrev N_law_is_row : List Str := ["base", "many", "thing", "item"]
theorem sc_law_is_row : FnScope N_law_is_row ["base", "many", "thing"] (defScope s_law_is_row) := ⟨rfl, rfl, rfl, by decide +kernel, rfl, by decide +kernel, by decide +kernel⟩
abbrev s_law_due : Stmt := top 23
abbrev N_law_due : List Str := ["parts", "base", "first", "rows", "state", "row"]
theorem sc_law_due : FnScope N_law_due ["parts"] (defScope s_law_due) := ⟨rfl, rfl, rfl, by decide +kernel, rfl, by decide +kernel, by decide +kernel⟩
abbrev s_law_bent : Stmt := top 24
abbrev N_law_bent : List Str := ["hand", "parts", "base", "first", "rows", "at", "place", "kind", "odd", "row", "item"]
theorem sc_law_bent : FnScope N_law_bent ["hand", "parts"] (defScope s_law_bent) := ⟨rfl, rfl, rfl, by decide +kernel, rfl, by decide +kernel, by decide +kernel⟩
abbrev s_law_twice : Stmt := top 25
abbrev N_law_twice : List Str := ["hand", "parts", "base", "first", "rows", "at", "row", "elder"]
theorem sc_law_twice : FnScope N_law_twice ["hand", "parts"] (defScope s_law_twice) := ⟨rfl, rfl, rfl, by decide +kernel, rfl, by decide +kernel, by decide +kernel⟩
abbrev s_law_made : Stmt := top 26
abbrev N_law_made : List Str := ["parts", "e"]
theorem sc_law_made : FnScope N_law_made ["parts"] (defScope s_law_made) := ⟨rfl, rfl, rfl, by decide +kernel, rfl, by decide +kernel, by decide +kernel⟩
abbrev s_law : Stmt := top 27
abbrev N_law : List Str := ["script", "hand", "turn", "parts", "machine", "far", "others", "other", "told", "due", "same", "thing"]
theorem sc_law : FnScope N_law ["script"] (defScope s_law) := ⟨rfl, rfl, rfl, by decide +kernel, rfl, by decide +kernel, by decide +kernel⟩
abbrev si_BadMachine : Stmt := inClass (top 2) 0
theorem sci_BadMachine : FnScope ["self", "part"] ["self", "part"] (defScope si_BadMachine) := ⟨rfl, rfl, rfl, by decide +kernel, rfl, by decide +kernel, by decide +kernel⟩
structure Txt (K : PySem.W.Frag) (mg : Str → Option Value) : Prop where
  w_WritingError : XBase K mg "WritingError"
  x_BadMachine : XSrc K mg "BadMachine" ["part"] si_BadMachine "BadMachine.__init__"
  s_is_integer : Src K mg "is_integer" s_is_integer
  s_is_integer_within : Src K mg "is_integer_within" s_is_integer_within
  s_is_base : Src K mg "is_base" s_is_base
  s_is_tuple_of : Src K mg "is_tuple_of" s_is_tuple_of
  s_Machine : CSrc K mg "Machine" ["base", "first", "rows"] s_Machine "Machine.__init__"
  s_Machine_eq : MSrc K mg "Machine" "__eq__" s_Machine_eq "Machine.__eq__"
  s_is_row_of_pairs : Src K mg "is_row_of_pairs" s_is_row_of_pairs
  s_is_pair_of_state : Src K mg "is_pair_of_state" s_is_pair_of_state
  s_is_index : Src K mg "is_index" s_is_index
  s_law_hand : Src K mg "_law_hand" s_law_hand
  s_law_mixed : Src K mg "_law_mixed" s_law_mixed
  s_law_draw : Src K mg "_law_draw" s_law_draw
  s_law_any : Src K mg "_law_any" s_law_any
  s_law_is_int : Src K mg "_law_is_int" s_law_is_int
  s_law_is : Src K mg "_law_is" s_law_is
  s_law_deep : Src K mg "_law_deep" s_law_deep
  s_law_parts : Src K mg "_law_parts" s_law_parts
  s_law_is_row : Src K mg "_law_is_row" s_law_is_row
  s_law_due : Src K mg "_law_due" s_law_due
  s_law_bent : Src K mg "_law_bent" s_law_bent
  s_law_twice : Src K mg "_law_twice" s_law_twice
  s_law_made : Src K mg "_law_made" s_law_made
  s_law : Src K mg "law" s_law
  n_ValueError : mg "ValueError" = none
  n_abs : mg "abs" = none
  n_all : mg "all" = none
  n_any : mg "any" = none
  n_bool : mg "bool" = none
  n_dict : mg "dict" = none
  n_enumerate : mg "enumerate" = none
  n_int : mg "int" = none
  n_isinstance : mg "isinstance" = none
  n_len : mg "len" = none
  n_list : mg "list" = none
  n_range : mg "range" = none
  n_tuple : mg "tuple" = none
  n_zip : mg "zip" = none
section
variable {P : Program} {w : World} {K : PySem.W.Frag} {mg : Str → Option Value} {bs : Heap}
theorem x_BadMachine (T : Txt K mg) : ∃ C, XDef P w K mg bs 1 "BadMachine" ["part"] (fun C => spI1 C "part") C := xdef1 T.x_BadMachine T.w_WritingError sci_BadMachine (fun _ _ _ _ _ _ us hl => match us, hl with | [_, _], _ => rfl)
  (fun C f' cdv A outer s H E b1 b2 b3 b4 => by exact pss_cons (ps_expr (pe_cinit b1 b2 b3 b4 (pa_cons (pv 0) (pa_cons pe_str pa_nil)))) (pss_one (ps_ost (pv 0) (pv 1))))
end
section
variable {P : Program} {w : World} {K : PySem.W.Frag} {mg : Str → Option Value} {bs : Heap}
local macro_rules | `(tactic| walk_at "arith") => `(tactic| first
  | decide | omega | assumption
  | (refine Or.inl ⟨?_, ?_⟩ <;> first | decide | omega) | (refine Or.inr (Or.inl ⟨?_, ?_⟩) <;> first | decide | omega)
  | (refine ⟨?_, Or.inl ?_⟩ <;> first | decide | omega))
/-- one step of a reading -/
local macro_rules | `(tactic| walk_at "st") => `(tactic| first
  | refine we_var rfl ?_ | refine we_int ?_ | refine we_bl ?_ | refine we_str ?_ | refine we_non ?_ | refine we_I0 ?_ | refine we_I ?_ | refine we_U ?_ | refine we_eqI ?_ | refine we_neI ?_
  | refine ⟨_, rfl, ?_⟩ | refine ⟨by walk_at "arith", ?_⟩ | refine we_int1 ?_ | refine we_abs ?_ | refine we_max2 ?_ | refine we_min2 ?_ | refine we_gcd ?_ | refine we_ixT ?_ | refine we_ixL ?_ | refine wa_cons ?_ | refine wa_nil ?_
  | refine we_call ?_ | refine we_tup ?_ | refine we_lst ?_ | refine we_len ?_ | refine we_isi ?_ | refine wt_T ?_ | refine wt_B ?_ | refine wt_not ?_ | refine wt_yes ?_
  | refine ws_seq ?_ | refine ws_ret ?_ | refine ws_if ?_ | refine ws_drop ?_ | refine ws_par ?_ | refine ws_next ?_ | refine ws_asg ?_ | refine ws_asgG ?_ | refine we_notV ?_
  | refine wg_name ?_ | refine wg_tup ?_ | refine wgs_cons ?_ | refine wgs_nil ?_)
/-! ### the drawing -/
def S_law_mixed : List D → (D → Prop) → Prop := fun ds R => ∃ c t : Int, ds = [.int c, .int t] ∧ ∀ k : Int, R (.int k)
theorem l_law_mixed : ∀ ds R, S_law_mixed ds R → ds.length = 2 := fun ds R ⟨_, _, e, _⟩ => by rw [e]; rfl
theorem d_law_mixed (T : Txt K mg) : Dfn P w K mg bs 1 "_law_mixed" ["cell", "turn"] S_law_mixed := by
  refine mkD (k := 0) T.s_law_mixed sc_law_mixed (fun _ _ _ _ _ _ us hl => match us, hl with | [_, _], _ => rfl) l_law_mixed fun f cdv A outer s H E hr => ?_
  have hu := hu_of hr
  refine ⟨_, (pss_cons (ps_set (i := 2) sc_law_mixed.nd rfl (Or.inl rfl) (pe_op op_mod (pe_callTy call_int1 (by rfl) T.n_int (by decide +kernel) (pa_cons (pe_op op_mulA (pe_op op_add (pe_op op_add (pe_op op_mod (pe_callTy call_int1 (by rfl) T.n_int (by decide +kernel) (pa_cons (pv 0) pa_nil)) pe_int) (pe_op op_mulA pe_int (pv 1))) pe_int) pe_int) pa_nil)) pe_int))
      (pss_cons (ps_set (i := 2) sc_law_mixed.nd rfl (Or.inl rfl) (pe_op op_mod (pe_callTy call_int1 (by rfl) T.n_int (by decide +kernel) (pa_cons (pe_op op_mulA (pv 2) (pe_op op_add (pe_op op_divA (pv 2) pe_int) pe_int)) pa_nil)) pe_int))
      (pss_one (ps_ret (pe_op op_divA (pe_op op_mod (pe_callTy call_int1 (by rfl) T.n_int (by decide +kernel) (pa_cons (pe_op op_mulA (pv 2) (pe_op op_add (pe_op op_divA (pv 2) pe_int) pe_int)) pa_nil)) pe_int) pe_int))))), fun h H0 G0 ds R hS => ?_⟩
  obtain ⟨c, t, rfl, hR⟩ := hS
  repeat walk_at "st"
  exact hR _
def S_law_draw : List D → (D → Prop) → Prop := fun ds R => ∃ m : Int, ds = [.hand, .int m] ∧ 0 < m ∧ m < 18446744073709551616 ∧ ∀ k : Int, 0 ≤ k → k < m → R (.int k)
theorem l_law_draw : ∀ ds R, S_law_draw ds R → ds.length = 2 := fun ds R ⟨_, e, _⟩ => by rw [e]; rfl
theorem d_law_draw (T : Txt K mg) : Dfn P w K mg bs 2 "_law_draw" ["hand", "many"] S_law_draw := by
  have D_law_mixed := d_law_mixed (P := P) (w := w) (bs := bs) T
  refine mkD (k := 1) T.s_law_draw sc_law_draw (fun _ _ _ _ _ _ us hl => match us, hl with | [_, _], _ => rfl) l_law_draw fun f cdv A outer s H E hr => ?_
  have hu := hu_of hr
  refine ⟨_, (pss_cons (ps_asg (pe_op op_add (pe_ix (ix_listK (K0 := K) (by rfl)) (pv 0) pe_int (fun _ _ => rfl)) pe_int) (pg_sub (pv 0) pe_int set_list))
      (pss_cons (ps_if (pt_cmpR op_gt (pe_ix (ix_listK (K0 := K) (by rfl)) (pv 0) pe_int (fun _ _ => rfl)) pe_int (nomark _)) (pss_cons (ps_set (i := 2) sc_law_draw.nd rfl (Or.inl rfl) (pe_op op_mod (pe_callTy call_int1 (by rfl) T.n_int (by decide +kernel) (pa_cons (pe_ix (ix_listK (K0 := K) (by rfl)) (pv 0) pe_int (fun _ _ => rfl)) pa_nil)) (pv 1)))
      (pss_cons (ps_asg (pe_op op_divA (pe_ix (ix_listK (K0 := K) (by rfl)) (pv 0) pe_int (fun _ _ => rfl)) (pv 1)) (pg_sub (pv 0) pe_int set_list))
      (pss_one (ps_ret (pv 2))))) pss_nil)
      (pss_cons (ps_par (i := 3) (j := 4) (by rfl) sc_law_draw.nd rfl rfl (by decide) rfl rfl (pa_cons (pe_ix (ix_listK (K0 := K) (by rfl)) (pv 0) pe_int (fun _ _ => rfl)) (pa_cons (pe_ix (ix_listK (K0 := K) (by rfl)) (pv 0) pe_int (fun _ _ => rfl)) pa_nil)) (by rfl))
      (pss_cons (ps_asg (pe_op op_add (pv 4) pe_int) (pg_sub (pv 0) pe_int set_list))
      (pss_cons (ps_if (pt_cmpR op_eq (pe_callB (call_lenK (K0 := K) (by rfl)) (by rfl) T.n_len (by decide +kernel) (pa_cons (pv 3) pa_nil)) pe_int (nomark _)) (pss_one (ps_ret (pe_op op_mod (pe_callTy call_int1 (by rfl) T.n_int (by decide +kernel) (pa_cons (pe_callK0 (K0 := K) (by rfl) D_law_mixed (hr.mono (by decide)) (pa_cons pe_int (pa_cons (pe_ix (ix_listK (K0 := K) (by rfl)) (pv 0) pe_int (fun _ _ => rfl)) pa_nil))) pa_nil)) (pv 1)))) pss_nil)
      (pss_cons (ps_set (i := 5) sc_law_draw.nd rfl (Or.inl rfl) (pe_ix (ix_listK (K0 := K) (by rfl)) (pv 3) (pe_op op_mod (pe_callTy call_int1 (by rfl) T.n_int (by decide +kernel) (pa_cons (pv 4) pa_nil)) (pe_callB (call_lenK (K0 := K) (by rfl)) (by rfl) T.n_len (by decide +kernel) (pa_cons (pv 3) pa_nil))) (fun _ _ => rfl)))
      (pss_cons (ps_if (PW.pt (pw_and (pt_cmpR op_lt (pv 4) (pe_callB (call_lenK (K0 := K) (by rfl)) (by rfl) T.n_len (by decide +kernel) (pa_cons (pv 3) pa_nil)) (nomark _)) (pw_and1 (pt_cmpR op_ge (pe_callB call_abs (by rfl) T.n_abs (by decide +kernel) (pa_cons (pv 5) pa_nil)) (pe_op op_pow pe_int pe_int) (nomark _))))) (pss_cons (ps_asg (pe_op op_divA (pe_callB call_abs (by rfl) T.n_abs (by decide +kernel) (pa_cons (pv 5) pa_nil)) (pv 1)) (pg_sub (pv 0) pe_int set_list))
      (pss_one (ps_ret (pe_op op_mod (pe_callTy call_int1 (by rfl) T.n_int (by decide +kernel) (pa_cons (pe_callB call_abs (by rfl) T.n_abs (by decide +kernel) (pa_cons (pv 5) pa_nil)) pa_nil)) (pv 1))))) pss_nil)
      (pss_one (ps_ret (pe_op op_mod (pe_callTy call_int1 (by rfl) T.n_int (by decide +kernel) (pa_cons (pe_callK0 (K0 := K) (by rfl) D_law_mixed (hr.mono (by decide)) (pa_cons (pv 5) (pa_cons (pe_ix (ix_listK (K0 := K) (by rfl)) (pv 0) pe_int (fun _ _ => rfl)) pa_nil))) pa_nil)) (pv 1))))))))))), fun h H0 G0 ds R hS => ?_⟩
  obtain ⟨m, rfl, hm, hm2, hR⟩ := hS
  have fin : ∀ k : Int, R (.int (k % m)) := fun k => hR _ (Int.emod_nonneg _ (by omega)) (Int.emod_lt_of_pos _ hm)
  have hmd : ∀ i, CDivA i m := fun i => ⟨hm, .inl hm2⟩
  -- hand[3] = hand[3] + 1
  refine ws_seq (ws_handN (.inr (.inr rfl)) (we_I0 (we_handN (.inr (.inr rfl)) (we_var rfl ⟨rfl, fun n hn => ⟨_, rfl, we_int ⟨_, rfl, _, rfl, by omega, we_var rfl ⟨rfl, ?_⟩⟩⟩⟩))))
  -- if hand[2] > 0
  refine ws_seq (ws_if (wt_T (we_I0 (we_handN (.inr (.inl rfl)) (we_var rfl ⟨rfl, fun r hr' => ⟨_, rfl, we_int ⟨_, rfl, _, rfl, ?_⟩⟩⟩)))))
  refine ite2 (fun hb => ?_) (fun hb => ?_)
  · refine ws_seq (ws_asg (we_I (we_int1 (we_handN (.inr (.inl rfl)) (we_var rfl ⟨rfl, fun r2 hr2 => ⟨_, rfl, _, rfl, we_var rfl ⟨_, rfl, hm, ?_⟩⟩⟩)))))
    refine ws_seq (ws_handN (.inr (.inl rfl)) (we_I (we_handN (.inr (.inl rfl)) (we_var rfl ⟨rfl, fun r3 hr3 => ⟨_, rfl, we_var rfl ⟨_, rfl, hmd _, _, rfl, Int.ediv_nonneg hr3 (by omega), we_var rfl ⟨rfl, ?_⟩⟩⟩⟩))))
    exact ws_ret (we_var rfl (fin _))
  · refine ws_next ?_
    refine ws_seq (ws_par (wa_cons (we_hand0 (we_var rfl ⟨rfl, fun ns hns => wa_cons (we_handN (.inl rfl) (we_var rfl ⟨rfl, fun i hi => wa_nil ⟨_, _, rfl, ?_⟩⟩))⟩))))
    refine ws_seq (ws_handN (.inl rfl) (we_I0 (we_var rfl ⟨_, rfl, we_int ⟨_, rfl, _, rfl, by omega, we_var rfl ⟨rfl, ?_⟩⟩⟩)))
    refine ws_seq (ws_if (wt_T (we_eqI (we_len (we_var rfl ⟨_, .inl rfl, _, rfl, we_int ⟨_, rfl, _, rfl, ?_⟩⟩)))))
    refine ite2 (fun hb => ?_) (fun hne => ?_)
    · refine ws_ret (we_I (we_int1 (we_call (wa_cons ?_))))
      refine we_int (wa_cons (we_handN (.inr (.inr rfl)) (we_var rfl ⟨rfl, fun n2 hn2 => wa_nil ?_⟩)))
      exact ⟨_, _, rfl, fun k => ⟨_, rfl, _, rfl, we_var rfl ⟨_, rfl, hm, fin _⟩⟩⟩
    · rw [List.length_map] at hne
      have hlen : 0 < (ns.length : Int) := by
        have : ¬ ((ns.length : Int) = 0) := by simpa using hne
        omega
      refine ws_next ?_
      have hi0 := Int.emod_nonneg i (b := (ns.length : Int)) (by omega)
      have hi1 := Int.emod_lt_of_pos i hlen
      obtain ⟨x, hx1, hx2⟩ := atI_of (xs := ns.map D.int) hi0 (by rw [List.length_map]; exact hi1)
      obtain ⟨c, rfl⟩ : ∃ c, x = D.int c := by
        rw [List.getElem?_map] at hx2
        obtain ⟨c, _, e⟩ := Option.map_eq_some_iff.mp hx2
        exact ⟨c, e.symm⟩
      refine ws_seq (ws_asg (we_ixL (we_var rfl ⟨_, rfl, we_I (we_int1 (we_var rfl ⟨_, rfl, _, rfl, we_len (we_var rfl ⟨_, .inl rfl, _, rfl, by rw [List.length_map]; exact hlen, _, D.int c, rfl, by rw [List.length_map]; exact hx1, ?_⟩)⟩))⟩)))
      refine ws_seq (ws_if (wt_and (wt_T (we_I0 (we_var rfl ⟨_, rfl, we_len (we_var rfl ⟨_, .inl rfl, _, rfl, _, rfl, fun _ => ?_, fun hb => ?_⟩)⟩)))))
      · refine wt_T (we_I0 (we_abs (we_var rfl ⟨_, rfl, _, rfl, we_I (we_int ⟨_, rfl, we_int ⟨_, rfl, by refine ⟨by decide, by decide, ?_⟩; decide, _, rfl, _, rfl, ?_⟩⟩)⟩)))
        refine ite2 (fun hb => ?_) (fun hb => ?_)
        · refine ws_seq (ws_handN (.inr (.inl rfl)) (we_I (we_abs (we_var rfl ⟨_, rfl, _, rfl, we_var rfl ⟨_, rfl, hmd _, _, rfl, Int.ediv_nonneg (absI_nn c) (by omega), we_var rfl ⟨rfl, ?_⟩⟩⟩))))
          exact ws_ret (we_I (we_int1 (we_abs (we_var rfl ⟨_, rfl, _, rfl, _, rfl, we_var rfl ⟨_, rfl, hm, fin _⟩⟩))))
        · refine ws_next ?_
          refine ws_ret (we_I (we_int1 (we_call (wa_cons ?_))))
          refine we_var rfl (wa_cons (we_handN (.inr (.inr rfl)) (we_var rfl ⟨rfl, fun n2 hn2 => wa_nil ?_⟩)))
          exact ⟨_, _, rfl, fun k => ⟨_, rfl, _, rfl, we_var rfl ⟨_, rfl, hm, fin _⟩⟩⟩
      · refine ws_next ?_
        refine ws_ret (we_I (we_int1 (we_call (wa_cons ?_))))
        refine we_var rfl (wa_cons (we_handN (.inr (.inr rfl)) (we_var rfl ⟨rfl, fun n2 hn2 => wa_nil ?_⟩)))
        exact ⟨_, _, rfl, fun k => ⟨_, rfl, _, rfl, we_var rfl ⟨_, rfl, hm, fin _⟩⟩⟩
def S_law_any : List D → (D → Prop) → Prop := fun ds R => ∃ xs : List D, ds = [.hand, .lst xs] ∧ xs ≠ [] ∧ xs.length < 4000000 ∧ ∀ x ∈ xs, R x
theorem l_law_any : ∀ ds R, S_law_any ds R → ds.length = 2 := fun ds R ⟨_, e, _⟩ => by rw [e]; rfl
theorem d_law_any (T : Txt K mg) : Dfn P w K mg bs 3 "_law_any" ["hand", "some"] S_law_any := by
  have D_law_draw := d_law_draw (P := P) (w := w) (bs := bs) T
  refine mkD (k := 2) T.s_law_any sc_law_any (fun _ _ _ _ _ _ us hl => match us, hl with | [_, _], _ => rfl) l_law_any fun f cdv A outer s H E hr => ?_
  have hu := hu_of hr
  refine ⟨_, (pss_one (ps_ret (pe_ix (ix_listK (K0 := K) (by rfl)) (pv 1) (pe_callK0 (K0 := K) (by rfl) D_law_draw (hr.mono (by decide)) (pa_cons (pv 0) (pa_cons (pe_callB (call_lenK (K0 := K) (by rfl)) (by rfl) T.n_len (by decide +kernel) (pa_cons (pv 1) pa_nil)) pa_nil))) (fun _ _ => rfl)))), fun h H0 G0 ds R hS => ?_⟩
  obtain ⟨xs, rfl, hne, hl, hR⟩ := hS
  have hpos : 0 < xs.length := List.length_pos_iff.mpr hne
  refine ws_ret (we_ixL (we_var rfl ⟨_, rfl, we_call (wa_cons (we_var rfl (wa_cons (we_len (we_var rfl ⟨_, .inl rfl, wa_nil ⟨_, rfl, by omega, by omega, fun k h0 h1 => ?_⟩⟩)))))⟩))
  obtain ⟨x, hx1, hx2⟩ := atI_of h0 h1
  exact ⟨k, x, rfl, hx1, hR x (List.mem_of_getElem? hx2)⟩
theorem l_law_hand : ∀ vs H Q E, spHand K vs H Q E → vs.length = 1 := fun vs H Q E ⟨_, _, e, _⟩ => by rw [e]; rfl
theorem d_law_hand (T : Txt K mg) : DfnR P w K mg bs 1 "_law_hand" ["script"] (spHand K) := by
  refine mkR (k := 0) T.s_law_hand sc_law_hand (fun _ _ _ _ _ _ us hl => match us, hl with | [_], _ => rfl) l_law_hand fun f cdv A outer s H E hr => ?_
  have hu := hu_of hr
  refine ⟨_, (pss_one (ps_ret (pe_lst (pa_cons (pe_lc (own := [("cell", 1)]) (g := (gName 1)) rfl sc_law_hand.nd (pi_listK (K0 := K) (by rfl) (pe_slice (sl_listK (K0 := K) (by rfl)) (pv 0) po_none (po_some pe_int))) (blkOk_by (N := N_law_hand) (sc := defScope s_law_hand) (by decide +kernel)) (fun _ _ _ _ _ => by exact (pg_name (i := 1) sc_law_hand.nd rfl (Or.inl rfl))) (fun _ _ _ _ _ => by exact pts_nil) (fun _ _ _ _ _ => by exact (pe_callTy call_int1 (by rfl) T.n_int (by decide +kernel) (pa_cons (pv 1) pa_nil)))) (pa_cons pe_int (pa_cons pe_int (pa_cons pe_int pa_nil))))))), fun vs Q hsp => ?_⟩
  obtain ⟨a, ns, rfl, hS, hl, hQ⟩ := hsp
  have hcut : cutV (ns.map V.int) none (some 63) = ns.map V.int := by
    unfold cutV
    have e1 : HT.sIx (ns.map V.int).length 0 none = 0 := rfl
    have e2 : HT.sIx (ns.map V.int).length (ns.map V.int).length (some 63) = (ns.map V.int).length := by
      exact (HT.sIx_nat _ _ 63).trans (by rw [List.length_map]; omega)
    rw [e1, e2, List.drop_zero, Nat.sub_zero, List.take_length]
  have key := Evl.el_lcNL (K := K) (σ := L2.start N_law_hand [.ref a]) (H := H) (xs := ns.map V.int) (j := 1) (vs := [1]) (t := tYes) (te := tCB (fun xs H Q => (∃ i, xs = [V.int i] ∧ Q (V.int i) H) ∨ ∃ k, xs = [V.bl k] ∧ Q (V.int (if k = true then 1 else 0)) H) (tCons (tVar 1) tNil))
    (tl := tSl (rSlL K) (tVar 0) tNoPart (tPart (tC (.int 63)))) (fun _ => true) (fun i => (ns.map V.int).getD i .non)
    (by
      have h2 := Evl.el_sl (K := K) (σ := L2.start N_law_hand [.ref a]) (H := H) (te := tVar 0) (tl := tNoPart) (th := tPart (tC (.int 63))) (Evl.ev_var rfl) Evl.eo_none (Evl.eo_some Evl.ev_c) hS
      rw [hcut] at h2
      exact h2) (by rw [List.length_map]; omega) (fun x => rfl) (fun i x H1 _ _ H2 _ Q q => q H2 (Evl.Ex.refl _)) (fun i x H1 _ hx _ => by
        have hi := hx
        rw [List.getElem?_map] at hi
        obtain ⟨z, hz, rfl⟩ := Option.map_eq_some_iff.mp hi
        have e : (ns.map V.int).getD i .non = .int z := by rw [List.getD_eq_getElem?_getD, hx] <;> rfl
        intro H2 _ Q q
        refine ⟨.int z, rfl, .inl ⟨z, rfl, ?_⟩⟩
        have q' := q H2 (Evl.Ex.refl _)
        rw [e] at q'
        exact q')
  have eg : Evl.given (ns.map V.int).length (fun _ => true) (fun i => (ns.map V.int).getD i .non) = ns.map V.int := by
    unfold Evl.given
    rw [List.filter_eq_self.mpr (fun _ _ => rfl)]
    refine List.ext_getElem? fun i => ?_
    rw [List.getElem?_map]
    by_cases hi : i < (ns.map V.int).length
    · rw [List.getElem?_range hi, List.getElem?_eq_getElem hi]
      show some ((ns.map V.int).getD i .non) = _
      rw [List.getD_eq_getElem?_getD, List.getElem?_eq_getElem hi] <;> rfl
    · rw [List.getElem?_eq_none (by rw [List.length_range]; omega), List.getElem?_eq_none (l := ns.map V.int) (by omega)] <;> rfl
  rw [eg] at key
  exact key H (Evl.Ex.refl _) (fun x H1 => tCons (tC (.int 0)) (tCons (tC (.int 0)) (tCons (tC (.int 0)) tNil)) (L2.start N_law_hand [.ref a]) H1 fun xs H2 => (x :: xs).length ≤ sizeLine ∧ ∀ p, H2 p = none → Q (.ref p) (upd H2 p (.lst (x :: xs)))) fun c H1 hc e1 h1 => ⟨sz (Nat.le_of_ble_eq_true rfl), fun h2 hn2 => by
    have hne : h2 ≠ c := fun z => by rw [z, h1] at hn2; cases hn2
    exact hQ h2 c _ (e1.trans (Evl.Ex.new hn2)) hne upd_same (by rw [upd_ne (Ne.symm hne)]; exact h1)⟩
/-! ### kinds -/
def S_is_integer : List D → (D → Prop) → Prop := fun ds R => ∃ x t, ds = [x] ∧ tyD x = some t ∧ R (.bl (isI x))
theorem l_is_integer : ∀ ds R, S_is_integer ds R → ds.length = 1 := fun ds R ⟨_, _, e, _⟩ => by rw [e]; rfl
theorem d_is_integer (T : Txt K mg) : Dfn P w K mg bs 1 "is_integer" ["thing"] S_is_integer := by
  refine mkD (k := 0) T.s_is_integer sc_is_integer (fun _ _ _ _ _ _ us hl => match us, hl with | [_], _ => rfl) l_is_integer fun f cdv A outer s H E hr => ?_
  have hu := hu_of hr
  refine ⟨_, (pss_one (ps_ret (pe_and (pe_callB (call_isiK0 (K0 := K) (by rfl)) (by rfl) T.n_isinstance (by decide +kernel) (pa_cons (pv 0) (pa_cons (pe_bltn (v := .ty "int") (by rfl) T.n_int (by decide +kernel) rfl) pa_nil))) (pe_one (pe_not (pe_callB (call_isiK0 (K0 := K) (by rfl)) (by rfl) T.n_isinstance (by decide +kernel) (pa_cons (pv 0) (pa_cons (pe_bltn (v := .ty "bool") (by rfl) T.n_bool (by decide +kernel) rfl) pa_nil)))))))), fun h H0 G0 ds R hS => ?_⟩
  obtain ⟨x, t, rfl, ht, hR⟩ := hS
  refine ws_ret (we_andV (we_isi (we_var rfl ⟨t, _, ht, kb_int ht, _, rfl, fun hb => ?_, fun hb => ?_⟩)))
  · refine we_notV (we_isi (we_var rfl ⟨t, _, ht, kb_bool ht, _, rfl, ?_⟩))
    have e : (!isBl x) = isI x := by cases x <;> first | rfl | cases hb
    rw [e]; exact hR
  · have e : isI x = false := by cases x <;> first | rfl | cases hb
    rw [e] at hR; exact hR
def within (lo hi : Int) : D → Bool | .int i => decide (lo ≤ i) && decide (i ≤ hi) | _ => false
def S_is_integer_within : List D → (D → Prop) → Prop := fun ds R => ∃ x t lo hi, ds = [x, .int lo, .int hi] ∧ tyD x = some t ∧ R (.bl (within lo hi x))
theorem l_is_integer_within : ∀ ds R, S_is_integer_within ds R → ds.length = 3 := fun ds R ⟨_, _, _, _, e, _⟩ => by rw [e]; rfl
theorem d_is_integer_within (T : Txt K mg) : Dfn P w K mg bs 2 "is_integer_within" ["thing", "low", "high"] S_is_integer_within := by
  have D_is_integer := d_is_integer (P := P) (w := w) (bs := bs) T
  refine mkD (k := 1) T.s_is_integer_within sc_is_integer_within (fun _ _ _ _ _ _ us hl => match us, hl with | [_, _, _], _ => rfl) l_is_integer_within fun f cdv A outer s H E hr => ?_
  have hu := hu_of hr
  refine ⟨_, (pss_one (ps_ret (pe_and (pe_callK0 (K0 := K) (by rfl) D_is_integer (hr.mono (by decide)) (pa_cons (pv 0) pa_nil)) (pe_one (pe_chain op_le op_le (pv 1) (pv 0) (pv 2)))))), fun h H0 G0 ds R hS => ?_⟩
  obtain ⟨x, t, lo, hi, rfl, ht, hR⟩ := hS
  refine ws_ret (we_andV (we_call (wa_cons (we_var rfl (wa_nil ⟨x, t, rfl, ht, _, rfl, fun hb => ?_, fun hb => ?_⟩)))))
  · obtain ⟨i, rfl⟩ : ∃ i, x = D.int i := by cases x <;> first | exact ⟨_, rfl⟩ | cases hb
    refine we_chain (we_var rfl ⟨_, rfl, we_var rfl ⟨_, rfl, fun h1 => we_var rfl ⟨_, rfl, ?_⟩, fun h1 => ?_⟩⟩)
    · have e : within lo hi (.int i) = decide (i ≤ hi) := by show (decide (lo ≤ i) && decide (i ≤ hi)) = _; rw [h1, Bool.true_and]
      rw [e] at hR; exact hR
    · have e : within lo hi (.int i) = false := by show (decide (lo ≤ i) && decide (i ≤ hi)) = _; rw [h1, Bool.false_and]
      rw [e] at hR; exact hR
  · have e : within lo hi x = false := by cases x <;> first | rfl | cases hb
    rw [e] at hR; exact hR
def S_is_base : List D → (D → Prop) → Prop := fun ds R => ∃ x t, ds = [x] ∧ tyD x = some t ∧ R (.bl (within 2 5 x))
theorem l_is_base : ∀ ds R, S_is_base ds R → ds.length = 1 := fun ds R ⟨_, _, e, _⟩ => by rw [e]; rfl
theorem d_is_base (T : Txt K mg) : Dfn P w K mg bs 3 "is_base" ["thing"] S_is_base := by
  have D_is_integer_within := d_is_integer_within (P := P) (w := w) (bs := bs) T
  refine mkD (k := 2) T.s_is_base sc_is_base (fun _ _ _ _ _ _ us hl => match us, hl with | [_], _ => rfl) l_is_base fun f cdv A outer s H E hr => ?_
  have hu := hu_of hr
  refine ⟨_, (pss_one (ps_ret (pe_callK0 (K0 := K) (by rfl) D_is_integer_within (hr.mono (by decide)) (pa_cons (pv 0) (pa_cons pe_int (pa_cons pe_int pa_nil)))))), fun h H0 G0 ds R hS => ?_⟩
  obtain ⟨x, t, rfl, ht, hR⟩ := hS
  exact ws_ret (we_call (wa_cons (we_var rfl (wa_cons (we_int (wa_cons (we_int (wa_nil ⟨x, t, _, _, rfl, ht, hR⟩))))))))
def tupOf (n : Int) : D → Bool | .tup xs => decide ((xs.length : Int) = n) | _ => false
def S_is_tuple_of : List D → (D → Prop) → Prop := fun ds R => ∃ x t n, ds = [x, .int n] ∧ tyD x = some t ∧ R (.bl (tupOf n x))
theorem l_is_tuple_of : ∀ ds R, S_is_tuple_of ds R → ds.length = 2 := fun ds R ⟨_, _, _, e, _⟩ => by rw [e]; rfl
theorem d_is_tuple_of (T : Txt K mg) : Dfn P w K mg bs 1 "is_tuple_of" ["thing", "many"] S_is_tuple_of := by
  refine mkD (k := 0) T.s_is_tuple_of sc_is_tuple_of (fun _ _ _ _ _ _ us hl => match us, hl with | [_, _], _ => rfl) l_is_tuple_of fun f cdv A outer s H E hr => ?_
  have hu := hu_of hr
  refine ⟨_, (pss_one (ps_ret (pe_and (pe_callB (call_isiK0 (K0 := K) (by rfl)) (by rfl) T.n_isinstance (by decide +kernel) (pa_cons (pv 0) (pa_cons (pe_bltn (v := .ty "tuple") (by rfl) T.n_tuple (by decide +kernel) rfl) pa_nil))) (pe_one (pe_cmpR op_eq (pe_callB (call_lenK (K0 := K) (by rfl)) (by rfl) T.n_len (by decide +kernel) (pa_cons (pv 0) pa_nil)) (pv 1) (nomark _)))))), fun h H0 G0 ds R hS => ?_⟩
  obtain ⟨x, t, n, rfl, ht, hR⟩ := hS
  refine ws_ret (we_andV (we_isi (we_var rfl ⟨t, _, ht, kb_tuple ht, _, rfl, fun hb => ?_, fun hb => ?_⟩)))
  · obtain ⟨xs, rfl⟩ : ∃ xs, x = D.tup xs := by cases x <;> first | exact ⟨_, rfl⟩ | cases hb
    exact we_eqI (we_len (we_var rfl ⟨_, .inr rfl, _, rfl, we_var rfl ⟨_, rfl, hR⟩⟩))
  · have e : tupOf n x = false := by cases x <;> first | rfl | cases hb
    rw [e] at hR; exact hR
def Ty (x : D) : Prop := ∃ t, tyD x = some t
def rowD (ps qs : List Int) : D := .tup [.tup (ps.map D.int), .tup (qs.map D.int)]
/-! ### machines, of parts that may be wrong -/
/-- the things in it, so deep, are of kinds that are known -/
def TyN : Nat → D → Prop
  | 0, x => Ty x
  | n + 1, x => Ty x ∧ ∀ xs, x = .tup xs → xs.length ≤ 4000000 ∧ ∀ y ∈ xs, TyN n y
theorem TyN.ty : ∀ {n : Nat} {x : D}, TyN n x → Ty x
  | 0, _, h => h
  | _ + 1, _, h => h.1
def S_is_index : List D → (D → Prop) → Prop := fun ds R => ∃ (many : Int) (x : D), ds = [.int many, x] ∧ Ty x ∧ R (.bl (within 0 (many - 1) x))
theorem l_is_index : ∀ ds R, S_is_index ds R → ds.length = 2 := fun ds R ⟨_, _, e, _⟩ => by rw [e]; rfl
theorem d_is_index (T : Txt K mg) : Dfn P w K mg bs 3 "is_index" ["many", "thing"] S_is_index := by
  have D_is_integer_within := d_is_integer_within (P := P) (w := w) (bs := bs) T
  refine mkD (k := 2) T.s_is_index sc_is_index (fun _ _ _ _ _ _ us hl => match us, hl with | [_, _], _ => rfl) l_is_index fun f cdv A outer s H E hr => ?_
  have hu := hu_of hr
  refine ⟨_, (pss_one (ps_ret (pe_callK0 (K0 := K) (by rfl) D_is_integer_within (hr.mono (by decide)) (pa_cons (pv 1) (pa_cons pe_int (pa_cons (pe_op op_sub (pv 0) pe_int) pa_nil)))))), fun h H0 G0 ds R hS => ?_⟩
  obtain ⟨many, x, rfl, ⟨t, ht⟩, hR⟩ := hS
  exact ws_ret (we_call (wa_cons (we_var rfl (wa_cons (we_int (wa_cons (we_I0 (we_var rfl ⟨_, rfl, we_int ⟨_, rfl, wa_nil ⟨x, t, _, _, rfl, ht, hR⟩⟩⟩))))))))
/-- right as a pair of an integer and a state -/
def pairOk (n : Nat) : D → Bool | .tup [a, b] => isI a && within 0 ((n : Int) - 1) b | _ => false
theorem pairOk_no {n : Nat} {x : D} (h : tupOf 2 x = false) : pairOk n x = false := by
  unfold pairOk
  split
  · exact Bool.noConfusion (show true = false from h)
  · rfl
def S_is_pair_of_state : List D → (D → Prop) → Prop := fun ds R => ∃ (n : Nat) (x : D), ds = [.int (n : Int), x] ∧ TyN 1 x ∧ R (.bl (pairOk n x))
theorem l_is_pair_of_state : ∀ ds R, S_is_pair_of_state ds R → ds.length = 2 := fun ds R ⟨_, _, e, _⟩ => by rw [e]; rfl
theorem d_is_pair_of_state (T : Txt K mg) : Dfn P w K mg bs 4 "is_pair_of_state" ["many", "thing"] S_is_pair_of_state := by
  have D_is_tuple_of := d_is_tuple_of (P := P) (w := w) (bs := bs) T
  have D_is_integer := d_is_integer (P := P) (w := w) (bs := bs) T
  have D_is_index := d_is_index (P := P) (w := w) (bs := bs) T
  refine mkD (k := 3) T.s_is_pair_of_state sc_is_pair_of_state (fun _ _ _ _ _ _ us hl => match us, hl with | [_, _], _ => rfl) l_is_pair_of_state fun f cdv A outer s H E hr => ?_
  have hu := hu_of hr
  refine ⟨_, (pss_one (ps_ret (pe_and (pe_callK0 (K0 := K) (by rfl) D_is_tuple_of (hr.mono (by decide)) (pa_cons (pv 1) (pa_cons pe_int pa_nil))) (pe_and (pe_callK0 (K0 := K) (by rfl) D_is_integer (hr.mono (by decide)) (pa_cons (pe_ix (ix_tupK (K0 := K) (by rfl)) (pv 1) pe_int (fun _ _ => rfl)) pa_nil)) (pe_one (pe_callK0 (K0 := K) (by rfl) D_is_index (hr.mono (by decide)) (pa_cons (pv 0) (pa_cons (pe_ix (ix_tupK (K0 := K) (by rfl)) (pv 1) pe_int (fun _ _ => rfl)) pa_nil)))))))), fun h H0 G0 ds R hS => ?_⟩
  obtain ⟨n, x, rfl, ⟨⟨t, ht⟩, hx⟩, hR⟩ := hS
  refine ws_ret (we_andV (we_call (wa_cons (we_var rfl (wa_cons (we_int (wa_nil ⟨x, t, 2, rfl, ht, _, rfl, fun hb => ?_, fun hb => ?_⟩)))))))
  · obtain ⟨a, b, rfl⟩ : ∃ a b, x = D.tup [a, b] := by
      cases x with
      | tup xs =>
        have hl : decide ((xs.length : Int) = 2) = true := hb
        have h2 := of_decide_eq_true hl
        match xs, h2 with
        | [a, b], _ => exact ⟨a, b, rfl⟩
        | [], h => exact absurd h (by decide)
        | [a], h => simp only [List.length_cons, List.length_nil] at h; omega
        | a :: b :: c :: r, h => simp only [List.length_cons] at h; omega
      | _ => cases hb
    have ha : Ty a := (hx _ rfl).2 a (by simp)
    have hb2 : Ty b := (hx _ rfl).2 b (by simp)
    obtain ⟨ta, hta⟩ := ha
    refine we_andV (we_call (wa_cons (we_ixT (we_var rfl ⟨_, rfl, we_int ⟨0, _, rfl, rfl, wa_nil ⟨a, ta, rfl, hta, _, rfl, fun h1 => ?_, fun h1 => ?_⟩⟩⟩))))
    · refine we_call (wa_cons (we_var rfl (wa_cons (we_ixT (we_var rfl ⟨_, rfl, we_int ⟨1, _, rfl, rfl, wa_nil ⟨_, b, rfl, hb2, ?_⟩⟩⟩)))))
      have e : pairOk n (.tup [a, b]) = within 0 ((n : Int) - 1) b := by show (isI a && _) = _; rw [h1, Bool.true_and]
      rw [e] at hR; exact hR
    · have e : pairOk n (.tup [a, b]) = false := by show (isI a && _) = _; rw [h1, Bool.false_and]
      rw [e] at hR; exact hR
  · rw [pairOk_no hb] at hR; exact hR
/-- the items of a tuple -/
def tupL : D → List D | .tup xs => xs | _ => []
def rowOk (base : Int) (n : Nat) (x : D) : Bool := tupOf (2 * base - 1) x && (tupL x).all (pairOk n)
def S_is_row_of_pairs : List D → (D → Prop) → Prop := fun ds R => ∃ (base : Int) (n : Nat) (x : D), ds = [.int base, .int (n : Int), x] ∧ 0 ≤ base ∧ base ≤ 5 ∧ TyN 2 x ∧ R (.bl (rowOk base n x))
theorem l_is_row_of_pairs : ∀ ds R, S_is_row_of_pairs ds R → ds.length = 3 := fun ds R ⟨_, _, _, e, _⟩ => by rw [e]; rfl
theorem take_succ_map {α β : Type} {xs : List α} {k : Nat} {x : α} (f : α → β) (h : xs[k]? = some x) : (xs.take (k + 1)).map f = (xs.take k).map f ++ [f x] := by
  rw [List.take_succ, h, List.map_append]
  rfl
theorem d_is_row_of_pairs (T : Txt K mg) : Dfn P w K mg bs 5 "is_row_of_pairs" ["base", "many", "thing"] S_is_row_of_pairs := by
  have D_is_tuple_of := d_is_tuple_of (P := P) (w := w) (bs := bs) T
  have D_is_pair_of_state := d_is_pair_of_state (P := P) (w := w) (bs := bs) T
  refine mkD (k := 4) T.s_is_row_of_pairs sc_is_row_of_pairs (fun _ _ _ _ _ _ us hl => match us, hl with | [_, _, _], _ => rfl) l_is_row_of_pairs fun f cdv A outer s H E hr => ?_
  have hu := hu_of hr
  refine ⟨_, (pss_one (ps_ret (pe_and (pe_callK0 (K0 := K) (by rfl) D_is_tuple_of (hr.mono (by decide)) (pa_cons (pv 2) (pa_cons (pe_op op_sub (pe_op op_mulA pe_int (pv 0)) pe_int) pa_nil))) (pe_one (pe_callB (cr_all rfl) (by rfl) T.n_all (by decide +kernel) (pa_cons (pe_lc (own := [("pair", 3)]) (g := (gName 3)) rfl sc_is_row_of_pairs.nd (pi_tupK (K0 := K) (by rfl) (pv 2)) (blkOk_by (N := N_is_row_of_pairs) (sc := defScope s_is_row_of_pairs) (by decide +kernel)) (fun _ _ _ _ _ => by exact (pg_name (i := 3) sc_is_row_of_pairs.nd rfl (Or.inl rfl))) (fun _ _ _ _ _ => by exact pts_nil) (fun _ _ _ _ _ => by exact (pe_callK0 (K0 := K) (by rfl) D_is_pair_of_state (hr.mono (by decide)) (pa_cons (pv 1) (pa_cons (pv 3) pa_nil))))) pa_nil)))))), fun h H0 G0 ds R hS => ?_⟩
  obtain ⟨base, n, x, rfl, hb0, hb5, ⟨⟨t, ht⟩, hx⟩, hR⟩ := hS
  refine ws_ret (we_andV (we_call (wa_cons (we_var rfl (wa_cons (we_I0 (we_I (we_int ⟨_, rfl, we_var rfl ⟨_, rfl, .inl (by omega), _, rfl, we_int ⟨_, rfl, wa_nil ⟨x, t, _, rfl, ht, _, rfl, fun h => ?_, fun h => ?_⟩⟩⟩⟩))))))))
  · obtain ⟨xs, rfl⟩ : ∃ xs, x = D.tup xs := by cases x <;> first | exact ⟨_, rfl⟩ | cases h
    obtain ⟨hl, hit⟩ := hx xs rfl
    refine we_all (we_F (wf_lcT (we_var rfl ⟨_, rfl, hl, fun k acc => acc = (xs.take k).map fun y => .bl (pairOk n y), rfl, ?_, ?_⟩)))
    · rintro k y acc hk rfl _
      refine wgp_name ?_ ?_
      · decide
      refine wt_yes ?_
      rw [if_pos rfl]
      refine we_call (wa_cons (we_var rfl (wa_cons (we_var rfl (wa_nil ⟨n, y, rfl, hit y (List.mem_of_getElem? hk), ?_⟩)))))
      exact (take_succ_map (fun y => D.bl (pairOk n y)) hk).symm
    · rintro acc rfl
      refine ⟨xs.map (pairOk n), by rw [List.take_length, List.map_map]; rfl, ?_⟩
      have e : (xs.map (pairOk n)).all id = rowOk base n (.tup xs) := by
        show _ = (tupOf (2 * base - 1) (.tup xs) && xs.all (pairOk n))
        rw [h, Bool.true_and, List.all_map]
        rfl
      rw [e]; exact hR
  · have e : rowOk base n x = false := by unfold rowOk; rw [h, Bool.false_and]
    rw [e] at hR; exact hR
theorem findIdx_at {p : D → Bool} : ∀ {xs : List D} {k : Nat} {y : D}, xs[k]? = some y → p y = true → (∀ z ∈ xs.take k, p z = false) → xs.findIdx? p = some k
  | x :: xs, 0, y, h, hp, _ => by
    cases h
    rw [List.findIdx?_cons, if_pos hp]
  | x :: xs, k + 1, y, h, hp, hz => by
    rw [List.findIdx?_cons, if_neg (by rw [hz x (by simp)]; decide), findIdx_at (k := k) (y := y) h hp fun z h => hz z (by rw [List.take_succ_cons]; exact List.mem_cons_of_mem _ h)]
    rfl
/-- what is wrong with the parts, if anything -/
def partsBad (b f r : D) : Option D :=
  if within 2 5 b = false then some (.str "base") else
  if isI f = false then some (.str "first") else
  match r, b with
  | .tup xs, .int base => if xs = [] then some (.str "rows") else (xs.findIdx? fun y => !rowOk base xs.length y).map fun (s : Nat) => D.int ((s : Nat) : Int)
  | _, _ => some (.str "rows")
def S_Machine : Addr → List D → (Out → Prop) → Prop := fun C ds R => ∃ (b f r : D), ds = [b, f, r] ∧ Ty b ∧ Ty f ∧ TyN 3 r ∧ (partsBad b f r = none → R (.ok (.ins C [("base", b), ("first", f), ("rows", r)]))) ∧ ∀ y, partsBad b f r = some y → R (.ex "BadMachine" [("part", y)])
theorem l_Machine : ∀ C ds R, S_Machine C ds R → ds.length + 1 = 4 := fun C ds R ⟨_, _, _, e, _⟩ => by rw [e]; rfl
theorem d_Machine (T : Txt K mg) : ∃ C, mg "Machine" = some (.ref C) ∧ Cls K C ∧ (∀ g, g ∈ (["base", "first", "rows"] : List Str) → NoAttr K C g) ∧ MakX P w K mg bs 6 "Machine" C ["self", "base", "first", "rows"] S_Machine := by
  have D_is_base := d_is_base (P := P) (w := w) (bs := bs) T
  have D_is_integer := d_is_integer (P := P) (w := w) (bs := bs) T
  have D_is_row_of_pairs := d_is_row_of_pairs (P := P) (w := w) (bs := bs) T
  obtain ⟨C_BadMachine, X_BadMachine⟩ := x_BadMachine (P := P) (w := w) (bs := bs) T
  refine mkC (k := 5) T.s_Machine sc_Machine (fun _ _ _ _ _ _ us hl => match us, hl with | [_, _, _, _], _ => rfl) l_Machine (by decide) fun C b f cdv A outer s H E hc hn hr => ?_
  have hu := hu_of hr
  refine ⟨_, (pss_cons (ps_if (pt_not (pt_val (pe_callK0 (K0 := K) (by rfl) D_is_base (hr.mono (by decide)) (pa_cons (pv 1) pa_nil)))) (pss_one (ps_rz1 X_BadMachine (hr.mono (by decide)) (takes_of rfl rfl rfl rfl) pe_str)) pss_nil)
      (pss_cons (ps_if (pt_not (pt_val (pe_callK0 (K0 := K) (by rfl) D_is_integer (hr.mono (by decide)) (pa_cons (pv 2) pa_nil)))) (pss_one (ps_rz1 X_BadMachine (hr.mono (by decide)) (takes_of rfl rfl rfl rfl) pe_str)) pss_nil)
      (pss_cons (ps_if (PW.pt (pw_or (pt_not (pt_val (pe_callB (call_isiK0 (K0 := K) (by rfl)) (by rfl) T.n_isinstance (by decide +kernel) (pa_cons (pv 3) (pa_cons (pe_bltn (v := .ty "tuple") (by rfl) T.n_tuple (by decide +kernel) rfl) pa_nil))))) (pw_or1 (pt_cmpR op_eq (pe_callB (call_lenK (K0 := K) (by rfl)) (by rfl) T.n_len (by decide +kernel) (pa_cons (pv 3) pa_nil)) pe_int (nomark _))))) (pss_one (ps_rz1 X_BadMachine (hr.mono (by decide)) (takes_of rfl rfl rfl rfl) pe_str)) pss_nil)
      (pss_cons (ps_for (passes_of rfl) rfl (pi_enT (K0 := K) (by rfl) (by rfl) T.n_enumerate (pa_cons (pv 3) pa_nil)) (pg_tup rfl (pgs_cons (pg_name (i := 4) sc_Machine.nd rfl (Or.inl rfl)) (pgs_cons (pg_name (i := 5) sc_Machine.nd rfl (Or.inl rfl)) pgs_nil)))
      (pss_one (ps_if (pt_not (pt_val (pe_callK0 (K0 := K) (by rfl) D_is_row_of_pairs (hr.mono (by decide)) (pa_cons (pv 1) (pa_cons (pe_callB (call_lenK (K0 := K) (by rfl)) (by rfl) T.n_len (by decide +kernel) (pa_cons (pv 3) pa_nil)) (pa_cons (pv 5) pa_nil)))))) (pss_one (ps_rz1 X_BadMachine (hr.mono (by decide)) (takes_of rfl rfl rfl rfl) (pv 4))) pss_nil)))
      (pss_cons (ps_fld (pv 0) (pv 1) rfl)
      (pss_cons (ps_fld (pv 0) (pv 2) rfl)
      (pss_one (ps_fld (pv 0) (pv 3) rfl)))))))), fun h H0 G0 ds R hS hW => ?_⟩
  obtain ⟨b0, f0, r0, rfl, ⟨tb, htb⟩, ⟨tf, htf⟩, hr0, hok, hbad⟩ := hS
  obtain ⟨⟨tr, htr⟩, hrows⟩ := id hr0
  refine ws_seq (ws_if (wt_not (wt_B (we_call (wa_cons (we_var rfl (wa_nil ⟨b0, tb, rfl, htb, _, rfl, ?_⟩)))))))
  cases hb : within 2 5 b0 with
  | false => exact ws_raise1 hW X_BadMachine.gC (we_str (hbad _ (by unfold partsBad; rw [if_pos hb])))
  | true =>
  obtain ⟨base, rfl, hb1, hb2⟩ : ∃ i : Int, b0 = .int i ∧ 2 ≤ i ∧ i ≤ 5 := by
    cases b0 with
    | int i =>
      have h : (decide (2 ≤ i) && decide (i ≤ 5)) = true := hb
      obtain ⟨h1, h2⟩ := (Bool.and_eq_true_iff).mp h
      exact ⟨i, rfl, of_decide_eq_true h1, of_decide_eq_true h2⟩
    | _ => cases hb
  refine ws_next (ws_seq (ws_if (wt_not (wt_B (we_call (wa_cons (we_var rfl (wa_nil ⟨f0, tf, rfl, htf, _, rfl, ?_⟩))))))))
  cases hf : isI f0 with
  | false => exact ws_raise1 hW X_BadMachine.gC (we_str (hbad _ (by unfold partsBad; rw [if_neg (by rw [hb]; decide), if_pos hf])))
  | true =>
  have step : ∀ {r : D}, partsBad (.int base) f0 r = match r, D.int base with
    | .tup xs, .int base => if xs = [] then some (.str "rows") else (xs.findIdx? fun y => !rowOk base xs.length y).map fun (s : Nat) => D.int ((s : Nat) : Int)
    | _, _ => some (.str "rows") := fun {r} => by
    unfold partsBad
    rw [if_neg (by rw [hb]; decide), if_neg (by rw [hf]; decide)]
  refine ws_next (ws_seq (ws_if (wt_or (wt_not (wt_B (we_isi (we_var rfl ⟨tr, _, htr, kb_tuple htr, _, rfl, fun h => ?_, fun h => ?_⟩)))))))
  · obtain ⟨xs, rfl⟩ : ∃ xs, r0 = D.tup xs := by cases r0 <;> first | exact ⟨_, rfl⟩ | cases h
    obtain ⟨hl, hit⟩ := hrows xs rfl
    refine wt_T (we_eqI (we_len (we_var rfl ⟨_, .inr rfl, _, rfl, we_int ⟨_, rfl, _, rfl, ?_⟩⟩)))
    refine ite2 (fun hz => ?_) (fun hz => ?_)
    · have e : xs = [] := List.length_eq_zero_iff.mp (by have := of_decide_eq_true hz; omega)
      exact ws_raise1 hW X_BadMachine.gC (we_str (hbad _ (by rw [step]; dsimp only; rw [if_pos e])))
    · have hne : xs ≠ [] := fun e => hz (by rw [e]; rfl)
      refine ws_next ?_
      have due : partsBad (.int base) f0 (.tup xs) = (xs.findIdx? fun y => !rowOk base xs.length y).map fun (s : Nat) => D.int ((s : Nat) : Int) := by rw [step]; dsimp only; rw [if_neg hne]
      refine ws_seq (ws_to (fun ρ => (∀ y ∈ xs, rowOk base xs.length y = true) ∧ ∃ r4 r5 : Option Cell, ρ = [some (.oi b C []), some (.d (.int base)), some (.d f0), some (.d (.tup xs)), r4, r5]) (ws_forEnumT (wa_cons (we_var rfl (wa_nil ⟨_, rfl, fun k ρ => (∀ y ∈ xs.take k, rowOk base xs.length y = true) ∧ ∃ r4 r5 : Option Cell, ρ = [some (.oi b C []), some (.d (.int base)), some (.d f0), some (.d (.tup xs)), r4, r5], ⟨(fun y hy => by rw [List.take_zero] at hy; cases hy), _, _, rfl⟩, ?_, ?_⟩)))) ?_)
      · rintro k y ρ hk ⟨hgood, r4, r5, rfl⟩
        refine wg_tup ⟨_, rfl, rfl, wgs_cons ⟨_, _, rfl, wg_name (wgs_cons ⟨_, _, rfl, wg_name (wgs_nil ⟨rfl, ?_⟩)⟩)⟩⟩
        refine ws_if (wt_not (wt_B (we_call (wa_cons (we_var rfl (wa_cons (we_len (we_var rfl ⟨_, .inr rfl, wa_cons (we_var rfl (wa_nil ⟨base, xs.length, y, rfl, by omega, hb2, hit y (List.mem_of_getElem? hk), _, rfl, ?_⟩))⟩))))))))
        cases hro : rowOk base xs.length y with
        | false =>
          refine ws_raise1 hW X_BadMachine.gC (we_var rfl (hbad _ ?_))
          rw [due, findIdx_at hk (by rw [hro]; rfl) fun z hz => by rw [hgood z hz]; rfl]
          rfl
        | true =>
          refine ws_next ⟨fun z hz => ?_, _, _, rfl⟩
          rw [List.take_succ, hk] at hz
          rcases List.mem_append.mp hz with h | h
          · exact hgood z h
          · rw [List.mem_singleton.mp h]; exact hro
      · rintro ρ ⟨hgood, h⟩
        rw [List.take_length] at hgood
        exact ⟨hgood, h⟩
      rintro ρ ⟨hgood, r4, r5, rfl⟩
      have good : partsBad (.int base) f0 (.tup xs) = none := by
        rw [due, List.findIdx?_eq_none_iff.mpr fun z hz => by rw [hgood z hz]; rfl]
        rfl
      refine ws_seq (ws_sfld rfl hc (hn _ (by decide)) (Nat.le_of_ble_eq_true rfl) (we_var rfl ?_))
      refine ws_seq (ws_sfld rfl hc (hn _ (by decide)) (Nat.le_of_ble_eq_true rfl) (we_var rfl ?_))
      exact ws_sfld rfl hc (hn _ (by decide)) (Nat.le_of_ble_eq_true rfl) (we_var rfl ⟨_, rfl, hok good⟩)
  · have e : partsBad (.int base) f0 r0 = some (.str "rows") := by
      rw [step]
      cases r0 <;> first | rfl | cases h
    exact ws_raise1 hW X_BadMachine.gC (we_str (hbad _ e))
theorem eqv_int (x y : Int) : PyData.eqv (.int x) (.int y) = decide (x = y) := by
  rw [PyData.eqv]
  by_cases h : x = y
  · rw [decide_eq_true h, h]; simp
  · rw [decide_eq_false h]; simpa using h
theorem eqvL_ints : ∀ xs ys : List Int, PyData.eqvAll (toPyL (xs.map D.int)) (toPyL (ys.map D.int)) = decide (xs = ys)
  | [], [] => by rw [List.map_nil, toPyL, PyData.eqvAll]; rfl
  | [], y :: ys => by rw [List.map_nil, List.map_cons, toPyL, toPyL, PyData.eqvAll]; rfl
  | x :: xs, [] => by rw [List.map_nil, List.map_cons, toPyL, toPyL, PyData.eqvAll]; rfl
  | x :: xs, y :: ys => by
    rw [List.map_cons, List.map_cons, toPyL, toPyL, PyData.eqvAll, eqvL_ints xs ys, toPy, toPy, eqv_int]
    by_cases h : x = y
    · by_cases h2 : xs = ys
      · rw [decide_eq_true h, decide_eq_true h2, decide_eq_true (by rw [h, h2])]; rfl
      · rw [decide_eq_true h, decide_eq_false h2, decide_eq_false (fun z => h2 (List.cons.inj z).2)]; rfl
    · rw [decide_eq_false h, decide_eq_false (fun z => h (List.cons.inj z).1)]; rfl
theorem eqv_tup (xs ys : List Int) : PyData.eqv (toPy (.tup (xs.map D.int))) (toPy (.tup (ys.map D.int))) = decide (xs = ys) := by
  rw [toPy, toPy, PyData.eqv]
  exact eqvL_ints xs ys
theorem py_ints : ∀ xs : List Int, PyData.canLayAll0 (toPyL (xs.map D.int)) = true ∧ PyData.depthAll (toPyL (xs.map D.int)) = 0
  | [] => ⟨rfl, rfl⟩
  | x :: xs => by
    obtain ⟨h1, h2⟩ := py_ints xs
    rw [List.map_cons, toPyL, toPy]
    exact ⟨by rw [PyData.canLayAll0, h1]; rfl, by rw [PyData.depthAll, h2]; rfl⟩
theorem tup_cmp (c : List Int) : Cmp (.tup (c.map D.int)) := .tup fun x hx => by
  obtain ⟨i, _, rfl⟩ := List.mem_map.mp hx
  exact .int i
theorem tup_shaped (c : List Int) : SeqAt.shaped (toPy (.tup (c.map D.int))) = true := by
  obtain ⟨h1, h2⟩ := py_ints c
  unfold SeqAt.shaped
  rw [toPy, PyData.canLay0, h1, PyData.depth, h2]
  rfl
theorem cut_take {xs : List D} {k : Nat} : Cal.cutD xs none (some (k : Int)) = xs.take k := by
  unfold Cal.cutD
  rw [HT.sIx_nat]
  show (xs.drop 0).take (min k xs.length - 0) = _
  rw [List.drop_zero, Nat.sub_zero]
  by_cases h : k ≤ xs.length
  · rw [Nat.min_eq_left h]
  · rw [Nat.min_eq_right (by omega), List.take_length, List.take_of_length_le (by omega)]
theorem cut_drop {xs : List D} {k : Nat} : Cal.cutD xs (some (k : Int)) none = xs.drop k := by
  unfold Cal.cutD
  rw [HT.sIx_nat]
  show (xs.drop (min k xs.length)).take (xs.length - min k xs.length) = _
  rw [List.take_of_length_le (by rw [List.length_drop]; exact Nat.le_refl _)]
  by_cases h : k ≤ xs.length
  · rw [Nat.min_eq_left h]
  · rw [Nat.min_eq_right (by omega), List.drop_length, List.drop_of_length_le (by omega)]
/-! ### machines that are sound parts, and their == -/
def pairD (q : Int × Nat) : D := .tup [.int q.1, .int (q.2 : Int)]
def rowM (r : List (Int × Nat)) : D := .tup (r.map pairD)
def rowsM (rs : List (List (Int × Nat))) : D := .tup (rs.map rowM)
def machD (C : Addr) (base first : Int) (rs : List (List (Int × Nat))) : D := .ins C [("base", .int base), ("first", .int first), ("rows", rowsM rs)]
theorem lk_base {base first : Int} {rs : List (List (Int × Nat))} : List.lookup ("base" : Str) [(("base" : Str), D.int base), ("first", .int first), ("rows", rowsM rs)] = some (.int base) := by rfl
theorem lk_first {base first : Int} {rs : List (List (Int × Nat))} : List.lookup ("first" : Str) [(("base" : Str), D.int base), ("first", .int first), ("rows", rowsM rs)] = some (.int first) := by rfl
theorem lk_rows {base first : Int} {rs : List (List (Int × Nat))} : List.lookup ("rows" : Str) [(("base" : Str), D.int base), ("first", .int first), ("rows", rowsM rs)] = some (rowsM rs) := by rfl
theorem eqvL_map {α : Type} [DecidableEq α] {f : α → D} (h : ∀ a b, PyData.eqv (toPy (f a)) (toPy (f b)) = decide (a = b)) : ∀ xs ys : List α, PyData.eqvAll (toPyL (xs.map f)) (toPyL (ys.map f)) = decide (xs = ys)
  | [], [] => by rw [List.map_nil, toPyL, PyData.eqvAll]; rfl
  | [], y :: ys => by rw [List.map_nil, List.map_cons, toPyL, toPyL, PyData.eqvAll]; rfl
  | x :: xs, [] => by rw [List.map_nil, List.map_cons, toPyL, toPyL, PyData.eqvAll]; rfl
  | x :: xs, y :: ys => by
    rw [List.map_cons, List.map_cons, toPyL, toPyL, PyData.eqvAll, eqvL_map h xs ys, h]
    by_cases e : x = y
    · by_cases e2 : xs = ys
      · rw [decide_eq_true e, decide_eq_true e2, decide_eq_true (by rw [e, e2])]; rfl
      · rw [decide_eq_true e, decide_eq_false e2, decide_eq_false (fun z => e2 (List.cons.inj z).2)]; rfl
    · rw [decide_eq_false e, decide_eq_false (fun z => e (List.cons.inj z).1)]; rfl
theorem eqv_tupM {α : Type} [DecidableEq α] {f : α → D} (h : ∀ a b, PyData.eqv (toPy (f a)) (toPy (f b)) = decide (a = b)) (xs ys : List α) : PyData.eqv (toPy (.tup (xs.map f))) (toPy (.tup (ys.map f))) = decide (xs = ys) := by
  rw [toPy, toPy, PyData.eqv]
  exact eqvL_map h xs ys
theorem eqv_pairD (a b : Int × Nat) : PyData.eqv (toPy (pairD a)) (toPy (pairD b)) = decide (a = b) := by
  have e := eqv_tupM (f := D.int) (fun i j => by rw [toPy, toPy]; exact eqv_int i j) [a.1, (a.2 : Int)] [b.1, (b.2 : Int)]
  refine e.trans ?_
  by_cases h : a = b
  · rw [decide_eq_true h, decide_eq_true (by rw [h])]
  · rw [decide_eq_false h]
    refine decide_eq_false fun z => h (Prod.ext (List.cons.inj z).1 ?_)
    have := (List.cons.inj (List.cons.inj z).2).1
    omega
theorem eqv_rowsM (a b : List (List (Int × Nat))) : PyData.eqv (toPy (rowsM a)) (toPy (rowsM b)) = decide (a = b) := eqv_tupM (fun x y => eqv_tupM eqv_pairD x y) a b
theorem layL_map {α : Type} {f : α → D} {k : Nat} (h : ∀ a, PyData.canLay0 (toPy (f a)) = true ∧ PyData.depth (toPy (f a)) ≤ k) : ∀ xs : List α, PyData.canLayAll0 (toPyL (xs.map f)) = true ∧ PyData.depthAll (toPyL (xs.map f)) ≤ k
  | [] => ⟨by rw [List.map_nil, toPyL, PyData.canLayAll0], by rw [List.map_nil, toPyL, PyData.depthAll]; exact Nat.zero_le _⟩
  | x :: xs => by
    obtain ⟨h1, h2⟩ := layL_map h xs
    obtain ⟨h3, h4⟩ := h x
    rw [List.map_cons, toPyL]
    exact ⟨by rw [PyData.canLayAll0, h1, h3]; rfl, by rw [PyData.depthAll]; exact Nat.max_le.mpr ⟨h4, h2⟩⟩
theorem lay_tupM {α : Type} {f : α → D} {k : Nat} (h : ∀ a, PyData.canLay0 (toPy (f a)) = true ∧ PyData.depth (toPy (f a)) ≤ k) (xs : List α) : PyData.canLay0 (toPy (.tup (xs.map f))) = true ∧ PyData.depth (toPy (.tup (xs.map f))) ≤ k + 1 := by
  obtain ⟨h1, h2⟩ := layL_map h xs
  rw [toPy, PyData.canLay0, PyData.depth]
  exact ⟨h1, by omega⟩
theorem rows_shaped (rs : List (List (Int × Nat))) : SeqAt.shaped (toPy (rowsM rs)) = true := by
  have h := lay_tupM (k := 2) (fun r => lay_tupM (k := 1) (f := pairD) (fun q => lay_tupM (k := 0) (f := D.int) (fun i => ⟨by rw [toPy, PyData.canLay0], by rw [toPy, PyData.depth]; exact Nat.le_refl 0⟩) [q.1, (q.2 : Int)]) r) rs
  obtain ⟨h1, h2⟩ := h
  have e1 : PyData.canLay0 (toPy (rowsM rs)) = true := h1
  have e2 : PyData.depth (toPy (rowsM rs)) ≤ 2 + 1 := h2
  unfold SeqAt.shaped
  rw [e1, decide_eq_true (by omega)]
  rfl
theorem rows_cmp (rs : List (List (Int × Nat))) : Cmp (rowsM rs) := .tup fun x hx => by
  obtain ⟨r, _, rfl⟩ := List.mem_map.mp hx
  refine .tup fun y hy => ?_
  obtain ⟨q, _, rfl⟩ := List.mem_map.mp hy
  refine .tup fun z hz => ?_
  simp only [List.mem_cons, List.not_mem_nil, or_false] at hz
  rcases hz with rfl | rfl
  · exact .int _
  · exact .int _
def S_Machine_eq : Addr → List D → (D → Prop) → Prop := fun C ds R => ∃ (base first : Int) (rs : List (List (Int × Nat))) (y : D) (t : Value), ds = [machD C base first rs, y] ∧ TyW C y t ∧
  (isIns y = false → R (.bl false)) ∧ (isIns y = true → ∃ (b f : Int) (zs : List (List (Int × Nat))), y = machD C b f zs ∧ R (.bl (decide (base = b) && (decide (first = f) && decide (rs = zs)))))
theorem l_Machine_eq : ∀ C ds R, S_Machine_eq C ds R → ds.length = 2 := fun C ds R ⟨_, _, _, _, _, e, _⟩ => by rw [e]; rfl
theorem d_Machine_eq (T : Txt K mg) : ∃ C, mg "Machine" = some (.ref C) ∧ EqF K C ∧ MDfn P w K mg bs 1 C "__eq__" ["self", "other"] (S_Machine_eq C) := by
  refine mkM (k := 0) T.s_Machine_eq sc_Machine_eq (fun _ _ _ _ _ _ us hl => match us, hl with | [_, _], _ => rfl) l_Machine_eq fun C_Machine f cdv A outer s H E gC_Machine kE hr => ?_
  have hu := hu_of hr
  refine ⟨_, (pss_cons (ps_if (pt_not (pt_val (pe_callB (call_isiK0 (K0 := K) (by rfl)) (by rfl) T.n_isinstance (by decide +kernel) (pa_cons (pv 1) (pa_cons (pe_glob (v := .ref C_Machine) (by rfl) gC_Machine rfl) pa_nil))))) (pss_one (ps_ret pe_bl)) pss_nil)
      (pss_one (ps_ret (pe_and (pe_cmpR op_eq (pe_fld (pv 0) rfl) (pe_fld (pv 1) rfl) (nomark _)) (pe_and (pe_cmpR op_eq (pe_fld (pv 0) rfl) (pe_fld (pv 1) rfl) (nomark _)) (pe_one (pe_cmpR (op_eqK (K0 := K) (by rfl) hr.units) (pe_fld (pv 0) rfl) (pe_fld (pv 1) rfl) (nomark _)))))))), fun h H0 G0 ds R hS => ?_⟩
  obtain ⟨base, first, rs, y, t, rfl, ty, h0, h1⟩ := hS
  refine ws_seq (ws_if (wt_not (wt_B (we_isiC kE (we_var rfl ⟨t, _, ty, kit_own kE ty, _, rfl, ?_⟩)))))
  cases hb : isIns y with
  | false => exact ws_ret (we_bl (h0 hb))
  | true =>
    obtain ⟨b, f, zs, rfl, hR⟩ := h1 hb
    refine ws_next (ws_ret (we_andV (we_eqI (we_fld (we_var rfl ⟨_, _, _, rfl, lk_base, _, rfl, we_fld (we_var rfl ⟨_, _, _, rfl, lk_base, _, rfl, _, rfl, fun e1 => ?_, fun e1 => ?_⟩)⟩)))))
    · rw [e1, Bool.true_and] at hR
      refine we_andV (we_eqI (we_fld (we_var rfl ⟨_, _, _, rfl, lk_first, _, rfl, we_fld (we_var rfl ⟨_, _, _, rfl, lk_first, _, rfl, _, rfl, fun e2 => ?_, fun e2 => ?_⟩)⟩)))
      · rw [e2, Bool.true_and] at hR
        refine we_eqD (we_fld (we_var rfl ⟨_, _, _, rfl, lk_rows, rows_cmp rs, rows_shaped rs, we_fld (we_var rfl ⟨_, _, _, rfl, lk_rows, rows_cmp zs, rows_shaped zs, ?_⟩)⟩))
        rw [eqv_rowsM]
        exact hR
      · rw [e2, Bool.false_and] at hR
        exact hR
    · rw [e1, Bool.false_and] at hR
      exact hR
def S_law_made (mg : Str → Option Value) : List D → (D → Prop) → Prop := fun ds R => ∃ b f r : D, ds = [.lst [b, f, r]] ∧ Ty b ∧ Ty f ∧ TyN 3 r ∧ (partsBad b f r = none → ∀ C, mg "Machine" = some (.ref C) → R (.ins C [("base", b), ("first", f), ("rows", r)])) ∧ ∀ y, partsBad b f r = some y → R (.tup [y])
theorem l_law_made (mg : Str → Option Value) : ∀ ds R, S_law_made mg ds R → ds.length = 1 := fun ds R ⟨_, _, _, e, _⟩ => by rw [e]; rfl
theorem d_law_made (T : Txt K mg) : Dfn P w K mg bs 8 "_law_made" ["parts"] (S_law_made mg) := by
  obtain ⟨C_Machine, gC_Machine, kC_Machine, nC_Machine, M_Machine⟩ := d_Machine (P := P) (w := w) (bs := bs) T
  obtain ⟨C_BadMachine, X_BadMachine⟩ := x_BadMachine (P := P) (w := w) (bs := bs) T
  refine mkD (k := 7) T.s_law_made sc_law_made (fun _ _ _ _ _ _ us hl => match us, hl with | [_], _ => rfl) (l_law_made mg) fun f cdv A outer s H E hr => ?_
  have hu := hu_of hr
  refine ⟨_, (pss_one (ps_try_as (i := 1) (tb := fun W => tRet (tMake C_Machine (spMk K mg C_Machine S_Machine) [] (fun cls d H' => ∀ σ' : L2.St, σ'.length = 2 → W cls d σ' H') (tCons (tOp (rIxL K) (tVar 0) (tC (.int 0))) (tCons (tOp (rIxL K) (tVar 0) (tC (.int 1))) (tCons (tOp (rIxL K) (tVar 0) (tC (.int 2))) tNil))))) (ts := fun a cls d => tRet (tTup (tCons (tXf a cls d C_BadMachine "part" (tVar 1)) tNil))) (Wout := fun _ _ _ _ => False) rfl rfl sc_law_made.nd rfl rfl ⟨rfl, by decide, Or.inl X_BadMachine.gC⟩ takes0 (fun W pn xe tk _ => pss_one (ps_ret (by exact pe_mkX M_Machine (hr.mono (by decide)) tk rfl (pa_cons (pe_ix (ix_listK (K0 := K) (by rfl)) (pv 0) pe_int (fun _ _ => rfl)) (pa_cons (pe_ix (ix_listK (K0 := K) (by rfl)) (pv 0) pe_int (fun _ _ => rfl)) (pa_cons (pe_ix (ix_listK (K0 := K) (by rfl)) (pv 0) pe_int (fun _ _ => rfl)) pa_nil)))))) (fun a oe cls d pn hz hf => pss_one (ps_ret (by exact pe_tup (pa_cons (pe_xf X_BadMachine.xf (X_BadMachine.no _ (by simp)) hz hf (pv 1)) pa_nil)))))), fun h H0 G0 ds R hS => ?_⟩
  obtain ⟨b, f, r, rfl, tb, tf, tr, hok, hbad⟩ := hS
  have at0 : atI [b, f, r] (0 : Int) = some b := rfl
  have at1 : atI [b, f, r] (1 : Int) = some f := rfl
  have at2 : atI [b, f, r] (2 : Int) = some r := rfl
  refine ws_try_as (p := ⟨K, h, H0, G0⟩) (mg := mg) (tb := fun W => tRet (tMake C_Machine (spMk K mg C_Machine S_Machine) [] (fun cls d H' => ∀ σ' : L2.St, σ'.length = 2 → W cls d σ' H') (tCons (tOp (rIxL K) (tVar 0) (tC (.int 0))) (tCons (tOp (rIxL K) (tVar 0) (tC (.int 1))) (tCons (tOp (rIxL K) (tVar 0) (tC (.int 2))) tNil))))) (tsu := fun a cls d => tRet (tTup (tCons (tXf a cls d C_BadMachine "part" (tVar 1)) tNil))) (c := .ref C_BadMachine) (i := 1) (Wout := fun _ _ _ _ => False)
    (fun ρ' (x : Str) (fs : List (Str × D)) => x = "BadMachine" ∧ ∃ y, fs = [(("part" : Str), y)] ∧ R (.tup [y]) ∧ ρ'.length = 2) ?hc ?hb ?hs
  case hc =>
    rintro ρ' x fs C ⟨rfl, _⟩ hm
    have e := X_BadMachine.gC
    rw [hm] at e
    cases e
    exact X_BadMachine.te
  case hb =>
    intro W hW
    refine ws_ret (we_mkX (n := 2) hW (wa_cons (we_ixL (we_var rfl ⟨_, rfl, we_int ⟨_, _, rfl, at0, wa_cons (we_ixL (we_var rfl ⟨_, rfl, we_int ⟨_, _, rfl, at1, wa_cons (we_ixL (we_var rfl ⟨_, rfl, we_int ⟨_, _, rfl, at2, wa_nil ⟨b, f, r, rfl, tb, tf, tr, fun e => hok e _ gC_Machine, fun y e => ⟨rfl, y, rfl, hbad y e, rfl⟩⟩⟩⟩))⟩⟩))⟩⟩))))
  case hs =>
    rintro ρ' x fs a C d G1 ⟨rfl, y, rfl, hr2, hlen⟩ hm xr
    have e := X_BadMachine.gC
    rw [hm] at e
    cases e
    exact wsg_retf1 (by rw [List.getElem?_set_self (by omega)]) xr rfl hr2
/-! ### whether two things are the same -/
mutual
def isE : D → D → Bool
  | .int i, .int j => decide (i = j)
  | .str i, .str j => decide (i = j)
  | .tup xs, .tup ys => isEL xs ys
  | .lst xs, .lst ys => isEL xs ys
  | _, _ => false
def isEL : List D → List D → Bool
  | [], [] => true
  | x :: xs, y :: ys => isE x y && isEL xs ys
  | _, _ => false
end
/-- of integers, texts, tuples and lists, nested at most n deep, of like kinds at like places -/
inductive P3 : Nat → D → D → Prop
  | int (n : Nat) (i j : Int) : P3 n (.int i) (.int j)
  | str (n : Nat) (i j : Str) : P3 n (.str i) (.str j)
  | tup {n : Nat} {xs ys : List D} : xs.length ≤ 4000000 → (xs.length = ys.length → ∀ (k : Nat) (x y : D), xs[k]? = some x → ys[k]? = some y → P3 n x y) → P3 (n + 1) (.tup xs) (.tup ys)
  | lst {n : Nat} {xs ys : List D} : xs.length ≤ 4000000 → (xs.length = ys.length → ∀ (k : Nat) (x y : D), xs[k]? = some x → ys[k]? = some y → P3 n x y) → P3 (n + 1) (.lst xs) (.lst ys)
theorem isEL_ne : ∀ {xs ys : List D}, xs.length ≠ ys.length → isEL xs ys = false
  | [], [], h => absurd rfl h
  | x :: xs, y :: ys, h => by
    rw [isEL, isEL_ne (xs := xs) (ys := ys) fun e => h (by rw [List.length_cons, List.length_cons, e]), Bool.and_false]
  | [], y :: ys, h => by rw [isEL]; all_goals (intros; simp_all)
  | x :: xs, [], h => by rw [isEL]; all_goals (intros; simp_all)
theorem isEL_all : ∀ {xs ys : List D}, xs.length = ys.length → isEL xs ys = ((xs.zip ys).map fun z => isE z.1 z.2).all id
  | [], [], _ => by rw [isEL]; rfl
  | x :: xs, y :: ys, h => by
    rw [isEL, isEL_all (by simpa using h)]
    rfl
  | [], y :: ys, h => by cases h
  | x :: xs, [], h => by cases h
theorem kS_list : kitB "str" "list" = some false := by decide +kernel
theorem kS_tuple : kitB "str" "tuple" = some false := by decide +kernel
theorem kS_dict : kitB "str" "dict" = some false := by decide +kernel
theorem kS_bool : kitB "str" "bool" = some false := by decide +kernel
def S_law_is (n : Nat) : List D → (D → Prop) → Prop := fun ds R => ∃ x y : D, ds = [x, y] ∧ P3 n x y ∧ R (.bl (isE x y))
theorem l_law_is (n : Nat) : ∀ ds R, S_law_is n ds R → ds.length = 2 := fun ds R ⟨_, _, e, _⟩ => by rw [e]; rfl
def H_law_is (n : Nat) (S' : List D → (D → Prop) → Prop) : Prop := ∀ m x y R, n = m + 1 → P3 m x y → R (.bl (isE x y)) → S' [x, y] R
/-- the flags of the first k pairs -/
def isFl (xs ys : List D) (k : Nat) : List D := ((xs.zip ys).take k).map fun z => D.bl (isE z.1 z.2)
theorem isFl_succ {xs ys : List D} {k : Nat} {x y : D} (hx : xs[k]? = some x) (hy : ys[k]? = some y) : isFl xs ys (k + 1) = isFl xs ys k ++ [.bl (isE x y)] := by
  unfold isFl
  have e : (xs.zip ys)[k]? = some (x, y) := List.getElem?_zip_eq_some.mpr ⟨hx, hy⟩
  rw [List.take_succ, e, List.map_append]
  rfl
theorem st_law_is {k n : Nat} {S' : List D → (D → Prop) → Prop} (T : Txt K mg) (D_law_is : Dfn P w K mg bs k "_law_is" ["one", "other"] S') (hS' : H_law_is n S') : Dfn P w K mg bs (k + 1) "_law_is" ["one", "other"] (S_law_is n) := by
  refine mkD (k := k) T.s_law_is sc_law_is (fun _ _ _ _ _ _ us hl => match us, hl with | [_, _], _ => rfl) (l_law_is n) fun f cdv A outer s H E hr => ?_
  have hu := hu_of hr
  refine ⟨_, (pss_cons (ps_if (PW.pt (pw_and (pt_val (pe_callB (call_isiTK (K0 := K) (by rfl)) (by rfl) T.n_isinstance (by decide +kernel) (pa_cons (pv 0) (pa_cons (pe_tup (pa_cons (pe_bltn (v := .ty "list") (by rfl) T.n_list (by decide +kernel) rfl) (pa_cons (pe_bltn (v := .ty "tuple") (by rfl) T.n_tuple (by decide +kernel) rfl) pa_nil))) pa_nil)))) (pw_and1 (pt_val (pe_callB (call_isiTK (K0 := K) (by rfl)) (by rfl) T.n_isinstance (by decide +kernel) (pa_cons (pv 1) (pa_cons (pe_tup (pa_cons (pe_bltn (v := .ty "list") (by rfl) T.n_list (by decide +kernel) rfl) (pa_cons (pe_bltn (v := .ty "tuple") (by rfl) T.n_tuple (by decide +kernel) rfl) pa_nil))) pa_nil))))))) (pss_cons (ps_if (PW.pt (pw_or (pt_cmpR op_ne (pe_callB (call_isiK0 (K0 := K) (by rfl)) (by rfl) T.n_isinstance (by decide +kernel) (pa_cons (pv 0) (pa_cons (pe_bltn (v := .ty "tuple") (by rfl) T.n_tuple (by decide +kernel) rfl) pa_nil))) (pe_callB (call_isiK0 (K0 := K) (by rfl)) (by rfl) T.n_isinstance (by decide +kernel) (pa_cons (pv 1) (pa_cons (pe_bltn (v := .ty "tuple") (by rfl) T.n_tuple (by decide +kernel) rfl) pa_nil))) (nomark _)) (pw_or1 (pt_cmpR op_ne (pe_callB (call_lenK (K0 := K) (by rfl)) (by rfl) T.n_len (by decide +kernel) (pa_cons (pv 0) pa_nil)) (pe_callB (call_lenK (K0 := K) (by rfl)) (by rfl) T.n_len (by decide +kernel) (pa_cons (pv 1) pa_nil)) (nomark _))))) (pss_one (ps_ret pe_bl)) pss_nil)
      (pss_one (ps_ret (pe_callB (cr_all rfl) (by rfl) T.n_all (by decide +kernel) (pa_cons (pe_lc (own := [("here", 2), ("there", 3)]) (g := (gTup K 2 (gCons (gName 2) (gCons (gName 3) gNil)))) rfl sc_law_is.nd (RZ.pi_zipA (by rfl) T.n_zip (pa_cons (pv 0) (pa_cons (pv 1) pa_nil))) (blkOk_by (N := N_law_is) (sc := defScope s_law_is) (by decide +kernel)) (fun _ _ _ _ _ => by exact (pg_tup rfl (pgs_cons (pg_name (i := 2) sc_law_is.nd rfl (Or.inl rfl)) (pgs_cons (pg_name (i := 3) sc_law_is.nd rfl (Or.inl rfl)) pgs_nil)))) (fun _ _ _ _ _ => by exact pts_nil) (fun _ _ _ _ _ => by exact (pe_callK0 (K0 := K) (by rfl) D_law_is (hr.mono (Nat.le_refl _)) (pa_cons (pv 2) (pa_cons (pv 3) pa_nil))))) pa_nil))))) pss_nil)
      (pss_cons (ps_if (PW.pt (pw_and (pt_val (pe_callB (call_isiK0 (K0 := K) (by rfl)) (by rfl) T.n_isinstance (by decide +kernel) (pa_cons (pv 0) (pa_cons (pe_bltn (v := .ty "dict") (by rfl) T.n_dict (by decide +kernel) rfl) pa_nil)))) (pw_and1 (pt_val (pe_callB (call_isiK0 (K0 := K) (by rfl)) (by rfl) T.n_isinstance (by decide +kernel) (pa_cons (pv 1) (pa_cons (pe_bltn (v := .ty "dict") (by rfl) T.n_dict (by decide +kernel) rfl) pa_nil))))))) pss_never pss_nil)
      (pss_one (ps_ret (pe_and (pe_cmpR op_eq (pe_callB (call_isiK0 (K0 := K) (by rfl)) (by rfl) T.n_isinstance (by decide +kernel) (pa_cons (pv 0) (pa_cons (pe_bltn (v := .ty "bool") (by rfl) T.n_bool (by decide +kernel) rfl) pa_nil))) (pe_callB (call_isiK0 (K0 := K) (by rfl)) (by rfl) T.n_isinstance (by decide +kernel) (pa_cons (pv 1) (pa_cons (pe_bltn (v := .ty "bool") (by rfl) T.n_bool (by decide +kernel) rfl) pa_nil))) (nomark _)) (pe_one (pe_cmpR op_eq (pv 0) (pv 1) (nomark _)))))))), fun h H0 G0 ds R hS => ?_⟩
  obtain ⟨x, y, rfl, pxy, hR⟩ := hS
  cases pxy with
  | int _ i j =>
    refine ws_seq (ws_if (wt_and (wt_B (we_isiT (we_var rfl ⟨_, false, false, rfl, kb_int_list, kb_int_tuple, _, rfl, fun h => absurd h (by decide), fun _ => ?_⟩)))))
    rw [if_neg (by decide)]
    refine ws_next (ws_seq (ws_if (wt_and (wt_B (we_isi (we_var rfl ⟨_, false, rfl, kb_int_dict, _, rfl, fun h => absurd h (by decide), fun _ => ?_⟩))))))
    rw [if_neg (by decide)]
    refine ws_next (ws_ret (we_andV (we_eqB (we_isi (we_var rfl ⟨_, false, rfl, kb_int_bool, _, rfl, we_isi (we_var rfl ⟨_, false, rfl, kb_int_bool, _, rfl, _, rfl, fun _ => ?_, fun h => absurd h (by decide)⟩)⟩)))))
    rw [isE] at hR
    exact we_eqI (we_var rfl ⟨_, rfl, we_var rfl ⟨_, rfl, hR⟩⟩)
  | str _ i j =>
    refine ws_seq (ws_if (wt_and (wt_B (we_isiT (we_var rfl ⟨_, false, false, rfl, kS_list, kS_tuple, _, rfl, fun h => absurd h (by decide), fun _ => ?_⟩)))))
    rw [if_neg (by decide)]
    refine ws_next (ws_seq (ws_if (wt_and (wt_B (we_isi (we_var rfl ⟨_, false, rfl, kS_dict, _, rfl, fun h => absurd h (by decide), fun _ => ?_⟩))))))
    rw [if_neg (by decide)]
    refine ws_next (ws_ret (we_andV (we_eqB (we_isi (we_var rfl ⟨_, false, rfl, kS_bool, _, rfl, we_isi (we_var rfl ⟨_, false, rfl, kS_bool, _, rfl, _, rfl, fun _ => ?_, fun h => absurd h (by decide)⟩)⟩)))))
    rw [isE] at hR
    exact we_eqS (we_var rfl ⟨_, rfl, we_var rfl ⟨_, rfl, hR⟩⟩)
  | @tup m xs ys hl hp =>
    rw [isE] at hR
    refine ws_seq (ws_if (wt_and (wt_B (we_isiT (we_var rfl ⟨_, false, true, rfl, kb_tuple_list, kb_tuple_tuple, _, rfl, fun _ => ?_, fun h => absurd h (by decide)⟩)))))
    refine wt_B (we_isiT (we_var rfl ⟨_, false, true, rfl, kb_tuple_list, kb_tuple_tuple, _, rfl, ?_⟩))
    rw [if_pos (by rfl)]
    refine ws_seq (ws_if (wt_or (wt_T (we_neB (we_isi (we_var rfl ⟨_, _, rfl, kb_tuple_tuple, _, rfl, we_isi (we_var rfl ⟨_, _, rfl, kb_tuple_tuple, _, rfl, _, rfl, fun _ => ?_, fun h => absurd h (by decide)⟩)⟩))))))
    refine wt_T (we_neI (we_len (we_var rfl ⟨_, .inr rfl, _, rfl, we_len (we_var rfl ⟨_, .inr rfl, _, rfl, _, rfl, ?_⟩)⟩)))
    by_cases he : xs.length = ys.length
    · rw [if_neg (by rw [he, decide_eq_true rfl]; decide)]
      refine ws_next (ws_ret (we_all (we_F (wf_lcZip (wa_cons (we_var rfl (wa_cons (we_var rfl (wa_nil ⟨xs, ys, .inr rfl, he, hl, fun k acc => acc = isFl xs ys k, rfl, ?_, ?_⟩)))))))))
      · rintro k x y acc hx hy rfl hle
        refine wgp_tup ⟨_, rfl, rfl, wgps_cons ⟨_, _, rfl, wgp_name (by decide) (wgps_cons ⟨_, _, rfl, wgp_name (by decide) (wgps_nil ⟨rfl, wt_yes ?_⟩)⟩)⟩⟩
        rw [if_pos rfl]
        exact we_call (wa_cons (we_var rfl (wa_cons (we_var rfl (wa_nil (hS' m x y _ rfl (hp he k x y hx hy) (isFl_succ hx hy).symm))))))
      · rintro acc rfl
        refine ⟨(xs.zip ys).map fun z => isE z.1 z.2, ?_, ?_⟩
        · unfold isFl
          rw [List.take_of_length_le (by rw [List.length_zip]; omega)]
          show D.lst _ = D.lst _
          rw [List.map_map]; rfl
        · rw [← isEL_all he]; exact hR
    · rw [if_pos (by rw [decide_eq_false (by omega)]; rfl)]
      rw [isEL_ne he] at hR
      exact ws_ret (we_bl hR)
  | @lst m xs ys hl hp =>
    rw [isE] at hR
    refine ws_seq (ws_if (wt_and (wt_B (we_isiT (we_var rfl ⟨_, true, false, rfl, kb_list_list, kb_list_tuple, _, rfl, fun _ => ?_, fun h => absurd h (by decide)⟩)))))
    refine wt_B (we_isiT (we_var rfl ⟨_, true, false, rfl, kb_list_list, kb_list_tuple, _, rfl, ?_⟩))
    rw [if_pos (by rfl)]
    refine ws_seq (ws_if (wt_or (wt_T (we_neB (we_isi (we_var rfl ⟨_, _, rfl, kb_list_tuple, _, rfl, we_isi (we_var rfl ⟨_, _, rfl, kb_list_tuple, _, rfl, _, rfl, fun _ => ?_, fun h => absurd h (by decide)⟩)⟩))))))
    refine wt_T (we_neI (we_len (we_var rfl ⟨_, .inl rfl, _, rfl, we_len (we_var rfl ⟨_, .inl rfl, _, rfl, _, rfl, ?_⟩)⟩)))
    by_cases he : xs.length = ys.length
    · rw [if_neg (by rw [he, decide_eq_true rfl]; decide)]
      refine ws_next (ws_ret (we_all (we_F (wf_lcZip (wa_cons (we_var rfl (wa_cons (we_var rfl (wa_nil ⟨xs, ys, .inl rfl, he, hl, fun k acc => acc = isFl xs ys k, rfl, ?_, ?_⟩)))))))))
      · rintro k x y acc hx hy rfl hle
        refine wgp_tup ⟨_, rfl, rfl, wgps_cons ⟨_, _, rfl, wgp_name (by decide) (wgps_cons ⟨_, _, rfl, wgp_name (by decide) (wgps_nil ⟨rfl, wt_yes ?_⟩)⟩)⟩⟩
        rw [if_pos rfl]
        exact we_call (wa_cons (we_var rfl (wa_cons (we_var rfl (wa_nil (hS' m x y _ rfl (hp he k x y hx hy) (isFl_succ hx hy).symm))))))
      · rintro acc rfl
        refine ⟨(xs.zip ys).map fun z => isE z.1 z.2, ?_, ?_⟩
        · unfold isFl
          rw [List.take_of_length_le (by rw [List.length_zip]; omega)]
          show D.lst _ = D.lst _
          rw [List.map_map]; rfl
        · rw [← isEL_all he]; exact hR
    · rw [if_pos (by rw [decide_eq_false (by omega)]; rfl)]
      rw [isEL_ne he] at hR
      exact ws_ret (we_bl hR)
theorem d_law_is (T : Txt K mg) : ∀ n : Nat, Dfn P w K mg bs (n + 1) "_law_is" ["one", "other"] (S_law_is n)
  | 0 => st_law_is T (Dfn.none T.s_law_is 0 (fun _ _ _ _ _ _ us hl => match us, hl with | [_, _], _ => rfl)) fun m x y R e => by omega
  | n + 1 => st_law_is T (d_law_is T n) fun m x y R e pxy hR => by
      have e' : n = m := by omega
      subst e'
      exact ⟨x, y, rfl, pxy, hR⟩
/-! ### integers -/
def S_law_is_int : List D → (D → Prop) → Prop := fun ds R => ∃ x, ds = [x] ∧ Ty x ∧ R (.bl (isI x))
theorem l_law_is_int : ∀ ds R, S_law_is_int ds R → ds.length = 1 := fun ds R ⟨_, e, _⟩ => by rw [e]; rfl
theorem d_law_is_int (T : Txt K mg) : Dfn P w K mg bs 1 "_law_is_int" ["thing"] S_law_is_int := by
  refine mkD (k := 0) T.s_law_is_int sc_law_is_int (fun _ _ _ _ _ _ us hl => match us, hl with | [_], _ => rfl) l_law_is_int fun f cdv A outer s H E hr => ?_
  have hu := hu_of hr
  refine ⟨_, (pss_one (ps_ret (pe_and (pe_callB (call_isiK0 (K0 := K) (by rfl)) (by rfl) T.n_isinstance (by decide +kernel) (pa_cons (pv 0) (pa_cons (pe_bltn (v := .ty "int") (by rfl) T.n_int (by decide +kernel) rfl) pa_nil))) (pe_one (pe_not (pe_callB (call_isiK0 (K0 := K) (by rfl)) (by rfl) T.n_isinstance (by decide +kernel) (pa_cons (pv 0) (pa_cons (pe_bltn (v := .ty "bool") (by rfl) T.n_bool (by decide +kernel) rfl) pa_nil)))))))), fun h H0 G0 ds R hS => ?_⟩
  obtain ⟨x, rfl, ⟨t, ht⟩, hR⟩ := hS
  refine ws_ret (we_andV (we_isi (we_var rfl ⟨t, _, ht, kb_int ht, _, rfl, fun hb => ?_, fun hb => ?_⟩)))
  · refine we_notV (we_isi (we_var rfl ⟨t, _, ht, kb_bool ht, _, rfl, ?_⟩))
    have e : (!isBl x) = isI x := by cases x <;> first | rfl | cases hb
    rw [e]; exact hR
  · have e : isI x = false := by cases x <;> first | rfl | cases hb
    rw [e] at hR; exact hR
/-! ### this law's own judge of parts -/
theorem pairOk_int {n : Nat} {i j : Int} : pairOk n (.tup [.int i, .int j]) = (decide (0 ≤ j) && decide (j < n)) := by
  show (true && (decide (0 ≤ j) && decide (j ≤ (n : Int) - 1))) = _
  rw [Bool.true_and]
  congr 1
  by_cases h : j < n
  · rw [decide_eq_true h, decide_eq_true (by omega)]
  · rw [decide_eq_false h, decide_eq_false (by omega)]
theorem rowOk_no {base : Int} {n k : Nat} {xs : List D} {y : D} (h : xs[k]? = some y) (hy : pairOk n y = false) : rowOk base n (.tup xs) = false := by
  unfold rowOk
  have e : (tupL (.tup xs)).all (pairOk n) = false := by
    refine List.all_eq_false.mpr ⟨y, List.mem_of_getElem? h, ?_⟩
    rw [hy]
    decide
  rw [e, Bool.and_false]
def S_law_is_row : List D → (D → Prop) → Prop := fun ds R => ∃ (base : Int) (n : Nat) (x : D), ds = [.int base, .int (n : Int), x] ∧ 0 ≤ base ∧ base ≤ 5 ∧ TyN 2 x ∧ R (.bl (rowOk base n x))
theorem l_law_is_row : ∀ ds R, S_law_is_row ds R → ds.length = 3 := fun ds R ⟨_, _, _, e, _⟩ => by rw [e]; rfl
theorem d_law_is_row (T : Txt K mg) : Dfn P w K mg bs 2 "_law_is_row" ["base", "many", "thing"] S_law_is_row := by
  have D_law_is_int := d_law_is_int (P := P) (w := w) (bs := bs) T
  refine mkD (k := 1) T.s_law_is_row sc_law_is_row (fun _ _ _ _ _ _ us hl => match us, hl with | [_, _, _], _ => rfl) l_law_is_row fun f cdv A outer s H E hr => ?_
  have hu := hu_of hr
  refine ⟨_, (pss_cons (ps_if (PW.pt (pw_or (pt_not (pt_val (pe_callB (call_isiK0 (K0 := K) (by rfl)) (by rfl) T.n_isinstance (by decide +kernel) (pa_cons (pv 2) (pa_cons (pe_bltn (v := .ty "tuple") (by rfl) T.n_tuple (by decide +kernel) rfl) pa_nil))))) (pw_or1 (pt_cmpR op_ne (pe_callB (call_lenK (K0 := K) (by rfl)) (by rfl) T.n_len (by decide +kernel) (pa_cons (pv 2) pa_nil)) (pe_op op_sub (pe_op op_mulA pe_int (pv 0)) pe_int) (nomark _))))) (pss_one (ps_ret pe_bl)) pss_nil)
      (pss_cons (ps_for PassesOwn.never rfl (pi_tupK (K0 := K) (by rfl) (pv 2)) (pg_name (i := 3) sc_law_is_row.nd rfl (Or.inl rfl))
      (pss_cons (ps_if (PW.pt (pw_or (pt_not (pt_val (pe_callB (call_isiK0 (K0 := K) (by rfl)) (by rfl) T.n_isinstance (by decide +kernel) (pa_cons (pv 3) (pa_cons (pe_bltn (v := .ty "tuple") (by rfl) T.n_tuple (by decide +kernel) rfl) pa_nil))))) (pw_or (pt_cmpR op_ne (pe_callB (call_lenK (K0 := K) (by rfl)) (by rfl) T.n_len (by decide +kernel) (pa_cons (pv 3) pa_nil)) pe_int (nomark _)) (pw_or (pt_not (pt_val (pe_callK0 (K0 := K) (by rfl) D_law_is_int (hr.mono (by decide)) (pa_cons (pe_ix (ix_tupK (K0 := K) (by rfl)) (pv 3) pe_int (fun _ _ => rfl)) pa_nil)))) (pw_or1 (pt_not (pt_val (pe_callK0 (K0 := K) (by rfl) D_law_is_int (hr.mono (by decide)) (pa_cons (pe_ix (ix_tupK (K0 := K) (by rfl)) (pv 3) pe_int (fun _ _ => rfl)) pa_nil))))))))) (pss_one (ps_ret pe_bl)) pss_nil)
      (pss_one (ps_if (pt_not (pt_chain op_le op_lt pe_int (pe_ix (ix_tupK (K0 := K) (by rfl)) (pv 3) pe_int (fun _ _ => rfl)) (pv 1))) (pss_one (ps_ret pe_bl)) pss_nil))))
      (pss_one (ps_ret pe_bl)))), fun h H0 G0 ds R hS => ?_⟩
  obtain ⟨base, n, x, rfl, hb0, hb5, ⟨⟨t, ht⟩, hx⟩, hR⟩ := hS
  refine ws_seq (ws_if (wt_or (wt_not (wt_B (we_isi (we_var rfl ⟨t, _, ht, kb_tuple ht, _, rfl, fun hb => ?_, fun hb => ?_⟩))))))
  · obtain ⟨xs, rfl⟩ : ∃ xs, x = D.tup xs := by cases x <;> first | exact ⟨_, rfl⟩ | cases hb
    obtain ⟨hl, hit⟩ := hx xs rfl
    refine wt_T (we_neI (we_len (we_var rfl ⟨_, .inr rfl, _, rfl, we_I0 (we_I (we_int ⟨_, rfl, we_var rfl ⟨_, rfl, .inl (by omega), _, rfl, we_int ⟨_, rfl, _, rfl, _, rfl, ?_⟩⟩⟩))⟩)))
    refine ite2 (fun hn => ?_) (fun hn => ?_)
    · have e : tupOf (2 * base - 1) (.tup xs) = false := by
        show decide ((xs.length : Int) = 2 * base - 1) = false
        simpa using hn
      unfold rowOk at hR
      rw [e, Bool.false_and] at hR
      exact ws_ret (we_bl hR)
    have e : tupOf (2 * base - 1) (.tup xs) = true := by
      show decide ((xs.length : Int) = 2 * base - 1) = true
      simpa using hn
    refine ws_next (ws_seq (ws_forT (we_var rfl ⟨xs, rfl, fun k ρ => ∃ r3 : Option Cell, (∀ y ∈ xs.take k, pairOk n y = true) ∧ ρ = [some (.d (.int base)), some (.d (.int (n : Int))), some (.d (.tup xs)), r3], ⟨_, (fun y hy => by rw [List.take_zero] at hy; cases hy), rfl⟩, ?_, ?_⟩)))
    · rintro k y ρ hk ⟨r3, hgood, rfl⟩
      obtain ⟨⟨ty, hty⟩, hit2⟩ := hit y (List.mem_of_getElem? hk)
      have no : pairOk n y = false → R (.bl false) := fun h => by rw [rowOk_no hk h] at hR; exact hR
      refine wg_name (ws_seq (ws_if (wt_or (wt_not (wt_B (we_isi (we_var rfl ⟨ty, _, hty, kb_tuple hty, _, rfl, fun hb => ?_, fun hb => ?_⟩)))))))
      · obtain ⟨zs, rfl⟩ : ∃ zs, y = D.tup zs := by cases y <;> first | exact ⟨_, rfl⟩ | cases hb
        refine wt_or (wt_T (we_neI (we_len (we_var rfl ⟨_, .inr rfl, _, rfl, we_int ⟨_, rfl, _, rfl, fun hn2 => ?_, fun hn2 => ?_⟩⟩))))
        · have h2 : decide ((zs.length : Int) = 2) = true := by simpa using hn2
          have hl2 := of_decide_eq_true h2
          obtain ⟨a, b, rfl⟩ : ∃ a b, zs = [a, b] := by
            match zs, hl2 with
            | [a, b], _ => exact ⟨a, b, rfl⟩
            | [], h => exact absurd h (by decide)
            | [a], h => simp only [List.length_cons, List.length_nil] at h; omega
            | a :: b :: c :: r, h => simp only [List.length_cons] at h; omega
          have ha : Ty a := (hit2 _ rfl).2 a (by simp)
          have hb2 : Ty b := (hit2 _ rfl).2 b (by simp)
          refine wt_or (wt_not (wt_B (we_call (wa_cons (we_ixT (we_var rfl ⟨_, rfl, we_int ⟨0, _, rfl, rfl, wa_nil ⟨a, rfl, ha, _, rfl, fun h1 => ?_, fun h1 => ?_⟩⟩⟩))))))
          · obtain ⟨i, rfl⟩ : ∃ i, a = D.int i := by cases a <;> first | exact ⟨_, rfl⟩ | cases h1
            refine wt_not (wt_B (we_call (wa_cons (we_ixT (we_var rfl ⟨_, rfl, we_int ⟨1, _, rfl, rfl, wa_nil ⟨b, rfl, hb2, _, rfl, ?_⟩⟩⟩)))))
            refine ite2 (fun h2 => ?_) (fun h2 => ?_)
            · refine ws_ret (we_bl (no ?_))
              cases b <;> first | rfl | cases h2
            · obtain ⟨j, rfl⟩ : ∃ j, b = D.int j := by cases b <;> first | exact ⟨_, rfl⟩ | exact absurd rfl h2
              refine ws_next (ws_if (wt_not (wt_T (we_chain (we_int ⟨_, rfl, we_ixT (we_var rfl ⟨_, rfl, we_int ⟨1, _, rfl, rfl, _, rfl, fun h3 => we_var rfl ⟨_, rfl, _, rfl, ?_⟩, fun h3 => ⟨_, rfl, ?_⟩⟩⟩)⟩)))))
              · refine ite2 (fun h4 => ?_) (fun h4 => ?_)
                · refine ws_ret (we_bl (no ?_))
                  rw [pairOk_int, h3, Bool.true_and]
                  simpa using h4
                · refine ws_next ⟨_, fun z hz => ?_, rfl⟩
                  rw [List.take_succ, hk] at hz
                  rcases List.mem_append.mp hz with h | h
                  · exact hgood z h
                  · rw [List.mem_singleton.mp h, pairOk_int, h3, Bool.true_and]
                    simpa using h4
              · rw [if_pos (by rfl)]
                refine ws_ret (we_bl (no ?_))
                rw [pairOk_int, h3, Bool.false_and]
          · rw [if_pos rfl]
            refine ws_ret (we_bl (no ?_))
            cases a <;> first | rfl | cases h1
        · rw [if_pos rfl]
          refine ws_ret (we_bl (no (pairOk_no ?_)))
          show decide ((zs.length : Int) = 2) = false
          simpa using hn2
      · rw [if_pos rfl]
        refine ws_ret (we_bl (no (pairOk_no ?_)))
        cases y <;> first | rfl | cases hb
    · rintro ρ ⟨r3, hgood, rfl⟩
      rw [List.take_length] at hgood
      refine ws_ret (we_bl ?_)
      have e2 : rowOk base n (.tup xs) = true := by
        unfold rowOk
        rw [e, Bool.true_and]
        exact List.all_eq_true.mpr hgood
      rw [e2] at hR
      exact hR
  · rw [if_pos rfl]
    have e : rowOk base n x = false := by
      unfold rowOk
      have : tupOf (2 * base - 1) x = false := by cases x <;> first | rfl | cases hb
      rw [this, Bool.false_and]
    rw [e] at hR
    exact ws_ret (we_bl hR)
theorem partsBad_step {base : Int} {f r : D} (hb : within 2 5 (.int base) = true) (hf : isI f = true) : partsBad (.int base) f r = match r with
    | .tup xs => if xs = [] then some (.str "rows") else (xs.findIdx? fun y => !rowOk base xs.length y).map fun (s : Nat) => D.int ((s : Nat) : Int)
    | _ => some (.str "rows") := by
  unfold partsBad
  rw [if_neg (by rw [hb]; decide), if_neg (by rw [hf]; decide)]
  cases r <;> rfl
def S_law_due : List D → (D → Prop) → Prop := fun ds R => ∃ b f r : D, ds = [.lst [b, f, r]] ∧ Ty b ∧ Ty f ∧ TyN 3 r ∧ R ((partsBad b f r).getD .non)
theorem l_law_due : ∀ ds R, S_law_due ds R → ds.length = 1 := fun ds R ⟨_, _, _, e, _⟩ => by rw [e]; rfl
theorem d_law_due (T : Txt K mg) : Dfn P w K mg bs 3 "_law_due" ["parts"] S_law_due := by
  have D_law_is_int := d_law_is_int (P := P) (w := w) (bs := bs) T
  have D_law_is_row := d_law_is_row (P := P) (w := w) (bs := bs) T
  refine mkD (k := 2) T.s_law_due sc_law_due (fun _ _ _ _ _ _ us hl => match us, hl with | [_], _ => rfl) l_law_due fun f cdv A outer s H E hr => ?_
  have hu := hu_of hr
  refine ⟨_, (pss_cons (ps_asg (pv 0) (pg_lst rfl (pgs_cons (pg_name (i := 1) sc_law_due.nd rfl (Or.inl rfl)) (pgs_cons (pg_name (i := 2) sc_law_due.nd rfl (Or.inl rfl)) (pgs_cons (pg_name (i := 3) sc_law_due.nd rfl (Or.inl rfl)) pgs_nil)))))
      (pss_cons (ps_if (PW.pt (pw_or (pt_not (pt_val (pe_callK0 (K0 := K) (by rfl) D_law_is_int (hr.mono (by decide)) (pa_cons (pv 1) pa_nil)))) (pw_or1 (pt_not (pt_chain op_le op_le pe_int (pv 1) pe_int))))) (pss_one (ps_ret pe_str)) pss_nil)
      (pss_cons (ps_if (pt_not (pt_val (pe_callK0 (K0 := K) (by rfl) D_law_is_int (hr.mono (by decide)) (pa_cons (pv 2) pa_nil)))) (pss_one (ps_ret pe_str)) pss_nil)
      (pss_cons (ps_if (PW.pt (pw_or (pt_not (pt_val (pe_callB (call_isiK0 (K0 := K) (by rfl)) (by rfl) T.n_isinstance (by decide +kernel) (pa_cons (pv 3) (pa_cons (pe_bltn (v := .ty "tuple") (by rfl) T.n_tuple (by decide +kernel) rfl) pa_nil))))) (pw_or1 (pt_cmpR op_eq (pe_callB (call_lenK (K0 := K) (by rfl)) (by rfl) T.n_len (by decide +kernel) (pa_cons (pv 3) pa_nil)) pe_int (nomark _))))) (pss_one (ps_ret pe_str)) pss_nil)
      (pss_cons (ps_for PassesOwn.never rfl (pi_enT (K0 := K) (by rfl) (by rfl) T.n_enumerate (pa_cons (pv 3) pa_nil)) (pg_tup rfl (pgs_cons (pg_name (i := 4) sc_law_due.nd rfl (Or.inl rfl)) (pgs_cons (pg_name (i := 5) sc_law_due.nd rfl (Or.inl rfl)) pgs_nil)))
      (pss_one (ps_if (pt_not (pt_val (pe_callK0 (K0 := K) (by rfl) D_law_is_row (hr.mono (by decide)) (pa_cons (pv 1) (pa_cons (pe_callB (call_lenK (K0 := K) (by rfl)) (by rfl) T.n_len (by decide +kernel) (pa_cons (pv 3) pa_nil)) (pa_cons (pv 5) pa_nil)))))) (pss_one (ps_ret (pv 4))) pss_nil)))
      (pss_one (ps_ret pe_non))))))), fun h H0 G0 ds R hS => ?_⟩
  obtain ⟨b0, f0, r0, rfl, hb0, hf0, hr0, hR⟩ := hS
  obtain ⟨⟨tr, htr⟩, hrows⟩ := id hr0
  refine ws_seq (ws_asgG (we_var rfl (wg_lst ⟨_, rfl, rfl, wgs_cons ⟨_, _, rfl, wg_name (wgs_cons ⟨_, _, rfl, wg_name (wgs_cons ⟨_, _, rfl, wg_name (wgs_nil ⟨rfl, ?_⟩)⟩)⟩)⟩⟩)))
  have nobase : within 2 5 b0 = false → R (.str "base") := fun h => by
    have e : partsBad b0 f0 r0 = some (.str "base") := by unfold partsBad; rw [if_pos h]
    rw [e] at hR; exact hR
  refine ws_seq (ws_if (wt_or (wt_not (wt_B (we_call (wa_cons (we_var rfl (wa_nil ⟨b0, rfl, hb0, _, rfl, fun hb => ?_, fun hb => ?_⟩))))))))
  · obtain ⟨base, rfl⟩ : ∃ i, b0 = D.int i := by cases b0 <;> first | exact ⟨_, rfl⟩ | cases hb
    refine wt_not (wt_T (we_chain (we_int ⟨_, rfl, we_var rfl ⟨_, rfl, fun h3 => we_int ⟨_, rfl, _, rfl, ?_⟩, fun h3 => ⟨_, rfl, ?_⟩⟩⟩)))
    · refine ite2 (fun h4 => ?_) (fun h4 => ?_)
      · refine ws_ret (we_str (nobase ?_))
        show (decide (2 ≤ base) && decide (base ≤ 5)) = false
        rw [h3, Bool.true_and]
        simpa using h4
      · have hbase : within 2 5 (.int base) = true := by
          show (decide (2 ≤ base) && decide (base ≤ 5)) = true
          rw [h3, Bool.true_and]
          simpa using h4
        refine ws_next ?_
        have hlo : 2 ≤ base ∧ base ≤ 5 := by
          have h : (decide (2 ≤ base) && decide (base ≤ 5)) = true := hbase
          obtain ⟨h1, h2⟩ := (Bool.and_eq_true_iff).mp h
          exact ⟨of_decide_eq_true h1, of_decide_eq_true h2⟩
        refine ws_seq (ws_if (wt_not (wt_B (we_call (wa_cons (we_var rfl (wa_nil ⟨f0, rfl, hf0, _, rfl, ?_⟩)))))))
        cases hf : isI f0 with
        | false =>
          refine ws_ret (we_str ?_)
          have e : partsBad (.int base) f0 r0 = some (.str "first") := by unfold partsBad; rw [if_neg (by rw [hbase]; decide), if_pos hf]
          rw [e] at hR; exact hR
        | true =>
        rw [partsBad_step hbase hf] at hR
        refine ws_next (ws_seq (ws_if (wt_or (wt_not (wt_B (we_isi (we_var rfl ⟨tr, _, htr, kb_tuple htr, _, rfl, fun h => ?_, fun h => ?_⟩)))))))
        · obtain ⟨xs, rfl⟩ : ∃ xs, r0 = D.tup xs := by cases r0 <;> first | exact ⟨_, rfl⟩ | cases h
          obtain ⟨hl, hit⟩ := hrows xs rfl
          dsimp only at hR
          refine wt_T (we_eqI (we_len (we_var rfl ⟨_, .inr rfl, _, rfl, we_int ⟨_, rfl, _, rfl, ?_⟩⟩)))
          refine ite2 (fun hz => ?_) (fun hz => ?_)
          · have e : xs = [] := List.length_eq_zero_iff.mp (by have := of_decide_eq_true hz; omega)
            rw [if_pos e] at hR
            exact ws_ret (we_str hR)
          · have hne : xs ≠ [] := fun e => hz (by rw [e]; rfl)
            rw [if_neg hne] at hR
            refine ws_next (ws_seq (ws_forEnumT (wa_cons (we_var rfl (wa_nil ⟨_, rfl, fun k ρ => ∃ r4 r5 : Option Cell, (∀ y ∈ xs.take k, rowOk base xs.length y = true) ∧ ρ = [some (.d (.lst [.int base, f0, .tup xs])), some (.d (.int base)), some (.d f0), some (.d (.tup xs)), r4, r5], ⟨_, _, (fun y hy => by rw [List.take_zero] at hy; cases hy), rfl⟩, ?_, ?_⟩)))))
            · rintro k y ρ hk ⟨r4, r5, hgood, rfl⟩
              refine wg_tup ⟨_, rfl, rfl, wgs_cons ⟨_, _, rfl, wg_name (wgs_cons ⟨_, _, rfl, wg_name (wgs_nil ⟨rfl, ?_⟩)⟩)⟩⟩
              refine ws_if (wt_not (wt_B (we_call (wa_cons (we_var rfl (wa_cons (we_len (we_var rfl ⟨_, .inr rfl, wa_cons (we_var rfl (wa_nil ⟨base, xs.length, y, rfl, by omega, hlo.2, hit y (List.mem_of_getElem? hk), _, rfl, ?_⟩))⟩))))))))
              cases hro : rowOk base xs.length y with
              | false =>
                rw [findIdx_at hk (by rw [hro]; rfl) fun z hz => by rw [hgood z hz]; rfl] at hR
                exact ws_ret (we_var rfl hR)
              | true =>
                refine ws_next ⟨_, _, fun z hz => ?_, rfl⟩
                rw [List.take_succ, hk] at hz
                rcases List.mem_append.mp hz with h | h
                · exact hgood z h
                · rw [List.mem_singleton.mp h]; exact hro
            · rintro ρ ⟨r4, r5, hgood, rfl⟩
              rw [List.take_length] at hgood
              rw [List.findIdx?_eq_none_iff.mpr fun z hz => by rw [hgood z hz]; rfl] at hR
              exact ws_ret (we_non hR)
        · rw [if_pos rfl]
          refine ws_ret (we_str ?_)
          cases r0 <;> first | exact hR | cases h
    · rw [if_pos (by rfl)]
      refine ws_ret (we_str (nobase ?_))
      show (decide (2 ≤ base) && decide (base ≤ 5)) = false
      rw [h3, Bool.false_and]
  · rw [if_pos rfl]
    refine ws_ret (we_str (nobase ?_))
    cases b0 <;> first | rfl | cases hb
/-! ### deep things, and parts -/
def deepD : Nat → D | 0 => .tup [] | n + 1 => .tup [deepD n]
theorem deep_ty : ∀ n : Nat, Ty (deepD n) | 0 => ⟨_, rfl⟩ | _ + 1 => ⟨_, rfl⟩
theorem deep_tyN : ∀ m n : Nat, TyN m (deepD n)
  | 0, n => deep_ty n
  | m + 1, 0 => ⟨⟨_, rfl⟩, fun xs e => by cases e; exact ⟨Nat.zero_le _, fun y h => nomatch h⟩⟩
  | m + 1, n + 1 => by
    refine ⟨⟨_, rfl⟩, fun xs e => ?_⟩
    cases e
    refine ⟨Nat.le_of_ble_eq_true rfl, fun y h => ?_⟩
    rw [List.mem_singleton.mp h]
    exact deep_tyN m n
def S_law_deep : List D → (D → Prop) → Prop := fun ds R => ds = [] ∧ R (deepD 30)
theorem l_law_deep : ∀ ds R, S_law_deep ds R → ds.length = 0 := fun ds R ⟨e, _⟩ => by rw [e]; rfl
theorem d_law_deep (T : Txt K mg) : Dfn P w K mg bs 1 "_law_deep" [] S_law_deep := by
  refine mkD (k := 0) T.s_law_deep sc_law_deep (fun _ _ _ _ _ _ us hl => match us, hl with | [], _ => rfl) l_law_deep fun f cdv A outer s H E hr => ?_
  have hu := hu_of hr
  refine ⟨_, (pss_cons (ps_set (i := 0) sc_law_deep.nd rfl (Or.inl rfl) (pe_tup pa_nil))
      (pss_cons (ps_for PassesOwn.never rfl (pi_range1 rfl T.n_range (pa_cons pe_int pa_nil)) (pg_name (i := 1) sc_law_deep.nd rfl (Or.inl rfl))
      (pss_one (ps_set (i := 0) sc_law_deep.nd rfl (Or.inl rfl) (pe_tup (pa_cons (pv 0) pa_nil)))))
      (pss_one (ps_ret (pv 0))))), fun h H0 G0 ds R hS => ?_⟩
  obtain ⟨rfl, hR⟩ := hS
  refine ws_seq (ws_asg (we_tup (wa_nil ⟨Nat.le_of_ble_eq_true rfl, ?_⟩)))
  refine ws_seq (ws_for1 (wa_cons (we_int (wa_nil ⟨30, rfl, by decide, by decide, fun k ρ => ∃ r1 : Option Cell, ρ = [some (.d (deepD k)), r1], ⟨_, rfl⟩, ?_, ?_⟩))))
  · rintro k ρ hk ⟨r1, rfl⟩
    exact wg_name (ws_asg (we_tup (wa_cons (we_var rfl (wa_nil ⟨Nat.le_of_ble_eq_true rfl, _, rfl⟩)))))
  · rintro ρ ⟨r1, rfl⟩
    exact ws_ret (we_var rfl hR)
/-- sound parts -/
structure Mach (base : Int) (rs : List (List (Int × Nat))) : Prop where
  lo : 2 ≤ base
  hi : base ≤ 5
  ne : rs ≠ []
  many : rs.length ≤ 1000000
  row : ∀ r ∈ rs, (r.length : Int) = 2 * base - 1 ∧ ∀ q ∈ r, q.2 < rs.length
def ItemsB (B : Int) (rs : List (List (Int × Nat))) : Prop := ∀ r ∈ rs, ∀ q ∈ r, -B ≤ q.1 ∧ q.1 ≤ B
theorem len2 {α : Type} {a b : α} : [a, b].length ≤ 4000000 := Nat.le_of_ble_eq_true rfl
def partsL (base first : Int) (rs : List (List (Int × Nat))) : D := .lst [.int base, .int first, rowsM rs]
def S_law_parts : List D → (D → Prop) → Prop := fun ds R => ds = [.hand] ∧ ∀ (base first : Int) (rs : List (List (Int × Nat))), Mach base rs → rs.length ≤ 6 → R (partsL base first rs)
theorem l_law_parts : ∀ ds R, S_law_parts ds R → ds.length = 1 := fun ds R ⟨e, _⟩ => by rw [e]; rfl
theorem d_law_parts (T : Txt K mg) : Dfn P w K mg bs 4 "_law_parts" ["hand"] S_law_parts := by
  have D_law_any := d_law_any (P := P) (w := w) (bs := bs) T
  have D_law_draw := d_law_draw (P := P) (w := w) (bs := bs) T
  refine mkD (k := 3) T.s_law_parts sc_law_parts (fun _ _ _ _ _ _ us hl => match us, hl with | [_], _ => rfl) l_law_parts fun f cdv A outer s H E hr => ?_
  have hu := hu_of hr
  refine ⟨_, (pss_cons (ps_asg (pe_tup (pa_cons (pe_op op_add pe_int (pe_callK0 (K0 := K) (by rfl) D_law_draw (hr.mono (by decide)) (pa_cons (pv 0) (pa_cons pe_int pa_nil)))) (pa_cons (pe_op op_add pe_int (pe_callK0 (K0 := K) (by rfl) D_law_draw (hr.mono (by decide)) (pa_cons (pv 0) (pa_cons pe_int pa_nil)))) pa_nil))) (pg_tup rfl (pgs_cons (pg_name (i := 1) sc_law_parts.nd rfl (Or.inl rfl)) (pgs_cons (pg_name (i := 2) sc_law_parts.nd rfl (Or.inr rfl)) pgs_nil))))
      (pss_cons (ps_set (i := 3) sc_law_parts.nd rfl (Or.inr rfl) (pe_callK0 (K0 := K) (by rfl) D_law_any (hr.mono (by decide)) (pa_cons (pv 0) (pa_cons (pe_lst (pa_cons pe_int (pa_cons pe_int (pa_cons (pe_op op_pow pe_int pe_int) pa_nil)))) pa_nil))))
      (pss_cons (ps_set (i := 4) sc_law_parts.nd rfl (Or.inl rfl) (pe_lst pa_nil))
      (pss_cons (ps_for PassesOwn.never rfl (pi_range1 rfl T.n_range (pa_cons (pv 2) pa_nil)) (pg_name (i := 5) sc_law_parts.nd rfl (Or.inl rfl))
      (pss_cons (ps_setLc (i := 6) (own := [("turn", 7)]) (g := (gName 7)) rfl sc_law_parts.nd rfl rfl (sw_true rfl rfl rfl (by decide +kernel)) (pi_range1 rfl T.n_range (pa_cons (pe_op op_sub (pe_op op_mulA pe_int (pv 1)) pe_int) pa_nil)) (blkOk_by (N := N_law_parts) (sc := defScope s_law_parts) (by decide +kernel)) (fun _ _ _ _ _ => by exact (pg_name (i := 7) sc_law_parts.nd rfl (Or.inl rfl))) (fun _ _ _ _ _ => by exact pts_nil) (fun _ _ _ _ _ => by exact (pe_tup (pa_cons (pe_op op_add (pe_op op_sub (pe_callK0 (K0 := K) (by rfl) D_law_draw (hr.mono (by decide)) (pa_cons (pv 0) (pa_cons (pe_op op_sub (pe_op op_mulA pe_int (pv 3)) pe_int) pa_nil))) (pv 3)) pe_int) (pa_cons (pe_callK0 (K0 := K) (by rfl) D_law_draw (hr.mono (by decide)) (pa_cons (pv 0) (pa_cons (pv 2) pa_nil))) pa_nil)))))
      (pss_one (ps_expr (pe_bm PySem.F.plainAttrs_list PySem.F.slot_list_append PySem.F.type_list_append mt_append (pv 4) (pa_cons (pe_callTy (call_tupleK (K0 := K) (by rfl)) (by rfl) T.n_tuple (by decide +kernel) (pa_cons (pv 6) pa_nil)) pa_nil))))))
      (pss_one (ps_ret (pe_lst (pa_cons (pv 1) (pa_cons (pe_op op_add (pe_op op_sub (pe_callK0 (K0 := K) (by rfl) D_law_draw (hr.mono (by decide)) (pa_cons (pv 0) (pa_cons (pe_op op_sub (pe_op op_mulA pe_int (pv 3)) pe_int) pa_nil))) (pv 3)) pe_int) (pa_cons (pe_callTy (call_tupleK (K0 := K) (by rfl)) (by rfl) T.n_tuple (by decide +kernel) (pa_cons (pv 4) pa_nil)) pa_nil)))))))))), fun h H0 G0 ds R hS => ?_⟩
  obtain ⟨rfl, hR⟩ := hS
  refine ws_seq (ws_asgG (we_tup (wa_cons (we_I0 (we_int ⟨_, rfl, we_call (wa_cons (we_var rfl (wa_cons (we_int (wa_nil ⟨4, rfl, by decide, by decide, fun b0 hb0 hb1 => ⟨_, rfl, wa_cons ?_⟩⟩)))))⟩)))))
  refine we_I0 (we_int ⟨_, rfl, we_call (wa_cons (we_var rfl (wa_cons (we_int (wa_nil ⟨6, rfl, by decide, by decide, fun m0 hm0 hm1 => ⟨_, rfl, wa_nil ⟨len2, ?_⟩⟩⟩)))))⟩)
  refine wg_tup ⟨_, rfl, rfl, wgs_cons ⟨_, _, rfl, wg_name (wgs_cons ⟨_, _, rfl, wg_name (wgs_nil ⟨rfl, ?_⟩)⟩)⟩⟩
  obtain ⟨base, hbase⟩ : ∃ b : Int, b = 2 + b0 := ⟨_, rfl⟩
  obtain ⟨N, hN⟩ : ∃ n : Nat, (n : Int) = 1 + m0 := ⟨(1 + m0).toNat, by omega⟩
  rw [← hbase, ← hN]
  refine ws_seq (ws_asg (we_call (wa_cons (we_var rfl (wa_cons (we_lst (wa_cons (we_int (wa_cons (we_int (wa_cons (we_I (we_int ⟨_, rfl, we_int ⟨_, rfl, by refine ⟨by decide, by decide, ?_⟩; decide, wa_nil ⟨Nat.le_of_ble_eq_true rfl, wa_nil ⟨_, rfl, by simp, by simp, fun y hy => ?_⟩⟩⟩⟩)))))))))))))
  obtain ⟨sz, rfl, sz1, sz2⟩ : ∃ i : Int, y = .int i ∧ 2 ≤ i ∧ i ≤ 1000000000000 := by
    simp only [List.mem_cons, List.not_mem_nil, or_false] at hy
    rcases hy with rfl | rfl | rfl
    · exact ⟨2, rfl, by decide, by decide⟩
    · exact ⟨5, rfl, by decide, by decide⟩
    · exact ⟨10 ^ 11, rfl, by decide, by decide⟩
  refine ws_seq (ws_asgF (wf_lst (wa_nil ⟨by decide, ?_⟩)))
  refine ws_seq (ws_to (fun ρ => ∃ (rs : List (List (Int × Nat))) (r6 r7 r8 : Option Cell), (rs.length = N ∧ ItemsB sz rs ∧ ∀ r ∈ rs, (r.length : Int) = 2 * base - 1 ∧ ∀ q ∈ r, q.2 < N) ∧ ρ = [some (.d .hand), some (.d (.int base)), some (.d (.int (N : Int))), some (.d (.int sz)), some (.ol (rs.map rowM)), r6, r7, r8]) ?_ ?_)
  · refine ws_for1 (wa_cons (we_var rfl (wa_nil ?_)))
    refine ⟨N, rfl, by omega, by omega, fun k ρ => ∃ (rs : List (List (Int × Nat))) (r6 r7 r8 : Option Cell), (rs.length = k ∧ ItemsB sz rs ∧ ∀ r ∈ rs, (r.length : Int) = 2 * base - 1 ∧ ∀ q ∈ r, q.2 < N) ∧ ρ = [some (.d .hand), some (.d (.int base)), some (.d (.int (N : Int))), some (.d (.int sz)), some (.ol (rs.map rowM)), r6, r7, r8], ⟨[], _, _, _, ⟨rfl, fun r h => absurd h List.not_mem_nil, fun r h => absurd h List.not_mem_nil⟩, rfl⟩, ?_, ?_⟩
    · rintro k ρ hk ⟨rs, r6, r7, r8, ⟨h1, h2, h3⟩, rfl⟩
      refine wg_name (ws_seq (ws_asgF (wf_lc1 (wa_cons (we_I0 (we_I (we_int ⟨_, rfl, we_var rfl ⟨_, rfl, .inl (by omega), _, rfl, we_int ⟨_, rfl, wa_nil ?_⟩⟩⟩)))))))
      refine ⟨2 * base - 1, rfl, by omega, by omega, fun j acc => ∃ r : List (Int × Nat), acc = r.map pairD ∧ r.length = j ∧ ∀ q ∈ r, q.2 < N ∧ -sz ≤ q.1 ∧ q.1 ≤ sz, ⟨[], rfl, rfl, fun q h => absurd h List.not_mem_nil⟩, ?_, ?_⟩
      · rintro j acc hj ⟨r, rfl, hl, hq⟩ _
        refine wgp_name ?_ ?_
        · decide
        refine wt_yes ?_
        rw [if_pos rfl]
        refine we_tup (wa_cons (we_I0 (we_I0 (we_call (wa_cons (we_var rfl (wa_cons (we_I0 (we_I (we_int ⟨_, rfl, we_var rfl ⟨_, rfl, .inl (by omega), _, rfl, we_int ⟨_, rfl, wa_nil ⟨2 * sz - 1, rfl, by omega, by omega, fun f0 hf1 hf2 => ?_⟩⟩⟩⟩))))))))))
        refine ⟨_, rfl, we_var rfl ⟨_, rfl, _, rfl, we_int ⟨_, rfl, wa_cons (we_call (wa_cons (we_var rfl (wa_cons (we_var rfl (wa_nil ⟨N, rfl, by omega, by omega, fun g0 hg1 hg2 => wa_nil ⟨len2, ?_⟩⟩))))))⟩⟩⟩
        refine ⟨r ++ [(f0 - sz + 1, g0.toNat)], ?_, by rw [List.length_append, hl]; rfl, fun q hq2 => ?_⟩
        · rw [List.map_append]
          show _ ++ [D.tup [.int (f0 - sz + 1), .int g0]] = _ ++ [D.tup [.int (f0 - sz + 1), .int ((g0.toNat : Nat) : Int)]]
          rw [show ((g0.toNat : Nat) : Int) = g0 by omega]
        · rcases List.mem_append.mp hq2 with h | h
          · exact hq q h
          · rw [List.mem_singleton.mp h]
            exact ⟨by show g0.toNat < N; omega, by show -sz ≤ f0 - sz + 1; omega, by show f0 - sz + 1 ≤ sz; omega⟩
      · rintro acc ⟨r, rfl, hl, hq⟩
        refine ws_freeze 6 rfl rfl (ws_append rfl (by rw [List.length_map]; omega) (we_tupleOf (we_var rfl ⟨_, .inl rfl, ?_⟩)))
        refine ⟨rs ++ [r], some (.d (.int (k : Int))), some (.d (.lst (r.map pairD))), r8, ⟨by rw [List.length_append, h1]; rfl, fun r' hr' => ?_, fun r' hr' => ?_⟩, ?_⟩
        · rcases List.mem_append.mp hr' with h | h
          · exact h2 r' h
          · rw [List.mem_singleton.mp h]; exact fun q hq' => (hq q hq').2
        · rcases List.mem_append.mp hr' with h | h
          · exact h3 r' h
          · rw [List.mem_singleton.mp h]; exact ⟨by omega, fun q hq' => (hq q hq').1⟩
        · rw [List.map_append]; rfl
    · rintro ρ h
      exact h
  rintro ρ ⟨rs, r6, r7, r8, ⟨h1, h2, h3⟩, rfl⟩
  have hM : Mach base rs := ⟨by omega, by omega, fun z => by rw [z, List.length_nil] at h1; omega, by omega, fun r hr => by rw [h1]; exact h3 r hr⟩
  refine ws_freeze 4 rfl rfl (ws_ret (we_lst (wa_cons (we_var rfl (wa_cons ?_)))))
  refine we_I0 (we_I0 (we_call (wa_cons (we_var rfl (wa_cons (we_I0 (we_I (we_int ⟨_, rfl, we_var rfl ⟨_, rfl, .inl (by omega), _, rfl, we_int ⟨_, rfl, wa_nil ⟨2 * sz - 1, rfl, by omega, by omega, fun f0 hf1 hf2 => ?_⟩⟩⟩⟩))))))))
  refine ⟨_, rfl, we_var rfl ⟨_, rfl, _, rfl, we_int ⟨_, rfl, wa_cons (we_tupleOf (we_var rfl ⟨_, .inl rfl, wa_nil ⟨Nat.le_of_ble_eq_true rfl, ?_⟩⟩))⟩⟩⟩
  exact hR base (f0 - sz + 1) rs hM (by omega)
/-! ### parts, bent -/
theorem tyN_nt {x : D} (h : Ty x) (hn : ∀ xs, x ≠ .tup xs) : ∀ m, TyN m x
  | 0 => h
  | _ + 1 => ⟨h, fun xs e => absurd e (hn xs)⟩
theorem tyN_tup {m : Nat} {xs : List D} (hl : xs.length ≤ 4000000) (h : ∀ y ∈ xs, TyN m y) : TyN (m + 1) (.tup xs) := ⟨⟨_, rfl⟩, fun ys e => by cases e; exact ⟨hl, h⟩⟩
theorem tyN_nil : ∀ m, TyN m (.tup [])
  | 0 => ⟨_, rfl⟩
  | m + 1 => tyN_tup (Nat.zero_le _) fun y h => nomatch h
theorem tyN_int (i : Int) (m : Nat) : TyN m (.int i) := tyN_nt ⟨_, rfl⟩ (fun xs e => by cases e) m
theorem tyN_one : ∀ m, TyN m (.tup [.int 0])
  | 0 => ⟨_, rfl⟩
  | m + 1 => tyN_tup (Nat.le_of_ble_eq_true rfl) fun y h => by rw [List.mem_singleton.mp h]; exact tyN_int 0 m
theorem tyN_pair (q : Int × Nat) (m : Nat) : TyN (m + 1) (pairD q) := tyN_tup len2 fun y h => by
  simp only [List.mem_cons, List.not_mem_nil, or_false] at h
  rcases h with rfl | rfl
  · exact tyN_int _ m
  · exact tyN_int _ m
theorem tyN_row {r : List (Int × Nat)} (hl : r.length ≤ 1000) (m : Nat) : TyN (m + 2) (rowM r) := tyN_tup (by rw [List.length_map]; omega) fun y h => by
  obtain ⟨q, _, rfl⟩ := List.mem_map.mp h
  exact tyN_pair q m
theorem tyN_down : ∀ {m : Nat} {x : D}, TyN (m + 1) x → TyN m x
  | 0, _, h => h.1
  | m + 1, _, h => ⟨h.1, fun xs e => ⟨(h.2 xs e).1, fun y hy => tyN_down ((h.2 xs e).2 y hy)⟩⟩
/-- a tuple is at most so long -/
def Sz (m : Nat) (r : D) : Prop := ∀ xs, r = .tup xs → xs.length ≤ m
theorem mem_cut {xs : List D} {lo hi : Option Int} {y : D} (h : y ∈ Cal.cutD xs lo hi) : y ∈ xs := by
  unfold Cal.cutD at h
  exact List.mem_of_mem_drop (List.mem_of_mem_take h)
theorem cut_len {xs : List D} {lo hi : Option Int} : (Cal.cutD xs lo hi).length ≤ xs.length := by
  unfold Cal.cutD
  rw [List.length_take, List.length_drop]
  omega
theorem cut_sum {xs : List D} {a : Nat} (ha : a < xs.length) : (Cal.cutD xs none (some (a : Int))).length + 1 + (Cal.cutD xs (some ((a : Int) + 1)) none).length ≤ xs.length := by
  have e : ((a : Int) + 1) = ((a + 1 : Nat) : Int) := by omega
  rw [e, cut_take, cut_drop, List.length_take, List.length_drop]
  omega
theorem atI_nat {α : Type} {xs : List α} {i : Int} {j : Nat} {x : α} (h : xs[j]? = some x) (e : i = (j : Int)) : atI xs i = some x := by
  have hl := (List.getElem?_eq_some_iff.mp h).1
  obtain ⟨y, h1, h2⟩ := atI_of (xs := xs) (i := i) (by omega) (by omega)
  rw [h1]
  rw [e, Int.toNat_natCast, h] at h2
  exact h2.symm
def S_law_bent : List D → (D → Prop) → Prop := fun ds R => ∃ (base first : Int) (rs : List (List (Int × Nat))) (m : Nat), ds = [.hand, partsL base first rs] ∧ Mach base rs ∧ 10 ≤ m ∧ m ≤ 100 ∧ rs.length ≤ m ∧
  ∀ b f r, Ty b → Ty f → TyN 3 r → Sz (m + 1) r → R (.lst [b, f, r])
theorem l_law_bent : ∀ ds R, S_law_bent ds R → ds.length = 2 := fun ds R ⟨_, _, _, _, e, _⟩ => by rw [e]; rfl
theorem d_law_bent (T : Txt K mg) : Dfn P w K mg bs 4 "_law_bent" ["hand", "parts"] S_law_bent := by
  have D_law_draw := d_law_draw (P := P) (w := w) (bs := bs) T
  have D_law_any := d_law_any (P := P) (w := w) (bs := bs) T
  have D_law_deep := d_law_deep (P := P) (w := w) (bs := bs) T
  refine mkD (k := 3) T.s_law_bent sc_law_bent (fun _ _ _ _ _ _ us hl => match us, hl with | [_, _], _ => rfl) l_law_bent fun f cdv A outer s H E hr => ?_
  have hu := hu_of hr
  refine ⟨_, (pss_cons (ps_asg (pv 1) (pg_lst rfl (pgs_cons (pg_name (i := 2) sc_law_bent.nd rfl (Or.inl rfl)) (pgs_cons (pg_name (i := 3) sc_law_bent.nd rfl (Or.inl rfl)) (pgs_cons (pg_name (i := 4) sc_law_bent.nd rfl (Or.inl rfl)) pgs_nil)))))
      (pss_cons (ps_par (i := 5) (j := 6) (by rfl) sc_law_bent.nd rfl rfl (by decide) rfl rfl (pa_cons (pe_callK0 (K0 := K) (by rfl) D_law_draw (hr.mono (by decide)) (pa_cons (pv 0) (pa_cons (pe_callB (call_lenK (K0 := K) (by rfl)) (by rfl) T.n_len (by decide +kernel) (pa_cons (pv 4) pa_nil)) pa_nil))) (pa_cons (pe_callK0 (K0 := K) (by rfl) D_law_draw (hr.mono (by decide)) (pa_cons (pv 0) (pa_cons (pe_callB (call_lenK (K0 := K) (by rfl)) (by rfl) T.n_len (by decide +kernel) (pa_cons (pe_ix (ix_tupK (K0 := K) (by rfl)) (pv 4) pe_int (fun _ _ => rfl)) pa_nil)) pa_nil))) pa_nil)) (by rfl))
      (pss_cons (ps_par (i := 7) (j := 8) (by rfl) sc_law_bent.nd rfl rfl (by decide) rfl rfl (pa_cons (pe_callK0 (K0 := K) (by rfl) D_law_draw (hr.mono (by decide)) (pa_cons (pv 0) (pa_cons pe_int pa_nil))) (pa_cons (pe_callK0 (K0 := K) (by rfl) D_law_any (hr.mono (by decide)) (pa_cons (pv 0) (pa_cons (pe_lst (pa_cons pe_non (pa_cons pe_bl (pa_cons pe_str (pa_cons (pe_tup (pa_cons pe_int pa_nil)) (pa_cons (pe_lst (pa_cons pe_int pa_nil)) (pa_cons pe_dnewK (pa_cons (pe_un un_neg pe_int) (pa_cons (pe_tup pa_nil) (pa_cons (pe_call00 (K0 := K) (by rfl) D_law_deep (hr.mono (by decide))) pa_nil)))))))))) pa_nil))) pa_nil)) (by rfl))
      (pss_cons (ps_set (i := 9) sc_law_bent.nd rfl (Or.inl rfl) (pe_ix (ix_tupK (K0 := K) (by rfl)) (pv 4) (pv 5) (fun _ _ => rfl)))
      (pss_cons (ps_if (pt_cmpR op_eq (pv 7) pe_int (nomark _)) (pss_one (ps_ret (pe_lst (pa_cons (pe_callK0 (K0 := K) (by rfl) D_law_any (hr.mono (by decide)) (pa_cons (pv 0) (pa_cons (pe_lst (pa_cons pe_int (pa_cons pe_int (pa_cons pe_int (pa_cons pe_int (pa_cons pe_int (pa_cons pe_bl (pa_cons pe_non (pa_cons pe_str (pa_cons (pe_tup (pa_cons pe_int pa_nil)) (pa_cons (pe_op op_pow pe_int pe_int) pa_nil))))))))))) pa_nil))) (pa_cons (pv 3) (pa_cons (pv 4) pa_nil)))))) pss_nil)
      (pss_cons (ps_if (pt_cmpR op_eq (pv 7) pe_int (nomark _)) (pss_one (ps_ret (pe_lst (pa_cons (pv 2) (pa_cons (pe_ifExp (pt_cmpR op_eq (pe_callK0 (K0 := K) (by rfl) D_law_draw (hr.mono (by decide)) (pa_cons (pv 0) (pa_cons pe_int pa_nil))) pe_int (nomark _)) (pv 8) (pe_op op_sub pe_int (pv 3))) (pa_cons (pv 4) pa_nil)))))) pss_nil)
      (pss_cons (ps_if (pt_cmpR op_eq (pv 7) pe_int (nomark _)) (pss_one (ps_ret (pe_lst (pa_cons (pv 2) (pa_cons (pv 3) (pa_cons (pe_callK0 (K0 := K) (by rfl) D_law_any (hr.mono (by decide)) (pa_cons (pv 0) (pa_cons (pe_lst (pa_cons (pe_tup pa_nil) (pa_cons (pe_callTy (call_listK (K0 := K) (by rfl)) (by rfl) T.n_list (by decide +kernel) (pa_cons (pv 4) pa_nil)) (pa_cons pe_non (pa_cons pe_str (pa_cons pe_dnewK (pa_cons pe_int (pa_cons (pe_ix (ix_tupK (K0 := K) (by rfl)) (pv 4) pe_int (fun _ _ => rfl)) (pa_cons (pe_call00 (K0 := K) (by rfl) D_law_deep (hr.mono (by decide))) pa_nil))))))))) pa_nil))) pa_nil)))))) pss_nil)
      (pss_cons (ps_if (pt_cmpR op_eq (pv 7) pe_int (nomark _)) (pss_one (ps_ret (pe_lst (pa_cons (pv 2) (pa_cons (pv 3) (pa_cons (pe_op (op_catK (K0 := K) (by rfl)) (pe_op (op_catK (K0 := K) (by rfl)) (pe_slice (sl_tupK (K0 := K) (by rfl)) (pv 4) po_none (po_some (pv 5))) (pe_tup (pa_cons (pe_callK0 (K0 := K) (by rfl) D_law_any (hr.mono (by decide)) (pa_cons (pv 0) (pa_cons (pe_lst (pa_cons (pe_slice (sl_tupK (K0 := K) (by rfl)) (pv 9) po_none (po_some (pe_un un_neg pe_int))) (pa_cons (pe_op (op_catK (K0 := K) (by rfl)) (pv 9) (pe_slice (sl_tupK (K0 := K) (by rfl)) (pv 9) po_none (po_some pe_int))) (pa_cons (pe_callTy (call_listK (K0 := K) (by rfl)) (by rfl) T.n_list (by decide +kernel) (pa_cons (pv 9) pa_nil)) (pa_cons (pv 8) pa_nil))))) pa_nil))) pa_nil))) (pe_slice (sl_tupK (K0 := K) (by rfl)) (pv 4) (po_some (pe_op op_add (pv 5) pe_int)) po_none)) pa_nil)))))) pss_nil)
      (pss_cons (ps_set (i := 10) sc_law_bent.nd rfl (Or.inl rfl) (pe_ix (ix_tupK (K0 := K) (by rfl)) (pv 9) (pv 6) (fun _ _ => rfl)))
      (pss_cons (ps_if (pt_cmpR op_eq (pv 7) pe_int (nomark _)) (pss_one (ps_set (i := 10) sc_law_bent.nd rfl (Or.inl rfl) (pe_tup (pa_cons (pe_ix (ix_tupK (K0 := K) (by rfl)) (pv 10) pe_int (fun _ _ => rfl)) (pa_cons (pe_callK0 (K0 := K) (by rfl) D_law_any (hr.mono (by decide)) (pa_cons (pv 0) (pa_cons (pe_lst (pa_cons (pe_callB (call_lenK (K0 := K) (by rfl)) (by rfl) T.n_len (by decide +kernel) (pa_cons (pv 4) pa_nil)) (pa_cons (pe_un un_neg pe_int) (pa_cons (pe_op op_sub (pe_callB (call_lenK (K0 := K) (by rfl)) (by rfl) T.n_len (by decide +kernel) (pa_cons (pv 4) pa_nil)) pe_int) (pa_cons (pv 8) pa_nil))))) pa_nil))) pa_nil))))) (pss_one (ps_if (pt_cmpR op_eq (pv 7) pe_int (nomark _)) (pss_one (ps_set (i := 10) sc_law_bent.nd rfl (Or.inl rfl) (pe_tup (pa_cons (pv 8) (pa_cons (pe_ix (ix_tupK (K0 := K) (by rfl)) (pv 10) pe_int (fun _ _ => rfl)) pa_nil))))) (pss_one (ps_if (pt_cmpR op_eq (pv 7) pe_int (nomark _)) (pss_one (ps_set (i := 10) sc_law_bent.nd rfl (Or.inl rfl) (pe_callK0 (K0 := K) (by rfl) D_law_any (hr.mono (by decide)) (pa_cons (pv 0) (pa_cons (pe_lst (pa_cons (pe_callTy (call_listK (K0 := K) (by rfl)) (by rfl) T.n_list (by decide +kernel) (pa_cons (pv 10) pa_nil)) (pa_cons (pe_op (op_catK (K0 := K) (by rfl)) (pv 10) (pe_tup (pa_cons pe_int pa_nil))) (pa_cons (pe_slice (sl_tupK (K0 := K) (by rfl)) (pv 10) po_none (po_some pe_int)) (pa_cons (pv 8) pa_nil))))) pa_nil))))) (pss_one (ps_if (pt_cmpR op_eq (pv 7) pe_int (nomark _)) (pss_one (ps_set (i := 10) sc_law_bent.nd rfl (Or.inl rfl) (pe_tup (pa_cons (pe_op op_add (pe_ix (ix_tupK (K0 := K) (by rfl)) (pv 10) pe_int (fun _ _ => rfl)) pe_int) (pa_cons (pe_ix (ix_tupK (K0 := K) (by rfl)) (pv 10) pe_int (fun _ _ => rfl)) pa_nil))))) (pss_one (ps_ret (pe_lst (pa_cons (pv 2) (pa_cons (pv 3) (pa_cons (pe_op (op_catK (K0 := K) (by rfl)) (pv 4) (pe_tup (pa_cons (pe_ix (ix_tupK (K0 := K) (by rfl)) (pv 4) pe_int (fun _ _ => rfl)) pa_nil))) pa_nil)))))))))))))
      (pss_one (ps_ret (pe_lst (pa_cons (pv 2) (pa_cons (pv 3) (pa_cons (pe_op (op_catK (K0 := K) (by rfl)) (pe_op (op_catK (K0 := K) (by rfl)) (pe_slice (sl_tupK (K0 := K) (by rfl)) (pv 4) po_none (po_some (pv 5))) (pe_tup (pa_cons (pe_op (op_catK (K0 := K) (by rfl)) (pe_op (op_catK (K0 := K) (by rfl)) (pe_slice (sl_tupK (K0 := K) (by rfl)) (pv 9) po_none (po_some (pv 6))) (pe_tup (pa_cons (pv 10) pa_nil))) (pe_slice (sl_tupK (K0 := K) (by rfl)) (pv 9) (po_some (pe_op op_add (pv 6) pe_int)) po_none)) pa_nil))) (pe_slice (sl_tupK (K0 := K) (by rfl)) (pv 4) (po_some (pe_op op_add (pv 5) pe_int)) po_none)) pa_nil)))))))))))))))), fun h H0 G0 ds R hS => ?_⟩
  obtain ⟨base, first, rs, m, rfl, hM, hm1, hm2, hN, hR⟩ := hS
  have hpos := List.length_pos_iff.mpr hM.ne
  have hb1 := hM.lo
  have hb2 := hM.hi
  have hrl : ∀ r ∈ rs, r.length ≤ 9 ∧ 0 < r.length := fun r hr => by
    have := (hM.row r hr).1
    constructor <;> omega
  have hmap : (rs.map rowM).length = rs.length := List.length_map ..
  have hrow : ∀ y ∈ rs.map rowM, TyN 2 y := fun y hy => by
    obtain ⟨r, hr, rfl⟩ := List.mem_map.mp hy
    exact tyN_row (by have := (hrl r hr).1; omega) 0
  have hrowsT : TyN 3 (rowsM rs) := tyN_tup (by rw [hmap]; omega) hrow
  have hrowsS : Sz (m + 1) (rowsM rs) := fun xs e => by cases e; rw [hmap]; omega
  refine ws_seq (ws_asgG (we_var rfl (wg_lst ⟨_, rfl, rfl, wgs_cons ⟨_, _, rfl, wg_name (wgs_cons ⟨_, _, rfl, wg_name (wgs_cons ⟨_, _, rfl, wg_name (wgs_nil ⟨rfl, ?_⟩)⟩)⟩)⟩⟩)))
  have h0at : atI (rs.map rowM) (0 : Int) = some (rowM rs[0]) := by
    have z : rs[0]? = some rs[0] := List.getElem?_eq_getElem hpos
    exact atI_nat (j := 0) (by rw [List.getElem?_map, z]; rfl) rfl
  have hr0 := hrl rs[0] (List.getElem_mem hpos)
  have hr0l := (hM.row rs[0] (List.getElem_mem hpos)).1
  generalize rs[0] = r0 at h0at hr0 hr0l
  refine ws_seq (ws_par (wa_cons (we_call (wa_cons (we_var rfl (wa_cons (we_len (we_var rfl ⟨_, .inr rfl, wa_nil ⟨(rs.length : Int), by rw [hmap], by omega, by omega, fun a0 ha0 ha1 => wa_cons ?_⟩⟩))))))))
  refine we_call (wa_cons (we_var rfl (wa_cons (we_len (we_ixT (we_var rfl ⟨_, rfl, we_int ⟨_, _, rfl, h0at, _, .inr rfl, wa_nil ⟨(r0.length : Int), by rw [List.length_map], by omega, by omega, fun p0 hp0 hp1 => wa_nil ⟨_, _, rfl, ?_⟩⟩⟩⟩))))))
  obtain ⟨a, rfl⟩ : ∃ n : Nat, a0 = (n : Int) := ⟨a0.toNat, by omega⟩
  obtain ⟨pl, rfl⟩ : ∃ n : Nat, p0 = (n : Int) := ⟨p0.toNat, by omega⟩
  have hal : a < rs.length := by omega
  refine ws_seq (ws_par (wa_cons (we_call (wa_cons (we_var rfl (wa_cons (we_int (wa_nil ⟨9, rfl, by decide, by decide, fun kd hk0 hk1 => wa_cons ?_⟩))))))))
  refine we_call (wa_cons (we_var rfl (wa_cons (we_lst (wa_cons (we_non (wa_cons (we_bl (wa_cons (we_str (wa_cons (we_tup (wa_cons (we_int (wa_nil ⟨Nat.le_of_ble_eq_true rfl, ?_⟩)))))))))))))))
  refine wa_cons (we_lst (wa_cons (we_int (wa_nil ⟨Nat.le_of_ble_eq_true rfl, wa_cons (we_F (wf_dK (wa_cons (we_U (we_int ⟨_, rfl, wa_cons (we_tup (wa_nil ⟨Nat.le_of_ble_eq_true rfl, ?_⟩))⟩)))))⟩))))
  refine wa_cons (we_call (wa_nil ⟨rfl, wa_nil ⟨Nat.le_of_ble_eq_true rfl, wa_nil ⟨_, rfl, by simp, by simp, fun odd ho => wa_nil ⟨_, _, rfl, ?_⟩⟩⟩⟩))
  have hodd : ∀ k, TyN k odd := fun k => by
    simp only [List.mem_cons, List.not_mem_nil, or_false] at ho
    rcases ho with rfl | rfl | rfl | rfl | rfl | rfl | rfl | rfl | rfl
    · exact tyN_nt ⟨_, rfl⟩ (fun xs e => by cases e) k
    · exact tyN_nt ⟨_, rfl⟩ (fun xs e => by cases e) k
    · exact tyN_nt ⟨_, rfl⟩ (fun xs e => by cases e) k
    · exact tyN_one k
    · exact tyN_nt ⟨_, rfl⟩ (fun xs e => by cases e) k
    · exact tyN_nt ⟨_, rfl⟩ (fun xs e => by cases e) k
    · exact tyN_int _ k
    · exact tyN_nil k
    · exact deep_tyN k 30
  clear ho
  have hra : rs[a]? = some (rs[a]'hal) := List.getElem?_eq_getElem hal
  have hrr := hrl _ (List.mem_of_getElem? hra)
  have hrr2 := (hM.row _ (List.mem_of_getElem? hra)).1
  generalize rs[a]'hal = r at hra hrr hrr2
  have hpl : pl < r.length := by omega
  have hq : r[pl]? = some (r[pl]'hpl) := List.getElem?_eq_getElem hpl
  generalize r[pl]'hpl = q at hq
  have atr : atI (rs.map rowM) (a : Int) = some (rowM r) := atI_nat (by rw [List.getElem?_map, hra]; rfl) rfl
  have atq : atI (r.map pairD) (pl : Int) = some (pairD q) := atI_nat (by rw [List.getElem?_map, hq]; rfl) rfl
  have hrm : (r.map pairD).length = r.length := List.length_map ..
  have hpair : ∀ y ∈ r.map pairD, TyN 1 y := fun y hy => by
    obtain ⟨z, _, rfl⟩ := List.mem_map.mp hy
    exact tyN_pair z 0
  have c1 := cut_sum (xs := rs.map rowM) (a := a) (by rw [hmap]; exact hal)
  have c2 := cut_sum (xs := r.map pairD) (a := pl) (by rw [hrm]; exact hpl)
  rw [hmap] at c1
  rw [hrm] at c2
  have cutsR : ∀ {y : D}, TyN 2 y → TyN 3 (.tup (Cal.cutD (rs.map rowM) none (some (a : Int)) ++ [y] ++ Cal.cutD (rs.map rowM) (some ((a : Int) + 1)) none)) ∧ Sz (m + 1) (.tup (Cal.cutD (rs.map rowM) none (some (a : Int)) ++ [y] ++ Cal.cutD (rs.map rowM) (some ((a : Int) + 1)) none)) := fun {y} hy => by
    have hl : (Cal.cutD (rs.map rowM) none (some (a : Int)) ++ [y] ++ Cal.cutD (rs.map rowM) (some ((a : Int) + 1)) none).length ≤ m := by
      rw [List.length_append, List.length_append]
      show _ + 1 + _ ≤ m
      omega
    refine ⟨tyN_tup (by omega) fun z hz => ?_, fun xs e => by cases e; omega⟩
    rcases List.mem_append.mp hz with h | h
    · rcases List.mem_append.mp h with h | h
      · exact hrow z (mem_cut h)
      · rw [List.mem_singleton.mp h]; exact hy
    · exact hrow z (mem_cut h)
  have cutsI : ∀ {y : D}, TyN 1 y → TyN 2 (.tup (Cal.cutD (r.map pairD) none (some (pl : Int)) ++ [y] ++ Cal.cutD (r.map pairD) (some ((pl : Int) + 1)) none)) := fun {y} hy => by
    refine tyN_tup ?_ fun z hz => ?_
    · rw [List.length_append, List.length_append]
      show _ + 1 + _ ≤ _
      omega
    rcases List.mem_append.mp hz with h | h
    · rcases List.mem_append.mp h with h | h
      · exact hpair z (mem_cut h)
      · rw [List.mem_singleton.mp h]; exact hy
    · exact hpair z (mem_cut h)
  have okI : ∀ i : Int, Ty (.int i) := fun i => ⟨_, rfl⟩
  refine ws_seq (ws_asg (we_ixT (we_var rfl ⟨_, rfl, we_var rfl ⟨_, _, rfl, atr, ?_⟩⟩)))
  -- kind == 0
  refine ws_seq (ws_if (wt_T (we_eqI (we_var rfl ⟨_, rfl, we_int ⟨_, rfl, _, rfl, ?_⟩⟩))))
  refine ite2 (fun _ => ?_) (fun _ => ?_)
  · refine ws_ret (we_lst (wa_cons (we_call (wa_cons (we_var rfl (wa_cons (we_lst (wa_cons (we_int (wa_cons (we_int (wa_cons (we_int (wa_cons (we_int (wa_cons (we_int (wa_cons (we_bl (wa_cons (we_non (wa_cons (we_str (wa_cons (we_tup (wa_cons (we_int (wa_nil ⟨Nat.le_of_ble_eq_true rfl, ?_⟩))))))))))))))))))))))))))))
    refine wa_cons (we_I (we_int ⟨_, rfl, we_int ⟨_, rfl, by refine ⟨by decide, by decide, ?_⟩; decide, wa_nil ⟨Nat.le_of_ble_eq_true rfl, wa_nil ⟨_, rfl, by simp, by simp, fun b hb => ?_⟩⟩⟩⟩))
    refine wa_cons (we_var rfl (wa_cons (we_var rfl (wa_nil ⟨Nat.le_of_ble_eq_true rfl, hR _ _ _ ?_ (okI _) hrowsT hrowsS⟩))))
    simp only [List.mem_cons, List.not_mem_nil, or_false] at hb
    rcases hb with rfl | rfl | rfl | rfl | rfl | rfl | rfl | rfl | rfl | rfl <;> exact ⟨_, rfl⟩
  -- kind == 1
  refine ws_next (ws_seq (ws_if (wt_T (we_eqI (we_var rfl ⟨_, rfl, we_int ⟨_, rfl, _, rfl, ?_⟩⟩)))))
  refine ite2 (fun _ => ?_) (fun _ => ?_)
  · refine ws_ret (we_lst (wa_cons (we_var rfl (wa_cons (we_if (wt_T (we_eqI (we_call (wa_cons (we_var rfl (wa_cons (we_int (wa_nil ⟨2, rfl, by decide, by decide, fun d hd0 hd1 => ⟨_, rfl, we_int ⟨_, rfl, _, rfl, ?_⟩⟩⟩)))))))))))))
    refine ite2 (fun _ => ?_) (fun _ => ?_)
    · exact we_var rfl (wa_cons (we_var rfl (wa_nil ⟨Nat.le_of_ble_eq_true rfl, hR _ _ _ (okI _) (hodd 0) hrowsT hrowsS⟩)))
    · exact we_I0 (we_int ⟨_, rfl, we_var rfl ⟨_, rfl, wa_cons (we_var rfl (wa_nil ⟨Nat.le_of_ble_eq_true rfl, hR _ _ _ (okI _) (okI _) hrowsT hrowsS⟩))⟩⟩)
  -- kind == 2
  refine ws_next (ws_seq (ws_if (wt_T (we_eqI (we_var rfl ⟨_, rfl, we_int ⟨_, rfl, _, rfl, ?_⟩⟩)))))
  refine ite2 (fun _ => ?_) (fun _ => ?_)
  · refine ws_ret (we_lst (wa_cons (we_var rfl (wa_cons (we_var rfl (wa_cons (we_call (wa_cons (we_var rfl (wa_cons (we_lst (wa_cons (we_tup (wa_nil ⟨Nat.le_of_ble_eq_true rfl, ?_⟩))))))))))))))
    refine wa_cons (we_F (wf_listOf (we_var rfl ⟨_, .inr rfl, wa_cons (we_non (wa_cons (we_str (wa_cons (we_F (wf_dK (wa_cons (we_int ?_))))))))⟩)))
    refine wa_cons (we_ixT (we_var rfl ⟨_, rfl, we_int ⟨_, _, rfl, h0at, wa_cons (we_call (wa_nil ⟨rfl, wa_nil ⟨Nat.le_of_ble_eq_true rfl, wa_nil ⟨_, rfl, by simp, by simp, fun y hy => wa_nil ⟨Nat.le_of_ble_eq_true rfl, ?_⟩⟩⟩⟩))⟩⟩))
    have hy3 : TyN 3 y ∧ Sz (m + 1) y := by
      simp only [List.mem_cons, List.not_mem_nil, or_false] at hy
      rcases hy with rfl | rfl | rfl | rfl | rfl | rfl | rfl | rfl
      · exact ⟨tyN_nil 3, fun xs e => by cases e; exact Nat.zero_le _⟩
      · exact ⟨tyN_nt ⟨_, rfl⟩ (fun xs e => by cases e) 3, fun xs e => by cases e⟩
      · exact ⟨tyN_nt ⟨_, rfl⟩ (fun xs e => by cases e) 3, fun xs e => by cases e⟩
      · exact ⟨tyN_nt ⟨_, rfl⟩ (fun xs e => by cases e) 3, fun xs e => by cases e⟩
      · exact ⟨tyN_nt ⟨_, rfl⟩ (fun xs e => by cases e) 3, fun xs e => by cases e⟩
      · exact ⟨tyN_int _ 3, fun xs e => by cases e⟩
      · exact ⟨tyN_row (by omega) 1, fun xs e => by cases e; rw [List.length_map]; omega⟩
      · exact ⟨deep_tyN 3 30, fun xs e => by cases e; show 1 ≤ m + 1; omega⟩
    exact hR _ _ _ (okI _) (okI _) hy3.1 hy3.2
  -- kind == 3
  refine ws_next (ws_seq (ws_if (wt_T (we_eqI (we_var rfl ⟨_, rfl, we_int ⟨_, rfl, _, rfl, ?_⟩⟩)))))
  refine ite2 (fun _ => ?_) (fun _ => ?_)
  · refine ws_ret (we_lst (wa_cons (we_var rfl (wa_cons (we_var rfl (wa_cons (we_catT (we_catT (we_slT (we_var rfl ⟨_, rfl, wo_none (wo_some (we_var rfl ⟨_, rfl, _, rfl, we_tup (wa_cons (we_call (wa_cons (we_var rfl (wa_cons (we_lst (wa_cons ?_)))))))⟩))⟩))))))))))
    refine we_slT (we_var rfl ⟨_, rfl, wo_none (wo_some (we_U (we_int ⟨_, rfl, _, rfl, wa_cons (we_catT (we_var rfl ⟨_, rfl, we_slT (we_var rfl ⟨_, rfl, wo_none (wo_some (we_int ⟨_, rfl, _, rfl, ?_⟩))⟩)⟩))⟩)))⟩)
    have l1 := cut_len (xs := r.map pairD) (lo := none) (hi := some 1)
    refine ⟨by omega, wa_cons (we_F (wf_listOf (we_var rfl ⟨_, .inr rfl, wa_cons (we_var rfl (wa_nil ⟨Nat.le_of_ble_eq_true rfl, wa_nil ⟨_, rfl, by simp, by simp, fun y hy => wa_nil ⟨Nat.le_of_ble_eq_true rfl, _, rfl, ?_⟩⟩⟩))⟩)))⟩
    have hy2 : TyN 2 y := by
      simp only [List.mem_cons, List.not_mem_nil, or_false] at hy
      rcases hy with rfl | rfl | rfl | rfl
      · exact tyN_tup (by have := cut_len (xs := r.map pairD) (lo := none) (hi := some (-1)); omega) fun z hz => hpair z (mem_cut hz)
      · refine tyN_tup (by rw [List.length_append]; omega) fun z hz => ?_
        rcases List.mem_append.mp hz with h | h
        · exact hpair z h
        · exact hpair z (mem_cut h)
      · exact tyN_nt ⟨_, rfl⟩ (fun xs e => by cases e) 2
      · exact hodd 2
    have hc := cutsR hy2
    refine ⟨by show _ + 1 ≤ _; omega, _, rfl, we_slT (we_var rfl ⟨_, rfl, wo_some (we_I0 (we_var rfl ⟨_, rfl, we_int ⟨_, rfl, _, rfl, wo_none ⟨_, rfl, ?_⟩⟩⟩))⟩)⟩
    exact ⟨by rw [List.length_append]; show _ + 1 + _ ≤ _; omega, wa_nil ⟨Nat.le_of_ble_eq_true rfl, hR _ _ _ (okI _) (okI _) hc.1 hc.2⟩⟩
  -- the item
  refine ws_next (ws_seq (ws_asg (we_ixT (we_var rfl ⟨_, rfl, we_var rfl ⟨_, _, rfl, atq, ?_⟩⟩))))
  refine ws_seq (ws_to (fun ρ => ∃ y : D, TyN 1 y ∧ ρ = [some (.d .hand), some (.d (partsL base first rs)), some (.d (.int base)), some (.d (.int first)), some (.d (rowsM rs)), some (.d (.int (a : Int))), some (.d (.int (pl : Int))), some (.d (.int kd)), some (.d odd), some (.d (rowM r)), some (.d y)]) ?_ ?_)
  · refine ws_if (wt_T (we_eqI (we_var rfl ⟨_, rfl, we_int ⟨_, rfl, _, rfl, ?_⟩⟩)))
    refine ite2 (fun _ => ?_) (fun _ => ?_)
    · refine ws_asg (we_tup (wa_cons (we_ixT (we_var rfl ⟨_, rfl, we_int ⟨0, _, rfl, rfl, wa_cons (we_call (wa_cons (we_var rfl (wa_cons (we_lst (wa_cons (we_len (we_var rfl ⟨_, .inr rfl, ?_⟩))))))))⟩⟩))))
      refine wa_cons (we_U (we_int ⟨_, rfl, wa_cons (we_I0 (we_len (we_var rfl ⟨_, .inr rfl, _, rfl, we_int ⟨_, rfl, wa_cons (we_var rfl (wa_nil ⟨Nat.le_of_ble_eq_true rfl, wa_nil ⟨_, rfl, by simp, by simp, fun y hy => wa_nil ⟨len2, ?_⟩⟩⟩))⟩⟩)))⟩))
      refine ⟨_, tyN_tup len2 fun z hz => ?_, rfl⟩
      simp only [List.mem_cons, List.not_mem_nil, or_false] at hz
      rcases hz with rfl | rfl
      · exact tyN_int _ 0
      · simp only [List.mem_cons, List.not_mem_nil, or_false] at hy
        rcases hy with rfl | rfl | rfl | rfl
        · exact tyN_int _ 0
        · exact tyN_int _ 0
        · exact tyN_int _ 0
        · exact hodd 0
    refine ws_if (wt_T (we_eqI (we_var rfl ⟨_, rfl, we_int ⟨_, rfl, _, rfl, ?_⟩⟩)))
    refine ite2 (fun _ => ?_) (fun _ => ?_)
    · refine ws_asg (we_tup (wa_cons (we_var rfl (wa_cons (we_ixT (we_var rfl ⟨_, rfl, we_int ⟨1, _, rfl, rfl, wa_nil ⟨len2, ?_⟩⟩⟩))))))
      refine ⟨_, tyN_tup len2 fun z hz => ?_, rfl⟩
      simp only [List.mem_cons, List.not_mem_nil, or_false] at hz
      rcases hz with rfl | rfl
      · exact hodd 0
      · exact tyN_int _ 0
    refine ws_if (wt_T (we_eqI (we_var rfl ⟨_, rfl, we_int ⟨_, rfl, _, rfl, ?_⟩⟩)))
    refine ite2 (fun _ => ?_) (fun _ => ?_)
    · refine ws_asg (we_call (wa_cons (we_var rfl (wa_cons (we_lst (wa_cons (we_F (wf_listOf (we_var rfl ⟨_, .inr rfl, wa_cons (we_catT (we_var rfl ⟨_, rfl, we_tup (wa_cons (we_int (wa_nil ⟨Nat.le_of_ble_eq_true rfl, _, rfl, Nat.le_of_ble_eq_true rfl, ?_⟩)))⟩))⟩)))))))))
      refine wa_cons (we_slT (we_var rfl ⟨_, rfl, wo_none (wo_some (we_int ⟨_, rfl, wa_cons (we_var rfl (wa_nil ⟨Nat.le_of_ble_eq_true rfl, wa_nil ⟨_, rfl, by simp, by simp, fun y hy => ?_⟩⟩))⟩))⟩))
      refine ⟨_, ?_, rfl⟩
      simp only [List.mem_cons, List.not_mem_nil, or_false] at hy
      rcases hy with rfl | rfl | rfl | rfl
      · exact tyN_nt ⟨_, rfl⟩ (fun xs e => by cases e) 1
      · refine tyN_tup (Nat.le_of_ble_eq_true rfl) fun z hz => ?_
        simp only [List.mem_append, List.mem_cons, List.not_mem_nil, or_false] at hz
        rcases hz with (rfl | rfl) | rfl
        · exact tyN_int _ 0
        · exact tyN_int _ 0
        · exact tyN_int _ 0
      · refine tyN_tup (Nat.le_trans cut_len len2) fun z hz => ?_
        have hz := mem_cut hz
        simp only [List.mem_cons, List.not_mem_nil, or_false] at hz
        rcases hz with rfl | rfl
        · exact tyN_int _ 0
        · exact tyN_int _ 0
      · exact hodd 1
    refine ws_if (wt_T (we_eqI (we_var rfl ⟨_, rfl, we_int ⟨_, rfl, _, rfl, ?_⟩⟩)))
    refine ite2 (fun _ => ?_) (fun _ => ?_)
    · refine ws_asg (we_tup (wa_cons (we_I0 (we_ixT (we_var rfl ⟨_, rfl, we_int ⟨0, _, rfl, rfl, _, rfl, we_int ⟨_, rfl, wa_cons (we_ixT (we_var rfl ⟨_, rfl, we_int ⟨1, _, rfl, rfl, wa_nil ⟨len2, ?_⟩⟩⟩))⟩⟩⟩)))))
      refine ⟨_, tyN_tup len2 fun z hz => ?_, rfl⟩
      simp only [List.mem_cons, List.not_mem_nil, or_false] at hz
      rcases hz with rfl | rfl
      · exact tyN_int _ 0
      · exact tyN_int _ 0
    · refine ws_ret (we_lst (wa_cons (we_var rfl (wa_cons (we_var rfl (wa_cons (we_catT (we_var rfl ⟨_, rfl, we_tup (wa_cons (we_ixT (we_var rfl ⟨_, rfl, we_int ⟨_, _, rfl, h0at, wa_nil ⟨Nat.le_of_ble_eq_true rfl, _, rfl, ?_⟩⟩⟩)))⟩))))))))
      have hl : ((rs.map rowM) ++ [rowM r0]).length ≤ m + 1 := by rw [List.length_append, hmap]; show rs.length + 1 ≤ m + 1; omega
      refine ⟨by rw [hmap]; show _ + 1 ≤ _; omega, wa_nil ⟨Nat.le_of_ble_eq_true rfl, hR _ _ _ (okI _) (okI _) (tyN_tup (by omega) fun z hz => ?_) (fun xs e => by cases e; exact hl)⟩⟩
      rcases List.mem_append.mp hz with h | h
      · exact hrow z h
      · rw [List.mem_singleton.mp h]; exact tyN_row (by omega) 0
  rintro ρ ⟨y, hy1, rfl⟩
  refine ws_ret (we_lst (wa_cons (we_var rfl (wa_cons (we_var rfl (wa_cons (we_catT (we_catT (we_slT (we_var rfl ⟨_, rfl, wo_none (wo_some (we_var rfl ⟨_, rfl, _, rfl, we_tup (wa_cons ?_)⟩))⟩))))))))))
  refine we_catT (we_catT (we_slT (we_var rfl ⟨_, rfl, wo_none (wo_some (we_var rfl ⟨_, rfl, _, rfl, we_tup (wa_cons (we_var rfl (wa_nil ⟨Nat.le_of_ble_eq_true rfl, _, rfl, ?_⟩)))⟩))⟩)))
  refine ⟨by show _ + 1 ≤ _; omega, _, rfl, we_slT (we_var rfl ⟨_, rfl, wo_some (we_I0 (we_var rfl ⟨_, rfl, we_int ⟨_, rfl, _, rfl, wo_none ⟨_, rfl, ?_⟩⟩⟩))⟩)⟩
  refine ⟨by rw [List.length_append]; show _ + 1 + _ ≤ _; omega, wa_nil ⟨Nat.le_of_ble_eq_true rfl, _, rfl, ?_⟩⟩
  have hc := cutsR (cutsI hy1)
  refine ⟨by show _ + 1 ≤ _; omega, _, rfl, we_slT (we_var rfl ⟨_, rfl, wo_some (we_I0 (we_var rfl ⟨_, rfl, we_int ⟨_, rfl, _, rfl, wo_none ⟨_, rfl, ?_⟩⟩⟩))⟩)⟩
  exact ⟨by rw [List.length_append]; show _ + 1 + _ ≤ _; omega, wa_nil ⟨Nat.le_of_ble_eq_true rfl, hR _ _ _ (okI _) (okI _) hc.1 hc.2⟩⟩
/-! ### two rows wrong -/
theorem atI_end {α : Type} {xs : List α} {i : Int} {j : Nat} (h : j < xs.length) (e : i = -1 - (j : Int)) : atI xs i = some xs[xs.length - 1 - j] := by
  unfold atI ixN
  rw [if_neg (by omega), if_pos (by omega)]
  have e1 : (i + (xs.length : Int)).toNat = xs.length - 1 - j := by omega
  show xs[(i + (xs.length : Int)).toNat]? = _
  rw [e1]
  exact List.getElem?_eq_getElem (by omega)
def S_law_twice : List D → (D → Prop) → Prop := fun ds R => ∃ (base first : Int) (rs : List (List (Int × Nat))), ds = [.hand, partsL base first rs] ∧ Mach base rs ∧ 1 < rs.length ∧ rs.length ≤ 100 ∧ ∀ r, TyN 3 r → R (.lst [.int base, .int first, r])
theorem l_law_twice : ∀ ds R, S_law_twice ds R → ds.length = 2 := fun ds R ⟨_, _, _, e, _⟩ => by rw [e]; rfl
theorem d_law_twice (T : Txt K mg) : Dfn P w K mg bs 3 "_law_twice" ["hand", "parts"] S_law_twice := by
  have D_law_draw := d_law_draw (P := P) (w := w) (bs := bs) T
  refine mkD (k := 2) T.s_law_twice sc_law_twice (fun _ _ _ _ _ _ us hl => match us, hl with | [_, _], _ => rfl) l_law_twice fun f cdv A outer s H E hr => ?_
  have hu := hu_of hr
  refine ⟨_, (pss_cons (ps_asg (pv 1) (pg_lst rfl (pgs_cons (pg_name (i := 2) sc_law_twice.nd rfl (Or.inl rfl)) (pgs_cons (pg_name (i := 3) sc_law_twice.nd rfl (Or.inl rfl)) (pgs_cons (pg_name (i := 4) sc_law_twice.nd rfl (Or.inl rfl)) pgs_nil)))))
      (pss_cons (ps_par (i := 5) (j := 6) (by rfl) sc_law_twice.nd rfl rfl (by decide) rfl rfl (pa_cons (pe_callK0 (K0 := K) (by rfl) D_law_draw (hr.mono (by decide)) (pa_cons (pv 0) (pa_cons (pe_op op_sub (pe_callB (call_lenK (K0 := K) (by rfl)) (by rfl) T.n_len (by decide +kernel) (pa_cons (pv 4) pa_nil)) pe_int) pa_nil))) (pa_cons (pe_slice (sl_tupK (K0 := K) (by rfl)) (pe_ix (ix_tupK (K0 := K) (by rfl)) (pv 4) (pe_un un_neg pe_int) (fun _ _ => rfl)) po_none (po_some (pe_un un_neg pe_int))) pa_nil)) (by rfl))
      (pss_cons (ps_set (i := 7) sc_law_twice.nd rfl (Or.inl rfl) (pe_op (op_catK (K0 := K) (by rfl)) (pe_tup (pa_cons (pe_tup (pa_cons (pe_ix (ix_tupK (K0 := K) (by rfl)) (pe_ix (ix_tupK (K0 := K) (by rfl)) (pe_ix (ix_tupK (K0 := K) (by rfl)) (pv 4) (pv 5) (fun _ _ => rfl)) pe_int (fun _ _ => rfl)) pe_int (fun _ _ => rfl)) (pa_cons (pe_callB (call_lenK (K0 := K) (by rfl)) (by rfl) T.n_len (by decide +kernel) (pa_cons (pv 4) pa_nil)) pa_nil))) pa_nil)) (pe_slice (sl_tupK (K0 := K) (by rfl)) (pe_ix (ix_tupK (K0 := K) (by rfl)) (pv 4) (pv 5) (fun _ _ => rfl)) (po_some pe_int) po_none)))
      (pss_one (ps_ret (pe_lst (pa_cons (pv 2) (pa_cons (pv 3) (pa_cons (pe_op (op_catK (K0 := K) (by rfl)) (pe_op (op_catK (K0 := K) (by rfl)) (pe_op (op_catK (K0 := K) (by rfl)) (pe_slice (sl_tupK (K0 := K) (by rfl)) (pv 4) po_none (po_some (pv 5))) (pe_tup (pa_cons (pv 7) pa_nil))) (pe_slice (sl_tupK (K0 := K) (by rfl)) (pv 4) (po_some (pe_op op_add (pv 5) pe_int)) (po_some (pe_un un_neg pe_int)))) (pe_tup (pa_cons (pv 6) pa_nil))) pa_nil))))))))), fun h H0 G0 ds R hS => ?_⟩
  obtain ⟨base, first, rs, rfl, hM, hm1, hm2, hR⟩ := hS
  have hb1 := hM.lo
  have hb2 := hM.hi
  have hrl : ∀ r ∈ rs, r.length ≤ 9 ∧ 0 < r.length := fun r hr => by
    have := (hM.row r hr).1
    constructor <;> omega
  have hmap : (rs.map rowM).length = rs.length := List.length_map ..
  have hrow : ∀ y ∈ rs.map rowM, TyN 2 y := fun y hy => by
    obtain ⟨r, hr, rfl⟩ := List.mem_map.mp hy
    exact tyN_row (by have := (hrl r hr).1; omega) 0
  refine ws_seq (ws_asgG (we_var rfl (wg_lst ⟨_, rfl, rfl, wgs_cons ⟨_, _, rfl, wg_name (wgs_cons ⟨_, _, rfl, wg_name (wgs_cons ⟨_, _, rfl, wg_name (wgs_nil ⟨rfl, ?_⟩)⟩)⟩)⟩⟩)))
  obtain ⟨rz, hz, hzr⟩ : ∃ rz, atI (rs.map rowM) (-1 : Int) = some (rowM rz) ∧ rz ∈ rs := by
    have e := atI_end (xs := rs.map rowM) (i := -1) (j := 0) (by omega) rfl
    have hi : (rs.map rowM)[(rs.map rowM).length - 1 - 0]'(by omega) ∈ rs.map rowM := List.getElem_mem _
    obtain ⟨rz, h1, h2⟩ := List.mem_map.mp hi
    exact ⟨rz, by rw [e, ← h2], h1⟩
  have hpair : ∀ r : List (Int × Nat), ∀ y ∈ r.map pairD, TyN 1 y := fun r y hy => by
    obtain ⟨z, _, rfl⟩ := List.mem_map.mp hy
    exact tyN_pair z 0
  refine ws_seq (ws_par (wa_cons (we_call (wa_cons (we_var rfl (wa_cons (we_I0 (we_len (we_var rfl ⟨_, .inr rfl, _, rfl, we_int ⟨_, rfl, wa_nil ⟨(rs.length : Int) - 1, by rw [hmap]; rfl, by omega, by omega, fun a0 ha0 ha1 => wa_cons ?_⟩⟩⟩)))))))))
  refine we_slT (we_ixT (we_var rfl ⟨_, rfl, we_U (we_int ⟨_, rfl, _, _, rfl, hz, _, rfl, wo_none (wo_some (we_U (we_int ⟨_, rfl, _, rfl, wa_nil ⟨_, _, rfl, ?_⟩⟩)))⟩)⟩))
  obtain ⟨a, rfl⟩ : ∃ n : Nat, a0 = (n : Int) := ⟨a0.toNat, by omega⟩
  have hal : a < rs.length := by omega
  have hra : rs[a]? = some (rs[a]'hal) := List.getElem?_eq_getElem hal
  have hrr := hrl _ (List.mem_of_getElem? hra)
  generalize rs[a]'hal = r at hra hrr
  have atr : atI (rs.map rowM) (a : Int) = some (rowM r) := atI_nat (by rw [List.getElem?_map, hra]; rfl) rfl
  obtain ⟨q, hq⟩ : ∃ q, r[0]? = some q := ⟨r[0]'hrr.2, List.getElem?_eq_getElem hrr.2⟩
  have atq : atI (r.map pairD) (0 : Int) = some (pairD q) := atI_nat (j := 0) (by rw [List.getElem?_map, hq]; rfl) rfl
  have hrm : (r.map pairD).length = r.length := List.length_map ..
  refine ws_seq (ws_asg (we_catT (we_tup (wa_cons (we_tup (wa_cons (we_ixT (we_ixT (we_ixT (we_var rfl ⟨_, rfl, we_var rfl ⟨_, _, rfl, atr, _, rfl, we_int ⟨_, _, rfl, atq, _, rfl, we_int ⟨0, _, rfl, rfl, wa_cons (we_len (we_var rfl ⟨_, .inr rfl, ?_⟩))⟩⟩⟩⟩))))))))))
  refine wa_nil ⟨len2, wa_nil ⟨Nat.le_of_ble_eq_true rfl, _, rfl, we_slT (we_ixT (we_var rfl ⟨_, rfl, we_var rfl ⟨_, _, rfl, atr, _, rfl, wo_some (we_int ⟨_, rfl, wo_none ⟨_, rfl, ?_⟩⟩)⟩⟩))⟩⟩
  have c1 := cut_len (xs := r.map pairD) (lo := some 1) (hi := none)
  have c2 := cut_len (xs := rs.map rowM) (lo := none) (hi := some (a : Int))
  have c3 := cut_len (xs := rs.map rowM) (lo := some ((a : Int) + 1)) (hi := some (-1))
  have elder : TyN 2 (.tup ([D.tup [.int q.1, .int (((rs.map rowM).length : Nat) : Int)]] ++ Cal.cutD (r.map pairD) (some 1) none)) := by
    refine tyN_tup ?_ fun z hz => ?_
    · rw [List.length_append]
      show 1 + _ ≤ _
      omega
    rcases List.mem_append.mp hz with h | h
    · rw [List.mem_singleton.mp h]
      refine tyN_tup len2 fun w hw => ?_
      simp only [List.mem_cons, List.not_mem_nil, or_false] at hw
      rcases hw with rfl | rfl
      · exact tyN_int _ 0
      · exact tyN_int _ 0
    · exact hpair r z (mem_cut h)
  refine ⟨by show 1 + _ ≤ _; omega, ?_⟩
  refine ws_ret (we_lst (wa_cons (we_var rfl (wa_cons (we_var rfl (wa_cons (we_catT (we_catT (we_catT (we_slT (we_var rfl ⟨_, rfl, wo_none (wo_some (we_var rfl ⟨_, rfl, _, rfl, we_tup (wa_cons (we_var rfl (wa_nil ⟨Nat.le_of_ble_eq_true rfl, _, rfl, ?_⟩)))⟩))⟩)))))))))))
  refine ⟨by show _ + 1 ≤ _; omega, _, rfl, we_slT (we_var rfl ⟨_, rfl, wo_some (we_I0 (we_var rfl ⟨_, rfl, we_int ⟨_, rfl, _, rfl, wo_some (we_U (we_int ⟨_, rfl, _, rfl, _, rfl, ?_⟩))⟩⟩))⟩)⟩
  refine ⟨by rw [List.length_append]; show _ + 1 + _ ≤ _; omega, _, rfl, we_tup (wa_cons (we_var rfl (wa_nil ⟨Nat.le_of_ble_eq_true rfl, _, rfl, ?_⟩)))⟩
  refine ⟨by rw [List.length_append, List.length_append]; show _ + 1 + _ + 1 ≤ _; omega, wa_nil ⟨Nat.le_of_ble_eq_true rfl, hR _ (tyN_tup ?_ fun z hz => ?_)⟩⟩
  · rw [List.length_append, List.length_append, List.length_append]
    show _ + 1 + _ + 1 ≤ _
    omega
  · rcases List.mem_append.mp hz with h | h
    · rcases List.mem_append.mp h with h | h
      · rcases List.mem_append.mp h with h | h
        · exact hrow z (mem_cut h)
        · rw [List.mem_singleton.mp h]; exact elder
      · exact hrow z (mem_cut h)
    · rw [List.mem_singleton.mp h]
      refine tyN_tup (Nat.le_trans cut_len ?_) fun w hw => hpair rz w (mem_cut hw)
      rw [List.length_map]
      have := (hrl rz hzr).1
      omega
/-! ### the law -/
theorem pairOk_ok {n : Nat} {x : D} (h : pairOk n x = true) : ∃ q : Int × Nat, x = pairD q ∧ q.2 < n := by
  unfold pairOk at h
  split at h
  · rename_i a b
    obtain ⟨h1, h2⟩ := (Bool.and_eq_true_iff).mp h
    obtain ⟨i, rfl⟩ : ∃ i, a = D.int i := by cases a <;> first | exact ⟨_, rfl⟩ | cases h1
    obtain ⟨j, rfl⟩ : ∃ j, b = D.int j := by cases b <;> first | exact ⟨_, rfl⟩ | cases h2
    have h3 : (decide (0 ≤ j) && decide (j ≤ (n : Int) - 1)) = true := h2
    obtain ⟨h4, h5⟩ := (Bool.and_eq_true_iff).mp h3
    have h4 := of_decide_eq_true h4
    have h5 := of_decide_eq_true h5
    refine ⟨(i, j.toNat), ?_, by show j.toNat < n; omega⟩
    show D.tup [.int i, .int j] = D.tup [.int i, .int ((j.toNat : Nat) : Int)]
    rw [show ((j.toNat : Nat) : Int) = j by omega]
  · cases h
theorem rowOk_ok {base : Int} {n : Nat} {x : D} (h : rowOk base n x = true) : ∃ r : List (Int × Nat), x = rowM r ∧ (r.length : Int) = 2 * base - 1 ∧ ∀ q ∈ r, q.2 < n := by
  unfold rowOk at h
  obtain ⟨h1, h2⟩ := (Bool.and_eq_true_iff).mp h
  obtain ⟨xs, rfl⟩ : ∃ xs, x = D.tup xs := by cases x <;> first | exact ⟨_, rfl⟩ | cases h1
  have h3 : decide ((xs.length : Int) = 2 * base - 1) = true := h1
  have h4 := of_decide_eq_true h3
  have h5 : ∀ y ∈ xs, pairOk n y = true := List.all_eq_true.mp h2
  obtain ⟨r, e, hq⟩ : ∃ r : List (Int × Nat), xs = r.map pairD ∧ ∀ q ∈ r, q.2 < n := by
    clear h4 h3 h2 h1 h
    induction xs with
    | nil => exact ⟨[], rfl, fun q h => absurd h List.not_mem_nil⟩
    | cons y ys ih =>
      obtain ⟨r, e, hq⟩ := ih fun z hz => h5 z (List.mem_cons_of_mem _ hz)
      obtain ⟨q, eq, h⟩ := pairOk_ok (h5 y List.mem_cons_self)
      refine ⟨q :: r, by rw [List.map_cons, ← e, ← eq], fun z hz => ?_⟩
      rcases List.mem_cons.mp hz with rfl | hz
      · exact h
      · exact hq z hz
  subst e
  exact ⟨r, rfl, by rw [List.length_map] at h4; exact h4, hq⟩
theorem parts_ok {b f r : D} (h : partsBad b f r = none) : ∃ (base first : Int) (rs : List (List (Int × Nat))), b = .int base ∧ f = .int first ∧ r = rowsM rs ∧ 2 ≤ base ∧ base ≤ 5 ∧ rs ≠ [] ∧ ∀ r ∈ rs, (r.length : Int) = 2 * base - 1 ∧ ∀ q ∈ r, q.2 < rs.length := by
  have hb : within 2 5 b = true := by
    cases hb : within 2 5 b with
    | true => rfl
    | false => unfold partsBad at h; rw [if_pos hb] at h; cases h
  obtain ⟨base, rfl⟩ : ∃ i, b = D.int i := by cases b <;> first | exact ⟨_, rfl⟩ | cases hb
  have hf : isI f = true := by
    cases hf : isI f with
    | true => rfl
    | false => unfold partsBad at h; rw [if_neg (by rw [hb]; decide), if_pos hf] at h; cases h
  obtain ⟨first, rfl⟩ : ∃ i, f = D.int i := by cases f <;> first | exact ⟨_, rfl⟩ | cases hf
  rw [partsBad_step hb hf] at h
  obtain ⟨xs, rfl⟩ : ∃ xs, r = D.tup xs := by cases r <;> first | exact ⟨_, rfl⟩ | cases h
  dsimp only at h
  have hne : xs ≠ [] := fun e => by rw [if_pos e] at h; cases h
  rw [if_neg hne] at h
  have h5 : ∀ y ∈ xs, rowOk base xs.length y = true := fun y hy => by
    have := List.findIdx?_eq_none_iff.mp (Option.map_eq_none_iff.mp h) y hy
    simpa using this
  have hw : (decide (2 ≤ base) && decide (base ≤ 5)) = true := hb
  obtain ⟨w1, w2⟩ := (Bool.and_eq_true_iff).mp hw
  obtain ⟨rs, e, hq⟩ : ∃ rs : List (List (Int × Nat)), xs = rs.map rowM ∧ ∀ r ∈ rs, (r.length : Int) = 2 * base - 1 ∧ ∀ q ∈ r, q.2 < xs.length := by
    generalize xs.length = n at h5
    clear h hne
    induction xs with
    | nil => exact ⟨[], rfl, fun q h => absurd h List.not_mem_nil⟩
    | cons y ys ih =>
      obtain ⟨r, e, hq⟩ := ih fun z hz => h5 z (List.mem_cons_of_mem _ hz)
      obtain ⟨q, eq, h⟩ := rowOk_ok (h5 y List.mem_cons_self)
      refine ⟨q :: r, by rw [List.map_cons, ← e, ← eq], fun z hz => ?_⟩
      rcases List.mem_cons.mp hz with rfl | hz
      · exact h
      · exact hq z hz
  subst e
  refine ⟨base, first, rs, rfl, rfl, rfl, of_decide_eq_true w1, of_decide_eq_true w2, fun e => hne (by rw [e]; rfl), ?_⟩
  rw [List.length_map] at hq
  exact hq
theorem mach_good {base first : Int} {rs : List (List (Int × Nat))} (h : Mach base rs) : partsBad (.int base) (.int first) (rowsM rs) = none := by
  have hb : within 2 5 (.int base) = true := by
    show (decide (2 ≤ base) && decide (base ≤ 5)) = true
    rw [decide_eq_true h.lo, decide_eq_true h.hi]; rfl
  rw [partsBad_step hb rfl]
  show (if rs.map rowM = [] then _ else _) = _
  rw [if_neg fun e => h.ne (List.map_eq_nil_iff.mp e), List.findIdx?_eq_none_iff.mpr fun z hz => ?_]
  · rfl
  · obtain ⟨r, hr, rfl⟩ := List.mem_map.mp hz
    obtain ⟨h1, h2⟩ := h.row r hr
    rw [List.length_map]
    have e1 : tupOf (2 * base - 1) (rowM r) = true := by
      show decide (((r.map pairD).length : Int) = 2 * base - 1) = true
      rw [List.length_map, decide_eq_true h1]
    have e2 : (tupL (rowM r)).all (pairOk rs.length) = true := List.all_eq_true.mpr fun y hy => by
      obtain ⟨q, hq, rfl⟩ := List.mem_map.mp hy
      show pairOk rs.length (.tup [.int q.1, .int (q.2 : Int)]) = true
      rw [pairOk_int, decide_eq_true (by omega), decide_eq_true (by have := h2 q hq; omega)]; rfl
    unfold rowOk
    rw [e1, e2]; rfl
theorem bad_kind {b f r y : D} (h : partsBad b f r = some y) : (∃ s, y = .str s) ∨ ∃ i, y = .int i := by
  unfold partsBad at h
  split at h
  · cases h; exact .inl ⟨_, rfl⟩
  split at h
  · cases h; exact .inl ⟨_, rfl⟩
  split at h
  · split at h
    · cases h; exact .inl ⟨_, rfl⟩
    · obtain ⟨s, _, e⟩ := Option.map_eq_some_iff.mp h
      exact .inr ⟨_, e.symm⟩
  · cases h; exact .inl ⟨_, rfl⟩
theorem isEL_map {α : Type} [DecidableEq α] {f : α → D} (h : ∀ a b, isE (f a) (f b) = decide (a = b)) : ∀ xs ys : List α, isEL (xs.map f) (ys.map f) = decide (xs = ys)
  | [], [] => by rw [List.map_nil, isEL]; rfl
  | [], y :: ys => by rw [List.map_nil, List.map_cons, isEL]; all_goals (intros; simp_all)
  | x :: xs, [] => by rw [List.map_nil, List.map_cons, isEL]; all_goals (intros; simp_all)
  | x :: xs, y :: ys => by
    rw [List.map_cons, List.map_cons, isEL, isEL_map h xs ys, h]
    by_cases e : x = y
    · by_cases e2 : xs = ys
      · rw [decide_eq_true e, decide_eq_true e2, decide_eq_true (by rw [e, e2])]; rfl
      · rw [decide_eq_true e, decide_eq_false e2, decide_eq_false (fun z => e2 (List.cons.inj z).2)]; rfl
    · rw [decide_eq_false e, decide_eq_false (fun z => e (List.cons.inj z).1)]; rfl
theorem isE_tupM {α : Type} [DecidableEq α] {f : α → D} (h : ∀ a b, isE (f a) (f b) = decide (a = b)) (xs ys : List α) : isE (.tup (xs.map f)) (.tup (ys.map f)) = decide (xs = ys) := by
  rw [isE]
  exact isEL_map h xs ys
theorem isE_pairD (a b : Int × Nat) : isE (pairD a) (pairD b) = decide (a = b) := by
  have e := isE_tupM (f := D.int) (fun i j => by rw [isE]) [a.1, (a.2 : Int)] [b.1, (b.2 : Int)]
  refine e.trans ?_
  by_cases h : a = b
  · rw [decide_eq_true h, decide_eq_true (by rw [h])]
  · rw [decide_eq_false h]
    refine decide_eq_false fun z => h (Prod.ext (List.cons.inj z).1 ?_)
    have := (List.cons.inj (List.cons.inj z).2).1
    omega
theorem isE_rowsM (a b : List (List (Int × Nat))) : isE (rowsM a) (rowsM b) = decide (a = b) := isE_tupM (fun x y => isE_tupM isE_pairD x y) a b
theorem isE_parts {b1 f1 b2 f2 : Int} {r1 r2 : List (List (Int × Nat))} : isE (partsL b1 f1 r1) (partsL b2 f2 r2) = (decide (b1 = b2) && (decide (f1 = f2) && decide (r1 = r2))) := by
  unfold partsL
  rw [isE, isEL, isEL, isEL, isEL, isE, isE, isE_rowsM, Bool.and_true]
theorem p3_parts {b1 f1 b2 f2 : Int} {r1 r2 : List (List (Int × Nat))} (hl : r1.length ≤ 4000000) (hr : ∀ r ∈ r1, r.length ≤ 9) : P3 4 (partsL b1 f1 r1) (partsL b2 f2 r2) := by
  refine .lst (Nat.le_of_ble_eq_true rfl) fun _ k x y hx hy => ?_
  match k, hx, hy with
  | 0, hx, hy => cases hx; cases hy; exact .int ..
  | 1, hx, hy => cases hx; cases hy; exact .int ..
  | 2, hx, hy =>
    cases hx; cases hy
    refine .tup (by rw [List.length_map]; exact hl) fun _ k x y hx hy => ?_
    rw [List.getElem?_map] at hx hy
    obtain ⟨r, hr', rfl⟩ := Option.map_eq_some_iff.mp hx
    obtain ⟨z, _, rfl⟩ := Option.map_eq_some_iff.mp hy
    refine .tup (by rw [List.length_map]; have := hr r (List.mem_of_getElem? hr'); omega) fun _ k x y hx hy => ?_
    rw [List.getElem?_map] at hx hy
    obtain ⟨q, _, rfl⟩ := Option.map_eq_some_iff.mp hx
    obtain ⟨z2, _, rfl⟩ := Option.map_eq_some_iff.mp hy
    refine .tup len2 fun _ k x y hx hy => ?_
    match k, hx, hy with
    | 0, hx, hy => cases hx; cases hy; exact .int ..
    | 1, hx, hy => cases hx; cases hy; exact .int ..
    | k + 2, hx, _ => cases hx
  | k + 3, hx, _ => cases hx
def OkP (x : D) : Prop := ∃ b f r : D, x = .lst [b, f, r] ∧ Ty b ∧ Ty f ∧ TyN 3 r
theorem ok_law {f : Addr} {fd : FuncData} (T : Txt K mg) (F : Fun K "law" "law" s_law f fd) : FnOk P w K mg bs CX0 9 f fd ["script"] (spLaw K) := by
  have D_law_hand := d_law_hand (P := P) (w := w) (bs := bs) T
  have D_law_parts := d_law_parts (P := P) (w := w) (bs := bs) T
  have D_law_made := d_law_made (P := P) (w := w) (bs := bs) T
  have D_law_any := d_law_any (P := P) (w := w) (bs := bs) T
  have D_law_bent := d_law_bent (P := P) (w := w) (bs := bs) T
  have D_law_is := d_law_is (P := P) (w := w) (bs := bs) T 4
  have D_law_twice := d_law_twice (P := P) (w := w) (bs := bs) T
  have D_law_due := d_law_due (P := P) (w := w) (bs := bs) T
  obtain ⟨CE_Machine, gE_Machine, kE_Machine, E_Machine⟩ := d_Machine_eq (P := P) (w := w) (bs := bs) T
  refine F.ok sc_law (fun vs H Q E h => ?_) (fun cdv A outer s H vs Q E hr h => ?_)
  · obtain ⟨a, ns, rfl, _⟩ := h; rfl
  obtain ⟨a, ns, rfl, hS, hl, hQ⟩ := h
  have hu := hu_of hr
  refine ⟨_, (pss_cons (ps_set (i := 1) sc_law.nd rfl (Or.inl rfl) (pe_callR D_law_hand (hr.mono (by decide)) (pa_cons (pv 0) pa_nil)))
      (pss_cons (ps_for PassesOwn.never rfl (pi_range1 rfl T.n_range (pa_cons pe_int pa_nil)) (pg_name (i := 2) sc_law.nd rfl (Or.inl rfl))
      (pss_cons (ps_set (i := 3) sc_law.nd rfl (Or.inl rfl) (pe_callK0 (K0 := K) (by rfl) D_law_parts (hr.mono (by decide)) (pa_cons (pv 1) pa_nil)))
      (pss_cons (ps_set (i := 4) sc_law.nd rfl (Or.inr rfl) (pe_callK0 (K0 := K) (by rfl) D_law_made (hr.mono (by decide)) (pa_cons (pv 3) pa_nil)))
      (pss_cons (ps_if (PW.pt (pw_or (pt_val (pe_callB (call_isiK0 (K0 := K) (by rfl)) (by rfl) T.n_isinstance (by decide +kernel) (pa_cons (pv 4) (pa_cons (pe_bltn (v := .ty "tuple") (by rfl) T.n_tuple (by decide +kernel) rfl) pa_nil)))) (pw_or1 (pt_not (pt_val (pe_callK0 (K0 := K) (by rfl) D_law_is (hr.mono (by decide)) (pa_cons (pe_lst (pa_cons (pe_fld (pv 4) rfl) (pa_cons (pe_fld (pv 4) rfl) (pa_cons (pe_fld (pv 4) rfl) pa_nil)))) (pa_cons (pv 3) pa_nil)))))))) (pss_one (ps_ret pe_bl)) pss_nil)
      (pss_cons (ps_set (i := 5) sc_law.nd rfl (Or.inl rfl) (pe_callK0 (K0 := K) (by rfl) D_law_any (hr.mono (by decide)) (pa_cons (pv 1) (pa_cons (pe_lst (pa_cons pe_int (pa_cons pe_int pa_nil))) pa_nil))))
      (pss_cons (ps_set (i := 6) sc_law.nd rfl (Or.inl rfl) (pe_lst (pa_cons (pe_callK0 (K0 := K) (by rfl) D_law_bent (hr.mono (by decide)) (pa_cons (pv 1) (pa_cons (pv 3) pa_nil))) (pa_cons (pe_lst (pa_cons (pv 5) (pa_cons (pe_ix (ix_listK (K0 := K) (by rfl)) (pv 3) pe_int (fun _ _ => rfl)) (pa_cons (pe_tup (pa_cons (pe_op (op_repT1K (K0 := K) (by rfl)) (pe_tup (pa_cons (pe_tup (pa_cons (pe_ix (ix_listK (K0 := K) (by rfl)) (pv 3) pe_int (fun _ _ => rfl)) (pa_cons pe_int pa_nil))) pa_nil)) (pe_op op_sub (pe_op op_mulA pe_int (pv 5)) pe_int)) pa_nil)) pa_nil)))) pa_nil))))
      (pss_cons (ps_expr (pe_bm PySem.F.plainAttrs_list PySem.F.slot_list_append PySem.F.type_list_append mt_append (pv 6) (pa_cons (pe_ifExp (pt_cmpR op_isN (pe_callK0 (K0 := K) (by rfl) D_law_due (hr.mono (by decide)) (pa_cons (pe_ix (ix_listK (K0 := K) (by rfl)) (pv 6) pe_int (fun _ _ => rfl)) pa_nil)) pe_non (nomark _)) (pe_callK0 (K0 := K) (by rfl) D_law_bent (hr.mono (by decide)) (pa_cons (pv 1) (pa_cons (pe_ix (ix_listK (K0 := K) (by rfl)) (pv 6) pe_int (fun _ _ => rfl)) pa_nil))) (pe_callK0 (K0 := K) (by rfl) D_law_bent (hr.mono (by decide)) (pa_cons (pv 1) (pa_cons (pv 3) pa_nil)))) pa_nil)))
      (pss_cons (ps_if (pt_cmpR op_gt (pe_callB (call_lenK (K0 := K) (by rfl)) (by rfl) T.n_len (by decide +kernel) (pa_cons (pe_ix (ix_listK (K0 := K) (by rfl)) (pv 3) pe_int (fun _ _ => rfl)) pa_nil)) pe_int (nomark _)) (pss_one (ps_expr (pe_bm PySem.F.plainAttrs_list PySem.F.slot_list_append PySem.F.type_list_append mt_append (pv 6) (pa_cons (pe_callK0 (K0 := K) (by rfl) D_law_twice (hr.mono (by decide)) (pa_cons (pv 1) (pa_cons (pv 3) pa_nil))) pa_nil)))) pss_nil)
      (pss_cons (ps_for PassesOwn.never rfl (pi_listK (K0 := K) (by rfl) (pv 6)) (pg_name (i := 7) sc_law.nd rfl (Or.inl rfl))
      (pss_cons (ps_par (i := 8) (j := 9) (by rfl) sc_law.nd rfl rfl (by decide) rfl rfl (pa_cons (pe_callK0 (K0 := K) (by rfl) D_law_made (hr.mono (by decide)) (pa_cons (pv 7) pa_nil)) (pa_cons (pe_callK0 (K0 := K) (by rfl) D_law_due (hr.mono (by decide)) (pa_cons (pv 7) pa_nil)) pa_nil)) (by rfl))
      (pss_one (ps_if (pt_cmpR op_notN (pv 9) pe_non (nomark _)) (pss_one (ps_if (PW.pt (pw_or (pt_not (pt_val (pe_callB (call_isiK0 (K0 := K) (by rfl)) (by rfl) T.n_isinstance (by decide +kernel) (pa_cons (pv 8) (pa_cons (pe_bltn (v := .ty "tuple") (by rfl) T.n_tuple (by decide +kernel) rfl) pa_nil))))) (pw_or1 (pt_not (pt_val (pe_callK0 (K0 := K) (by rfl) D_law_is (hr.mono (by decide)) (pa_cons (pv 8) (pa_cons (pe_tup (pa_cons (pv 9) pa_nil)) pa_nil)))))))) (pss_one (ps_ret pe_bl)) pss_nil)) (pss_one (ps_if (PW.pt (pw_or (pt_val (pe_callB (call_isiK0 (K0 := K) (by rfl)) (by rfl) T.n_isinstance (by decide +kernel) (pa_cons (pv 8) (pa_cons (pe_bltn (v := .ty "tuple") (by rfl) T.n_tuple (by decide +kernel) rfl) pa_nil)))) (pw_or1 (pt_cmpR op_ne (pe_cmpR (opr_ownK (K0 := K) (by rfl) E_Machine (hr.mono (by decide))) (pv 8) (pv 4) (nomark _)) (pe_callK0 (K0 := K) (by rfl) D_law_is (hr.mono (by decide)) (pa_cons (pv 7) (pa_cons (pv 3) pa_nil))) (nomark _))))) (pss_one (ps_ret pe_bl)) pss_nil))))))
      (pss_cons (ps_set (i := 10) sc_law.nd rfl (Or.inl rfl) (pe_callK0 (K0 := K) (by rfl) D_law_made (hr.mono (by decide)) (pa_cons (pv 3) pa_nil)))
      (pss_cons (ps_if (PW.pt (pw_or (pt_not (pt_cmpR (opr_ownK (K0 := K) (by rfl) E_Machine (hr.mono (by decide))) (pv 10) (pv 4) (nomark _))) (pw_or1 (pt_cmpR (opr_ownNeK (K0 := K) (by rfl) E_Machine (hr.mono (by decide))) (pv 10) (pv 4) (nomark _))))) (pss_one (ps_ret pe_bl)) pss_nil)
      (pss_one (ps_if (pt_val (pe_callB (cr_any rfl) (by rfl) T.n_any (by decide +kernel) (pa_cons (pe_lc (own := [("thing", 11)]) (g := (gName 11)) rfl sc_law.nd (pi_listK (K0 := K) (by rfl) (pe_lst (pa_cons pe_non (pa_cons pe_int (pa_cons (pe_callTy (call_tupleK (K0 := K) (by rfl)) (by rfl) T.n_tuple (by decide +kernel) (pa_cons (pv 3) pa_nil)) (pa_cons (pv 3) (pa_cons (pe_ix (ix_listK (K0 := K) (by rfl)) (pv 3) pe_int (fun _ _ => rfl)) pa_nil))))))) (blkOk_by (N := N_law) (sc := defScope s_law) (by decide +kernel)) (fun _ _ _ _ _ => by exact (pg_name (i := 11) sc_law.nd rfl (Or.inl rfl))) (fun _ _ _ _ _ => by exact pts_nil) (fun _ _ _ _ _ => by exact (pe_cmpR (opr_ownK (K0 := K) (by rfl) E_Machine (hr.mono (by decide))) (pv 4) (pv 11) (nomark _)))) pa_nil))) (pss_one (ps_ret pe_bl)) pss_nil)))))))))))))
      (pss_one (ps_ret pe_bl)))), ?_⟩
  refine ⟨.ref a, rfl, a, ns, rfl, hS, hl, fun h c H' ex hne hh hc => ?_⟩
  dsimp only
  refine law_go1 (K := K) (a := a) (ts := tSeq (tFor _ _ _) (tRet _)) 10 hne hl hh hc (fun H0 G0 => ?_) hQ
  refine ws_seq (ws_for1 (wa_cons (we_int (wa_nil ⟨6, rfl, by decide, by decide, fun k ρ => ∃ r2 r3 r4 r5 r6 r7 r8 r9 r10 r11 : Option Cell, ρ = [none, some (.d .hand), r2, r3, r4, r5, r6, r7, r8, r9, r10, r11], ⟨_, _, _, _, _, _, _, _, _, _, rfl⟩, ?_, ?_⟩))))
  · rintro k ρ hk ⟨r2, r3, r4, r5, r6, r7, r8, r9, r10, r11, rfl⟩
    refine wg_name (ws_seq (ws_asg (we_call (wa_cons (we_var rfl (wa_nil ⟨rfl, fun base first rs hM hN => ?_⟩))))))
    have at1 : ∀ x y z : D, atI [x, y, z] (1 : Int) = some y := fun _ _ _ => rfl
    have at2 : ∀ x y z : D, atI [x, y, z] (2 : Int) = some z := fun _ _ _ => rfl
    have hb1 := hM.lo
    have hb2 := hM.hi
    have hpos := List.length_pos_iff.mpr hM.ne
    have hrl : ∀ r ∈ rs, r.length ≤ 9 := fun r hr => by
      have := (hM.row r hr).1
      omega
    have hT3 : TyN 3 (rowsM rs) := tyN_tup (by rw [List.length_map]; omega) fun y hy => by
      obtain ⟨r, hr, rfl⟩ := List.mem_map.mp hy
      exact tyN_row (by have := hrl r hr; omega) 0
    have okI : ∀ i : Int, Ty (.int i) := fun i => ⟨_, rfl⟩
    have good := mach_good (first := first) hM
    have hself : isE (partsL base first rs) (partsL base first rs) = true := by
      rw [isE_parts, decide_eq_true rfl, decide_eq_true rfl, decide_eq_true rfl]; rfl
    have isM : ∀ {x : D} {fs : List (Str × D)}, x = .ins CE_Machine fs → TyW CE_Machine x (.ref CE_Machine) := fun e => .inr ⟨_, e, rfl⟩
    have kitM : PySem.W.kitOne K (.ref CE_Machine) (.type "tuple") = some false := kE_Machine.kb "tuple" (by decide)
    have kitT : PySem.W.kitOne K (.type "tuple") (.type "tuple") = some true := kit_ty (by decide +kernel)
    refine ws_seq (ws_asg (we_call (wa_cons (we_var rfl (wa_nil ⟨_, _, _, rfl, okI _, okI _, hT3, fun _ C hC => ?_, fun y e => by rw [good] at e; cases e⟩)))))
    obtain rfl : CE_Machine = C := by rw [gE_Machine] at hC; cases hC; rfl
    refine ws_seq (ws_if (wt_or (wt_B (we_isiW kE_Machine (we_var rfl ⟨_, _, isM rfl, kitM, _, rfl, fun _ => ?_, fun z => by cases z⟩)))))
    refine wt_not (wt_B (we_call (wa_cons (we_lst (wa_cons (we_fld (we_var rfl ⟨_, _, _, rfl, lk_base, wa_cons (we_fld (we_var rfl ⟨_, _, _, rfl, lk_first, wa_cons (we_fld (we_var rfl ⟨_, _, _, rfl, lk_rows, wa_nil ⟨Nat.le_of_ble_eq_true rfl, wa_cons (we_var rfl (wa_nil ⟨_, _, rfl, p3_parts (by omega) hrl, _, rfl, ?_⟩))⟩⟩))⟩))⟩)))))))
    rw [show isE (.lst [.int base, .int first, rowsM rs]) (partsL base first rs) = true from hself, if_neg (by decide)]
    refine ws_next (ws_seq (ws_asg (we_call (wa_cons (we_var rfl (wa_cons (we_lst (wa_cons (we_int (wa_cons (we_int (wa_nil ⟨Nat.le_of_ble_eq_true rfl, wa_nil ⟨_, rfl, by simp, by simp, fun y hy => ?_⟩⟩))))))))))))
    obtain ⟨far, rfl, fa1, fa2⟩ : ∃ i : Int, y = .int i ∧ 1 ≤ i ∧ i ≤ 6 := by
      simp only [List.mem_cons, List.not_mem_nil, or_false] at hy
      rcases hy with rfl | rfl <;> exact ⟨_, rfl, by decide, by decide⟩
    refine ws_seq (ws_asgF (wf_lst (wa_cons (we_call (wa_cons (we_var rfl (wa_cons (we_var rfl (wa_nil ⟨base, first, rs, 10, rfl, hM, by omega, by omega, by omega, fun b0 f0 r0 t0 t1 t2 t3 => wa_cons ?_⟩)))))))))
    refine we_lst (wa_cons (we_var rfl (wa_cons (we_ixL (we_var rfl ⟨_, rfl, we_int ⟨1, _, rfl, at1 .., wa_cons (we_tup (wa_cons ?_))⟩⟩)))))
    refine we_repT1 (we_tup (wa_cons (we_tup (wa_cons (we_ixL (we_var rfl ⟨_, rfl, we_int ⟨1, _, rfl, at1 .., wa_cons (we_int (wa_nil ⟨len2, wa_nil ⟨Nat.le_of_ble_eq_true rfl, _, rfl, by simp, Nat.le_of_ble_eq_true rfl, ?_⟩⟩))⟩⟩))))))
    refine we_I0 (we_I (we_int ⟨_, rfl, we_var rfl ⟨_, rfl, .inl (by omega), _, rfl, we_int ⟨_, rfl, _, rfl, by omega, by omega, ?_⟩⟩⟩))
    refine wa_nil ⟨Nat.le_of_ble_eq_true rfl, wa_nil ⟨Nat.le_of_ble_eq_true rfl, wa_nil ⟨Nat.le_of_ble_eq_true rfl, ?_⟩⟩⟩
    have second : OkP (.lst [.int far, .int first, .tup [.tup (List.replicate (2 * far - 1).toNat [D.tup [.int first, .int 0]]).flatten]]) := by
      refine ⟨_, _, _, rfl, okI _, okI _, tyN_tup (Nat.le_of_ble_eq_true rfl) fun y hy => ?_⟩
      rw [List.mem_singleton.mp hy]
      refine tyN_tup ?_ fun z hz => ?_
      · rw [PyProof.Rows.lm_len_rep_flat]
        show _ * 1 ≤ _
        omega
      · obtain ⟨l, hl1, hl2⟩ := List.mem_flatten.mp hz
        rw [List.eq_of_mem_replicate hl1] at hl2
        rw [List.mem_singleton.mp hl2]
        exact tyN_pair (first, 0) 0
    generalize D.lst [.int far, .int first, .tup [.tup (List.replicate (2 * far - 1).toNat [D.tup [.int first, .int 0]]).flatten]] = x1 at second
    have okL : ∀ {b f r : D}, Ty b → Ty f → TyN 3 r → OkP (.lst [b, f, r]) := fun h1 h2 h3 => ⟨_, _, _, rfl, h1, h2, h3⟩
    refine ws_seq (ws_to (fun ρ => ∃ x2 : D, OkP x2 ∧ ρ = [none, some (.d .hand), some (.d (.int (k : Int))), some (.d (partsL base first rs)), some (.d (machD CE_Machine base first rs)), some (.d (.int far)), some (.ol [D.lst [b0, f0, r0], x1, x2]), r7, r8, r9, r10, r11]) ?_ ?_)
    · refine ws_append rfl (Nat.le_of_ble_eq_true rfl) (we_if (wt_T (we_isN (we_call (wa_cons (we_ixO rfl (we_int ⟨0, _, rfl, rfl, wa_nil ⟨b0, f0, r0, rfl, t0, t1, t2, ?_⟩⟩)))))))
      have third : ∃ b : Bool, isNo ((partsBad b0 f0 r0).getD .non) = some b ∧ (b = true → ∃ (base first : Int) (zs : List (List (Int × Nat))), b0 = .int base ∧ f0 = .int first ∧ r0 = rowsM zs ∧ Mach base zs ∧ zs.length ≤ 11) := by
        cases hp : partsBad b0 f0 r0 with
        | some y =>
          refine ⟨false, ?_, fun z => by cases z⟩
          rcases bad_kind hp with ⟨s, rfl⟩ | ⟨i, rfl⟩ <;> rfl
        | none =>
          refine ⟨true, rfl, fun _ => ?_⟩
          obtain ⟨bb, ff, zs, e1, e2, e3, e4, e5, e6, e7⟩ := parts_ok hp
          have hz : zs.length ≤ 11 := by
            have := t3 _ e3
            rw [List.length_map] at this
            exact this
          exact ⟨bb, ff, zs, e1, e2, e3, ⟨e4, e5, e6, by omega, e7⟩, hz⟩
      obtain ⟨b3, hb3, hm3⟩ := third
      refine ⟨b3, hb3, we_non ⟨rfl, _, rfl, ?_⟩⟩
      cases b3 with
      | true =>
        rw [if_pos rfl]
        obtain ⟨bb, ff, zs, rfl, rfl, rfl, hMz, hz⟩ := hm3 rfl
        exact we_call (wa_cons (we_var rfl (wa_cons (we_ixO rfl (we_int ⟨0, _, rfl, rfl, wa_nil ⟨bb, ff, zs, 11, rfl, hMz, by omega, by omega, hz, fun b f r h1 h2 h3 h4 => ⟨_, okL h1 h2 h3, rfl⟩⟩⟩)))))
      | false =>
        rw [if_neg (by decide)]
        exact we_call (wa_cons (we_var rfl (wa_cons (we_var rfl (wa_nil ⟨base, first, rs, 10, rfl, hM, by omega, by omega, by omega, fun b f r h1 h2 h3 h4 => ⟨_, okL h1 h2 h3, rfl⟩⟩)))))
    rintro ρ ⟨x2, ok2, rfl⟩
    refine ws_seq (ws_to (fun ρ => ∃ os : List D, (∀ x ∈ os, OkP x) ∧ os.length ≤ 4 ∧ ρ = [none, some (.d .hand), some (.d (.int (k : Int))), some (.d (partsL base first rs)), some (.d (machD CE_Machine base first rs)), some (.d (.int far)), some (.ol os), r7, r8, r9, r10, r11]) ?_ ?_)
    · have three : ∀ x ∈ [D.lst [b0, f0, r0], x1, x2], OkP x := fun x hx => by
        simp only [List.mem_cons, List.not_mem_nil, or_false] at hx
        rcases hx with rfl | rfl | rfl
        · exact okL t0 t1 t2
        · exact second
        · exact ok2
      refine ws_if (wt_T (we_I0 (we_len (we_ixL (we_var rfl ⟨_, rfl, we_int ⟨2, _, rfl, at2 .., _, .inr rfl, _, rfl, we_int ⟨_, rfl, _, rfl, ?_⟩⟩⟩)))))
      refine ite2 (fun h1 => ?_) (fun _ => ?_)
      · have h1 := of_decide_eq_true h1
        rw [List.length_map] at h1
        refine ws_append rfl (Nat.le_of_ble_eq_true rfl) (we_call (wa_cons (we_var rfl (wa_cons (we_var rfl (wa_nil ⟨base, first, rs, rfl, hM, by omega, by omega, fun r hr => ⟨_, fun x hx => ?_, Nat.le_of_ble_eq_true rfl, rfl⟩⟩))))))
        rcases List.mem_append.mp hx with h | h
        · exact three x h
        · rw [List.mem_singleton.mp h]; exact okL (okI _) (okI _) hr
      · exact ws_next ⟨_, three, Nat.le_of_ble_eq_true rfl, rfl⟩
    rintro ρ ⟨os, hos, hol, rfl⟩
    refine ws_freeze 6 rfl rfl (ws_seq (ws_forL (we_var rfl ⟨os, rfl, fun _ ρ => ∃ r7 r8 r9 : Option Cell, ρ = [none, some (.d .hand), some (.d (.int (k : Int))), some (.d (partsL base first rs)), some (.d (machD CE_Machine base first rs)), some (.d (.int far)), some (.d (.lst os)), r7, r8, r9, r10, r11], ⟨_, _, _, rfl⟩, ?_, ?_⟩)))
    · rintro j x ρ hj ⟨r7, r8, r9, rfl⟩
      obtain ⟨b, f, r, rfl, tb, tf, tr⟩ := hos x (List.mem_of_getElem? hj)
      refine wg_name (ws_seq (ws_par (wa_cons (we_call (wa_cons (we_var rfl (wa_nil ?_)))))))
      cases hp : partsBad b f r with
      | some y =>
        refine ⟨b, f, r, rfl, tb, tf, tr, fun e => (by rw [hp] at e; cases e), fun z e => ?_⟩
        obtain rfl : y = z := by rw [hp] at e; exact Option.some.inj e
        refine wa_cons (we_call (wa_cons (we_var rfl (wa_nil ⟨b, f, r, rfl, tb, tf, tr, ?_⟩))))
        rw [hp, Option.getD_some]
        refine wa_nil ⟨_, _, rfl, ?_⟩
        have no : isNo y = some false := by rcases bad_kind hp with ⟨s, rfl⟩ | ⟨i, rfl⟩ <;> rfl
        have p3 : P3 4 (.tup [y]) (.tup [y]) := .tup (Nat.le_of_ble_eq_true rfl) fun _ k u v hu hv => by
          match k, hu, hv with
          | 0, hu, hv =>
            cases hu; cases hv
            rcases bad_kind hp with ⟨s, rfl⟩ | ⟨i, rfl⟩
            · exact .str ..
            · exact .int ..
          | k + 1, hu, _ => cases hu
        have same : isE (.tup [y]) (.tup [y]) = true := by
          rw [isE, isEL, isEL]
          rcases bad_kind hp with ⟨s, rfl⟩ | ⟨i, rfl⟩
          · rw [isE, decide_eq_true rfl]; rfl
          · rw [isE, decide_eq_true rfl]; rfl
        refine ws_if (wt_T (we_notN (we_var rfl ⟨_, no, we_non ⟨rfl, _, rfl, ?_⟩⟩)))
        rw [if_pos (by rfl)]
        refine ws_if (wt_or (wt_not (wt_B (we_isiW kE_Machine (we_var rfl ⟨_, _, .inl ⟨_, rfl, rfl⟩, kitT, _, rfl, fun _ => ?_, fun z => by cases z⟩)))))
        refine wt_not (wt_B (we_call (wa_cons (we_var rfl (wa_cons (we_tup (wa_cons (we_var rfl (wa_nil ⟨Nat.le_of_ble_eq_true rfl, wa_nil ⟨_, _, rfl, p3, _, rfl, ?_⟩⟩)))))))))
        rw [same, if_neg (by decide)]
        exact ws_next ⟨_, _, _, rfl⟩
      | none =>
        obtain ⟨b1, f1, zs, rfl, rfl, rfl, z1, z2, z3, z4⟩ := parts_ok hp
        refine ⟨_, _, _, rfl, tb, tf, tr, fun _ C hC => ?_, fun z e => (by rw [hp] at e; cases e)⟩
        obtain rfl : CE_Machine = C := by rw [gE_Machine] at hC; cases hC; rfl
        refine wa_cons (we_call (wa_cons (we_var rfl (wa_nil ⟨_, _, _, rfl, tb, tf, tr, ?_⟩))))
        rw [hp, Option.getD_none]
        refine wa_nil ⟨_, _, rfl, ?_⟩
        have hzl : zs.length ≤ 4000000 := by
          have := (tr.2 _ rfl).1
          rw [List.length_map] at this
          exact this
        have hzr : ∀ r ∈ zs, r.length ≤ 9 := fun r hr => by
          have := (z4 r hr).1
          omega
        refine ws_if (wt_T (we_notN (we_var rfl ⟨true, rfl, we_non ⟨rfl, _, rfl, ?_⟩⟩)))
        rw [if_neg (by decide)]
        refine ws_if (wt_or (wt_B (we_isiW kE_Machine (we_var rfl ⟨_, _, isM rfl, kitM, _, rfl, fun _ => ?_, fun z => by cases z⟩))))
        refine wt_T (we_neB (we_own kE_Machine (we_var rfl ⟨_, rfl, we_var rfl ⟨_, isM rfl, b1, f1, zs, machD CE_Machine base first rs, _, rfl, isM rfl, fun z => (by cases z), fun _ => ⟨base, first, rs, rfl, _, rfl, ?_⟩⟩⟩)))
        refine we_call (wa_cons (we_var rfl (wa_cons (we_var rfl (wa_nil ⟨partsL b1 f1 zs, partsL base first rs, rfl, p3_parts hzl hzr, _, rfl, _, rfl, ?_⟩)))))
        rw [isE_parts, beq_self_eq_true, if_neg (by decide)]
        exact ws_next ⟨_, _, _, rfl⟩
    · rintro ρ ⟨r7, r8, r9, rfl⟩
      refine ws_seq (ws_asg (we_call (wa_cons (we_var rfl (wa_nil ⟨_, _, _, rfl, okI _, okI _, hT3, fun _ C hC => ?_, fun y e => (by rw [good] at e; cases e)⟩)))))
      obtain rfl : CE_Machine = C := by rw [gE_Machine] at hC; cases hC; rfl
      have selfC : (decide (base = base) && (decide (first = first) && decide (rs = rs))) = true := by
        rw [decide_eq_true rfl, decide_eq_true rfl, decide_eq_true rfl]; rfl
      refine ws_seq (ws_if (wt_or (wt_not (wt_T (we_own kE_Machine (we_var rfl ⟨_, rfl, we_var rfl ⟨_, isM rfl, base, first, rs, machD CE_Machine base first rs, _, rfl, isM rfl, fun z => (by cases z), fun _ => ⟨base, first, rs, rfl, _, rfl, ?_⟩⟩⟩))))))
      rw [selfC]
      refine ⟨fun _ => ?_, fun z => by cases z⟩
      refine wt_T (we_ownNe (we_var rfl ⟨_, rfl, we_var rfl ⟨_, rfl, base, first, rs, machD CE_Machine base first rs, _, rfl, isM rfl, fun z => (by cases z), fun _ => ⟨base, first, rs, rfl, _, rfl, _, rfl, ?_⟩⟩⟩))
      rw [selfC, if_neg (by decide)]
      refine ws_next (ws_if (wt_B (we_anyB (we_F (wf_lcL (we_lst (wa_cons (we_non (wa_cons (we_int (wa_cons (we_tupleOf (we_var rfl ⟨_, .inl rfl, wa_cons (we_var rfl (wa_cons (we_ixL (we_var rfl ⟨_, rfl, we_int ⟨2, _, rfl, at2 .., wa_nil ⟨Nat.le_of_ble_eq_true rfl, _, rfl, Nat.le_of_ble_eq_true rfl, fun k acc => acc = List.replicate k (.bl false), rfl, ?_, ?_⟩⟩⟩))))⟩)))))))))))))
      · rintro j x acc hj rfl hle
        obtain ⟨s, hs, hi⟩ : ∃ s, tyD x = some s ∧ isIns x = false := by
          have := List.mem_of_getElem? hj
          simp only [List.mem_cons, List.not_mem_nil, or_false] at this
          rcases this with rfl | rfl | rfl | rfl | rfl <;> exact ⟨_, rfl, rfl⟩
        refine wgp_name (by decide) (wt_yes ?_)
        rw [if_pos rfl]
        refine we_own kE_Machine (we_var rfl ⟨_, rfl, we_var rfl ⟨_, .inl ⟨_, hs, rfl⟩, base, first, rs, x, _, rfl, .inl ⟨_, hs, rfl⟩, fun _ => ?_, fun z => (by rw [hi] at z; cases z)⟩⟩)
        exact (List.replicate_succ' ..).symm
      · rintro acc rfl
        refine ⟨List.replicate 5 false, rfl, _, rfl, ?_⟩
        rw [if_neg (by decide)]
        exact ws_next ⟨_, _, _, _, _, _, _, _, _, _, rfl⟩
  · rintro ρ ⟨r2, r3, r4, r5, r6, r7, r8, r9, r10, r11, rfl⟩
    exact ws_ret (we_bl rfl)
end
theorem all_mk {l : PySem.W.OpenLaw} {w : World} {K : PySem.W.Frag} {h : Heap} {mg : Str → Option Value} {fa : Addr} (X : K.In h) (G : h.Ns mainGlobals mg) (hfa : mg "law" = some (.ref fa))
    {f_is_integer f_is_integer_within f_is_base f_is_tuple_of f_Machine f_Machine_eq f_is_row_of_pairs f_is_pair_of_state f_is_index f_law_hand f_law_mixed f_law_draw f_law_any f_law_is_int f_law_is f_law_deep f_law_parts f_law_is_row f_law_due f_law_bent f_law_twice f_law_made f_law : Addr}
    {C_Machine : Addr}
    {od_is_integer an_is_integer od_is_integer_within an_is_integer_within od_is_base an_is_base od_is_tuple_of an_is_tuple_of od_Machine an_Machine od_Machine_eq an_Machine_eq od_is_row_of_pairs an_is_row_of_pairs od_is_pair_of_state an_is_pair_of_state od_is_index an_is_index od_law_hand an_law_hand od_law_mixed an_law_mixed od_law_draw an_law_draw od_law_any an_law_any od_law_is_int an_law_is_int od_law_is an_law_is od_law_deep an_law_deep od_law_parts an_law_parts od_law_is_row an_law_is_row od_law_due an_law_due od_law_bent an_law_bent od_law_twice an_law_twice od_law_made an_law_made od_law an_law : Option Addr}
    {sl_is_integer sl_is_integer_within sl_is_base sl_is_tuple_of sl_Machine sl_Machine_eq sl_is_row_of_pairs sl_is_pair_of_state sl_is_index sl_law_hand sl_law_mixed sl_law_draw sl_law_any sl_law_is_int sl_law_is sl_law_deep sl_law_parts sl_law_is_row sl_law_due sl_law_bent sl_law_twice sl_law_made sl_law : Array (Option Value)}
    {oc_is_integer kV_is_integer dc_is_integer pm_is_integer cd_is_integer ct_is_integer oc_is_integer_within kV_is_integer_within dc_is_integer_within pm_is_integer_within cd_is_integer_within ct_is_integer_within oc_is_base kV_is_base dc_is_base pm_is_base cd_is_base ct_is_base oc_is_tuple_of kV_is_tuple_of dc_is_tuple_of pm_is_tuple_of cd_is_tuple_of ct_is_tuple_of oc_Machine kV_Machine dc_Machine pm_Machine cd_Machine ct_Machine kV_Machine_eq dc_Machine_eq pm_Machine_eq cd_Machine_eq ct_Machine_eq oc_is_row_of_pairs kV_is_row_of_pairs dc_is_row_of_pairs pm_is_row_of_pairs cd_is_row_of_pairs ct_is_row_of_pairs oc_is_pair_of_state kV_is_pair_of_state dc_is_pair_of_state pm_is_pair_of_state cd_is_pair_of_state ct_is_pair_of_state oc_is_index kV_is_index dc_is_index pm_is_index cd_is_index ct_is_index oc_law_hand kV_law_hand dc_law_hand pm_law_hand cd_law_hand ct_law_hand oc_law_mixed kV_law_mixed dc_law_mixed pm_law_mixed cd_law_mixed ct_law_mixed oc_law_draw kV_law_draw dc_law_draw pm_law_draw cd_law_draw ct_law_draw oc_law_any kV_law_any dc_law_any pm_law_any cd_law_any ct_law_any oc_law_is_int kV_law_is_int dc_law_is_int pm_law_is_int cd_law_is_int ct_law_is_int oc_law_is kV_law_is dc_law_is pm_law_is cd_law_is ct_law_is oc_law_deep kV_law_deep dc_law_deep pm_law_deep cd_law_deep ct_law_deep oc_law_parts kV_law_parts dc_law_parts pm_law_parts cd_law_parts ct_law_parts oc_law_is_row kV_law_is_row dc_law_is_row pm_law_is_row cd_law_is_row ct_law_is_row oc_law_due kV_law_due dc_law_due pm_law_due cd_law_due ct_law_due oc_law_bent kV_law_bent dc_law_bent pm_law_bent cd_law_bent ct_law_bent oc_law_twice kV_law_twice dc_law_twice pm_law_twice cd_law_twice ct_law_twice oc_law_made kV_law_made dc_law_made pm_law_made cd_law_made ct_law_made oc_law kV_law dc_law pm_law cd_law ct_law : Value}
    {nn_Machine_eq : Addr} {nm_Machine_eq qn_Machine_eq : Str} {bs_Machine_eq sb_Machine_eq : List Value} {sn_Machine_eq : List Str} {hd_Machine_eq ab_Machine_eq : Bool} {cl_Machine_eq : Option Bool} {dd_Machine_eq od2_Machine_eq : Option Addr} {m0_Machine_eq m1_Machine_eq m2_Machine_eq m3_Machine_eq m5_Machine_eq : Option Value} {ni_Machine_eq : String} {o2_Machine_eq : Value} {es_Machine_eq : Array DictEntry} {ep_Machine_eq : Nat} {sl2_Machine_eq : Array (Option Value)}
    {C_WritingError C_BadMachine nn_BadMachine fi_BadMachine : Addr}
    {nm_BadMachine qn_BadMachine : Str} {bs_BadMachine sb_BadMachine : List Value} {sn_BadMachine : List Str} {ab_BadMachine : Bool} {cl_BadMachine : Option Bool} {dd_BadMachine od_BadMachine an_BadMachine : Option Addr} {m0_BadMachine m1_BadMachine m2_BadMachine m3_BadMachine m5_BadMachine : Option Value} {sl_BadMachine : Array (Option Value)} {oc_BadMachine kV_BadMachine dc_BadMachine pm_BadMachine cd_BadMachine ct_BadMachine : Value}
    (a_is_integer : PySem.W.nsIn K mainGlobals "is_integer" = some (some (.ref f_is_integer))) (l_is_integer : K.lookup f_is_integer = some ⟨oc_is_integer, od_is_integer, .func (PySem.W.fnOf "is_integer" "is_integer" (defArgs s_is_integer) (defBody s_is_integer) (defScope s_is_integer) .none kV_is_integer dc_is_integer pm_is_integer an_is_integer cd_is_integer ct_is_integer), sl_is_integer⟩) (c_is_integer : PySem.W.codeIn K cd_is_integer "is_integer" = true) (k_is_integer : PySem.W.keepIn K (.ref f_is_integer) = true)
    (a_is_integer_within : PySem.W.nsIn K mainGlobals "is_integer_within" = some (some (.ref f_is_integer_within))) (l_is_integer_within : K.lookup f_is_integer_within = some ⟨oc_is_integer_within, od_is_integer_within, .func (PySem.W.fnOf "is_integer_within" "is_integer_within" (defArgs s_is_integer_within) (defBody s_is_integer_within) (defScope s_is_integer_within) .none kV_is_integer_within dc_is_integer_within pm_is_integer_within an_is_integer_within cd_is_integer_within ct_is_integer_within), sl_is_integer_within⟩) (c_is_integer_within : PySem.W.codeIn K cd_is_integer_within "is_integer_within" = true) (k_is_integer_within : PySem.W.keepIn K (.ref f_is_integer_within) = true)
    (a_is_base : PySem.W.nsIn K mainGlobals "is_base" = some (some (.ref f_is_base))) (l_is_base : K.lookup f_is_base = some ⟨oc_is_base, od_is_base, .func (PySem.W.fnOf "is_base" "is_base" (defArgs s_is_base) (defBody s_is_base) (defScope s_is_base) .none kV_is_base dc_is_base pm_is_base an_is_base cd_is_base ct_is_base), sl_is_base⟩) (c_is_base : PySem.W.codeIn K cd_is_base "is_base" = true) (k_is_base : PySem.W.keepIn K (.ref f_is_base) = true)
    (a_is_tuple_of : PySem.W.nsIn K mainGlobals "is_tuple_of" = some (some (.ref f_is_tuple_of))) (l_is_tuple_of : K.lookup f_is_tuple_of = some ⟨oc_is_tuple_of, od_is_tuple_of, .func (PySem.W.fnOf "is_tuple_of" "is_tuple_of" (defArgs s_is_tuple_of) (defBody s_is_tuple_of) (defScope s_is_tuple_of) .none kV_is_tuple_of dc_is_tuple_of pm_is_tuple_of an_is_tuple_of cd_is_tuple_of ct_is_tuple_of), sl_is_tuple_of⟩) (c_is_tuple_of : PySem.W.codeIn K cd_is_tuple_of "is_tuple_of" = true) (k_is_tuple_of : PySem.W.keepIn K (.ref f_is_tuple_of) = true)
    (g_Machine : PySem.W.nsIn K mainGlobals "Machine" = some (some (.ref C_Machine))) (mk_Machine : PySem.W.makesIn K C_Machine = true) (ii_Machine : PySem.W.findIn K (.ref C_Machine) "__init__" = some (some (.ref f_Machine))) (if_Machine : PySem.W.isFn K (.ref f_Machine) = true) (kC_Machine : PySem.W.keepIn K (.ref C_Machine) = true)
    (pg_Machine : PySem.W.plainGet K C_Machine PySem.Str.empty = true) (hC_Machine : PySem.W.hasDictIn K C_Machine = true) (po_Machine : PySem.W.plainOver K C_Machine = true) (sa_Machine : PySem.W.findIn K (.ref C_Machine) "__setattr__" = some (some (.builtin "object.__setattr__")))
    (l_Machine : K.lookup f_Machine = some ⟨oc_Machine, od_Machine, .func (PySem.W.fnOf "__init__" "Machine.__init__" (defArgs s_Machine) (defBody s_Machine) (defScope s_Machine) .none kV_Machine dc_Machine pm_Machine an_Machine cd_Machine ct_Machine), sl_Machine⟩) (c_Machine : PySem.W.codeIn K cd_Machine "Machine.__init__" = true) (k_Machine : PySem.W.keepIn K (.ref f_Machine) = true)
    (nf_Machine_base : PySem.W.findIn K (.ref C_Machine) "base" = some none)
    (nf_Machine_first : PySem.W.findIn K (.ref C_Machine) "first" = some none)
    (nf_Machine_rows : PySem.W.findIn K (.ref C_Machine) "rows" = some none)
    (ie_Machine_eq : PySem.W.findIn K (.ref C_Machine) "__eq__" = some (some (.ref f_Machine_eq))) (if_Machine_eq : PySem.W.isFn K (.ref f_Machine_eq) = true)
    (l_Machine_eq : K.lookup f_Machine_eq = some ⟨.type "function", od_Machine_eq, .func (PySem.W.fnOf "__eq__" "Machine.__eq__" (defArgs s_Machine_eq) (defBody s_Machine_eq) (defScope s_Machine_eq) .none kV_Machine_eq dc_Machine_eq pm_Machine_eq an_Machine_eq cd_Machine_eq ct_Machine_eq), sl_Machine_eq⟩) (c_Machine_eq : PySem.W.codeIn K cd_Machine_eq "Machine.__eq__" = true) (k_Machine_eq : PySem.W.keepIn K (.ref f_Machine_eq) = true)
    (ha_Machine_eq : PySem.W.findIn K (.ref C_Machine) "__class__" = some (some (.builtin "object.__class__"))) (hn_Machine_eq : PySem.W.specialIn K (.builtin "object.__class__") "__get__" = some (some (.builtin "getset_descriptor.__get__"))) (ht_Machine_eq : PySem.W.takesIn K (.builtin "object.__class__") = some true) (hm_Machine_eq : PySem.W.mroIn K C_Machine (.type "object") = some true)
    (ic_Machine_eq : PySem.W.isClsIn K C_Machine = true) (tc_Machine_eq : PySem.W.typeIn K (.ref C_Machine) = some (.type "type"))
    (u0_Machine_eq : PySem.W.subIn K (.ref C_Machine) (.type "NoneType") = some false) (u1_Machine_eq : PySem.W.subIn K (.ref C_Machine) (.type "bool") = some false) (u2_Machine_eq : PySem.W.subIn K (.ref C_Machine) (.type "int") = some false) (u3_Machine_eq : PySem.W.subIn K (.ref C_Machine) (.type "str") = some false) (u4_Machine_eq : PySem.W.subIn K (.ref C_Machine) (.type "tuple") = some false) (u5_Machine_eq : PySem.W.subIn K (.ref C_Machine) (.type "list") = some false) (u6_Machine_eq : PySem.W.subIn K (.ref C_Machine) (.type "dict") = some false)
    (xl_Machine_eq : K.lookup C_Machine = some (excClassObj nm_Machine_eq qn_Machine_eq C_Machine nn_Machine_eq bs_Machine_eq [.type "object"] hd_Machine_eq sn_Machine_eq sb_Machine_eq ab_Machine_eq cl_Machine_eq dd_Machine_eq m0_Machine_eq m1_Machine_eq m2_Machine_eq m3_Machine_eq m5_Machine_eq ni_Machine_eq)) (xn_Machine_eq : K.lookup nn_Machine_eq = some ⟨o2_Machine_eq, od2_Machine_eq, .dict es_Machine_eq ep_Machine_eq, sl2_Machine_eq⟩) (xs_Machine_eq : es_Machine_eq.toList.all (fun e => match e.key with | .str _ _ => true | _ => false) = true)
    (xe_Machine_eq : PySem.nsFind es_Machine_eq "__eq__" = some (.ref f_Machine_eq)) (xx_Machine_eq : PySem.nsFind es_Machine_eq "__ne__" = none)
    (a_is_row_of_pairs : PySem.W.nsIn K mainGlobals "is_row_of_pairs" = some (some (.ref f_is_row_of_pairs))) (l_is_row_of_pairs : K.lookup f_is_row_of_pairs = some ⟨oc_is_row_of_pairs, od_is_row_of_pairs, .func (PySem.W.fnOf "is_row_of_pairs" "is_row_of_pairs" (defArgs s_is_row_of_pairs) (defBody s_is_row_of_pairs) (defScope s_is_row_of_pairs) .none kV_is_row_of_pairs dc_is_row_of_pairs pm_is_row_of_pairs an_is_row_of_pairs cd_is_row_of_pairs ct_is_row_of_pairs), sl_is_row_of_pairs⟩) (c_is_row_of_pairs : PySem.W.codeIn K cd_is_row_of_pairs "is_row_of_pairs" = true) (k_is_row_of_pairs : PySem.W.keepIn K (.ref f_is_row_of_pairs) = true)
    (a_is_pair_of_state : PySem.W.nsIn K mainGlobals "is_pair_of_state" = some (some (.ref f_is_pair_of_state))) (l_is_pair_of_state : K.lookup f_is_pair_of_state = some ⟨oc_is_pair_of_state, od_is_pair_of_state, .func (PySem.W.fnOf "is_pair_of_state" "is_pair_of_state" (defArgs s_is_pair_of_state) (defBody s_is_pair_of_state) (defScope s_is_pair_of_state) .none kV_is_pair_of_state dc_is_pair_of_state pm_is_pair_of_state an_is_pair_of_state cd_is_pair_of_state ct_is_pair_of_state), sl_is_pair_of_state⟩) (c_is_pair_of_state : PySem.W.codeIn K cd_is_pair_of_state "is_pair_of_state" = true) (k_is_pair_of_state : PySem.W.keepIn K (.ref f_is_pair_of_state) = true)
    (a_is_index : PySem.W.nsIn K mainGlobals "is_index" = some (some (.ref f_is_index))) (l_is_index : K.lookup f_is_index = some ⟨oc_is_index, od_is_index, .func (PySem.W.fnOf "is_index" "is_index" (defArgs s_is_index) (defBody s_is_index) (defScope s_is_index) .none kV_is_index dc_is_index pm_is_index an_is_index cd_is_index ct_is_index), sl_is_index⟩) (c_is_index : PySem.W.codeIn K cd_is_index "is_index" = true) (k_is_index : PySem.W.keepIn K (.ref f_is_index) = true)
    (a_law_hand : PySem.W.nsIn K mainGlobals "_law_hand" = some (some (.ref f_law_hand))) (l_law_hand : K.lookup f_law_hand = some ⟨oc_law_hand, od_law_hand, .func (PySem.W.fnOf "_law_hand" "_law_hand" (defArgs s_law_hand) (defBody s_law_hand) (defScope s_law_hand) .none kV_law_hand dc_law_hand pm_law_hand an_law_hand cd_law_hand ct_law_hand), sl_law_hand⟩) (c_law_hand : PySem.W.codeIn K cd_law_hand "_law_hand" = true) (k_law_hand : PySem.W.keepIn K (.ref f_law_hand) = true)
    (a_law_mixed : PySem.W.nsIn K mainGlobals "_law_mixed" = some (some (.ref f_law_mixed))) (l_law_mixed : K.lookup f_law_mixed = some ⟨oc_law_mixed, od_law_mixed, .func (PySem.W.fnOf "_law_mixed" "_law_mixed" (defArgs s_law_mixed) (defBody s_law_mixed) (defScope s_law_mixed) .none kV_law_mixed dc_law_mixed pm_law_mixed an_law_mixed cd_law_mixed ct_law_mixed), sl_law_mixed⟩) (c_law_mixed : PySem.W.codeIn K cd_law_mixed "_law_mixed" = true) (k_law_mixed : PySem.W.keepIn K (.ref f_law_mixed) = true)
    (a_law_draw : PySem.W.nsIn K mainGlobals "_law_draw" = some (some (.ref f_law_draw))) (l_law_draw : K.lookup f_law_draw = some ⟨oc_law_draw, od_law_draw, .func (PySem.W.fnOf "_law_draw" "_law_draw" (defArgs s_law_draw) (defBody s_law_draw) (defScope s_law_draw) .none kV_law_draw dc_law_draw pm_law_draw an_law_draw cd_law_draw ct_law_draw), sl_law_draw⟩) (c_law_draw : PySem.W.codeIn K cd_law_draw "_law_draw" = true) (k_law_draw : PySem.W.keepIn K (.ref f_law_draw) = true)
    (a_law_any : PySem.W.nsIn K mainGlobals "_law_any" = some (some (.ref f_law_any))) (l_law_any : K.lookup f_law_any = some ⟨oc_law_any, od_law_any, .func (PySem.W.fnOf "_law_any" "_law_any" (defArgs s_law_any) (defBody s_law_any) (defScope s_law_any) .none kV_law_any dc_law_any pm_law_any an_law_any cd_law_any ct_law_any), sl_law_any⟩) (c_law_any : PySem.W.codeIn K cd_law_any "_law_any" = true) (k_law_any : PySem.W.keepIn K (.ref f_law_any) = true)
    (a_law_is_int : PySem.W.nsIn K mainGlobals "_law_is_int" = some (some (.ref f_law_is_int))) (l_law_is_int : K.lookup f_law_is_int = some ⟨oc_law_is_int, od_law_is_int, .func (PySem.W.fnOf "_law_is_int" "_law_is_int" (defArgs s_law_is_int) (defBody s_law_is_int) (defScope s_law_is_int) .none kV_law_is_int dc_law_is_int pm_law_is_int an_law_is_int cd_law_is_int ct_law_is_int), sl_law_is_int⟩) (c_law_is_int : PySem.W.codeIn K cd_law_is_int "_law_is_int" = true) (k_law_is_int : PySem.W.keepIn K (.ref f_law_is_int) = true)
    (a_law_is : PySem.W.nsIn K mainGlobals "_law_is" = some (some (.ref f_law_is))) (l_law_is : K.lookup f_law_is = some ⟨oc_law_is, od_law_is, .func (PySem.W.fnOf "_law_is" "_law_is" (defArgs s_law_is) (defBody s_law_is) (defScope s_law_is) .none kV_law_is dc_law_is pm_law_is an_law_is cd_law_is ct_law_is), sl_law_is⟩) (c_law_is : PySem.W.codeIn K cd_law_is "_law_is" = true) (k_law_is : PySem.W.keepIn K (.ref f_law_is) = true)
    (a_law_deep : PySem.W.nsIn K mainGlobals "_law_deep" = some (some (.ref f_law_deep))) (l_law_deep : K.lookup f_law_deep = some ⟨oc_law_deep, od_law_deep, .func (PySem.W.fnOf "_law_deep" "_law_deep" (defArgs s_law_deep) (defBody s_law_deep) (defScope s_law_deep) .none kV_law_deep dc_law_deep pm_law_deep an_law_deep cd_law_deep ct_law_deep), sl_law_deep⟩) (c_law_deep : PySem.W.codeIn K cd_law_deep "_law_deep" = true) (k_law_deep : PySem.W.keepIn K (.ref f_law_deep) = true)
    (a_law_parts : PySem.W.nsIn K mainGlobals "_law_parts" = some (some (.ref f_law_parts))) (l_law_parts : K.lookup f_law_parts = some ⟨oc_law_parts, od_law_parts, .func (PySem.W.fnOf "_law_parts" "_law_parts" (defArgs s_law_parts) (defBody s_law_parts) (defScope s_law_parts) .none kV_law_parts dc_law_parts pm_law_parts an_law_parts cd_law_parts ct_law_parts), sl_law_parts⟩) (c_law_parts : PySem.W.codeIn K cd_law_parts "_law_parts" = true) (k_law_parts : PySem.W.keepIn K (.ref f_law_parts) = true)
    (a_law_is_row : PySem.W.nsIn K mainGlobals "_law_is_row" = some (some (.ref f_law_is_row))) (l_law_is_row : K.lookup f_law_is_row = some ⟨oc_law_is_row, od_law_is_row, .func (PySem.W.fnOf "_law_is_row" "_law_is_row" (defArgs s_law_is_row) (defBody s_law_is_row) (defScope s_law_is_row) .none kV_law_is_row dc_law_is_row pm_law_is_row an_law_is_row cd_law_is_row ct_law_is_row), sl_law_is_row⟩) (c_law_is_row : PySem.W.codeIn K cd_law_is_row "_law_is_row" = true) (k_law_is_row : PySem.W.keepIn K (.ref f_law_is_row) = true)
    (a_law_due : PySem.W.nsIn K mainGlobals "_law_due" = some (some (.ref f_law_due))) (l_law_due : K.lookup f_law_due = some ⟨oc_law_due, od_law_due, .func (PySem.W.fnOf "_law_due" "_law_due" (defArgs s_law_due) (defBody s_law_due) (defScope s_law_due) .none kV_law_due dc_law_due pm_law_due an_law_due cd_law_due ct_law_due), sl_law_due⟩) (c_law_due : PySem.W.codeIn K cd_law_due "_law_due" = true) (k_law_due : PySem.W.keepIn K (.ref f_law_due) = true)
    (a_law_bent : PySem.W.nsIn K mainGlobals "_law_bent" = some (some (.ref f_law_bent))) (l_law_bent : K.lookup f_law_bent = some ⟨oc_law_bent, od_law_bent, .func (PySem.W.fnOf "_law_bent" "_law_bent" (defArgs s_law_bent) (defBody s_law_bent) (defScope s_law_bent) .none kV_law_bent dc_law_bent pm_law_bent an_law_bent cd_law_bent ct_law_bent), sl_law_bent⟩) (c_law_bent : PySem.W.codeIn K cd_law_bent "_law_bent" = true) (k_law_bent : PySem.W.keepIn K (.ref f_law_bent) = true)
    (a_law_twice : PySem.W.nsIn K mainGlobals "_law_twice" = some (some (.ref f_law_twice))) (l_law_twice : K.lookup f_law_twice = some ⟨oc_law_twice, od_law_twice, .func (PySem.W.fnOf "_law_twice" "_law_twice" (defArgs s_law_twice) (defBody s_law_twice) (defScope s_law_twice) .none kV_law_twice dc_law_twice pm_law_twice an_law_twice cd_law_twice ct_law_twice), sl_law_twice⟩) (c_law_twice : PySem.W.codeIn K cd_law_twice "_law_twice" = true) (k_law_twice : PySem.W.keepIn K (.ref f_law_twice) = true)
    (a_law_made : PySem.W.nsIn K mainGlobals "_law_made" = some (some (.ref f_law_made))) (l_law_made : K.lookup f_law_made = some ⟨oc_law_made, od_law_made, .func (PySem.W.fnOf "_law_made" "_law_made" (defArgs s_law_made) (defBody s_law_made) (defScope s_law_made) .none kV_law_made dc_law_made pm_law_made an_law_made cd_law_made ct_law_made), sl_law_made⟩) (c_law_made : PySem.W.codeIn K cd_law_made "_law_made" = true) (k_law_made : PySem.W.keepIn K (.ref f_law_made) = true)
    (a_law : PySem.W.nsIn K mainGlobals "law" = some (some (.ref f_law))) (l_law : K.lookup f_law = some ⟨oc_law, od_law, .func (PySem.W.fnOf "law" "law" (defArgs s_law) (defBody s_law) (defScope s_law) .none kV_law dc_law pm_law an_law cd_law ct_law), sl_law⟩) (c_law : PySem.W.codeIn K cd_law "law" = true) (k_law : PySem.W.keepIn K (.ref f_law) = true)
    (g_WritingError : PySem.W.nsIn K mainGlobals "WritingError" = some (some (.ref C_WritingError))) (ga_WritingError : PySem.W.specialIn K (.ref C_WritingError) "__getattribute__" = some (some (.builtin "type.__getattribute__"))) (rd_WritingError : PySem.W.readsIn K C_WritingError (.type "type") = true) (fc_WritingError : PySem.W.findCls K (.ref C_WritingError) (.type "type") "__init__" = some (.val (.builtin "ValueError.__init__")))
    (g_BadMachine : PySem.W.nsIn K mainGlobals "BadMachine" = some (some (.ref C_BadMachine))) (xl_BadMachine : K.lookup C_BadMachine = some (excClassObj nm_BadMachine qn_BadMachine C_BadMachine nn_BadMachine bs_BadMachine (.ref C_WritingError :: [.type "ValueError", .type "Exception", .type "BaseException", .type "object"]) true sn_BadMachine sb_BadMachine ab_BadMachine cl_BadMachine dd_BadMachine m0_BadMachine m1_BadMachine m2_BadMachine m3_BadMachine m5_BadMachine "ValueError.__new__"))
    (sa_BadMachine : PySem.W.findIn K (.ref C_BadMachine) "__setattr__" = some (some (.builtin "object.__setattr__"))) (gt_BadMachine : PySem.W.findIn K (.ref C_BadMachine) "__getattribute__" = some (some (.builtin "BaseException.__getattribute__"))) (gg_BadMachine : PySem.W.findIn K (.ref C_BadMachine) "__getattr__" = some none)
    (ii_BadMachine : PySem.W.findIn K (.ref C_BadMachine) "__init__" = some (some (.ref fi_BadMachine))) (ti_BadMachine : PySem.W.typeIn K (.ref fi_BadMachine) = some (.type "function"))
    (li_BadMachine : K.lookup fi_BadMachine = some ⟨oc_BadMachine, od_BadMachine, .func (PySem.W.fnOf "__init__" "BadMachine.__init__" (defArgs si_BadMachine) (defBody si_BadMachine) (defScope si_BadMachine) .none kV_BadMachine dc_BadMachine pm_BadMachine an_BadMachine cd_BadMachine ct_BadMachine), sl_BadMachine⟩) (ci_BadMachine : PySem.W.codeIn K cd_BadMachine "BadMachine.__init__" = true) (ki_BadMachine : PySem.W.keepIn K (.ref fi_BadMachine) = true)
    (kC_BadMachine : PySem.W.keepIn K (.ref C_BadMachine) = true) (eC_BadMachine : PySem.W.subIn K (.ref C_BadMachine) (.type "BaseException") = some true) (tC_BadMachine : PySem.W.typeIn K (.ref C_BadMachine) = some (.type "type")) (hC_BadMachine : PySem.W.hasDictIn K C_BadMachine = true) (iC_BadMachine : PySem.W.isClsIn K C_BadMachine = true) (sC_BadMachine : PySem.W.subIn K (.ref C_BadMachine) (.ref C_BadMachine) = some true)
    (nf_BadMachine : PySem.W.findIn K (.ref C_BadMachine) "part" = some none)
    (n_ValueError : PySem.W.nsIn K mainGlobals "ValueError" = some none)
    (n_abs : PySem.W.nsIn K mainGlobals "abs" = some none)
    (n_all : PySem.W.nsIn K mainGlobals "all" = some none)
    (n_any : PySem.W.nsIn K mainGlobals "any" = some none)
    (n_bool : PySem.W.nsIn K mainGlobals "bool" = some none)
    (n_dict : PySem.W.nsIn K mainGlobals "dict" = some none)
    (n_enumerate : PySem.W.nsIn K mainGlobals "enumerate" = some none)
    (n_int : PySem.W.nsIn K mainGlobals "int" = some none)
    (n_isinstance : PySem.W.nsIn K mainGlobals "isinstance" = some none)
    (n_len : PySem.W.nsIn K mainGlobals "len" = some none)
    (n_list : PySem.W.nsIn K mainGlobals "list" = some none)
    (n_range : PySem.W.nsIn K mainGlobals "range" = some none)
    (n_tuple : PySem.W.nsIn K mainGlobals "tuple" = some none)
    (n_zip : PySem.W.nsIn K mainGlobals "zip" = some none) :
    ∃ fd : FuncData, (∀ (s : Shared) (v : Value), BindsTo s fd ⟨[v], []⟩ [("script", v)]) ∧ ∀ base : Heap, K.In base → base.Ns mainGlobals mg → FnOk l.prog w K mg base CX0 9 fa fd ["script"] (spLaw K) := by
  have e := hfa.symm.trans (PySem.W.mg_of X G a_law)
  cases e
  have T : Txt K mg := ⟨⟨⟨_, PySem.W.mg_of X G g_WritingError, ga_WritingError, rd_WritingError, fc_WritingError⟩⟩,
    ⟨⟨_, _, _, PySem.W.mg_of X G g_BadMachine, ⟨⟨_, _, _, _, _, _, _, _, _, _, _, _, _, _, _, xl_BadMachine, by rfl⟩, sa_BadMachine, eC_BadMachine, tC_BadMachine, kC_BadMachine⟩, ii_BadMachine, ti_BadMachine, fun_mk (st := si_BadMachine) li_BadMachine ci_BadMachine ki_BadMachine, exm_same eC_BadMachine iC_BadMachine tC_BadMachine sC_BadMachine, ⟨gt_BadMachine, gg_BadMachine, eC_BadMachine, hC_BadMachine⟩, (fun f hf => by cases hf with | head => exact nf_BadMachine | tail _ z => cases z)⟩⟩,
    ⟨⟨_, _, PySem.W.mg_of X G a_is_integer, fun_mk (st := s_is_integer) l_is_integer c_is_integer k_is_integer⟩⟩,
    ⟨⟨_, _, PySem.W.mg_of X G a_is_integer_within, fun_mk (st := s_is_integer_within) l_is_integer_within c_is_integer_within k_is_integer_within⟩⟩,
    ⟨⟨_, _, PySem.W.mg_of X G a_is_base, fun_mk (st := s_is_base) l_is_base c_is_base k_is_base⟩⟩,
    ⟨⟨_, _, PySem.W.mg_of X G a_is_tuple_of, fun_mk (st := s_is_tuple_of) l_is_tuple_of c_is_tuple_of k_is_tuple_of⟩⟩,
    ⟨_, _, _, PySem.W.mg_of X G g_Machine, ⟨mk_Machine, ii_Machine, if_Machine, kC_Machine⟩, ⟨pg_Machine, hC_Machine, po_Machine, sa_Machine⟩, fun_mk (st := s_Machine) l_Machine c_Machine k_Machine, fun g hg => by simp only [List.mem_cons, List.not_mem_nil, or_false] at hg; rcases hg with rfl | rfl | rfl <;> first | exact nf_Machine_base | exact nf_Machine_first | exact nf_Machine_rows⟩,
    ⟨⟨_, _, _, PySem.W.mg_of X G g_Machine, eqf_mk ⟨pg_Machine, hC_Machine, po_Machine, sa_Machine⟩ ha_Machine_eq hn_Machine_eq ht_Machine_eq hm_Machine_eq ic_Machine_eq tc_Machine_eq u0_Machine_eq u1_Machine_eq u2_Machine_eq u3_Machine_eq u4_Machine_eq u5_Machine_eq u6_Machine_eq, fun_mk (st := s_Machine_eq) l_Machine_eq c_Machine_eq k_Machine_eq, ie_Machine_eq, if_Machine_eq, ⟨_, l_Machine_eq, rfl⟩, fun _ => ⟨⟨_, _, _, _, _, _, _, _, _, _, _, _, _, _, _, _, _, _, _, _, _, xl_Machine_eq, xn_Machine_eq, xs_Machine_eq, xe_Machine_eq, xx_Machine_eq⟩⟩⟩⟩,
    ⟨⟨_, _, PySem.W.mg_of X G a_is_row_of_pairs, fun_mk (st := s_is_row_of_pairs) l_is_row_of_pairs c_is_row_of_pairs k_is_row_of_pairs⟩⟩,
    ⟨⟨_, _, PySem.W.mg_of X G a_is_pair_of_state, fun_mk (st := s_is_pair_of_state) l_is_pair_of_state c_is_pair_of_state k_is_pair_of_state⟩⟩,
    ⟨⟨_, _, PySem.W.mg_of X G a_is_index, fun_mk (st := s_is_index) l_is_index c_is_index k_is_index⟩⟩,
    ⟨⟨_, _, PySem.W.mg_of X G a_law_hand, fun_mk (st := s_law_hand) l_law_hand c_law_hand k_law_hand⟩⟩,
    ⟨⟨_, _, PySem.W.mg_of X G a_law_mixed, fun_mk (st := s_law_mixed) l_law_mixed c_law_mixed k_law_mixed⟩⟩,
    ⟨⟨_, _, PySem.W.mg_of X G a_law_draw, fun_mk (st := s_law_draw) l_law_draw c_law_draw k_law_draw⟩⟩,
    ⟨⟨_, _, PySem.W.mg_of X G a_law_any, fun_mk (st := s_law_any) l_law_any c_law_any k_law_any⟩⟩,
    ⟨⟨_, _, PySem.W.mg_of X G a_law_is_int, fun_mk (st := s_law_is_int) l_law_is_int c_law_is_int k_law_is_int⟩⟩,
    ⟨⟨_, _, PySem.W.mg_of X G a_law_is, fun_mk (st := s_law_is) l_law_is c_law_is k_law_is⟩⟩,
    ⟨⟨_, _, PySem.W.mg_of X G a_law_deep, fun_mk (st := s_law_deep) l_law_deep c_law_deep k_law_deep⟩⟩,
    ⟨⟨_, _, PySem.W.mg_of X G a_law_parts, fun_mk (st := s_law_parts) l_law_parts c_law_parts k_law_parts⟩⟩,
    ⟨⟨_, _, PySem.W.mg_of X G a_law_is_row, fun_mk (st := s_law_is_row) l_law_is_row c_law_is_row k_law_is_row⟩⟩,
    ⟨⟨_, _, PySem.W.mg_of X G a_law_due, fun_mk (st := s_law_due) l_law_due c_law_due k_law_due⟩⟩,
    ⟨⟨_, _, PySem.W.mg_of X G a_law_bent, fun_mk (st := s_law_bent) l_law_bent c_law_bent k_law_bent⟩⟩,
    ⟨⟨_, _, PySem.W.mg_of X G a_law_twice, fun_mk (st := s_law_twice) l_law_twice c_law_twice k_law_twice⟩⟩,
    ⟨⟨_, _, PySem.W.mg_of X G a_law_made, fun_mk (st := s_law_made) l_law_made c_law_made k_law_made⟩⟩,
    ⟨⟨_, _, PySem.W.mg_of X G a_law, fun_mk (st := s_law) l_law c_law k_law⟩⟩,
    PySem.W.mg_none_of X G n_ValueError,
    PySem.W.mg_none_of X G n_abs,
    PySem.W.mg_none_of X G n_all,
    PySem.W.mg_none_of X G n_any,
    PySem.W.mg_none_of X G n_bool,
    PySem.W.mg_none_of X G n_dict,
    PySem.W.mg_none_of X G n_enumerate,
    PySem.W.mg_none_of X G n_int,
    PySem.W.mg_none_of X G n_isinstance,
    PySem.W.mg_none_of X G n_len,
    PySem.W.mg_none_of X G n_list,
    PySem.W.mg_none_of X G n_range,
    PySem.W.mg_none_of X G n_tuple,
    PySem.W.mg_none_of X G n_zip⟩
  have FL := fun_mk (st := s_law) l_law c_law k_law
  exact ⟨_, fun s v => .of_eq rfl, fun base _ _ => ok_law T FL⟩
theorem walk {l : PySem.W.OpenLaw} {q : Program} {loose : List Str} {XP : (Str → Option Value) → Heap → Prop} {YP : World → Heap → Prop} {d : DefRec} {K : Params → PySem.W.Frag} (hn : l.most = some 63) (hdf : d.params.defaults = [])
    (hY : ∀ (w : World) (h : Heap), YP w h → (K w.params).In h)
    (F : ∀ (w : World) (mg : Str → Option Value) (fa : Addr) (h : Heap), (K w.params).In h → h.Ns mainGlobals mg → mg d.name = some (.ref fa) →
      ∃ fd : FuncData, (∀ (s : Shared) (u : Value), BindsTo s fd ⟨[u], []⟩ [("script", u)]) ∧ ∀ base : Heap, (K w.params).In base → base.Ns mainGlobals mg → FnOk l.prog w (K w.params) mg base CX0 9 fa fd ["script"] (spLaw (K w.params))) :
    PySem.W.WalkO q loose XP YP l.row.toRowW d [] (fun f vs => PySem.call f vs) :=
  L2.walk_of (n := 63) (k := 9) (x := "script") (CX := fun _ => CX0) (sp := fun w => spLaw (K w.params)) hn (by decide) hdf ⟨rfl, by decide, by decide⟩ hY F (fun _ _ a ns hl _ hS => ⟨a, ns, rfl, hS, hl, fun _ => rfl⟩) fun _ _ _ _ _ z => z
end Lk07
open PySem PySem.W PyProof.Rows
set_option maxRecDepth 100000 in
set_option maxHeartbeats 0 in
theorem PySem.Challenge.cw_anywriting_k07_machines_judged_holds : PySem.Challenge.rw_anywriting_k07_machines_judged.Holds := by
  w_on; o_law; k_head; (case hw => w_witness2)
  k_fill
  refine Lk07.walk (l := PySem.Challenge.rw_anywriting_k07_machines_judged) rfl rfl (fun w h Y => PySem.W.kIn_of Y) ?F
  case F =>
    intro w mg fa h KX G hmg
    refine' Lk07.all_mk KX G hmg ?a_is_integer ?l_is_integer ?c_is_integer ?k_is_integer ?a_is_integer_within ?l_is_integer_within ?c_is_integer_within ?k_is_integer_within ?a_is_base ?l_is_base ?c_is_base ?k_is_base ?a_is_tuple_of ?l_is_tuple_of ?c_is_tuple_of ?k_is_tuple_of ?g_Machine ?mk_Machine ?ii_Machine ?if_Machine ?kC_Machine ?pg_Machine ?hC_Machine ?po_Machine ?sa_Machine ?l_Machine ?c_Machine ?k_Machine ?nf_Machine_base ?nf_Machine_first ?nf_Machine_rows ?ie_Machine_eq ?if_Machine_eq ?l_Machine_eq ?c_Machine_eq ?k_Machine_eq ?ha_Machine_eq ?hn_Machine_eq ?ht_Machine_eq ?hm_Machine_eq ?ic_Machine_eq ?tc_Machine_eq ?u0_Machine_eq ?u1_Machine_eq ?u2_Machine_eq ?u3_Machine_eq ?u4_Machine_eq ?u5_Machine_eq ?u6_Machine_eq ?xl_Machine_eq ?xn_Machine_eq ?xs_Machine_eq ?xe_Machine_eq ?xx_Machine_eq ?a_is_row_of_pairs ?l_is_row_of_pairs ?c_is_row_of_pairs ?k_is_row_of_pairs ?a_is_pair_of_state ?l_is_pair_of_state ?c_is_pair_of_state ?k_is_pair_of_state ?a_is_index ?l_is_index ?c_is_index ?k_is_index ?a_law_hand ?l_law_hand ?c_law_hand ?k_law_hand ?a_law_mixed ?l_law_mixed ?c_law_mixed ?k_law_mixed ?a_law_draw ?l_law_draw ?c_law_draw ?k_law_draw ?a_law_any ?l_law_any ?c_law_any ?k_law_any ?a_law_is_int ?l_law_is_int ?c_law_is_int ?k_law_is_int ?a_law_is ?l_law_is ?c_law_is ?k_law_is ?a_law_deep ?l_law_deep ?c_law_deep ?k_law_deep ?a_law_parts ?l_law_parts ?c_law_parts ?k_law_parts ?a_law_is_row ?l_law_is_row ?c_law_is_row ?k_law_is_row ?a_law_due ?l_law_due ?c_law_due ?k_law_due ?a_law_bent ?l_law_bent ?c_law_bent ?k_law_bent ?a_law_twice ?l_law_twice ?c_law_twice ?k_law_twice ?a_law_made ?l_law_made ?c_law_made ?k_law_made ?a_law ?l_law ?c_law ?k_law ?g_WritingError ?ga_WritingError ?rd_WritingError ?fc_WritingError ?g_BadMachine ?xl_BadMachine ?sa_BadMachine ?gt_BadMachine ?gg_BadMachine ?ii_BadMachine ?ti_BadMachine ?li_BadMachine ?ci_BadMachine ?ki_BadMachine ?kC_BadMachine ?eC_BadMachine ?tC_BadMachine ?hC_BadMachine ?iC_BadMachine ?sC_BadMachine ?nf_BadMachine ?n_ValueError ?n_abs ?n_all ?n_any ?n_bool ?n_dict ?n_enumerate ?n_int ?n_isinstance ?n_len ?n_list ?n_range ?n_tuple ?n_zip
    (case a_is_integer => k_is)
    (case l_is_integer => k_is)
    (case c_is_integer => k_is)
    (case k_is_integer => k_is)
    (case a_is_integer_within => k_is)
    (case l_is_integer_within => k_is)
    (case c_is_integer_within => k_is)
    (case k_is_integer_within => k_is)
    (case a_is_base => k_is)
    (case l_is_base => k_is)
    (case c_is_base => k_is)
    (case k_is_base => k_is)
    (case a_is_tuple_of => k_is)
    (case l_is_tuple_of => k_is)
    (case c_is_tuple_of => k_is)
    (case k_is_tuple_of => k_is)
    (case g_Machine => k_is)
    (case mk_Machine => k_is)
    (case ii_Machine => k_is)
    (case if_Machine => k_is)
    (case kC_Machine => k_is)
    (case pg_Machine => k_is)
    (case hC_Machine => k_is)
    (case po_Machine => k_is)
    (case sa_Machine => k_is)
    (case l_Machine => k_is)
    (case c_Machine => k_is)
    (case k_Machine => k_is)
    (case nf_Machine_base => k_is)
    (case nf_Machine_first => k_is)
    (case nf_Machine_rows => k_is)
    (case ie_Machine_eq => k_is)
    (case if_Machine_eq => k_is)
    (case l_Machine_eq => k_is)
    (case c_Machine_eq => k_is)
    (case k_Machine_eq => k_is)
    (case ha_Machine_eq => k_is)
    (case hn_Machine_eq => k_is)
    (case ht_Machine_eq => k_is)
    (case hm_Machine_eq => k_is)
    (case ic_Machine_eq => k_is)
    (case tc_Machine_eq => k_is)
    (case u0_Machine_eq => k_is)
    (case u1_Machine_eq => k_is)
    (case u2_Machine_eq => k_is)
    (case u3_Machine_eq => k_is)
    (case u4_Machine_eq => k_is)
    (case u5_Machine_eq => k_is)
    (case u6_Machine_eq => k_is)
    (case xl_Machine_eq => k_is)
    (case xn_Machine_eq => k_is)
    (case xs_Machine_eq => rfl)
    (case xe_Machine_eq => rfl)
    (case xx_Machine_eq => rfl)
    (case a_is_row_of_pairs => k_is)
    (case l_is_row_of_pairs => k_is)
    (case c_is_row_of_pairs => k_is)
    (case k_is_row_of_pairs => k_is)
    (case a_is_pair_of_state => k_is)
    (case l_is_pair_of_state => k_is)
    (case c_is_pair_of_state => k_is)
    (case k_is_pair_of_state => k_is)
    (case a_is_index => k_is)
    (case l_is_index => k_is)
    (case c_is_index => k_is)
    (case k_is_index => k_is)
    (case a_law_hand => k_is)
    (case l_law_hand => k_is)
    (case c_law_hand => k_is)
    (case k_law_hand => k_is)
    (case a_law_mixed => k_is)
    (case l_law_mixed => k_is)
    (case c_law_mixed => k_is)
    (case k_law_mixed => k_is)
    (case a_law_draw => k_is)
    (case l_law_draw => k_is)
    (case c_law_draw => k_is)
    (case k_law_draw => k_is)
    (case a_law_any => k_is)
    (case l_law_any => k_is)
    (case c_law_any => k_is)
    (case k_law_any => k_is)
    (case a_law_is_int => k_is)
    (case l_law_is_int => k_is)
    (case c_law_is_int => k_is)
    (case k_law_is_int => k_is)
    (case a_law_is => k_is)
    (case l_law_is => k_is)
    (case c_law_is => k_is)
    (case k_law_is => k_is)
    (case a_law_deep => k_is)
    (case l_law_deep => k_is)
    (case c_law_deep => k_is)
    (case k_law_deep => k_is)
    (case a_law_parts => k_is)
    (case l_law_parts => k_is)
    (case c_law_parts => k_is)
    (case k_law_parts => k_is)
    (case a_law_is_row => k_is)
    (case l_law_is_row => k_is)
    (case c_law_is_row => k_is)
    (case k_law_is_row => k_is)
    (case a_law_due => k_is)
    (case l_law_due => k_is)
    (case c_law_due => k_is)
    (case k_law_due => k_is)
    (case a_law_bent => k_is)
    (case l_law_bent => k_is)
    (case c_law_bent => k_is)
    (case k_law_bent => k_is)
    (case a_law_twice => k_is)
    (case l_law_twice => k_is)
    (case c_law_twice => k_is)
    (case k_law_twice => k_is)
    (case a_law_made => k_is)
    (case l_law_made => k_is)
    (case c_law_made => k_is)
    (case k_law_made => k_is)
    (case a_law => k_is)
    (case l_law => k_is)
    (case c_law => k_is)
    (case k_law => k_is)
    (case g_WritingError => k_is)
    (case ga_WritingError => k_is)
    (case rd_WritingError => k_is)
    (case fc_WritingError => k_is)
    (case g_BadMachine => k_is)
    (case xl_BadMachine => k_is)
    (case sa_BadMachine => k_is)
    (case gt_BadMachine => k_is)
    (case gg_BadMachine => k_is)
    (case ii_BadMachine => k_is)
    (case ti_BadMachine => k_is)
    (case li_BadMachine => k_is)
    (case ci_BadMachine => k_is)
    (case ki_BadMachine => k_is)
    (case kC_BadMachine => k_is)
    (case eC_BadMachine => k_is)
    (case tC_BadMachine => k_is)
    (case hC_BadMachine => k_is)
    (case iC_BadMachine => k_is)
    (case sC_BadMachine => k_is)
    (case nf_BadMachine => k_is)
    (case n_ValueError => k_is)
    (case n_abs => k_is)
    (case n_all => k_is)
    (case n_any => k_is)
    (case n_bool => k_is)
    (case n_dict => k_is)
    (case n_enumerate => k_is)
    (case n_int => k_is)
    (case n_isinstance => k_is)
    (case n_len => k_is)
    (case n_list => k_is)
    (case n_range => k_is)
    (case n_tuple => k_is)
    (case n_zip => k_is)
#print axioms PySem.Challenge.cw_anywriting_k07_machines_judged_holds

