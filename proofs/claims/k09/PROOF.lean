import PyProof.Rows.All
import Wide.All
import OpenK.AllK
import Wide.FinOn
import HandS.ForMost
import HandS.Evl
import HandS.Wide
import HandS.Gcd
import HandS.IsInst
import HandS.TupAny
import HandS.EndBits
import HandS.Lambda
import HandS.EndTab
import KE.KDictSum
import HandS.Sort
import HandS.Style
import HandS.ExcInit
import HandS.ExcField
import HandS.ExcOwn
import HandS.ExcIs
import HandS.TryOnly
import HandS.TryMany
import HandS.WordsExc
import HandS.Zip
import HandS.Deep
import HandS.TupMul
import HandS.Iter
import KE.BitLaws
import KE.DataCmp
import HandS.TupLe
import KE.GoesEnum
import PyProof.SumAnyB
import HandS.Hot
import HandS.HotCalls
import HandS.RaiseFrom
import HandS.ExcCtx
import PySem.Challenge.RW_anywriting_k09_reading_refused
set_option Elab.async false
set_option linter.all false
set_option maxRecDepth 100000
set_option maxHeartbeats 2000000
/-! A calculus over the hand layer's readings in which a body is read by plain data: no addresses, no heaps. -/
namespace Cal
open PySem L2 PyProof.Rows
open Evl (Ex ex_l ex_t ex_rd sq_of st_of)

/-! ### data -/
inductive D where
  | non | bl (b : Bool) | int (i : Int) | str (x : Str) | hand
  | tup (xs : List D) | lst (xs : List D)
  | dK (kvs : List (Key × D)) | dT (kvs : List (List Key × D))
  | raw (v : V)
  /-- an object of a class of the program, its attributes -/
  | ins (C : Addr) (fs : List (Str × D))

/-- the class C has objects with these attributes -/
def ClsF (K : PySem.W.Frag) (C : Addr) (fs : List (Str × D)) : Prop := Cls K C ∧ ∀ g, g ∈ fs.map (·.1) → NoAttr K C g
/-- the hand's place, and the tables of code objects that the law's own lambdas have -/
structure Hnd where
  a : Addr
  c : Addr
  T : List (Addr × Str)
/-- nothing, or a table of code objects -/
def Nil (x : Option HO) : Prop := ∀ o, x = some o → ∃ ps, o = .tbl ps
theorem nil_ne {F : Hp} {a b : Addr} {u : HO} (n : Nil (F a)) (e : F b = some u) (t : ∀ ps, u ≠ .tbl ps) : b ≠ a := fun z => by
  rw [z] at e
  obtain ⟨ps, h⟩ := n _ e
  exact t ps h
theorem Nil.no {x : Option HO} (h : x = none) : Nil x := fun o e => by rw [h] at e; cases e
mutual
inductive Rp (K : PySem.W.Frag) (h : Hnd) (G : Hp) : V → D → Prop
  | non : Rp K h G .non .non
  | bl (b : Bool) : Rp K h G (.bl b) (.bl b)
  | int (i : Int) : Rp K h G (.int i) (.int i)
  | str (x : Str) : Rp K h G (.str x) (.str x)
  | hand : Rp K h G (.ref h.a) .hand
  | tup {a : Addr} {vs : List V} {ds : List D} : G a = some (.tup vs) → RpL K h G vs ds → Rp K h G (.ref a) (.tup ds)
  | lst {a : Addr} {vs : List V} {ds : List D} : G a = some (.lst vs) → RpL K h G vs ds → Rp K h G (.ref a) (.lst ds)
  | dK {a : Addr} {vk : List (Key × V)} {kvs : List (Key × D)} : Rd G a (.dK vk) → RpK K h G vk kvs → Rp K h G (.ref a) (.dK kvs)
  | dT {a : Addr} {vk : List (List Key × V)} {kvs : List (List Key × D)} : Rd G a (.dT vk) → RpT K h G vk kvs → Rp K h G (.ref a) (.dT kvs)
  | raw (v : V) : Rp K h G v (.raw v)
  | ins {a C dx : Addr} {vf : List (Str × V)} {fs : List (Str × D)} : G a = some (.ins C dx vf) → RpF K h G vf fs → ClsF K C fs → Rp K h G (.ref a) (.ins C fs)
inductive RpF (K : PySem.W.Frag) (h : Hnd) (G : Hp) : List (Str × V) → List (Str × D) → Prop
  | nil : RpF K h G [] []
  | cons {f : Str} {v : V} {vs : List (Str × V)} {d : D} {ds : List (Str × D)} : Rp K h G v d → RpF K h G vs ds → RpF K h G ((f, v) :: vs) ((f, d) :: ds)
inductive RpL (K : PySem.W.Frag) (h : Hnd) (G : Hp) : List V → List D → Prop
  | nil : RpL K h G [] []
  | cons {v : V} {vs : List V} {d : D} {ds : List D} : Rp K h G v d → RpL K h G vs ds → RpL K h G (v :: vs) (d :: ds)
inductive RpK (K : PySem.W.Frag) (h : Hnd) (G : Hp) : List (Key × V) → List (Key × D) → Prop
  | nil : RpK K h G [] []
  | cons {k : Key} {v : V} {vs : List (Key × V)} {d : D} {ds : List (Key × D)} : Rp K h G v d → RpK K h G vs ds → RpK K h G ((k, v) :: vs) ((k, d) :: ds)
inductive RpT (K : PySem.W.Frag) (h : Hnd) (G : Hp) : List (List Key × V) → List (List Key × D) → Prop
  | nil : RpT K h G [] []
  | cons {k : List Key} {v : V} {vs : List (List Key × V)} {d : D} {ds : List (List Key × D)} : Rp K h G v d → RpT K h G vs ds → RpT K h G ((k, v) :: vs) ((k, d) :: ds)
end

section
variable {K : PySem.W.Frag} {h : Hnd} {G G' : Hp}
mutual
theorem Rp.mono (e : Ex G G') : ∀ (d : D) (v : V), Rp K h G v d → Rp K h G' v d
  | .non, _, r => by cases r; exact .non
  | .bl b, _, r => by cases r; exact .bl b
  | .int i, _, r => by cases r; exact .int i
  | .str x, _, r => by cases r; exact .str x
  | .hand, _, r => by cases r; exact .hand
  | .tup ds, _, r => by cases r with | tup q l => exact .tup (e _ _ q) (RpL.mono e ds _ l)
  | .lst ds, _, r => by cases r with | lst q l => exact .lst (e _ _ q) (RpL.mono e ds _ l)
  | .dK kvs, _, r => by cases r with | dK q l => exact .dK (ex_rd e q) (RpK.mono e kvs _ l)
  | .dT kvs, _, r => by cases r with | dT q l => exact .dT (ex_rd e q) (RpT.mono e kvs _ l)
  | .raw v, _, r => by cases r; exact .raw v
  | .ins C fs, _, r => by cases r with | ins q l c => exact .ins (e _ _ q) (RpF.mono e fs _ l) c
theorem RpF.mono (e : Ex G G') : ∀ (ds : List (Str × D)) (vs : List (Str × V)), RpF K h G vs ds → RpF K h G' vs ds
  | [], _, r => by cases r; exact .nil
  | (k, d) :: ds, _, r => by cases r with | cons a b => exact .cons (Rp.mono e d _ a) (RpF.mono e ds _ b)
theorem RpL.mono (e : Ex G G') : ∀ (ds : List D) (vs : List V), RpL K h G vs ds → RpL K h G' vs ds
  | [], _, r => by cases r; exact .nil
  | d :: ds, _, r => by cases r with | cons a b => exact .cons (Rp.mono e d _ a) (RpL.mono e ds _ b)
theorem RpK.mono (e : Ex G G') : ∀ (ds : List (Key × D)) (vs : List (Key × V)), RpK K h G vs ds → RpK K h G' vs ds
  | [], _, r => by cases r; exact .nil
  | (k, d) :: ds, _, r => by cases r with | cons a b => exact .cons (Rp.mono e d _ a) (RpK.mono e ds _ b)
theorem RpT.mono (e : Ex G G') : ∀ (ds : List (List Key × D)) (vs : List (List Key × V)), RpT K h G vs ds → RpT K h G' vs ds
  | [], _, r => by cases r; exact .nil
  | (k, d) :: ds, _, r => by cases r with | cons a b => exact .cons (Rp.mono e d _ a) (RpT.mono e ds _ b)
end
end
abbrev rmono {K : PySem.W.Frag} {h : Hnd} {G G' : Hp} {v : V} {d : D} (r : Rp K h G v d) (e : Ex G G') : Rp K h G' v d := Rp.mono e d v r
abbrev lmono {K : PySem.W.Frag} {h : Hnd} {G G' : Hp} {v : List V} {d : List D} (r : RpL K h G v d) (e : Ex G G') : RpL K h G' v d := RpL.mono e d v r

section
variable {K : PySem.W.Frag} {h : Hnd} {G : Hp}
theorem RpL.length : ∀ {vs : List V} {ds : List D}, RpL K h G vs ds → vs.length = ds.length
  | [], [], _ => rfl
  | v :: vs, d :: ds, r => by cases r with | cons a b => rw [List.length_cons, List.length_cons, RpL.length b]
  | [], d :: ds, r => by cases r
  | v :: vs, [], r => by cases r
theorem RpL.get : ∀ {vs : List V} {ds : List D} {i : Nat} {d : D}, RpL K h G vs ds → ds[i]? = some d → ∃ v, vs[i]? = some v ∧ Rp K h G v d
  | [], [], i, d, _, e => by simp at e
  | v :: vs, x :: ds, 0, d, r, e => by
    cases r with
    | cons a b =>
      have e' : x = d := by simpa using e
      subst e'
      exact ⟨v, rfl, a⟩
  | v :: vs, x :: ds, i + 1, d, r, e => by
    cases r with
    | cons a b =>
      obtain ⟨w, h1, h2⟩ := RpL.get (i := i) (d := d) b (by simpa using e)
      exact ⟨w, by simpa using h1, h2⟩
  | [], d :: ds, _, _, r, _ => by cases r
  | v :: vs, [], _, _, r, _ => by cases r
theorem RpL.get' {vs : List V} {ds : List D} {i : Nat} {v : V} (r : RpL K h G vs ds) (e : vs[i]? = some v) : ∃ d, ds[i]? = some d ∧ Rp K h G v d := by
  have hi : i < vs.length := (List.getElem?_eq_some_iff.mp e).1
  rw [r.length] at hi
  obtain ⟨w, h1, h2⟩ := r.get (List.getElem?_eq_getElem hi)
  rw [e] at h1
  cases h1
  exact ⟨_, List.getElem?_eq_getElem hi, h2⟩
theorem RpL.append : ∀ {vs ws : List V} {ds es : List D}, RpL K h G vs ds → RpL K h G ws es → RpL K h G (vs ++ ws) (ds ++ es)
  | [], _, [], _, _, s => s
  | v :: vs, _, d :: ds, _, r, s => by cases r with | cons a b => exact .cons a (RpL.append b s)
  | [], _, d :: ds, _, r, _ => by cases r
  | v :: vs, _, [], _, r, _ => by cases r
theorem RpL.take : ∀ (n : Nat) {vs : List V} {ds : List D}, RpL K h G vs ds → RpL K h G (vs.take n) (ds.take n)
  | 0, _, _, _ => by rw [List.take_zero, List.take_zero]; exact .nil
  | n + 1, [], [], _ => .nil
  | n + 1, v :: vs, d :: ds, r => by cases r with | cons a b => exact .cons a (RpL.take n b)
  | n + 1, [], d :: ds, r => by cases r
  | n + 1, v :: vs, [], r => by cases r
theorem RpL.drop : ∀ (n : Nat) {vs : List V} {ds : List D}, RpL K h G vs ds → RpL K h G (vs.drop n) (ds.drop n)
  | 0, _, _, r => r
  | n + 1, [], [], _ => .nil
  | n + 1, v :: vs, d :: ds, r => by cases r with | cons a b => exact RpL.drop n b
  | n + 1, [], d :: ds, r => by cases r
  | n + 1, v :: vs, [], r => by cases r
theorem RpL.set {v : V} {d : D} (q : Rp K h G v d) : ∀ (n : Nat) {vs : List V} {ds : List D}, RpL K h G vs ds → RpL K h G (vs.set n v) (ds.set n d)
  | n, [], [], _ => .nil
  | 0, x :: vs, y :: ds, r => by cases r with | cons a b => exact .cons q b
  | n + 1, x :: vs, y :: ds, r => by cases r with | cons a b => exact .cons a (RpL.set q n b)
  | n, [], d :: ds, r => by cases r
  | n, v :: vs, [], r => by cases r
theorem RpL.ints {G : Hp} : ∀ {vs : List V} {ns : List Int}, RpL K h G vs (ns.map D.int) → vs = ns.map V.int
  | [], [], _ => rfl
  | v :: vs, n :: ns, r => by
    cases r with
    | cons a b =>
      cases a
      rw [List.map_cons, RpL.ints b]
  | [], d :: ds, r => by cases r
  | v :: vs, [], r => by cases r
theorem RpL.ofInts {G : Hp} : ∀ (ns : List Int), RpL K h G (ns.map V.int) (ns.map D.int)
  | [] => .nil
  | n :: ns => .cons (.int n) (RpL.ofInts ns)
theorem Rp.tup_inv {v : V} {ds : List D} (r : Rp K h G v (.tup ds)) : ∃ a vs, v = .ref a ∧ G a = some (.tup vs) ∧ RpL K h G vs ds := by
  cases r with | tup q l => exact ⟨_, _, rfl, q, l⟩
theorem Rp.lst_inv {v : V} {ds : List D} (r : Rp K h G v (.lst ds)) : ∃ a vs, v = .ref a ∧ G a = some (.lst vs) ∧ RpL K h G vs ds := by
  cases r with | lst q l => exact ⟨_, _, rfl, q, l⟩
theorem RpK.length : ∀ {vs : List (Key × V)} {ds : List (Key × D)}, RpK K h G vs ds → vs.length = ds.length
  | [], [], _ => rfl
  | v :: vs, d :: ds, r => by cases r with | cons a b => rw [List.length_cons, List.length_cons, RpK.length b]
  | [], d :: ds, r => by cases r
  | v :: vs, [], r => by cases r
theorem RpT.length : ∀ {vs : List (List Key × V)} {ds : List (List Key × D)}, RpT K h G vs ds → vs.length = ds.length
  | [], [], _ => rfl
  | v :: vs, d :: ds, r => by cases r with | cons a b => rw [List.length_cons, List.length_cons, RpT.length b]
  | [], d :: ds, r => by cases r
  | v :: vs, [], r => by cases r
theorem RpK.get' : ∀ {vs : List (Key × V)} {ds : List (Key × D)} {i : Nat} {k : Key} {v : V}, RpK K h G vs ds → vs[i]? = some (k, v) → ∃ d, ds[i]? = some (k, d) ∧ Rp K h G v d
  | [], [], i, k, v, _, e => by simp at e
  | x :: vs, y :: ds, 0, k, v, r, e => by
    cases r with
    | cons a b =>
      have e' := Option.some.inj (show some _ = some (k, v) from e)
      cases e'
      exact ⟨_, rfl, a⟩
  | x :: vs, y :: ds, i + 1, k, v, r, e => by
    cases r with
    | cons a b =>
      obtain ⟨d, h1, h2⟩ := RpK.get' (i := i) (k := k) (v := v) b (by simpa using e)
      exact ⟨d, by simpa using h1, h2⟩
  | [], d :: ds, _, _, _, r, _ => by cases r
  | v :: vs, [], _, _, _, r, _ => by cases r
theorem RpT.get' : ∀ {vs : List (List Key × V)} {ds : List (List Key × D)} {i : Nat} {k : List Key} {v : V}, RpT K h G vs ds → vs[i]? = some (k, v) → ∃ d, ds[i]? = some (k, d) ∧ Rp K h G v d
  | [], [], i, k, v, _, e => by simp at e
  | x :: vs, y :: ds, 0, k, v, r, e => by
    cases r with
    | cons a b =>
      have e' := Option.some.inj (show some _ = some (k, v) from e)
      cases e'
      exact ⟨_, rfl, a⟩
  | x :: vs, y :: ds, i + 1, k, v, r, e => by
    cases r with
    | cons a b =>
      obtain ⟨d, h1, h2⟩ := RpT.get' (i := i) (k := k) (v := v) b (by simpa using e)
      exact ⟨d, by simpa using h1, h2⟩
  | [], d :: ds, _, _, _, r, _ => by cases r
  | v :: vs, [], _, _, _, r, _ => by cases r
end

theorem tq {K : PySem.W.Frag} {G H : Hp} {a : Addr} {vs : List V} (e : Ex G H) (h : G a = some (.tup vs)) : SqT K H a vs := st_of (e _ _ h)
theorem lq {K : PySem.W.Frag} {G H : Hp} {a : Addr} {vs : List V} (e : Ex G H) (h : G a = some (.lst vs)) : SqL K H a vs := sq_of (e _ _ h)
/-! ### dicts of data, by keys of any kind -/
section
variable {κ : Type} [DecidableEq κ]
def dGet (kvs : List (κ × D)) (k : κ) : Option D := (kvs.find? fun kv => decide (kv.1 = k)).map (·.2)
def dPut (kvs : List (κ × D)) (k : κ) (v : D) : List (κ × D) :=
  if (kvs.any fun kv => decide (kv.1 = k)) = true then kvs.map (fun kv => if kv.1 = k then (kv.1, v) else kv) else kvs ++ [(k, v)]
end
section
variable {K : PySem.W.Frag} {h : Hnd} {G : Hp}
theorem RpK.any (k : Key) : ∀ {vs : List (Key × V)} {ds : List (Key × D)}, RpK K h G vs ds → (vs.any fun kv => decide (kv.1 = k)) = (ds.any fun kv => decide (kv.1 = k))
  | [], [], _ => rfl
  | x :: vs, y :: ds, r => by cases r with | cons a b => rw [List.any_cons, List.any_cons, RpK.any k b]
  | [], d :: ds, r => by cases r
  | v :: vs, [], r => by cases r
theorem RpK.find (k : Key) : ∀ {vs : List (Key × V)} {ds : List (Key × D)}, RpK K h G vs ds → (valV vs k = none ∧ dGet ds k = none) ∨ ∃ v d, valV vs k = some v ∧ dGet ds k = some d ∧ Rp K h G v d
  | [], [], _ => .inl ⟨rfl, rfl⟩
  | x :: vs, y :: ds, r => by
    cases r with
    | @cons k' v _ d _ a b =>
      by_cases e : k' = k
      · refine .inr ⟨v, d, valV_pos e, ?_, a⟩
        simp [dGet, List.find?_cons, e]
      · rw [valV_neg e]
        have e2 : dGet ((k', d) :: ds) k = dGet ds k := by simp [dGet, List.find?_cons, e]
        rw [e2]
        exact RpK.find k b
  | [], d :: ds, r => by cases r
  | v :: vs, [], r => by cases r
theorem RpK.rep (k : Key) {v : V} {d : D} (q : Rp K h G v d) : ∀ {vs : List (Key × V)} {ds : List (Key × D)}, RpK K h G vs ds →
    RpK K h G (vs.map fun kv => if kv.1 = k then (kv.1, v) else kv) (ds.map fun kv => if kv.1 = k then (kv.1, d) else kv)
  | [], [], _ => .nil
  | x :: vs, y :: ds, r => by
    cases r with
    | @cons k' v' _ d' _ a b =>
      rw [List.map_cons, List.map_cons]
      by_cases e : k' = k
      · rw [if_pos e, if_pos e]; exact .cons q (RpK.rep k q b)
      · rw [if_neg e, if_neg e]; exact .cons a (RpK.rep k q b)
  | [], d :: ds, r => by cases r
  | v :: vs, [], r => by cases r
theorem RpK.snoc {k : Key} {v : V} {d : D} (q : Rp K h G v d) : ∀ {vs : List (Key × V)} {ds : List (Key × D)}, RpK K h G vs ds → RpK K h G (vs ++ [(k, v)]) (ds ++ [(k, d)])
  | [], [], _ => .cons q .nil
  | x :: vs, y :: ds, r => by cases r with | cons a b => exact .cons a (RpK.snoc q b)
  | [], d :: ds, r => by cases r
  | v :: vs, [], r => by cases r
theorem RpK.put (k : Key) {v : V} {d : D} (q : Rp K h G v d) {vs : List (Key × V)} {ds : List (Key × D)} (r : RpK K h G vs ds) : RpK K h G (putK vs k v) (dPut ds k d) := by
  unfold putK dPut
  rw [r.any k]
  split
  · exact r.rep k q
  · exact r.snoc q
theorem RpT.any (k : List Key) : ∀ {vs : List (List Key × V)} {ds : List (List Key × D)}, RpT K h G vs ds → (vs.any fun kv => decide (kv.1 = k)) = (ds.any fun kv => decide (kv.1 = k))
  | [], [], _ => rfl
  | x :: vs, y :: ds, r => by cases r with | cons a b => rw [List.any_cons, List.any_cons, RpT.any k b]
  | [], d :: ds, r => by cases r
  | v :: vs, [], r => by cases r
theorem RpT.find (k : List Key) : ∀ {vs : List (List Key × V)} {ds : List (List Key × D)}, RpT K h G vs ds → (valV vs k = none ∧ dGet ds k = none) ∨ ∃ v d, valV vs k = some v ∧ dGet ds k = some d ∧ Rp K h G v d
  | [], [], _ => .inl ⟨rfl, rfl⟩
  | x :: vs, y :: ds, r => by
    cases r with
    | @cons k' v _ d _ a b =>
      by_cases e : k' = k
      · refine .inr ⟨v, d, valV_pos e, ?_, a⟩
        simp [dGet, List.find?_cons, e]
      · rw [valV_neg e]
        have e2 : dGet ((k', d) :: ds) k = dGet ds k := by simp [dGet, List.find?_cons, e]
        rw [e2]
        exact RpT.find k b
  | [], d :: ds, r => by cases r
  | v :: vs, [], r => by cases r
theorem RpT.rep (k : List Key) {v : V} {d : D} (q : Rp K h G v d) : ∀ {vs : List (List Key × V)} {ds : List (List Key × D)}, RpT K h G vs ds →
    RpT K h G (vs.map fun kv => if kv.1 = k then (kv.1, v) else kv) (ds.map fun kv => if kv.1 = k then (kv.1, d) else kv)
  | [], [], _ => .nil
  | x :: vs, y :: ds, r => by
    cases r with
    | @cons k' v' _ d' _ a b =>
      rw [List.map_cons, List.map_cons]
      by_cases e : k' = k
      · rw [if_pos e, if_pos e]; exact .cons q (RpT.rep k q b)
      · rw [if_neg e, if_neg e]; exact .cons a (RpT.rep k q b)
  | [], d :: ds, r => by cases r
  | v :: vs, [], r => by cases r
theorem RpT.snoc {k : List Key} {v : V} {d : D} (q : Rp K h G v d) : ∀ {vs : List (List Key × V)} {ds : List (List Key × D)}, RpT K h G vs ds → RpT K h G (vs ++ [(k, v)]) (ds ++ [(k, d)])
  | [], [], _ => .cons q .nil
  | x :: vs, y :: ds, r => by cases r with | cons a b => exact .cons a (RpT.snoc q b)
  | [], d :: ds, r => by cases r
  | v :: vs, [], r => by cases r
theorem RpT.put (k : List Key) {v : V} {d : D} (q : Rp K h G v d) {vs : List (List Key × V)} {ds : List (List Key × D)} (r : RpT K h G vs ds) : RpT K h G (putK vs k v) (dPut ds k d) := by
  unfold putK dPut
  rw [r.any k]
  split
  · exact r.rep k q
  · exact r.snoc q
end


/-! ### the state by data -/
structure Par where
  K : PySem.W.Frag
  h : Hnd
  H0 : Hp
  G0 : Hp
inductive Cell where
  | d (x : D) | ol (xs : List D) | ok (kvs : List (Key × D)) | ot (kvs : List (List Key × D)) | rw (a : Addr) (o : HO)
  /-- locked while it is walked -/
  | lk (kvs : List (Key × D)) | lt (kvs : List (List Key × D))
  /-- an object that is being made -/
  | oi (b C : Addr) (fs : List (Str × D))
def Cell.isOwn : Cell → Bool
  | .d _ => false
  | _ => true
abbrev Rho := List (Option Cell)

/-- the hand: cells, at, the rest, the count -/
def Hand (K : PySem.W.Frag) (G H : Hp) (h : Hnd) : Prop := ∃ (ns : List Int) (i r n : Int), H h.a = some (.lst [.ref h.c, .int i, .int r, .int n]) ∧ G h.c = some (.lst (ns.map V.int)) ∧ ns.length ≤ 63 ∧ 0 ≤ i ∧ 0 ≤ r ∧ 0 ≤ n
structure Mem (p : Par) (G H : Hp) : Prop where
  sub : Ex G H
  gh : G p.h.a = none
  base : ∀ a o, a ≠ p.h.a → (∀ ps, o ≠ .tbl ps) → p.H0 a = some o → H a = some o
  g0 : Ex p.G0 G
  new : ∀ a o, G a = some o → p.G0 a = some o ∨ Nil (p.H0 a) ∨ ((∃ xs, o = .tup xs) ∧ p.H0 a = some o)
  hand : Hand p.K G H p.h
  gt : ∀ a ps, G a ≠ some (.tbl ps)
  tab : LamX.Tabs p.h.T H
/-- evaluation: what the heaps G, H become -/
abbrev Stp (p : Par) (G H G' H' : Hp) : Prop := Mem ⟨p.K, p.h, H, G⟩ G' H'
/-- no tuple, no table, nothing but what is written -/
structure NT (o : HO) : Prop where
  tup : ∀ xs, o ≠ .tup xs
  tbl : ∀ ps, o ≠ .tbl ps
  ext : ∀ f, o ≠ .ext f
theorem NT.lst {xs : List V} : NT (.lst xs) := ⟨(by intro _ z; cases z), (by intro _ z; cases z), (by intro _ z; cases z)⟩
theorem NT.dK {xs : List (Key × V)} : NT (.dK xs) := ⟨(by intro _ z; cases z), (by intro _ z; cases z), (by intro _ z; cases z)⟩
theorem NT.dT {xs : List (List Key × V)} : NT (.dT xs) := ⟨(by intro _ z; cases z), (by intro _ z; cases z), (by intro _ z; cases z)⟩
theorem NT.frz {od : Obj} {u : HO} : NT (.frz od u) := ⟨(by intro _ z; cases z), (by intro _ z; cases z), (by intro _ z; cases z)⟩
theorem NT.ins {C dx : Addr} {vs : List (Str × V)} : NT (.ins C dx vs) := ⟨(by intro _ z; cases z), (by intro _ z; cases z), (by intro _ z; cases z)⟩
/-- what a table tells of stays, where nothing but a list, a dict, an object is written -/
theorem tabs_upd {T : List (Addr × Str)} {H : Hp} {a : Addr} {o : HO} (t : LamX.Tabs T H) (h : H a = none ∨ ∃ u, H a = some u ∧ NT u) : LamX.Tabs T (upd H a o) := by
  have ne : ∀ {b : Addr} {u : HO}, H b = some u → ((∃ ps, u = .tbl ps) ∨ ∃ f, u = .ext f) → b ≠ a := fun {b u} e k z => by
    rw [z] at e
    rcases h with h | ⟨v, h, n⟩
    · rw [h] at e; cases e
    · rw [h] at e
      cases e
      rcases k with ⟨ps, k⟩ | ⟨f, k⟩
      · exact n.tbl ps k
      · exact n.ext f k
  intro p hp
  obtain ⟨ps, h1, h2, h3⟩ := t p hp
  refine ⟨ps, by rw [upd_ne (ne h1 (.inl ⟨ps, rfl⟩))]; exact h1, h2, fun pos cv hc => ?_⟩
  obtain ⟨c, e1, e2⟩ := h3 pos cv hc
  exact ⟨c, e1, by rw [upd_ne (ne e2 (.inr ⟨_, rfl⟩))]; exact e2⟩
def Own (p : Par) (G : Hp) (a : Addr) : Prop := G a = none ∧ Nil (p.H0 a) ∧ a ≠ p.h.a
def Slot (p : Par) (G H : Hp) (sv : Option V) : Cell → Prop
  | .d x => ∃ v, sv = some v ∧ Rp p.K p.h G v x
  | .ol xs => ∃ a vs, sv = some (.ref a) ∧ Own p G a ∧ H a = some (.lst vs) ∧ RpL p.K p.h G vs xs
  | .ok kvs => ∃ a vs, sv = some (.ref a) ∧ Own p G a ∧ H a = some (.dK vs) ∧ RpK p.K p.h G vs kvs
  | .ot kvs => ∃ a vs, sv = some (.ref a) ∧ Own p G a ∧ H a = some (.dT vs) ∧ RpT p.K p.h G vs kvs
  | .rw a o => sv = some (.ref a) ∧ Own p G a ∧ H a = some o ∧ NT o
  | .lk kvs => ∃ a od vs, sv = some (.ref a) ∧ Own p G a ∧ H a = some (.frz od (.dK vs)) ∧ RpK p.K p.h G vs kvs
  | .lt kvs => ∃ a od vs, sv = some (.ref a) ∧ Own p G a ∧ H a = some (.frz od (.dT vs)) ∧ RpT p.K p.h G vs kvs
  | .oi b C fs => ∃ a dx vs, sv = some (.ref a) ∧ Own p G a ∧ H a = some (.ins C dx vs) ∧ RpF p.K p.h G vs fs ∧ a = b ∧ ClsF p.K C fs
structure Hold (p : Par) (ρ : Rho) (G : Hp) (σ : L2.St) (H : Hp) : Prop where
  mem : Mem p G H
  len : σ.length = ρ.length
  slot : ∀ (i : Nat) (c : Cell), ρ[i]? = some (some c) → ∃ sv, σ[i]? = some sv ∧ Slot p G H sv c
  sep : ∀ (i j : Nat) (c c' : Cell) (a : Addr), ρ[i]? = some (some c) → c.isOwn = true → ρ[j]? = some (some c') → c'.isOwn = true → σ[i]? = some (some (.ref a)) → σ[j]? = some (some (.ref a)) → i = j

theorem Ex.none_of {G H : Hp} (e : Ex G H) {a : Addr} (h : H a = none) : G a = none := Evl.fresh_back e h
theorem Hand.mono {K : PySem.W.Frag} {G G' H H' : Hp} {h : Hnd} (x : Hand K G H h) (e : Ex G G') (q : H' h.a = H h.a) : Hand K G' H' h := by
  obtain ⟨ns, i, r, n, h1, h2, h3⟩ := x
  exact ⟨ns, i, r, n, by rw [q]; exact h1, e _ _ h2, h3⟩
theorem Hand.some {K : PySem.W.Frag} {G H : Hp} {h : Hnd} (x : Hand K G H h) : ∃ xs, H h.a = some (.lst xs) := by
  obtain ⟨ns, i, r, n, h1, _⟩ := x
  exact ⟨_, h1⟩

section
variable {p : Par} {G H G1 H1 G2 H2 : Hp} {ρ : Rho} {σ : L2.St}
theorem Mem.refl (m : Mem p G H) : Stp p G H G H := ⟨m.sub, m.gh, fun _ _ _ _ e => e, fun _ _ e => e, fun _ _ e => .inl e, m.hand, m.gt, m.tab⟩
/-- behind an evaluation -/
theorem Mem.step (m : Mem p G H) (s : Stp p G H G1 H1) : Mem p G1 H1 where
  sub := s.sub
  gh := s.gh
  base := fun a o n t e => s.base a o n t (m.base a o n t e)
  g0 := fun a o e => s.g0 a o (m.g0 a o e)
  new := fun a o e => by
    by_cases ha : a = p.h.a
    · rw [ha, s.gh] at e; cases e
    rcases s.new a o e with q | q | ⟨t, q⟩
    · exact m.new a o q
    · right; left
      intro o' z
      refine Classical.byContradiction fun nt => ?_
      exact nt (q o' (m.base a o' ha (fun ps e => nt ⟨ps, e⟩) z))
    · by_cases z : Nil (p.H0 a)
      · exact .inr (.inl z)
      · have : ∃ o', p.H0 a = some o' ∧ ∀ ps, o' ≠ .tbl ps := Classical.byContradiction fun k => z fun o' e => Classical.byContradiction fun nt => k ⟨o', e, fun ps e => nt ⟨ps, e⟩⟩
        obtain ⟨o', z1, z2⟩ := this
        have h1 := m.base a o' ha z2 z1
        have q' : H a = some o := q
        rw [q'] at h1; cases h1
        exact .inr (.inr ⟨t, z1⟩)
  hand := s.hand
  gt := s.gt
  tab := s.tab
theorem Stp.trans (s : Stp p G H G1 H1) (t : Stp p G1 H1 G2 H2) : Stp p G H G2 H2 := Mem.step (p := ⟨p.K, p.h, H, G⟩) s t
theorem Stp.ex (s : Stp p G H G1 H1) : Ex G G1 := s.g0
theorem Slot.step {sv : Option V} {c : Cell} (x : Slot p G H sv c) (s : Stp p G H G1 H1) : Slot p G1 H1 sv c := by
  have own : ∀ {a o}, NT o → Own p G a → H a = some o → Own p G1 a ∧ H1 a = some o := fun {a o} nt q e => by
    refine ⟨⟨?_, q.2⟩, s.base a o q.2.2 nt.tbl e⟩
    cases z : G1 a with
    | none => rfl
    | some u =>
      rcases s.new a u z with r | r | ⟨⟨xs, t⟩, r⟩
      · have r' : G a = some u := r
        rw [q.1] at r'; cases r'
      · obtain ⟨ps, e'⟩ := r o e
        exact (nt.tbl ps e').elim
      · have r' : H a = some u := r
        rw [e] at r'; cases r'
        exact (nt.tup xs t).elim
  cases c with
  | d x => obtain ⟨v, h1, h2⟩ := x; exact ⟨v, h1, rmono h2 s.ex⟩
  | ol xs => obtain ⟨a, vs, h1, h2, h3, h4⟩ := x; obtain ⟨o1, o2⟩ := own NT.lst h2 h3; exact ⟨a, vs, h1, o1, o2, lmono h4 s.ex⟩
  | ok xs => obtain ⟨a, vs, h1, h2, h3, h4⟩ := x; obtain ⟨o1, o2⟩ := own NT.dK h2 h3; exact ⟨a, vs, h1, o1, o2, RpK.mono s.ex _ _ h4⟩
  | ot xs => obtain ⟨a, vs, h1, h2, h3, h4⟩ := x; obtain ⟨o1, o2⟩ := own NT.dT h2 h3; exact ⟨a, vs, h1, o1, o2, RpT.mono s.ex _ _ h4⟩
  | rw a o => obtain ⟨h1, h2, h3, h4⟩ := x; obtain ⟨o1, o2⟩ := own h4 h2 h3; exact ⟨h1, o1, o2, h4⟩
  | lk xs => obtain ⟨a, od, vs, h1, h2, h3, h4⟩ := x; obtain ⟨o1, o2⟩ := own NT.frz h2 h3; exact ⟨a, od, vs, h1, o1, o2, RpK.mono s.ex _ _ h4⟩
  | lt xs => obtain ⟨a, od, vs, h1, h2, h3, h4⟩ := x; obtain ⟨o1, o2⟩ := own NT.frz h2 h3; exact ⟨a, od, vs, h1, o1, o2, RpT.mono s.ex _ _ h4⟩
  | oi _ C xs => obtain ⟨a, od, vs, h1, h2, h3, h4⟩ := x; obtain ⟨o1, o2⟩ := own NT.ins h2 h3; exact ⟨a, od, vs, h1, o1, o2, RpF.mono s.ex _ _ h4.1, h4.2⟩
theorem Hold.step (h : Hold p ρ G σ H) (s : Stp p G H G1 H1) : Hold p ρ G1 σ H1 :=
  ⟨h.mem.step s, h.len, fun i c e => by obtain ⟨sv, h1, h2⟩ := h.slot i c e; exact ⟨sv, h1, h2.step s⟩, h.sep⟩
/-- a new object, known from now on -/
theorem Mem.grow (m : Mem p G H) {a : Addr} {o : HO} (n : H a = none) (nt : ∀ ps, o ≠ .tbl ps := by intro _ z; cases z) : Stp p G H (upd G a o) (upd H a o) where
  sub := fun b u e => by
    by_cases hb : b = a
    · subst hb; rw [upd_same] at e ⊢; exact e
    · rw [upd_ne hb] at e ⊢; exact m.sub b u e
  gh := by
    obtain ⟨u, hu⟩ := m.hand.some
    show upd G a o p.h.a = none
    rw [upd_ne (ne_of_none hu n)]
    exact m.gh
  base := fun b u _ _ e => by
    show upd H a o b = some u
    rw [upd_ne (ne_of_none e n)]
    exact e
  g0 := fun b u e => by
    show upd G a o b = some u
    rw [upd_ne (ne_of_none (m.sub b u e) n)]
    exact e
  new := fun b u e => by
    by_cases hb : b = a
    · subst hb; exact .inr (.inl (Nil.no n))
    · rw [upd_ne hb] at e; exact .inl e
  hand := by
    obtain ⟨u, hu⟩ := m.hand.some
    exact m.hand.mono (fun b u e => by rw [upd_ne (ne_of_none (m.sub b u e) n)]; exact e) (upd_ne (ne_of_none hu n))
  gt := fun b ps e => by
    by_cases hb : b = a
    · subst hb; rw [upd_same] at e; exact nt ps (Option.some.inj e)
    · rw [upd_ne hb] at e; exact m.gt b ps e
  tab := tabs_upd m.tab (.inl n)
/-- a new object, not known -/
theorem Mem.growO (m : Mem p G H) {a : Addr} {o : HO} (n : H a = none) : Stp p G H G (upd H a o) where
  sub := fun b u e => by
    rw [upd_ne (ne_of_none (m.sub b u e) n)]; exact m.sub b u e
  gh := m.gh
  base := fun b u _ _ e => by
    show upd H a o b = some u
    rw [upd_ne (ne_of_none e n)]
    exact e
  g0 := fun b u e => e
  new := fun b u e => .inl e
  hand := by
    obtain ⟨u, hu⟩ := m.hand.some
    exact m.hand.mono (fun b u e => e) (upd_ne (ne_of_none hu n))
  gt := m.gt
  tab := tabs_upd m.tab (.inl n)
theorem Mem.nilFresh (m : Mem p G H) {a : Addr} (n : Nil (H a)) : Own p G a := by
  refine ⟨?_, fun o' z => ?_, ?_⟩
  · cases z : G a with
    | none => rfl
    | some u =>
      obtain ⟨ps, e⟩ := n u (m.sub a u z)
      exact (m.gt a ps (by rw [z, e])).elim
  · refine Classical.byContradiction fun nt => ?_
    by_cases ha : a = p.h.a
    · obtain ⟨u, hu⟩ := m.hand.some
      obtain ⟨ps, e⟩ := n _ (by rw [ha]; exact hu)
      cases e
    · exact nt (n o' (m.base a o' ha (fun ps e => nt ⟨ps, e⟩) z))
  · intro ha
    obtain ⟨u, hu⟩ := m.hand.some
    obtain ⟨ps, e⟩ := n _ (by rw [ha]; exact hu)
    cases e
theorem Mem.fresh (m : Mem p G H) {a : Addr} (n : H a = none) : Own p G a := m.nilFresh (Nil.no n)

theorem Hold.setD (h : Hold p ρ G σ H) {i : Nat} {v : V} {x : D} (r : Rp p.K p.h G v x) : Hold p (ρ.set i (some (.d x))) G (σ.set i (some v)) H := by
  refine ⟨h.mem, by rw [List.length_set, List.length_set]; exact h.len, fun j c e => ?_, fun j k c c' a e1 o1 e2 o2 e3 e4 => ?_⟩
  · by_cases hj : i = j
    · subst hj
      by_cases hi : i < ρ.length
      · rw [List.getElem?_set_self hi] at e
        cases e
        refine ⟨some v, by rw [List.getElem?_set_self (by rw [h.len]; exact hi)], v, rfl, r⟩
      · rw [List.getElem?_eq_none (by rw [List.length_set]; omega)] at e; cases e
    · rw [List.getElem?_set_ne hj] at e
      obtain ⟨sv, h1, h2⟩ := h.slot j c e
      exact ⟨sv, by rw [List.getElem?_set_ne hj]; exact h1, h2⟩
  · have ne : ∀ {m : Nat} {c : Cell}, (ρ.set i (some (.d x)))[m]? = some (some c) → c.isOwn = true → i ≠ m := fun {m c} e o z => by
      subst z
      by_cases hi : i < ρ.length
      · rw [List.getElem?_set_self hi] at e
        cases e
        cases o
      · rw [List.getElem?_eq_none (by rw [List.length_set]; omega)] at e; cases e
    have n1 := ne e1 o1
    have n2 := ne e2 o2
    rw [List.getElem?_set_ne n1] at e1 e3
    rw [List.getElem?_set_ne n2] at e2 e4
    exact h.sep j k c c' a e1 o1 e2 o2 e3 e4
theorem Cell.own_ref {c : Cell} {sv : Option V} (x : Slot p G H sv c) (o : c.isOwn = true) : ∃ a u, sv = some (.ref a) ∧ Own p G a ∧ H a = some u ∧ NT u := by
  cases c with
  | d x => cases o
  | ol xs => obtain ⟨a, vs, h1, h2, h3, _⟩ := x; exact ⟨a, _, h1, h2, h3, NT.lst⟩
  | ok xs => obtain ⟨a, vs, h1, h2, h3, _⟩ := x; exact ⟨a, _, h1, h2, h3, NT.dK⟩
  | ot xs => obtain ⟨a, vs, h1, h2, h3, _⟩ := x; exact ⟨a, _, h1, h2, h3, NT.dT⟩
  | rw a u => obtain ⟨h1, h2, h3, h4⟩ := x; exact ⟨a, _, h1, h2, h3, h4⟩
  | lk xs => obtain ⟨a, od, vs, h1, h2, h3, _⟩ := x; exact ⟨a, _, h1, h2, h3, NT.frz⟩
  | lt xs => obtain ⟨a, od, vs, h1, h2, h3, _⟩ := x; exact ⟨a, _, h1, h2, h3, NT.frz⟩
  | oi _ C xs => obtain ⟨a, od, vs, h1, h2, h3, _⟩ := x; exact ⟨a, _, h1, h2, h3, NT.ins⟩
theorem Slot.nt {c : Cell} {a : Addr} {o : HO} (x : Slot p G H (some (.ref a)) c) (ho : c.isOwn = true) (e : H a = some o) : NT o := by
  obtain ⟨b, u, e1, _, e3, e4⟩ := Cell.own_ref x ho
  cases e1
  rw [e] at e3
  cases e3
  exact e4
/-- a slot is given an object that no other slot owns -/
theorem Hold.setO (h : Hold p ρ G σ H) {i : Nat} {a : Addr} {c : Cell} (x : Slot p G H (some (.ref a)) c) (hf : ∀ (j : Nat) (c' : Cell), ρ[j]? = some (some c') → c'.isOwn = true → σ[j]? = some (some (.ref a)) → j = i) :
    Hold p (ρ.set i (some c)) G (σ.set i (some (.ref a))) H := by
  refine ⟨h.mem, by rw [List.length_set, List.length_set]; exact h.len, fun j c' e => ?_, fun j k c1 c2 b e1 o1 e2 o2 e3 e4 => ?_⟩
  · by_cases hj : i = j
    · subst hj
      by_cases hi : i < ρ.length
      · rw [List.getElem?_set_self hi] at e
        cases e
        exact ⟨some (.ref a), by rw [List.getElem?_set_self (by rw [h.len]; exact hi)], x⟩
      · rw [List.getElem?_eq_none (by rw [List.length_set]; omega)] at e; cases e
    · rw [List.getElem?_set_ne hj] at e
      obtain ⟨sv, h1, h2⟩ := h.slot j c' e
      exact ⟨sv, by rw [List.getElem?_set_ne hj]; exact h1, h2⟩
  · have at_i : ∀ {b}, (σ.set i (some (V.ref a)))[i]? = some (some (.ref b)) → b = a := fun {b} e => by
      by_cases hi : i < σ.length
      · rw [List.getElem?_set_self hi] at e; cases e; rfl
      · rw [List.getElem?_eq_none (by rw [List.length_set]; omega)] at e; cases e
    by_cases hj : i = j
    · by_cases hk : i = k
      · exact hj.symm.trans hk
      · subst hj
        have := at_i e3
        subst this
        rw [List.getElem?_set_ne hk] at e2 e4
        exact absurd (hf k c2 e2 o2 e4).symm hk
    · by_cases hk : i = k
      · subst hk
        have := at_i e4
        subst this
        rw [List.getElem?_set_ne hj] at e1 e3
        exact absurd (hf j c1 e1 o1 e3).symm hj
      · rw [List.getElem?_set_ne hj] at e1 e3
        rw [List.getElem?_set_ne hk] at e2 e4
        exact h.sep j k c1 c2 b e1 o1 e2 o2 e3 e4
theorem Hold.setNew (h : Hold p ρ G σ H) {i : Nat} {a : Addr} {c : Cell} (s : Stp p G H G1 H1) (n : Nil (H a)) (x : Slot p G1 H1 (some (.ref a)) c) : Hold p (ρ.set i (some c)) G1 (σ.set i (some (.ref a))) H1 :=
  (h.step s).setO x fun j c' e o q => by
    obtain ⟨sv, h1, h2⟩ := h.slot j c' e
    obtain ⟨b, u, e1, _, e3⟩ := Cell.own_ref h2 o
    rw [h1] at q
    rw [e1] at q
    cases q
    obtain ⟨ps, e⟩ := n _ e3.1
    exact (e3.2.tbl ps e).elim
/-- what slot i owns is changed -/
theorem Hold.write (h : Hold p ρ G σ H) {i : Nat} {c c' : Cell} {a : Addr} {o : HO} (e : ρ[i]? = some (some c)) (ho : c.isOwn = true) (q : σ[i]? = some (some (.ref a))) (ow : Own p G a) (x : Slot p G (upd H a o) (some (.ref a)) c') :
    Hold p (ρ.set i (some c')) G σ (upd H a o) := by
  have kn : ∃ u, H a = some u ∧ NT u := by
    obtain ⟨sv, h1, h2⟩ := h.slot i c e
    obtain ⟨b, u, e1, _, e3, e4⟩ := Cell.own_ref h2 ho
    rw [h1, e1] at q
    cases q
    exact ⟨u, e3, e4⟩
  have m : Mem p G (upd H a o) := ⟨fun b u z => by rw [upd_ne (ne_of_none z ow.1)]; exact h.mem.sub b u z, h.mem.gh, fun b u n t z => by rw [upd_ne (nil_ne ow.2.1 z t)]; exact h.mem.base b u n t z, h.mem.g0, h.mem.new,
    h.mem.hand.mono (fun _ _ z => z) (upd_ne (Ne.symm ow.2.2)), h.mem.gt, tabs_upd h.mem.tab (.inr kn)⟩
  refine ⟨m, by rw [List.length_set]; exact h.len, fun j c1 e1 => ?_, fun j k c1 c2 b e1 o1 e2 o2 e3 e4 => ?_⟩
  · by_cases hj : i = j
    · subst hj
      rw [List.getElem?_set_self (List.getElem?_eq_some_iff.mp e).1] at e1
      cases e1
      exact ⟨_, q, x⟩
    · rw [List.getElem?_set_ne hj] at e1
      obtain ⟨sv, h1, h2⟩ := h.slot j c1 e1
      refine ⟨sv, h1, ?_⟩
      have far : c1.isOwn = true → ∀ b, sv = some (.ref b) → b ≠ a := fun o1 b eb z => by
        subst z
        rw [eb] at h1
        exact hj (h.sep i j c c1 b e ho e1 o1 q h1)
      cases c1 with
      | d x => exact h2
      | ol xs => obtain ⟨b, vs, h3, h4, h5, h6⟩ := h2; exact ⟨b, vs, h3, h4, by rw [upd_ne (far rfl b h3)]; exact h5, h6⟩
      | ok xs => obtain ⟨b, vs, h3, h4, h5, h6⟩ := h2; exact ⟨b, vs, h3, h4, by rw [upd_ne (far rfl b h3)]; exact h5, h6⟩
      | ot xs => obtain ⟨b, vs, h3, h4, h5, h6⟩ := h2; exact ⟨b, vs, h3, h4, by rw [upd_ne (far rfl b h3)]; exact h5, h6⟩
      | rw b u => obtain ⟨h3, h4, h5, h6⟩ := h2; exact ⟨h3, h4, by rw [upd_ne (far rfl b h3)]; exact h5, h6⟩
      | lk xs => obtain ⟨b, od, vs, h3, h4, h5, h6⟩ := h2; exact ⟨b, od, vs, h3, h4, by rw [upd_ne (far rfl b h3)]; exact h5, h6⟩
      | lt xs => obtain ⟨b, od, vs, h3, h4, h5, h6⟩ := h2; exact ⟨b, od, vs, h3, h4, by rw [upd_ne (far rfl b h3)]; exact h5, h6⟩
      | oi _ C xs => obtain ⟨b, od, vs, h3, h4, h5, h6⟩ := h2; exact ⟨b, od, vs, h3, h4, by rw [upd_ne (far rfl b h3)]; exact h5, h6⟩
  · have own : ∀ {m : Nat} {c1 : Cell}, (ρ.set i (some c'))[m]? = some (some c1) → c1.isOwn = true → ∃ c2, ρ[m]? = some (some c2) ∧ c2.isOwn = true := fun {m c1} e1 o1 => by
      by_cases hm : i = m
      · subst hm; exact ⟨c, e, ho⟩
      · rw [List.getElem?_set_ne hm] at e1; exact ⟨c1, e1, o1⟩
    obtain ⟨d1, f1, g1⟩ := own e1 o1
    obtain ⟨d2, f2, g2⟩ := own e2 o2
    exact h.sep j k d1 d2 b f1 g1 f2 g2 e3 e4
/-- what slot i owns is from now on known and no longer changed -/
theorem Hold.freeze (h : Hold p ρ G σ H) {i : Nat} {c : Cell} {a : Addr} {o : HO} {x : D} (e : ρ[i]? = some (some c)) (ho : c.isOwn = true) (q : σ[i]? = some (some (.ref a))) (ow : Own p G a) (ha : H a = some o) (r : Rp p.K p.h (upd G a o) (.ref a) x) :
    Hold p (ρ.set i (some (.d x))) (upd G a o) σ H ∧ Ex G (upd G a o) := by
  have ex : Ex G (upd G a o) := fun b u z => by rw [upd_ne (ne_of_none z ow.1)]; exact z
  have m : Mem p (upd G a o) H := ⟨fun b u z => by
      by_cases hb : b = a
      · subst hb; rw [upd_same] at z; cases z; exact ha
      · rw [upd_ne hb] at z; exact h.mem.sub b u z, by rw [upd_ne (Ne.symm ow.2.2)]; exact h.mem.gh, h.mem.base, fun b u z => ex b u (h.mem.g0 b u z), fun b u z => by
      by_cases hb : b = a
      · subst hb; exact .inr (.inl ow.2.1)
      · rw [upd_ne hb] at z; exact h.mem.new b u z, h.mem.hand.mono ex rfl, fun b ps z => by
      by_cases hb : b = a
      · subst hb
        rw [upd_same] at z
        obtain ⟨sv, h1, h2⟩ := h.slot i c e
        obtain ⟨b', u, e1, _, e3, e4⟩ := Cell.own_ref h2 ho
        rw [h1, e1] at q
        cases q
        rw [e3] at ha
        cases ha
        exact e4.tbl ps (Option.some.inj z)
      · rw [upd_ne hb] at z; exact h.mem.gt b ps z, h.mem.tab⟩
  refine ⟨⟨m, by rw [List.length_set]; exact h.len, fun j c1 e1 => ?_, fun j k c1 c2 b e1 o1 e2 o2 e3 e4 => ?_⟩, ex⟩
  · by_cases hj : i = j
    · subst hj
      rw [List.getElem?_set_self (List.getElem?_eq_some_iff.mp e).1] at e1
      cases e1
      exact ⟨_, q, _, rfl, r⟩
    · rw [List.getElem?_set_ne hj] at e1
      obtain ⟨sv, h1, h2⟩ := h.slot j c1 e1
      refine ⟨sv, h1, ?_⟩
      have far : c1.isOwn = true → ∀ b, sv = some (.ref b) → Own p G b → Own p (upd G a o) b := fun o1 b eb ob => by
        refine ⟨?_, ob.2⟩
        rw [upd_ne]
        · exact ob.1
        · intro z
          subst z
          rw [eb] at h1
          exact hj (h.sep i j c c1 b e ho e1 o1 q h1)
      cases c1 with
      | d x => obtain ⟨v, h3, h4⟩ := h2; exact ⟨v, h3, rmono h4 ex⟩
      | ol xs => obtain ⟨b, vs, h3, h4, h5, h6⟩ := h2; exact ⟨b, vs, h3, far rfl b h3 h4, h5, lmono h6 ex⟩
      | ok xs => obtain ⟨b, vs, h3, h4, h5, h6⟩ := h2; exact ⟨b, vs, h3, far rfl b h3 h4, h5, RpK.mono ex _ _ h6⟩
      | ot xs => obtain ⟨b, vs, h3, h4, h5, h6⟩ := h2; exact ⟨b, vs, h3, far rfl b h3 h4, h5, RpT.mono ex _ _ h6⟩
      | rw b u => obtain ⟨h3, h4, h5⟩ := h2; exact ⟨h3, far rfl b h3 h4, h5⟩
      | lk xs => obtain ⟨b, od, vs, h3, h4, h5, h6⟩ := h2; exact ⟨b, od, vs, h3, far rfl b h3 h4, h5, RpK.mono ex _ _ h6⟩
      | lt xs => obtain ⟨b, od, vs, h3, h4, h5, h6⟩ := h2; exact ⟨b, od, vs, h3, far rfl b h3 h4, h5, RpT.mono ex _ _ h6⟩
      | oi _ C xs => obtain ⟨b, od, vs, h3, h4, h5, h6⟩ := h2; exact ⟨b, od, vs, h3, far rfl b h3 h4, h5, RpF.mono ex _ _ h6.1, h6.2⟩
  · have own : ∀ {m : Nat} {c1 : Cell}, (ρ.set i (some (.d x)))[m]? = some (some c1) → c1.isOwn = true → ρ[m]? = some (some c1) := fun {m c1} e1 o1 => by
      by_cases hm : i = m
      · subst hm
        rw [List.getElem?_set_self (List.getElem?_eq_some_iff.mp e).1] at e1
        cases e1; cases o1
      · rw [List.getElem?_set_ne hm] at e1; exact e1
    exact h.sep j k c1 c2 b (own e1 o1) o1 (own e2 o2) o2 e3 e4
/-- a slot is forgotten -/
theorem Hold.drop (h : Hold p ρ G σ H) (i : Nat) : Hold p (ρ.set i none) G σ H := by
  have un : ∀ {j : Nat} {c : Cell}, (ρ.set i none)[j]? = some (some c) → ρ[j]? = some (some c) := fun {j c} e => by
    by_cases hj : i = j
    · subst hj
      by_cases hi : i < ρ.length
      · rw [List.getElem?_set_self hi] at e; cases e
      · rw [List.getElem?_eq_none (by rw [List.length_set]; omega)] at e; cases e
    · rw [List.getElem?_set_ne hj] at e; exact e
  exact ⟨h.mem, by rw [List.length_set]; exact h.len, fun j c e => h.slot j c (un e), fun j k c c' a e1 o1 e2 o2 => h.sep j k c c' a (un e1) o1 (un e2) o2⟩
theorem Hold.forget (h : Hold p ρ G σ H) (i : Nat) (v : Option V) : Hold p (ρ.set i none) G (σ.set i v) H := by
  have un : ∀ {j : Nat} {c : Cell}, (ρ.set i none)[j]? = some (some c) → i ≠ j ∧ ρ[j]? = some (some c) := fun {j c} e => by
    by_cases hj : i = j
    · subst hj
      by_cases hi : i < ρ.length
      · rw [List.getElem?_set_self hi] at e; cases e
      · rw [List.getElem?_eq_none (by rw [List.length_set]; omega)] at e; cases e
    · rw [List.getElem?_set_ne hj] at e; exact ⟨hj, e⟩
  refine ⟨h.mem, by rw [List.length_set, List.length_set]; exact h.len, fun j c e => ?_, fun j k c c' a e1 o1 e2 o2 e3 e4 => ?_⟩
  · obtain ⟨n, e⟩ := un e
    rw [List.getElem?_set_ne n]
    exact h.slot j c e
  · obtain ⟨n1, e1⟩ := un e1
    obtain ⟨n2, e2⟩ := un e2
    rw [List.getElem?_set_ne n1] at e3
    rw [List.getElem?_set_ne n2] at e4
    exact h.sep j k c c' a e1 o1 e2 o2 e3 e4
end


/-! ### judgements: what must be true of the data so that a piece of the body runs to what is wanted -/
def WE (p : Par) (ρ : Rho) (te : TE) (Q : D → Prop) : Prop := ∀ G σ H, Hold p ρ G σ H → ∀ Qv : VK, (∀ d v G' H', Q d → Stp p G H G' H' → Rp p.K p.h G' v d → Qv v H') → te σ H Qv
def WT (p : Par) (ρ : Rho) (tt : TT) (Q : Bool → Prop) : Prop := ∀ G σ H, Hold p ρ G σ H → ∀ Qv : Bool → Hp → Prop, (∀ b G' H', Q b → Stp p G H G' H' → Qv b H') → tt σ H Qv
def WA (p : Par) (ρ : Rho) (ta : TA) (Q : List D → Prop) : Prop := ∀ G σ H, Hold p ρ G σ H → ∀ Qv : List V → Hp → Prop, (∀ ds vs G' H', Q ds → Stp p G H G' H' → RpL p.K p.h G' vs ds → Qv vs H') → ta σ H Qv
def WO (p : Par) (ρ : Rho) (to : TO) (Q : Option Int → Prop) : Prop := ∀ G σ H, Hold p ρ G σ H → ∀ Qv : Option Int → Hp → Prop, (∀ o G' H', Q o → Stp p G H G' H' → Qv o H') → to σ H Qv
/-- a new object that nobody else knows -/
def WF (p : Par) (ρ : Rho) (te : TE) (Q : Cell → Prop) : Prop := ∀ G σ H, Hold p ρ G σ H → ∀ Qv : VK, (∀ c a G' H', Q c → c.isOwn = true → Stp p G H G' H' → Nil (H a) → Slot p G' H' (some (.ref a)) c → Qv (.ref a) H') → te σ H Qv
/-- an operation on values -/
def RO (p : Par) (r : R2) (x y : D) (Q : D → Prop) : Prop := ∀ G H v w, Mem p G H → Rp p.K p.h G v x → Rp p.K p.h G w y → ∀ Qv : VK, (∀ d u G' H', Q d → Stp p G H G' H' → Rp p.K p.h G' u d → Qv u H') → r v w H Qv
def RU (p : Par) (r : V → Hp → VK → Prop) (x : D) (Q : D → Prop) : Prop := ∀ G H v, Mem p G H → Rp p.K p.h G v x → ∀ Qv : VK, (∀ d u G' H', Q d → Stp p G H G' H' → Rp p.K p.h G' u d → Qv u H') → r v H Qv
def RC (p : Par) (r : List V → Hp → VK → Prop) (xs : List D) (Q : D → Prop) : Prop := ∀ G H vs, Mem p G H → RpL p.K p.h G vs xs → ∀ Qv : VK, (∀ d u G' H', Q d → Stp p G H G' H' → Rp p.K p.h G' u d → Qv u H') → r vs H Qv
structure Post where
  n : Rho → Prop
  r : D → Prop
  b : Rho → Prop := fun _ => False
  c : Rho → Prop := fun _ => False
def WS (p : Par) (ρ : Rho) (ts : TS) (P : Post) : Prop := ∀ G σ H, Hold p ρ G σ H → ∀ E : Ends,
  (∀ ρ' G' σ' H', P.n ρ' → Ex G G' → Hold p ρ' G' σ' H' → E.nx σ' H') → (∀ d v G' H', P.r d → Mem p G' H' → Rp p.K p.h G' v d → E.rt v H') →
  (∀ ρ' G' σ' H', P.b ρ' → Ex G G' → Hold p ρ' G' σ' H' → E.bk σ' H') → (∀ ρ' G' σ' H', P.c ρ' → Ex G G' → Hold p ρ' G' σ' H' → E.ct σ' H') → ts E σ H
def WG (p : Par) (ρ : Rho) (g : TG) (x : D) (N : Rho → Prop) : Prop := ∀ G σ H v, Hold p ρ G σ H → Rp p.K p.h G v x → ∀ Qs : L2.St → Hp → Prop, (∀ ρ' G' σ' H', N ρ' → Ex G G' → Hold p ρ' G' σ' H' → Qs σ' H') → g v σ H Qs
def WGs (p : Par) (ρ : Rho) (g : TGs) (xs : List D) (N : Rho → Prop) : Prop := ∀ G σ H vs, Hold p ρ G σ H → RpL p.K p.h G vs xs → ∀ Qs : L2.St → Hp → Prop, (∀ ρ' G' σ' H', N ρ' → Ex G G' → Hold p ρ' G' σ' H' → Qs σ' H') → g vs σ H Qs

section
variable {p : Par} {ρ : Rho} {Q : D → Prop} {ta tb te : TE} {tt tu : TT}
theorem WE.imp {Q' : D → Prop} (h : WE p ρ te Q') (k : ∀ d, Q' d → Q d) : WE p ρ te Q := fun G σ H hh Qv q => h G σ H hh Qv fun d v G' H' z => q d v G' H' (k d z)
theorem WT.imp {Q Q' : Bool → Prop} (h : WT p ρ tt Q') (k : ∀ d, Q' d → Q d) : WT p ρ tt Q := fun G σ H hh Qv q => h G σ H hh Qv fun d G' H' z => q d G' H' (k d z)
theorem WA.imp {ta : TA} {Q Q' : List D → Prop} (h : WA p ρ ta Q') (k : ∀ d, Q' d → Q d) : WA p ρ ta Q := fun G σ H hh Qv q => h G σ H hh Qv fun d v G' H' z => q d v G' H' (k d z)
theorem WS.imp {ts : TS} {P P' : Post} (h : WS p ρ ts P') (n : ∀ d, P'.n d → P.n d) (r : ∀ d, P'.r d → P.r d) (b : ∀ d, P'.b d → P.b d) (c : ∀ d, P'.c d → P.c d) : WS p ρ ts P := fun G σ H hh E kn kr kb kc =>
  h G σ H hh E (fun ρ' G' σ' H' z => kn ρ' G' σ' H' (n _ z)) (fun d v G' H' z => kr d v G' H' (r _ z)) (fun ρ' G' σ' H' z => kb ρ' G' σ' H' (b _ z)) (fun ρ' G' σ' H' z => kc ρ' G' σ' H' (c _ z))

/-! ### expressions -/
theorem we_var {i : Nat} {x : D} (e : ρ[i]? = some (some (.d x))) (q : Q x) : WE p ρ (tVar i) Q := fun G σ H h Qv k => by
  obtain ⟨sv, h1, v, h2, h3⟩ := h.slot i _ e
  subst h2
  exact ⟨v, h1, k x v G H q h.mem.refl h3⟩
theorem we_int {i : Int} (q : Q (.int i)) : WE p ρ (tC (.int i)) Q := fun G σ H h Qv k => k _ _ G H q h.mem.refl (.int i)
theorem we_bl {i : Bool} (q : Q (.bl i)) : WE p ρ (tC (.bl i)) Q := fun G σ H h Qv k => k _ _ G H q h.mem.refl (.bl i)
theorem we_non (q : Q .non) : WE p ρ (tC .non) Q := fun G σ H h Qv k => k _ _ G H q h.mem.refl .non
theorem we_str {i : Str} (q : Q (.str i)) : WE p ρ (tC (.str i)) Q := fun G σ H h Qv k => k _ _ G H q h.mem.refl (.str i)
theorem we_raw {v : V} (q : Q (.raw v)) : WE p ρ (tC v) Q := fun G σ H h Qv k => k _ _ G H q h.mem.refl (.raw v)
theorem we_op {r : R2} (h : WE p ρ ta fun x => WE p ρ tb fun y => RO p r x y Q) : WE p ρ (tOp r ta tb) Q := fun G σ H hh Qv k =>
  h G σ H hh _ fun x v G1 H1 hx s1 r1 => hx G1 σ H1 (hh.step s1) _ fun y w G2 H2 hy s2 r2 =>
    hy G2 H2 v w ((hh.step s1).step s2).mem (rmono r1 s2.ex) r2 Qv fun d u G3 H3 q s3 r3 => k d u G3 H3 q ((s1.trans s2).trans s3) r3
theorem we_un {r : V → Hp → VK → Prop} (h : WE p ρ ta fun x => RU p r x Q) : WE p ρ (tUn r ta) Q := fun G σ H hh Qv k =>
  h G σ H hh _ fun x v G1 H1 hx s1 r1 => hx G1 H1 v (hh.step s1).mem r1 Qv fun d u G3 H3 q s3 r3 => k d u G3 H3 q (s1.trans s3) r3
theorem we_cb {r : List V → Hp → VK → Prop} {ta : TA} (h : WA p ρ ta fun xs => RC p r xs Q) : WE p ρ (tCB r ta) Q := fun G σ H hh Qv k =>
  h G σ H hh _ fun x v G1 H1 hx s1 r1 => hx G1 H1 v (hh.step s1).mem r1 Qv fun d u G3 H3 q s3 r3 => k d u G3 H3 q (s1.trans s3) r3
theorem wa_nil {Q : List D → Prop} (q : Q []) : WA p ρ tNil Q := fun G σ H hh Qv k => k [] [] G H q hh.mem.refl .nil
theorem wa_cons {Q : List D → Prop} {tr : TA} (h : WE p ρ te fun x => WA p ρ tr fun xs => Q (x :: xs)) : WA p ρ (tCons te tr) Q := fun G σ H hh Qv k =>
  h G σ H hh _ fun x v G1 H1 hx s1 r1 => hx G1 σ H1 (hh.step s1) _ fun xs vs G2 H2 q s2 r2 => k (x :: xs) (v :: vs) G2 H2 q (s1.trans s2) (.cons (rmono r1 s2.ex) r2)

/-! ### scalars -/
/-- a scalar value as data -/
def inj : V → D
  | .non => .non
  | .bl b => .bl b
  | .int i => .int i
  | .str x => .str x
  | v => .raw v
theorem rp_inj {K : PySem.W.Frag} {h : Hnd} {G : Hp} : ∀ v : V, Rp K h G v (inj v)
  | .non => .non
  | .bl b => .bl b
  | .int i => .int i
  | .str x => .str x
  | .byt b => .raw _
  | .flt b => .raw _
  | .ref a => .raw _
  | .ty n => .raw _
theorem rp_int {K : PySem.W.Frag} {h : Hnd} {G : Hp} {v : V} {i : Int} (r : Rp K h G v (.int i)) : v = .int i := by cases r; rfl
theorem rp_bl {K : PySem.W.Frag} {h : Hnd} {G : Hp} {v : V} {i : Bool} (r : Rp K h G v (.bl i)) : v = .bl i := by cases r; rfl
theorem rp_str {K : PySem.W.Frag} {h : Hnd} {G : Hp} {v : V} {i : Str} (r : Rp K h G v (.str i)) : v = .str i := by cases r; rfl
theorem rp_non {K : PySem.W.Frag} {h : Hnd} {G : Hp} {v : V} (r : Rp K h G v .non) : v = .non := by cases r; rfl
theorem we_I0 {g : Int → Int → V} (h : WE p ρ ta fun x => ∃ i, x = .int i ∧ WE p ρ tb fun y => ∃ j, y = .int j ∧ Q (inj (g i j))) : WE p ρ (tOp (rI0 g) ta tb) Q :=
  we_op (h.imp fun x ⟨i, e, h⟩ => h.imp fun y ⟨j, e2, q⟩ => fun G H v w m r1 r2 Qv k => by
    subst e e2
    exact ⟨i, j, rp_int r1, rp_int r2, k _ _ G H q m.refl (rp_inj _)⟩)
theorem we_I {C : Int → Int → Prop} {g : Int → Int → V} (h : WE p ρ ta fun x => ∃ i, x = .int i ∧ WE p ρ tb fun y => ∃ j, y = .int j ∧ C i j ∧ Q (inj (g i j))) : WE p ρ (tOp (rI C g) ta tb) Q :=
  we_op (h.imp fun x ⟨i, e, h⟩ => h.imp fun y ⟨j, e2, c, q⟩ => fun G H v w m r1 r2 Qv k => by
    subst e e2
    exact ⟨i, j, rp_int r1, rp_int r2, c, k _ _ G H q m.refl (rp_inj _)⟩)
theorem we_U {g : Int → V} (h : WE p ρ ta fun x => ∃ i, x = .int i ∧ Q (inj (g i))) : WE p ρ (tUn (rU g) ta) Q :=
  we_un (h.imp fun x ⟨i, e, q⟩ => fun G H v m r1 Qv k => by
    subst e
    exact ⟨i, rp_int r1, k _ _ G H q m.refl (rp_inj _)⟩)
theorem we_notV (h : WE p ρ ta fun x => ∃ b, x = .bl b ∧ Q (.bl (!b))) : WE p ρ (tNotV ta) Q := fun G σ H hh Qv k =>
  h G σ H hh _ fun x v G1 H1 ⟨b, e, q⟩ s1 r1 => by
    subst e
    exact ⟨b, rp_bl r1, k _ _ G1 H1 q s1 (.bl _)⟩
theorem we_andV (h : WE p ρ ta fun x => ∃ b, x = .bl b ∧ (b = true → WE p ρ tb Q) ∧ (b = false → Q (.bl false))) : WE p ρ (tAndV ta tb) Q := fun G σ H hh Qv k =>
  h G σ H hh _ fun x v G1 H1 ⟨b, e, q1, q2⟩ s1 r1 => by
    subst e
    refine ⟨b, rp_bl r1, ?_⟩
    cases b with
    | true => rw [if_pos rfl]; exact q1 rfl G1 σ H1 (hh.step s1) Qv fun d u G2 H2 q s2 r2 => k d u G2 H2 q (s1.trans s2) r2
    | false => rw [if_neg (by decide)]; exact k _ _ G1 H1 (q2 rfl) s1 (.bl _)
theorem we_orV (h : WE p ρ ta fun x => ∃ b, x = .bl b ∧ (b = false → WE p ρ tb Q) ∧ (b = true → Q (.bl true))) : WE p ρ (tOrV ta tb) Q := fun G σ H hh Qv k =>
  h G σ H hh _ fun x v G1 H1 ⟨b, e, q1, q2⟩ s1 r1 => by
    subst e
    refine ⟨b, rp_bl r1, ?_⟩
    cases b with
    | false => rw [if_neg (by decide)]; exact q1 rfl G1 σ H1 (hh.step s1) Qv fun d u G2 H2 q s2 r2 => k d u G2 H2 q (s1.trans s2) r2
    | true => rw [if_pos rfl]; exact k _ _ G1 H1 (q2 rfl) s1 (.bl _)
theorem we_if (h : WT p ρ tt fun b => if b = true then WE p ρ ta Q else WE p ρ tb Q) : WE p ρ (tIf tt ta tb) Q := fun G σ H hh Qv k =>
  h G σ H hh _ fun b G1 H1 q s1 => by
    cases b with
    | true => rw [if_pos rfl] at q ⊢; exact q G1 σ H1 (hh.step s1) Qv fun d u G2 H2 q s2 r2 => k d u G2 H2 q (s1.trans s2) r2
    | false => rw [if_neg (by decide)] at q ⊢; exact q G1 σ H1 (hh.step s1) Qv fun d u G2 H2 q s2 r2 => k d u G2 H2 q (s1.trans s2) r2
/-! ### tests -/
variable {R : Bool → Prop}
theorem wt_B (h : WE p ρ te fun x => ∃ b, x = .bl b ∧ R b) : WT p ρ (tB te) R := fun G σ H hh Qv k =>
  h G σ H hh _ fun x v G1 H1 ⟨b, e, q⟩ s1 r1 => by subst e; exact ⟨b, rp_bl r1, k b G1 H1 q s1⟩
theorem wt_T (h : WE p ρ te fun x => ∃ b, x = .bl b ∧ R b) : WT p ρ (tTest te) R := fun G σ H hh Qv k =>
  h G σ H hh _ fun x v G1 H1 ⟨b, e, q⟩ s1 r1 => by subst e; exact ⟨b, rp_bl r1, k b G1 H1 q s1⟩
theorem wt_not (h : WT p ρ tt fun b => R (!b)) : WT p ρ (tNot tt) R := fun G σ H hh Qv k => h G σ H hh _ fun b G1 H1 q s1 => k (!b) G1 H1 q s1
theorem wt_and (h : WT p ρ tt fun b => (b = true → WT p ρ tu R) ∧ (b = false → R false)) : WT p ρ (tAnd tt tu) R := fun G σ H hh Qv k => h G σ H hh _ fun b G1 H1 ⟨q1, q2⟩ s1 => by
  cases b with
  | true => show tu σ H1 Qv; exact q1 rfl G1 σ H1 (hh.step s1) Qv fun d G2 H2 q s2 => k d G2 H2 q (s1.trans s2)
  | false => show Qv false H1; exact k false G1 H1 (q2 rfl) s1
theorem wt_or (h : WT p ρ tt fun b => (b = false → WT p ρ tu R) ∧ (b = true → R true)) : WT p ρ (tOr tt tu) R := fun G σ H hh Qv k => h G σ H hh _ fun b G1 H1 ⟨q1, q2⟩ s1 => by
  cases b with
  | false => show tu σ H1 Qv; exact q1 rfl G1 σ H1 (hh.step s1) Qv fun d G2 H2 q s2 => k d G2 H2 q (s1.trans s2)
  | true => show Qv true H1; exact k true G1 H1 (q2 rfl) s1
theorem wt_yes (h : R true) : WT p ρ tYes R := fun G σ H hh Qv k => k true G H h hh.mem.refl
end

/-! ### tuples, lists -/
theorem sz {n : Nat} (h : n ≤ 4000000) : n ≤ sizeLine := Nat.le_trans h (by rw [sizeLine_eq]; decide)
section
variable {p : Par} {ρ : Rho} {Q : D → Prop} {ta tb te : TE} {tt tu : TT}
theorem we_tup {ta : TA} (h : WA p ρ ta fun ds => ds.length ≤ 4000000 ∧ Q (.tup ds)) : WE p ρ (tTup ta) Q := fun G σ H hh Qv k =>
  h G σ H hh _ fun ds vs G1 H1 ⟨hl, q⟩ s1 r1 => ⟨sz (by rw [r1.length]; exact hl), fun a ha => k _ _ _ _ q (s1.trans ((hh.step s1).mem.grow ha)) (.tup upd_same (lmono r1 ((hh.step s1).mem.grow (o := .tup vs) ha).ex))⟩
end
theorem Mem.backN {p : Par} {G H G1 H1 : Hp} {a : Addr} (m : Mem p G H) (s : Stp p G H G1 H1) (n : Nil (H1 a)) : Nil (H a) := fun u z => by
  refine Classical.byContradiction fun nt => ?_
  by_cases hb : a = p.h.a
  · obtain ⟨u', hu⟩ := s.hand.some
    obtain ⟨ps, e⟩ := n _ (by rw [hb]; exact hu)
    cases e
  · exact nt (n u (s.base a u hb (fun ps e => nt ⟨ps, e⟩) z))
theorem Mem.back {p : Par} {G H G1 H1 : Hp} {a : Addr} (m : Mem p G H) (s : Stp p G H G1 H1) (n : H1 a = none) : Nil (H a) := m.backN s (Nil.no n)
/-- frozen -/
def Cell.toD : Cell → D
  | .d x => x
  | .ol xs => .lst xs
  | .ok kvs => .dK kvs
  | .ot kvs => .dT kvs
  | .rw a _ => .raw (.ref a)
  | .lk kvs => .dK kvs
  | .lt kvs => .dT kvs
  | .oi _ C kvs => .ins C kvs
theorem Mem.know {p : Par} {G H : Hp} {a : Addr} {o : HO} (m : Mem p G H) (ow : Own p G a) (e : H a = some o) (nt : ∀ ps, o ≠ .tbl ps) : Mem p (upd G a o) H ∧ Ex G (upd G a o) := by
  have ex : Ex G (upd G a o) := fun b u z => by rw [upd_ne (ne_of_none z ow.1)]; exact z
  exact ⟨⟨fun b u z => by
      by_cases hb : b = a
      · subst hb; rw [upd_same] at z; cases z; exact e
      · rw [upd_ne hb] at z; exact m.sub b u z, by rw [upd_ne (Ne.symm ow.2.2)]; exact m.gh, m.base, fun b u z => ex b u (m.g0 b u z), fun b u z => by
      by_cases hb : b = a
      · subst hb; exact .inr (.inl ow.2.1)
      · rw [upd_ne hb] at z; exact m.new b u z, m.hand.mono ex rfl, fun b ps z => by
      by_cases hb : b = a
      · subst hb; rw [upd_same] at z; exact nt ps (Option.some.inj z)
      · rw [upd_ne hb] at z; exact m.gt b ps z, m.tab⟩, ex⟩
theorem Slot.toD {p : Par} {G H : Hp} {a : Addr} {c : Cell} (x : Slot p G H (some (.ref a)) c) (ho : c.isOwn = true) : ∃ o, H a = some o ∧ Own p G a ∧ Rp p.K p.h (upd G a o) (.ref a) c.toD := by
  have ex : ∀ {o : HO}, Own p G a → Ex G (upd G a o) := fun {o} ow b u z => by rw [upd_ne (ne_of_none z ow.1)]; exact z
  cases c with
  | d x => cases ho
  | ol xs => obtain ⟨b, vs, h1, h2, h3, h4⟩ := x; cases h1; exact ⟨_, h3, h2, .lst upd_same (lmono h4 (ex h2))⟩
  | ok xs => obtain ⟨b, vs, h1, h2, h3, h4⟩ := x; cases h1; exact ⟨_, h3, h2, .dK (.inl upd_same) (RpK.mono (ex h2) _ _ h4)⟩
  | ot xs => obtain ⟨b, vs, h1, h2, h3, h4⟩ := x; cases h1; exact ⟨_, h3, h2, .dT (.inl upd_same) (RpT.mono (ex h2) _ _ h4)⟩
  | rw b o => obtain ⟨h1, h2, h3, _⟩ := x; cases h1; exact ⟨_, h3, h2, .raw _⟩
  | lk xs => obtain ⟨b, od, vs, h1, h2, h3, h4⟩ := x; cases h1; exact ⟨_, h3, h2, .dK (.inr ⟨od, upd_same⟩) (RpK.mono (ex h2) _ _ h4)⟩
  | lt xs => obtain ⟨b, od, vs, h1, h2, h3, h4⟩ := x; cases h1; exact ⟨_, h3, h2, .dT (.inr ⟨od, upd_same⟩) (RpT.mono (ex h2) _ _ h4)⟩
  | oi _ C xs => obtain ⟨b, od, vs, h1, h2, h3, h4⟩ := x; cases h1; exact ⟨_, h3, h2, .ins upd_same (RpF.mono (ex h2) _ _ h4.1) h4.2.2⟩
section
variable {p : Par} {ρ : Rho} {Q : D → Prop} {ta tb te : TE} {tt tu : TT}
theorem we_F (h : WF p ρ te fun c => Q c.toD) : WE p ρ te Q := fun G σ H hh Qv k =>
  h G σ H hh _ fun c a G1 H1 q ho s1 n x => by
    have m1 := (hh.step s1).mem
    -- told of the callee's own view: a is new to H
    obtain ⟨o, e, ow, r⟩ := x.toD ho
    have ow2 : Own ⟨p.K, p.h, H, G⟩ G1 a := ⟨ow.1, n, ow.2.2⟩
    exact k _ _ _ _ q (Mem.know s1 ow2 e (x.nt ho e).tbl).1 r
theorem wf_lst {Q : Cell → Prop} {ta : TA} (h : WA p ρ ta fun ds => ds.length ≤ 4000000 ∧ Q (.ol ds)) : WF p ρ (tLst ta) Q := fun G σ H hh Qv k =>
  h G σ H hh _ fun ds vs G1 H1 ⟨hl, q⟩ s1 r1 => ⟨sz (by rw [r1.length]; exact hl), fun a ha => by
    have m1 := (hh.step s1).mem
    exact k _ a _ _ q rfl (s1.trans (m1.growO ha)) (hh.mem.back s1 ha) ⟨a, vs, rfl, m1.fresh ha, upd_same, r1⟩⟩
theorem we_lst {ta : TA} (h : WA p ρ ta fun ds => ds.length ≤ 4000000 ∧ Q (.lst ds)) : WE p ρ (tLst ta) Q := we_F (wf_lst h)
theorem wf_dK {Q : Cell → Prop} (h : Q (.ok [])) : WF p ρ tDNewK Q := fun G σ H hh Qv k a ha => k _ a _ _ h rfl (hh.mem.growO ha) (Nil.no ha) ⟨a, [], rfl, hh.mem.fresh ha, upd_same, .nil⟩
theorem wf_dT {Q : Cell → Prop} (h : Q (.ot [])) : WF p ρ tDNewT Q := fun G σ H hh Qv k a ha => k _ a _ _ h rfl (hh.mem.growO ha) (Nil.no ha) ⟨a, [], rfl, hh.mem.fresh ha, upd_same, .nil⟩

/-! ### subscripts -/
theorem atI_rp {G : Hp} {vs : List V} {ds : List D} {i : Int} {d : D} (r : RpL p.K p.h G vs ds) (e : atI ds i = some d) : ∃ v, atI vs i = some v ∧ Rp p.K p.h G v d := by
  unfold atI at e ⊢
  rw [r.length]
  cases z : ixN ds.length i with
  | none => rw [z] at e; cases e
  | some j =>
    rw [z] at e
    obtain ⟨v, h1, h2⟩ := r.get (i := j) (d := d) e
    exact ⟨v, h1, h2⟩
theorem we_ixT (h : WE p ρ ta fun x => ∃ ds, x = .tup ds ∧ WE p ρ tb fun y => ∃ i d, y = .int i ∧ atI ds i = some d ∧ Q d) : WE p ρ (tOp (rIxT p.K) ta tb) Q :=
  we_op (h.imp fun x ⟨ds, e, h⟩ => h.imp fun y ⟨i, d, e2, c, q⟩ => fun G H v w m r1 r2 Qv k => by
    subst e e2
    obtain ⟨a, vs, ev, hs, hl⟩ := r1.tup_inv
    obtain ⟨u, h1, h2⟩ := atI_rp hl c
    exact ⟨a, vs, i, u, ev, rp_int r2, tq m.sub hs, h1, k _ _ G H q m.refl h2⟩)
theorem we_ixL (h : WE p ρ ta fun x => ∃ ds, x = .lst ds ∧ WE p ρ tb fun y => ∃ i d, y = .int i ∧ atI ds i = some d ∧ Q d) : WE p ρ (tOp (rIxL p.K) ta tb) Q :=
  we_op (h.imp fun x ⟨ds, e, h⟩ => h.imp fun y ⟨i, d, e2, c, q⟩ => fun G H v w m r1 r2 Qv k => by
    subst e e2
    obtain ⟨a, vs, ev, hs, hl⟩ := r1.lst_inv
    obtain ⟨u, h1, h2⟩ := atI_rp hl c
    exact ⟨a, vs, i, u, ev, rp_int r2, lq m.sub hs, h1, k _ _ G H q m.refl h2⟩)
/-- an item of a list that slot i owns -/
theorem we_ixO {i : Nat} {xs : List D} (e : ρ[i]? = some (some (.ol xs))) (h : WE p ρ tb fun y => ∃ i d, y = .int i ∧ atI xs i = some d ∧ Q d) : WE p ρ (tOp (rIxL p.K) (tVar i) tb) Q := fun G σ H hh Qv k => by
  obtain ⟨sv, h1, a, vs, h2, _, _, _⟩ := hh.slot i _ e
  subst h2
  refine ⟨.ref a, h1, h G σ H hh _ fun y w G1 H1 ⟨j, d, e2, c, q⟩ s1 r1 => ?_⟩
  obtain ⟨sv', h1', a', vs', h2', h3, h4, h5⟩ := (hh.step s1).slot i _ e
  subst h2'
  rw [h1] at h1'
  cases h1'
  subst e2
  obtain ⟨u, g1, g2⟩ := atI_rp h5 c
  exact ⟨a, vs', j, u, rfl, rp_int r1, sq_of h4, g1, k _ _ G1 H1 q s1 g2⟩
/-! ### len -/
theorem call_len_rc {xs : List D} (h : ∃ ds, (xs = [.lst ds] ∨ xs = [.tup ds]) ∧ Q (.int ds.length)) : RC p (fun xs H Q => ∃ q ys, xs = [.ref q] ∧ (SqL p.K H q ys ∨ SqT p.K H q ys) ∧ Q (.int ys.length) H) xs Q := fun G H vs m r Qv k => by
  obtain ⟨ds, e | e, q⟩ := h
  · subst e
    cases r with
    | cons r rn =>
      cases rn
      obtain ⟨a, us, ev, hs, hl⟩ := r.lst_inv
      subst ev
      refine ⟨a, us, rfl, .inl (lq m.sub hs), k _ _ G H q m.refl ?_⟩
      rw [hl.length]; exact .int _
  · subst e
    cases r with
    | cons r rn =>
      cases rn
      obtain ⟨a, us, ev, hs, hl⟩ := r.tup_inv
      subst ev
      refine ⟨a, us, rfl, .inr (tq m.sub hs), k _ _ G H q m.refl ?_⟩
      rw [hl.length]; exact .int _
theorem we_len (h : WE p ρ te fun x => ∃ ds, (x = .lst ds ∨ x = .tup ds) ∧ Q (.int ds.length)) : WE p ρ (tCB (fun xs H Q => ∃ q ys, xs = [.ref q] ∧ (SqL p.K H q ys ∨ SqT p.K H q ys) ∧ Q (.int ys.length) H) (tCons te tNil)) Q :=
  we_cb (wa_cons (h.imp fun x ⟨ds, e, q⟩ => wa_nil (call_len_rc ⟨ds, by rcases e with e | e; exact .inl (by rw [e]); exact .inr (by rw [e]), q⟩)))
theorem we_lenO {i : Nat} {xs : List D} (e : ρ[i]? = some (some (.ol xs))) (q : Q (.int xs.length)) : WE p ρ (tCB (fun xs H Q => ∃ q ys, xs = [.ref q] ∧ (SqL p.K H q ys ∨ SqT p.K H q ys) ∧ Q (.int ys.length) H) (tCons (tVar i) tNil)) Q := fun G σ H hh Qv k => by
  obtain ⟨sv, h1, a, vs, h2, _, h4, h5⟩ := hh.slot i _ e
  subst h2
  refine ⟨.ref a, h1, a, vs, rfl, .inl (sq_of h4), ?_⟩
  rw [h5.length]
  exact k _ _ G H q hh.mem.refl (.int _)
/-! ### calls of built-ins of ints -/
theorem we_int1 (h : WE p ρ te fun x => ∃ i, x = .int i ∧ Q (.int i)) : WE p ρ (tCB (fun xs H Q => (∃ i, xs = [V.int i] ∧ Q (.int i) H) ∨ ∃ k, xs = [V.bl k] ∧ Q (.int (if k then 1 else 0)) H) (tCons te tNil)) Q :=
  we_cb (wa_cons (h.imp fun x ⟨i, e, q⟩ => wa_nil fun G H vs m r Qv k => by
    subst e
    cases r with
    | cons r rn => cases rn; cases r; exact .inl ⟨i, rfl, k _ _ G H q m.refl (.int _)⟩))
def absI (i : Int) : Int := if i < 0 then -i else i
def maxI (i j : Int) : Int := if j > i then j else i
def minI (i j : Int) : Int := if j < i then j else i
theorem absI_nn (i : Int) : 0 ≤ absI i := by unfold absI; split <;> omega
theorem absI_eq (i : Int) : absI i = (i.natAbs : Int) := by unfold absI; split <;> omega
theorem we_abs (h : WE p ρ te fun x => ∃ i, x = .int i ∧ Q (.int (absI i))) : WE p ρ (tCB (fun xs H Q => ∃ i, xs = [V.int i] ∧ Q (.int (if i < 0 then -i else i)) H) (tCons te tNil)) Q :=
  we_cb (wa_cons (h.imp fun x ⟨i, e, q⟩ => wa_nil fun G H vs m r Qv k => by
    subst e
    cases r with
    | cons r rn => cases rn; cases r; exact ⟨i, rfl, k _ _ G H q m.refl (.int _)⟩))
theorem we_max2 (h : WE p ρ ta fun x => ∃ i, x = .int i ∧ WE p ρ tb fun y => ∃ j, y = .int j ∧ Q (.int (maxI i j))) : WE p ρ (tCB (fun xs H Q => ∃ i j, xs = [V.int i, V.int j] ∧ Q (.int (if j > i then j else i)) H) (tCons ta (tCons tb tNil))) Q :=
  we_cb (wa_cons (h.imp fun x ⟨i, e, h⟩ => wa_cons (h.imp fun y ⟨j, e2, q⟩ => wa_nil fun G H vs m r Qv k => by
    subst e e2
    cases r with
    | cons r rn => cases rn with | cons r2 rn => cases rn; cases r; cases r2; exact ⟨i, j, rfl, k _ _ G H q m.refl (.int _)⟩)))
theorem we_min2 (h : WE p ρ ta fun x => ∃ i, x = .int i ∧ WE p ρ tb fun y => ∃ j, y = .int j ∧ Q (.int (minI i j))) : WE p ρ (tCB (fun xs H Q => ∃ i j, xs = [V.int i, V.int j] ∧ Q (.int (if j < i then j else i)) H) (tCons ta (tCons tb tNil))) Q :=
  we_cb (wa_cons (h.imp fun x ⟨i, e, h⟩ => wa_cons (h.imp fun y ⟨j, e2, q⟩ => wa_nil fun G H vs m r Qv k => by
    subst e e2
    cases r with
    | cons r rn => cases rn with | cons r2 rn => cases rn; cases r; cases r2; exact ⟨i, j, rfl, k _ _ G H q m.refl (.int _)⟩)))
theorem we_gcd (h : WE p ρ ta fun x => ∃ i, x = .int i ∧ WE p ρ tb fun y => ∃ j, y = .int j ∧ Q (.int ((Nat.gcd i.natAbs j.natAbs : Nat) : Int))) : WE p ρ (tCB rGcd (tCons ta (tCons tb tNil))) Q :=
  we_cb (wa_cons (h.imp fun x ⟨i, e, h⟩ => wa_cons (h.imp fun y ⟨j, e2, q⟩ => wa_nil fun G H vs m r Qv k => by
    subst e e2
    cases r with
    | cons r rn => cases rn with | cons r2 rn => cases rn; cases r; cases r2; exact ⟨i, j, rfl, k _ _ G H q m.refl (.int _)⟩)))
/-- == and != of scalars -/
def D.sc : D → Bool
  | .non => true | .bl _ => true | .int _ => true | .str _ => true | _ => false
theorem we_eqI (h : WE p ρ ta fun x => ∃ i, x = .int i ∧ WE p ρ tb fun y => ∃ j, y = .int j ∧ Q (.bl (decide (i = j)))) : WE p ρ (tOp rEq ta tb) Q :=
  we_op (h.imp fun x ⟨i, e, h⟩ => h.imp fun y ⟨j, e2, q⟩ => fun G H v w m r1 r2 Qv k => by
    subst e e2
    rw [rp_int r1, rp_int r2]
    refine ⟨rfl, ?_⟩
    have z : decide (V.int i = V.int j) = decide (i = j) := by
      by_cases e : i = j
      · subst e; simp
      · rw [decide_eq_false e, decide_eq_false fun q => e (V.int.inj q)]
    rw [z]
    exact k _ _ G H q m.refl (.bl _))
theorem we_neI (h : WE p ρ ta fun x => ∃ i, x = .int i ∧ WE p ρ tb fun y => ∃ j, y = .int j ∧ Q (.bl (!decide (i = j)))) : WE p ρ (tOp rNe ta tb) Q :=
  we_op (h.imp fun x ⟨i, e, h⟩ => h.imp fun y ⟨j, e2, q⟩ => fun G H v w m r1 r2 Qv k => by
    subst e e2
    rw [rp_int r1, rp_int r2]
    refine ⟨rfl, ?_⟩
    have z : decide (V.int i = V.int j) = decide (i = j) := by
      by_cases e : i = j
      · subst e; simp
      · rw [decide_eq_false e, decide_eq_false fun q => e (V.int.inj q)]
    rw [z]
    exact k _ _ G H q m.refl (.bl _))
end

theorem Ex.rfl' {G : Hp} : Ex G G := fun _ _ e => e
theorem ex_tr {A B C : Hp} (a : Ex A B) (b : Ex B C) : Ex A C := fun x o e => b x o (a x o e)

/-! ### statements -/
section
variable {p : Par} {ρ : Rho} {Q : D → Prop} {ta tb te td ty : TE} {tt tu : TT} {P : Post} {ts tv : TS}
theorem ws_next (h : P.n ρ) : WS p ρ tNext P := fun G σ H hh E kn kr kb kc => kn ρ G σ H h Ex.rfl' hh
theorem ws_break (h : P.b ρ) : WS p ρ tBreak P := fun G σ H hh E kn kr kb kc => kb ρ G σ H h Ex.rfl' hh
theorem ws_cont (h : P.c ρ) : WS p ρ tCont P := fun G σ H hh E kn kr kb kc => kc ρ G σ H h Ex.rfl' hh
theorem ws_never (h : False) : WS p ρ ts P := h.elim
theorem ws_seq (h : WS p ρ ts { P with n := fun ρ' => WS p ρ' tv P }) : WS p ρ (tSeq ts tv) P := fun G σ H hh E kn kr kb kc =>
  h G σ H hh { E with nx := tv E } (fun ρ' G' σ' H' z e hh' => z G' σ' H' hh' E (fun ρ2 G2 σ2 H2 z2 e2 => kn ρ2 G2 σ2 H2 z2 (ex_tr e e2)) kr (fun ρ2 G2 σ2 H2 z2 e2 => kb ρ2 G2 σ2 H2 z2 (ex_tr e e2)) (fun ρ2 G2 σ2 H2 z2 e2 => kc ρ2 G2 σ2 H2 z2 (ex_tr e e2))) kr kb kc
theorem ws_drop (h : WE p ρ te fun _ => P.n ρ) : WS p ρ (tDrop te) P := fun G σ H hh E kn kr kb kc => h G σ H hh _ fun d v G' H' z s r => kn ρ G' σ H' z s.ex (hh.step s)
theorem ws_ret (h : WE p ρ te P.r) : WS p ρ (tRet te) P := fun G σ H hh E kn kr kb kc => h G σ H hh _ fun d v G' H' z s r => kr d v G' H' z (hh.step s).mem r
theorem ws_retN (h : P.r .non) : WS p ρ tRetN P := fun G σ H hh E kn kr kb kc => kr .non .non G H h hh.mem .non
theorem ws_if (h : WT p ρ tt fun b => if b = true then WS p ρ ts P else WS p ρ tv P) : WS p ρ (tIfS tt ts tv) P := fun G σ H hh E kn kr kb kc =>
  h G σ H hh _ fun b G1 H1 q s1 => by
    cases b with
    | true =>
      rw [if_pos rfl] at q ⊢
      exact q G1 σ H1 (hh.step s1) E (fun ρ2 G2 σ2 H2 z2 e2 => kn ρ2 G2 σ2 H2 z2 (ex_tr s1.ex e2)) kr (fun ρ2 G2 σ2 H2 z2 e2 => kb ρ2 G2 σ2 H2 z2 (ex_tr s1.ex e2)) (fun ρ2 G2 σ2 H2 z2 e2 => kc ρ2 G2 σ2 H2 z2 (ex_tr s1.ex e2))
    | false =>
      rw [if_neg (by decide)] at q ⊢
      exact q G1 σ H1 (hh.step s1) E (fun ρ2 G2 σ2 H2 z2 e2 => kn ρ2 G2 σ2 H2 z2 (ex_tr s1.ex e2)) kr (fun ρ2 G2 σ2 H2 z2 e2 => kb ρ2 G2 σ2 H2 z2 (ex_tr s1.ex e2)) (fun ρ2 G2 σ2 H2 z2 e2 => kc ρ2 G2 σ2 H2 z2 (ex_tr s1.ex e2))
/-! ### targets -/
theorem wg_name {i : Nat} {x : D} {N : Rho → Prop} (h : N (ρ.set i (some (.d x)))) : WG p ρ (gName i) x N := fun G σ H v hh r Qs k => k _ G _ H h Ex.rfl' (hh.setD r)
theorem wgs_nil {xs : List D} {N : Rho → Prop} (h : xs = [] ∧ N ρ) : WGs p ρ gNil xs N := fun G σ H vs hh r Qs k => by
  obtain ⟨e, h⟩ := h
  subst e
  cases r
  exact ⟨rfl, k _ G σ H h Ex.rfl' hh⟩
theorem wgs_cons {g : TG} {gs : TGs} {xs : List D} {N : Rho → Prop} (h : ∃ x r, xs = x :: r ∧ WG p ρ g x fun ρ' => WGs p ρ' gs r N) : WGs p ρ (gCons g gs) xs N := fun G σ H vs hh r Qs k => by
  obtain ⟨x, xr, e, h⟩ := h
  subst e
  cases r with
  | @cons v vs _ _ a b =>
    exact ⟨v, vs, rfl, h G σ H v hh a _ fun ρ1 G1 σ1 H1 z e1 hh1 => z G1 σ1 H1 vs hh1 (lmono b e1) Qs fun ρ2 G2 σ2 H2 z2 e2 => k ρ2 G2 σ2 H2 z2 (ex_tr e1 e2)⟩
theorem wg_tup {n : Nat} {gs : TGs} {x : D} {N : Rho → Prop} (h : ∃ xs, x = .tup xs ∧ xs.length = n ∧ WGs p ρ gs xs N) : WG p ρ (gTup p.K n gs) x N := fun G σ H v hh r Qs k => by
  obtain ⟨xs, e, hl, h⟩ := h
  subst e
  obtain ⟨a, vs, ev, hs, hr⟩ := r.tup_inv
  exact ⟨a, vs, ev, tq hh.mem.sub hs, by rw [hr.length]; exact hl, h G σ H vs hh hr Qs k⟩
theorem ws_asgG {g : TG} (h : WE p ρ te fun x => WG p ρ g x P.n) : WS p ρ (tAsg te g) P := fun G σ H hh E kn kr kb kc =>
  h G σ H hh _ fun d v G' H' z s r => z G' σ H' v (hh.step s) r E.nx fun ρ2 G2 σ2 H2 z2 e2 => kn ρ2 G2 σ2 H2 z2 (ex_tr s.ex e2)
theorem ws_asg {i : Nat} (h : WE p ρ te fun x => P.n (ρ.set i (some (.d x)))) : WS p ρ (tAsg te (gName i)) P := ws_asgG (h.imp fun _ z => wg_name z)
/-- a new list, a new dict, from now on the slot's own -/
theorem ws_asgF {i : Nat} (h : WF p ρ te fun c => P.n (ρ.set i (some c))) : WS p ρ (tAsg te (gName i)) P := fun G σ H hh E kn kr kb kc =>
  h G σ H hh _ fun c a G' H' z ho s n x => kn _ G' _ H' z s.ex (hh.setNew s n x)
/-- x = y, both names of one object that y owned: x owns it from now on, y is forgotten -/
theorem ws_move {i j : Nat} {c : Cell} (e : ρ[j]? = some (some c)) (ho : c.isOwn = true) (h : P.n ((ρ.set j none).set i (some c))) : WS p ρ (tAsg (tVar j) (gName i)) P := fun G σ H hh E kn kr kb kc => by
  obtain ⟨sv, h1, h2⟩ := hh.slot j _ e
  obtain ⟨a, u, h3, h4, h5⟩ := Cell.own_ref h2 ho
  subst h3
  refine ⟨.ref a, h1, kn _ G _ H h Ex.rfl' ((hh.drop j).setO h2 fun m c' em o q => ?_)⟩
  by_cases hm : j = m
  · subst hm
    rw [List.getElem?_set_self (List.getElem?_eq_some_iff.mp e).1] at em
    cases em
  · rw [List.getElem?_set_ne hm] at em
    exact absurd (hh.sep j m c c' a e ho em o h1 q) hm
/-- what slot i owns is from now on plain data -/
theorem ws_freeze (i : Nat) {c : Cell} (e : ρ[i]? = some (some c)) (ho : c.isOwn = true) (h : WS p (ρ.set i (some (.d c.toD))) ts P) : WS p ρ ts P := fun G σ H hh E kn kr kb kc => by
  obtain ⟨sv, h1, h2⟩ := hh.slot i _ e
  obtain ⟨a, u, h3, _, _⟩ := Cell.own_ref h2 ho
  subst h3
  obtain ⟨o, ha, ow, r⟩ := h2.toD ho
  obtain ⟨hh2, ex⟩ := hh.freeze e ho h1 ow ha r
  exact h _ σ H hh2 E (fun ρ2 G2 σ2 H2 z2 e2 => kn ρ2 G2 σ2 H2 z2 (ex_tr ex e2)) kr (fun ρ2 G2 σ2 H2 z2 e2 => kb ρ2 G2 σ2 H2 z2 (ex_tr ex e2)) (fun ρ2 G2 σ2 H2 z2 e2 => kc ρ2 G2 σ2 H2 z2 (ex_tr ex e2))
theorem we_freeze (i : Nat) {c : Cell} (e : ρ[i]? = some (some c)) (ho : c.isOwn = true) (h : WS p (ρ.set i (some (.d c.toD))) (tRet te) P) : WS p ρ (tRet te) P := ws_freeze i e ho h
theorem ws_drop1 (i : Nat) (h : WS p (ρ.set i none) ts P) : WS p ρ ts P := fun G σ H hh => h G σ H (hh.drop i)
theorem ws_par {i j : Nat} {ta : TA} (h : WA p ρ ta fun ds => ∃ x y, ds = [x, y] ∧ P.n ((ρ.set i (some (.d x))).set j (some (.d y)))) : WS p ρ (tPar i j ta) P := fun G σ H hh E kn kr kb kc =>
  h G σ H hh _ fun ds vs G' H' ⟨x, y, e, z⟩ s r => by
    subst e
    cases r with
    | @cons v _ _ _ r1 rn => cases rn with | @cons w _ _ _ r2 rn => cases rn; exact ⟨v, w, rfl, kn _ G' _ H' z s.ex (((hh.step s).setD r1).setD r2)⟩
theorem ws_aug {i : Nat} {f : Int → Int → Int} {a : Int} (e : ρ[i]? = some (some (.d (.int a)))) (h : WE p ρ te fun y => ∃ b, y = .int b ∧ P.n (ρ.set i (some (.d (.int (f a b)))))) : WS p ρ (tAug i te (ipI f)) P := fun G σ H hh E kn kr kb kc => by
  obtain ⟨sv, h1, v, h2, r⟩ := hh.slot i _ e
  subst h2
  cases r
  exact ⟨_, h1, h G σ H hh _ fun d w G' H' ⟨b, eb, z⟩ s r => by
    subst eb
    exact ⟨a, b, rfl, rp_int r, kn _ G' _ H' z s.ex ((hh.step s).setD (.int _))⟩⟩
/-- xs.append(e), xs slot i's own -/
theorem ws_append {i : Nat} {xs : List D} (e : ρ[i]? = some (some (.ol xs))) (hl : xs.length < 4000000) (h : WE p ρ te fun x => P.n (ρ.set i (some (.ol (xs ++ [x]))))) : WS p ρ (tDrop (tBM p.K "list" rAppend (tVar i) (tCons te tNil))) P := fun G σ H hh E kn kr kb kc => by
  obtain ⟨sv, h1, a, vs, h2, ow, h4, h5⟩ := hh.slot i _ e
  subst h2
  refine ⟨.ref a, h1, Or.inl ⟨rfl, vs, sq_of h4⟩, h G σ H hh _ fun d w G' H' z s r => ?_⟩
  obtain ⟨sv', h1', a', vs', h2', ow', h4', h5'⟩ := (hh.step s).slot i _ e
  subst h2'
  rw [h1] at h1'
  cases h1'
  have hz := h5'.length
  exact ⟨a, vs', w, rfl, rfl, h4', by rw [sizeLine_eq]; omega, kn _ G' σ _ z s.ex ((hh.step s).write e rfl h1 ow' ⟨a, _, rfl, ow', upd_same, h5'.append (.cons r .nil)⟩)⟩

/-! ### dicts that a slot owns -/
/-- a key as data -/
def kD : Key → D
  | .inl i => .int i
  | .inr x => .str x
theorem kD_rp {G : Hp} {v : V} : ∀ {k : Key}, Rp p.K p.h G v (kD k) → v = kV k
  | .inl i, r => by cases r; rfl
  | .inr x, r => by cases r; rfl
theorem rp_kD {G : Hp} : ∀ {k : Key}, Rp p.K p.h G (kV k) (kD k)
  | .inl i => .int i
  | .inr x => .str x
/-- d[k] = e -/
theorem ws_dput {i : Nat} {kvs : List (Key × D)} (e : ρ[i]? = some (some (.ok kvs))) (hl : kvs.length < 4000000) (h : WE p ρ te fun x => WE p ρ ty fun y => ∃ k, y = kD k ∧ P.n (ρ.set i (some (.ok (dPut kvs k x))))) : WS p ρ (sDPut (tVar i) ty te) P := fun G σ H hh E kn kr kb kc =>
  h G σ H hh _ fun x v G1 H1 q1 s1 r1 => by
    obtain ⟨sv, h1, a, vs, h2, ow, h4, h5⟩ := (hh.step s1).slot i _ e
    subst h2
    refine ⟨.ref a, h1, q1 G1 σ H1 (hh.step s1) _ fun y w G2 H2 ⟨k, ek, z⟩ s2 r2 => ?_⟩
    subst ek
    have hh2 := (hh.step s1).step s2
    obtain ⟨sv', h1', a', vs', h2', ow', h4', h5'⟩ := hh2.slot i _ e
    subst h2'
    rw [h1] at h1'
    cases h1'
    have hz := h5'.length
    refine ⟨a, _, rfl, .inl ⟨vs', k, h4', kD_rp r2, by rw [sizeLine_eq]; omega, rfl⟩, kn _ G2 σ _ z (ex_tr s1.ex s2.ex) (hh2.write e rfl h1 ow' ⟨a, _, rfl, ow', upd_same, h5'.put k (rmono r1 s2.ex)⟩)⟩
theorem dget_own {i : Nat} {kvs : List (Key × D)} {G : Hp} {σ : L2.St} {H : Hp} (hh : Hold p ρ G σ H) (e : ρ[i]? = some (some (.ok kvs))) : ∃ a vs, σ[i]? = some (some (.ref a)) ∧ H a = some (.dK vs) ∧ RpK p.K p.h G vs kvs := by
  obtain ⟨sv, h1, a, vs, h2, ow, h4, h5⟩ := hh.slot i _ e
  subst h2
  exact ⟨a, vs, h1, h4, h5⟩
/-- d[k], there -/
theorem we_dget {i : Nat} {kvs : List (Key × D)} (e : ρ[i]? = some (some (.ok kvs))) (h : WE p ρ ty fun y => ∃ k x, y = kD k ∧ dGet kvs k = some x ∧ Q x) : WE p ρ (tDGet (tVar i) ty) Q := fun G σ H hh Qv kk => by
  obtain ⟨a, vs, h1, _, _⟩ := dget_own hh e
  refine ⟨.ref a, h1, h G σ H hh _ fun y w G1 H1 ⟨k, x, ey, ex, q⟩ s1 r1 => ?_⟩
  subst ey
  obtain ⟨a', vs', h1', h2', h3'⟩ := dget_own (hh.step s1) e
  rw [h1] at h1'
  cases h1'
  rcases h3'.find k with ⟨_, z⟩ | ⟨v, d, z1, z2, z3⟩
  · rw [ex] at z; cases z
  · rw [ex] at z2; cases z2
    exact ⟨a, v, rfl, .inl ⟨vs', k, .inl h2', kD_rp r1, z1.symm⟩, kk _ _ G1 H1 q s1 z3⟩
/-- k in d, k not in d -/
theorem we_din {i : Nat} {kvs : List (Key × D)} (e : ρ[i]? = some (some (.ok kvs))) (h : WE p ρ ty fun y => ∃ k, y = kD k ∧ Q (.bl (dGet kvs k).isSome)) : WE p ρ (tDIn ty (tVar i)) Q := fun G σ H hh Qv kk =>
  h G σ H hh _ fun y w G1 H1 ⟨k, ey, q⟩ s1 r1 => by
    subst ey
    obtain ⟨a, vs, h1, h2, h3⟩ := dget_own (hh.step s1) e
    refine ⟨.ref a, h1, a, valV vs k, rfl, .inl ⟨vs, k, .inl h2, kD_rp r1, rfl⟩, ?_⟩
    have z : (valV vs k).isSome = (dGet kvs k).isSome := by
      rcases h3.find k with ⟨z1, z2⟩ | ⟨v, d, z1, z2, _⟩ <;> rw [z1, z2] <;> rfl
    rw [z]
    exact kk _ _ G1 H1 q s1 (.bl _)
theorem we_dnotin {i : Nat} {kvs : List (Key × D)} (e : ρ[i]? = some (some (.ok kvs))) (h : WE p ρ ty fun y => ∃ k, y = kD k ∧ Q (.bl (!(dGet kvs k).isSome))) : WE p ρ (tDNotIn ty (tVar i)) Q := fun G σ H hh Qv kk =>
  h G σ H hh _ fun y w G1 H1 ⟨k, ey, q⟩ s1 r1 => by
    subst ey
    obtain ⟨a, vs, h1, h2, h3⟩ := dget_own (hh.step s1) e
    refine ⟨.ref a, h1, a, valV vs k, rfl, .inl ⟨vs, k, .inl h2, kD_rp r1, rfl⟩, ?_⟩
    have z : (valV vs k).isSome = (dGet kvs k).isSome := by
      rcases h3.find k with ⟨z1, z2⟩ | ⟨v, d, z1, z2, _⟩ <;> rw [z1, z2] <;> rfl
    rw [z]
    exact kk _ _ G1 H1 q s1 (.bl _)
/-- d.get(k, x) -/
theorem we_dget2 {i : Nat} {kvs : List (Key × D)} {tx : TE} (e : ρ[i]? = some (some (.ok kvs))) (h : WE p ρ ty fun y => ∃ k, y = kD k ∧ WE p ρ tx fun x => Q ((dGet kvs k).getD x)) : WE p ρ (tDGet2 (tVar i) ty tx) Q := fun G σ H hh Qv kk => by
  obtain ⟨a, vs, h1, h2, h3⟩ := dget_own hh e
  refine ⟨.ref a, h1, a, rfl, .inl ⟨vs, .inl h2⟩, h G σ H hh _ fun y w G1 H1 ⟨k, ey, q⟩ s1 r1 => q G1 σ H1 (hh.step s1) _ fun x u G2 H2 q2 s2 r2 => ?_⟩
  subst ey
  obtain ⟨a', vs', h1', h2', h3'⟩ := dget_own ((hh.step s1).step s2) e
  rw [h1] at h1'
  cases h1'
  refine ⟨valV vs' k, .inl ⟨vs', k, .inl h2', kD_rp r1, rfl⟩, ?_⟩
  rcases h3'.find k with ⟨z1, z2⟩ | ⟨v, d, z1, z2, z3⟩
  · rw [z1]; rw [z2] at q2; exact kk _ _ G2 H2 q2 (s1.trans s2) r2
  · rw [z1]; rw [z2] at q2; exact kk _ _ G2 H2 q2 (s1.trans s2) z3

/-! ### loops -/
theorem ws_while (I : Nat → Rho → Prop) (m0 : Nat) (h0 : I m0 ρ)
    (hs : ∀ m ρ', I m ρ' → WT p ρ' tt fun b => if b = true then WS p ρ' ts ⟨fun ρ2 => ∃ m', m' < m ∧ I m' ρ2, P.r, P.n, fun ρ2 => ∃ m', m' < m ∧ I m' ρ2⟩ else P.n ρ') : WS p ρ (tWhile tt ts) P := fun G σ H hh E kn kr kb kc => by
  refine ⟨fun m σ' H' => ∃ ρ' G', I m ρ' ∧ Ex G G' ∧ Hold p ρ' G' σ' H', ⟨m0, ρ, G, h0, Ex.rfl', hh⟩, ?_⟩
  rintro m σ' H' ⟨ρ', G', hi, e, hh'⟩
  refine hs m ρ' hi G' σ' H' hh' _ fun b G1 H1 q s1 => ?_
  cases b with
  | false =>
    rw [if_neg (by decide)] at q ⊢
    exact kn ρ' G1 σ' H1 q (ex_tr e s1.ex) (hh'.step s1)
  | true =>
    rw [if_pos rfl] at q ⊢
    refine ⟨fun σ2 H2 => ∃ m', m' < m ∧ ∃ ρ2 G2, I m' ρ2 ∧ Ex G G2 ∧ Hold p ρ2 G2 σ2 H2, fun σ2 H2 ⟨m', l, z⟩ => ⟨m', l, z⟩, ?_⟩
    exact q G1 σ' H1 (hh'.step s1) _ (fun ρ2 G2 σ2 H2 ⟨m', l, z⟩ e2 hh2 => ⟨m', l, ρ2, G2, z, ex_tr (ex_tr e s1.ex) e2, hh2⟩) kr (fun ρ2 G2 σ2 H2 z e2 hh2 => kn ρ2 G2 σ2 H2 z (ex_tr (ex_tr e s1.ex) e2) hh2)
      (fun ρ2 G2 σ2 H2 ⟨m', l, z⟩ e2 hh2 => ⟨m', l, ρ2, G2, z, ex_tr (ex_tr e s1.ex) e2, hh2⟩)
/-- for over a range: the item is lo + k -/
theorem for_rng {g : TG} {lo : Int} {n : Nat} {G : Hp} {σ : L2.St} {H : Hp} {E : Ends} (I : Nat → Rho → Prop) (h0 : I 0 ρ) (hh : Hold p ρ G σ H)
    (hs : ∀ k ρ', k < n → I k ρ' → WG p ρ' g (.int (lo + (k : Int))) fun ρ2 => WS p ρ2 ts ⟨I (k + 1), P.r, P.n, I (k + 1)⟩) (hd : ∀ ρ', I n ρ' → P.n ρ')
    (kn : ∀ ρ' G' σ' H', P.n ρ' → Ex G G' → Hold p ρ' G' σ' H' → E.nx σ' H') (kr : ∀ d v G' H', P.r d → Mem p G' H' → Rp p.K p.h G' v d → E.rt v H') :
    ∃ W : Nat → Nat → L2.St → Hp → Prop, (∃ m, W 0 m σ H) ∧ ∀ i m σ H, W i m σ H →
      ((Itr lo n).stop i H ∧ E.nx σ H) ∨ ((Itr lo n).go i H ∧ ∃ N : L2.St → Hp → Prop, (∀ σ' H', N σ' H' → ∃ m', m' < m ∧ W (i + 1) m' σ' H') ∧ ∀ x H', (Itr lo n).yld i H x H' → g x σ H' fun σ2 H2 => ts { E with nx := N, ct := N, bk := E.nx } σ2 H2) :=
  for_range (lo := lo) (n := n) (fun k σ' H' => ∃ ρ' G', I k ρ' ∧ Ex G G' ∧ Hold p ρ' G' σ' H') ⟨ρ, G, h0, Ex.rfl', hh⟩ (fun k σ' H' hk ⟨ρ', G', hi, e, hh'⟩ =>
    hs k ρ' hk hi G' σ' H' _ hh' (.int _) _ fun ρ2 G2 σ2 H2 z e2 hh2 => z G2 σ2 H2 hh2 _ (fun ρ3 G3 σ3 H3 z3 e3 hh3 => ⟨ρ3, G3, z3, ex_tr (ex_tr e e2) e3, hh3⟩) kr (fun ρ3 G3 σ3 H3 z3 e3 hh3 => kn ρ3 G3 σ3 H3 z3 (ex_tr (ex_tr e e2) e3) hh3)
      (fun ρ3 G3 σ3 H3 z3 e3 hh3 => ⟨ρ3, G3, z3, ex_tr (ex_tr e e2) e3, hh3⟩)) fun σ' H' ⟨ρ', G', hi, e, hh'⟩ => kn ρ' G' σ' H' (hd ρ' hi) e hh'
theorem ws_for1 {g : TG} {ta : TA} (h : WA p ρ ta fun ds => ∃ n : Int, ds = [.int n] ∧ n < 2 ^ 62 ∧ -(2 ^ 62) ≤ n ∧ ∃ I : Nat → Rho → Prop, I 0 ρ ∧
    (∀ k ρ', k < n.toNat → I k ρ' → WG p ρ' g (.int (k : Int)) fun ρ2 => WS p ρ2 ts ⟨I (k + 1), P.r, P.n, I (k + 1)⟩) ∧ ∀ ρ', I n.toNat ρ' → P.n ρ') : WS p ρ (tFor (iRng1 ta) g ts) P := fun G σ H hh E kn kr kb kc =>
  h G σ H hh _ fun ds vs G' H' ⟨n, e, l1, l2, I, h0, hs, hd⟩ s r => by
    subst e
    cases r with
    | cons r rn =>
      cases rn; cases r
      refine ⟨n, rfl, l2, l1, for_rng (P := P) I h0 (hh.step s) (fun k ρ' hk hi => ?_) hd (fun ρ2 G2 σ2 H2 z2 e2 => kn ρ2 G2 σ2 H2 z2 (ex_tr s.ex e2)) kr⟩
      rw [Int.zero_add]
      exact hs k ρ' hk hi
theorem ws_for2 {g : TG} {ta : TA} (h : WA p ρ ta fun ds => ∃ lo n : Int, ds = [.int lo, .int n] ∧ (-(2 ^ 62) ≤ lo ∧ lo < 2 ^ 62 ∧ -(2 ^ 62) ≤ n ∧ n < 2 ^ 62) ∧ ∃ I : Nat → Rho → Prop, I 0 ρ ∧
    (∀ k ρ', k < (n - lo).toNat → I k ρ' → WG p ρ' g (.int (lo + (k : Int))) fun ρ2 => WS p ρ2 ts ⟨I (k + 1), P.r, P.n, I (k + 1)⟩) ∧ ∀ ρ', I (n - lo).toNat ρ' → P.n ρ') : WS p ρ (tFor (iRng2 ta) g ts) P := fun G σ H hh E kn kr kb kc =>
  h G σ H hh _ fun ds vs G' H' ⟨lo, n, e, l, I, h0, hs, hd⟩ s r => by
    subst e
    cases r with
    | cons r rn =>
      cases rn with
      | cons r2 rn =>
        cases rn; cases r; cases r2
        exact ⟨lo, n, rfl, l, for_rng (P := P) I h0 (hh.step s) hs hd (fun ρ2 G2 σ2 H2 z2 e2 => kn ρ2 G2 σ2 H2 z2 (ex_tr s.ex e2)) kr⟩
theorem ws_forL {g : TG} (h : WE p ρ te fun x => ∃ xs, x = .lst xs ∧ ∃ I : Nat → Rho → Prop, I 0 ρ ∧
    (∀ k x ρ', xs[k]? = some x → I k ρ' → WG p ρ' g x fun ρ2 => WS p ρ2 ts ⟨I (k + 1), P.r, P.n, I (k + 1)⟩) ∧ ∀ ρ', I xs.length ρ' → P.n ρ') : WS p ρ (tFor (iList p.K te) g ts) P := fun G σ H hh E kn kr kb kc =>
  h G σ H hh _ fun x v G0 H0 ⟨xs, e, I, h0, hs, hd⟩ s r => by
    subst e
    obtain ⟨a, vs, ev, hq, hl⟩ := r.lst_inv
    have hh0 := hh.step s
    refine ⟨a, ev, ⟨vs, lq hh0.mem.sub hq⟩, for_list (xs := vs) (fun k σ' H' => ∃ ρ' G', I k ρ' ∧ Ex G0 G' ∧ Hold p ρ' G' σ' H') ⟨ρ, G0, h0, Ex.rfl', hh0⟩ (fun k σ' H' _ ⟨ρ', G', hi, e, hh'⟩ => lq hh'.mem.sub (e _ _ hq)) (fun k x σ' H' hk ⟨ρ', G', hi, e, hh'⟩ => ?_)
      fun σ' H' ⟨ρ', G', hi, e, hh'⟩ => kn ρ' G' σ' H' (hd ρ' (by rw [← hl.length]; exact hi)) (ex_tr s.ex e) hh'⟩
    obtain ⟨d, hd1, hd2⟩ := hl.get' hk
    exact hs k d ρ' hd1 hi G' σ' H' _ hh' (rmono hd2 e) _ fun ρ2 G2 σ2 H2 z e2 hh2 => z G2 σ2 H2 hh2 _ (fun ρ3 G3 σ3 H3 z3 e3 hh3 => ⟨ρ3, G3, z3, ex_tr (ex_tr e e2) e3, hh3⟩) kr (fun ρ3 G3 σ3 H3 z3 e3 hh3 => kn ρ3 G3 σ3 H3 z3 (ex_tr s.ex (ex_tr (ex_tr e e2) e3)) hh3)
      (fun ρ3 G3 σ3 H3 z3 e3 hh3 => ⟨ρ3, G3, z3, ex_tr (ex_tr e e2) e3, hh3⟩)
theorem ws_forT {g : TG} (h : WE p ρ te fun x => ∃ xs, x = .tup xs ∧ ∃ I : Nat → Rho → Prop, I 0 ρ ∧
    (∀ k x ρ', xs[k]? = some x → I k ρ' → WG p ρ' g x fun ρ2 => WS p ρ2 ts ⟨I (k + 1), P.r, P.n, I (k + 1)⟩) ∧ ∀ ρ', I xs.length ρ' → P.n ρ') : WS p ρ (tFor (iTup p.K te) g ts) P := fun G σ H hh E kn kr kb kc =>
  h G σ H hh _ fun x v G0 H0 ⟨xs, e, I, h0, hs, hd⟩ s r => by
    subst e
    obtain ⟨a, vs, ev, hq, hl⟩ := r.tup_inv
    have hh0 := hh.step s
    refine ⟨a, ev, ⟨vs, tq hh0.mem.sub hq⟩, for_tup (xs := vs) (fun k σ' H' => ∃ ρ' G', I k ρ' ∧ Ex G0 G' ∧ Hold p ρ' G' σ' H') ⟨ρ, G0, h0, Ex.rfl', hh0⟩ (fun k σ' H' _ ⟨ρ', G', hi, e, hh'⟩ => tq hh'.mem.sub (e _ _ hq)) (fun k x σ' H' hk ⟨ρ', G', hi, e, hh'⟩ => ?_)
      fun σ' H' ⟨ρ', G', hi, e, hh'⟩ => kn ρ' G' σ' H' (hd ρ' (by rw [← hl.length]; exact hi)) (ex_tr s.ex e) hh'⟩
    obtain ⟨d, hd1, hd2⟩ := hl.get' hk
    exact hs k d ρ' hd1 hi G' σ' H' _ hh' (rmono hd2 e) _ fun ρ2 G2 σ2 H2 z e2 hh2 => z G2 σ2 H2 hh2 _ (fun ρ3 G3 σ3 H3 z3 e3 hh3 => ⟨ρ3, G3, z3, ex_tr (ex_tr e e2) e3, hh3⟩) kr (fun ρ3 G3 σ3 H3 z3 e3 hh3 => kn ρ3 G3 σ3 H3 z3 (ex_tr s.ex (ex_tr (ex_tr e e2) e3)) hh3)
      (fun ρ3 G3 σ3 H3 z3 e3 hh3 => ⟨ρ3, G3, z3, ex_tr (ex_tr e e2) e3, hh3⟩)
end


/-! ### defs -/
/-- a def's promise by data: from S ds R it hands back some d with R d -/
def spD (K : PySem.W.Frag) (S : List D → (D → Prop) → Prop) : Sp := fun vs H Q _ => ∃ h G ds R, RpL K h G vs ds ∧ Mem ⟨K, h, H, G⟩ G H ∧ S ds R ∧ ∀ d v G' H', R d → Mem ⟨K, h, H, G⟩ G' H' → Rp K h G' v d → Q v H'
def rho0 (N : List Str) (ds : List D) : Rho := ds.map (fun d => some (.d d)) ++ List.replicate (N.length - ds.length) none
theorem hold0 {p : Par} {N : List Str} {G H : Hp} {vs : List V} {ds : List D} (m : Mem p G H) (r : RpL p.K p.h G vs ds) : Hold p (rho0 N ds) G (L2.start N vs) H := by
  have hl := r.length
  refine ⟨m, by simp [rho0, L2.start, hl], fun i c e => ?_, fun i j c c' a e1 o1 e2 o2 e3 e4 => ?_⟩
  · unfold rho0 at e
    unfold L2.start
    by_cases hi : i < ds.length
    · rw [List.getElem?_append_left (by rw [List.length_map]; exact hi), List.getElem?_map, List.getElem?_eq_getElem hi] at e
      cases e
      obtain ⟨v, h1, h2⟩ := r.get (List.getElem?_eq_getElem hi)
      refine ⟨some v, ?_, v, rfl, h2⟩
      rw [List.getElem?_append_left (by rw [List.length_map, hl]; exact hi), List.getElem?_map, h1] <;> rfl
    · rw [List.getElem?_append_right (by rw [List.length_map]; omega)] at e
      rw [List.getElem?_replicate] at e
      split at e <;> cases e
  · exfalso
    have dd : ∀ {i : Nat} {c : Cell}, (rho0 N ds)[i]? = some (some c) → c.isOwn = true → False := fun {i c} e o => by
      unfold rho0 at e
      by_cases hi : i < ds.length
      · rw [List.getElem?_append_left (by rw [List.length_map]; exact hi), List.getElem?_map, List.getElem?_eq_getElem hi] at e
        cases e
        cases o
      · rw [List.getElem?_append_right (by rw [List.length_map]; omega)] at e
        rw [List.getElem?_replicate] at e
        split at e <;> cases e
    exact dd e1 o1
/-- where a def of the text stands -/
structure Src (K : PySem.W.Frag) (mg : Str → Option Value) (x : Str) (st : Stmt) : Prop where
  ex : ∃ f fd, mg x = some (.ref f) ∧ Fun K x x st f fd
/-- a def that keeps the promise S, by at most level k -/
structure Dfn (P : Program) (w : World) (K : PySem.W.Frag) (mg : Str → Option Value) (base : Heap) (k : Nat) (x : Str) (ps : List Str) (S : List D → (D → Prop) → Prop) : Prop where
  ex : ∃ f fd, mg x = some (.ref f) ∧ PySem.W.keepIn K (.ref f) = true ∧ FnOk P w K mg base CX0 k f fd ps (spD K S) ∧ Binds K fd ps []
theorem Dfn.mono {P : Program} {w : World} {K : PySem.W.Frag} {mg : Str → Option Value} {base : Heap} {j k : Nat} {x : Str} {ps : List Str} {S : List D → (D → Prop) → Prop} (F : Dfn P w K mg base j x ps S) (h : j ≤ k) : Dfn P w K mg base k x ps S := by
  obtain ⟨f, fd, h1, h2, h3, h4⟩ := F.ex
  exact ⟨f, fd, h1, h2, h3.mono h, h4⟩
theorem Dfn.imp {P : Program} {w : World} {K : PySem.W.Frag} {mg : Str → Option Value} {base : Heap} {k : Nat} {x : Str} {ps : List Str} {S S' : List D → (D → Prop) → Prop} (F : Dfn P w K mg base k x ps S) (h : ∀ ds R, S' ds R → S ds R) : Dfn P w K mg base k x ps S' := by
  obtain ⟨f, fd, h1, h2, h3, h4⟩ := F.ex
  exact ⟨f, fd, h1, h2, h3.imp fun vs H Q E ⟨hd, G, ds, R, a, b, c, d⟩ => ⟨hd, G, ds, R, a, b, h ds R c, d⟩, h4⟩
def retP (R : D → Prop) : Post := ⟨fun _ => R .non, R, fun _ => False, fun _ => False⟩
section
variable {P : Program} {w : World} {K : PySem.W.Frag} {mg : Str → Option Value} {base : Heap}
theorem mkD {x : Str} {st : Stmt} {N ps : List Str} {k : Nat} {S : List D → (D → Prop) → Prop} (F : Src K mg x st) (sc : FnScope N ps (defScope st))
    (hb : ∀ (kV doc pm : Value) (an : Option Addr) (cdv ct : Value) (us : List Value), us.length = ps.length → bindArgs (PySem.W.fnOf x x (defArgs st) (defBody st) (defScope st) .none kV doc pm an cdv ct) ⟨us, []⟩ = pure (ps.zip us))
    (len : ∀ ds R, S ds R → ds.length = ps.length)
    (body : ∀ (f : Addr) (cdv : Value) (A : Around) (outer : List Env) (s : Shared) (H : Hp) (E : XK), Room k (A.deeper (envOfC x (defScope st) s.heap.objs.size f cdv)) →
      ∃ t, PSs (cxOf CX0 P w K mg base N x (defScope st) f cdv A outer s H E).nox (defBody st) t ∧ ∀ (h : Hnd) (H0 G0 : Hp) ds R, S ds R → WS ⟨K, h, H0, G0⟩ (rho0 N ds) t (retP R)) : Dfn P w K mg base (k + 1) x ps S := by
  obtain ⟨f, fd, hm, F⟩ := F.ex
  refine ⟨f, fd, hm, F.kp, F.ok sc (fun vs H Q E h => ?_) (fun cdv A outer s H vs Q E hr h => ?_), F.binds hb⟩
  · obtain ⟨hd, G, ds, R, r, m, hs, q⟩ := h
    rw [r.length]
    exact len ds R hs
  · obtain ⟨hd, G, ds, R, r, m, hs, q⟩ := h
    obtain ⟨t, ht, hw⟩ := body f cdv A outer s H E hr
    refine ⟨t, ht, hw hd H G ds R hs G _ H (hold0 m r) _ (fun ρ' G' σ' H' z e hh => q .non .non G' H' z hh.mem .non) (fun d v G' H' z m' r' => q d v G' H' z m' r') (fun _ _ _ _ z => z.elim) fun _ _ _ _ z => z.elim⟩
/-- a def handled by its own reading -/
theorem mkS {x : Str} {st : Stmt} {N ps : List Str} {k : Nat} {S : List D → (D → Prop) → Prop} (F : Src K mg x st) (sc : FnScope N ps (defScope st))
    (hb : ∀ (kV doc pm : Value) (an : Option Addr) (cdv ct : Value) (us : List Value), us.length = ps.length → bindArgs (PySem.W.fnOf x x (defArgs st) (defBody st) (defScope st) .none kV doc pm an cdv ct) ⟨us, []⟩ = pure (ps.zip us))
    (len : ∀ ds R, S ds R → ds.length = ps.length)
    (body : ∀ (f : Addr) (cdv : Value) (A : Around) (outer : List Env) (s : Shared) (H : Hp) (E : XK), Room k (A.deeper (envOfC x (defScope st) s.heap.objs.size f cdv)) →
      ∃ t, PSs (cxOf CX0 P w K mg base N x (defScope st) f cdv A outer s H E).nox (defBody st) t ∧ ∀ vs Q, spD K S vs H Q E → t { nx := fun _ H' => Q .non H', rt := Q } (L2.start N vs) H) : Dfn P w K mg base (k + 1) x ps S := by
  obtain ⟨f, fd, hm, F⟩ := F.ex
  refine ⟨f, fd, hm, F.kp, F.ok sc (fun vs H Q E h => ?_) (fun cdv A outer s H vs Q E hr h => ?_), F.binds hb⟩
  · obtain ⟨hd, G, ds, R, r, m, hs, q⟩ := h
    rw [r.length]
    exact len ds R hs
  · obtain ⟨t, ht, hw⟩ := body f cdv A outer s H E hr
    exact ⟨t, ht, hw vs Q h⟩
end
section
variable {X : Cx} {x : Str} {p pos : Pos} {e : Expr} {es : List Expr} {t : TA} {k : Nat} {ps : List Str} {S : List D → (D → Prop) → Prop}
theorem pe_callD (F : Dfn X.prog X.w X.K X.mg X.base k x ps S) (hr : Room k X.A) (ha : PA X (e :: es) t) (hg : Gl X x := by rfl) (hdb : (x == ("__debug__" : Str)) = false := by decide)
    (he : starEach (e :: es) X.env = (false, eval e X.env) :: starEach es X.env := by rfl) (hpl : (backTo pos (starEach es X.env)).any (·.1) = false := by rfl) : PE X (.Call (.Name x p) (e :: es) [] pos) (tCall (spD X.K S) [] E0 t) := by
  obtain ⟨f, fd, h1, h2, h3, h4⟩ := F.ex
  exact pe_call h3 hr hg h1 h2 h4 .nil pass0 ha hdb he hpl
theorem pe_call0D (F : Dfn X.prog X.w X.K X.mg X.base k x ps S) (hr : Room k X.A) (hg : Gl X x := by rfl) (hdb : (x == ("__debug__" : Str)) = false := by decide) : PE X (.Call (.Name x p) [] [] pos) (tCall (spD X.K S) [] E0 tNil) := by
  obtain ⟨f, fd, h1, h2, h3, h4⟩ := F.ex
  exact pe_call0 h3 hr hg h1 h2 h4 .nil pass0 hdb
end
section
variable {p : Par} {ρ : Rho} {Q : D → Prop} {ta tb te tl th : TE} {tt tu : TT} {P : Post} {ts tv : TS}
theorem we_call {S : List D → (D → Prop) → Prop} {ta : TA} {E : XK} (h : WA p ρ ta fun ds => S ds Q) : WE p ρ (tCall (spD p.K S) [] E ta) Q := fun G σ H hh Qv k =>
  h G σ H hh _ fun ds vs G1 H1 q s1 r1 => by
    rw [List.append_nil]
    have hh1 := hh.step s1
    exact ⟨p.h, G1, ds, Q, r1, hh1.mem.refl, q, fun d v G' H' z m r => k d v G' H' z (s1.trans m) r⟩

/-! ### slices, sums of tuples and lists -/
def cutD {α : Type} (xs : List α) (lo hi : Option Int) : List α := (xs.drop (HT.sIx xs.length 0 lo)).take (HT.sIx xs.length xs.length hi - HT.sIx xs.length 0 lo)
theorem cut_rp {G : Hp} {vs : List V} {ds : List D} (r : RpL p.K p.h G vs ds) (lo hi : Option Int) : RpL p.K p.h G (cutV vs lo hi) (cutD ds lo hi) := by
  unfold cutV cutD
  rw [r.length]
  exact (r.drop _).take _
theorem cut_whole {α : Type} {xs : List α} {lo hi : Option Int} (h : HT.sIx xs.length 0 lo = 0 ∧ HT.sIx xs.length xs.length hi = xs.length) : cutD xs lo hi = xs := by
  unfold cutD
  rw [h.1, h.2]
  simp
theorem wo_none {Q : Option Int → Prop} (q : Q none) : WO p ρ tNoPart Q := fun G σ H hh Qv k => k none G H q hh.mem.refl
theorem wo_some {Q : Option Int → Prop} (h : WE p ρ te fun x => ∃ i, x = .int i ∧ Q (some i)) : WO p ρ (tPart te) Q := fun G σ H hh Qv k => h G σ H hh _ fun x v G1 H1 ⟨i, e, q⟩ s r => by
  subst e
  exact ⟨i, rp_int r, k _ G1 H1 q s⟩
/-- t[lo:hi] of a tuple -/
theorem we_slT {tl th : TO} (h : WE p ρ te fun x => ∃ xs, x = .tup xs ∧ WO p ρ tl fun lo => WO p ρ th fun hi => Q (.tup (cutD xs lo hi))) : WE p ρ (tSl (rSlA p.K) te tl th) Q := fun G σ H hh Qv k =>
  h G σ H hh _ fun x v G1 H1 ⟨xs, e, q1⟩ s1 r1 => q1 G1 σ H1 (hh.step s1) _ fun lo G2 H2 q2 s2 => q2 G2 σ H2 ((hh.step s1).step s2) _ fun hi G3 H3 q3 s3 => by
    subst e
    obtain ⟨a, vs, ev, hs, hl⟩ := r1.tup_inv
    have hh3 := ((hh.step s1).step s2).step s3
    have ex := ex_tr s2.ex s3.ex
    refine ⟨a, vs, ev, tq hh3.mem.sub (ex _ _ hs), fun hw => ?_, fun hw q hq => ?_⟩
    · rw [hl.length] at hw
      have q3' : Q (.tup (cutD xs lo hi)) := q3
      rw [cut_whole hw] at q3'
      exact k _ _ G3 H3 q3' ((s1.trans s2).trans s3) (.tup (ex _ _ hs) (lmono hl ex))
    · exact k _ _ _ _ q3 (((s1.trans s2).trans s3).trans (hh3.mem.grow hq)) (.tup upd_same (lmono (cut_rp (lmono hl ex) lo hi) (hh3.mem.grow (o := .tup (cutV vs lo hi)) hq).ex))
/-- xs[lo:hi] of a list: a new one -/
theorem wf_slL {Q : Cell → Prop} {tl th : TO} (h : WE p ρ te fun x => ∃ xs, x = .lst xs ∧ WO p ρ tl fun lo => WO p ρ th fun hi => Q (.ol (cutD xs lo hi))) : WF p ρ (tSl (rSlL p.K) te tl th) Q := fun G σ H hh Qv k =>
  h G σ H hh _ fun x v G1 H1 ⟨xs, e, q1⟩ s1 r1 => q1 G1 σ H1 (hh.step s1) _ fun lo G2 H2 q2 s2 => q2 G2 σ H2 ((hh.step s1).step s2) _ fun hi G3 H3 q3 s3 => by
    subst e
    obtain ⟨a, vs, ev, hs, hl⟩ := r1.lst_inv
    have hh3 := ((hh.step s1).step s2).step s3
    have ex := ex_tr s2.ex s3.ex
    refine ⟨a, vs, ev, lq hh3.mem.sub (ex _ _ hs), fun q hq => ?_⟩
    have s := (s1.trans s2).trans s3
    exact k _ q _ _ q3 rfl (s.trans (hh3.mem.growO hq)) (hh.mem.back s hq) ⟨q, _, rfl, hh3.mem.fresh hq, upd_same, cut_rp (lmono hl ex) lo hi⟩
theorem we_slL {tl th : TO} (h : WE p ρ te fun x => ∃ xs, x = .lst xs ∧ WO p ρ tl fun lo => WO p ρ th fun hi => Q (.lst (cutD xs lo hi))) : WE p ρ (tSl (rSlL p.K) te tl th) Q := we_F (wf_slL h)
/-- t + u of tuples -/
theorem we_catT (h : WE p ρ ta fun x => ∃ xs, x = .tup xs ∧ WE p ρ tb fun y => ∃ ys, y = .tup ys ∧ xs.length + ys.length ≤ 4000000 ∧ Q (.tup (xs ++ ys))) : WE p ρ (tOp (rCatA p.K) ta tb) Q :=
  we_op (h.imp fun x ⟨xs, e, h⟩ => h.imp fun y ⟨ys, e2, hz, q⟩ => fun G H v w m r1 r2 Qv k => by
    subst e e2
    obtain ⟨a, vs, ev, hs, hl⟩ := r1.tup_inv
    obtain ⟨b, ws, ew, ht, hm⟩ := r2.tup_inv
    refine ⟨a, b, vs, ws, ev, ew, tq m.sub hs, tq m.sub ht, sz (by rw [hl.length, hm.length]; exact hz), fun e0 => ?_, fun _ e0 => ?_, fun _ _ q' hq => ?_⟩
    · subst e0
      have z := hl.length
      cases xs with
      | nil => exact k _ _ G H q m.refl (.tup ht hm)
      | cons x xs => cases z
    · subst e0
      have z := hm.length
      cases ys with
      | nil => rw [List.append_nil] at q; exact k _ _ G H q m.refl (.tup hs hl)
      | cons x xs => cases z
    · exact k _ _ _ _ q (m.grow hq) (.tup upd_same (lmono (hl.append hm) (m.grow (o := .tup (vs ++ ws)) hq).ex)))
/-- xs + ys of lists: a new one -/
theorem wf_catL {Q : Cell → Prop} (h : WE p ρ ta fun x => ∃ xs, x = .lst xs ∧ WE p ρ tb fun y => ∃ ys, y = .lst ys ∧ xs.length + ys.length ≤ 4000000 ∧ Q (.ol (xs ++ ys))) :
    WF p ρ (tOp rCat ta tb) Q := fun G σ H hh Qv k =>
  h G σ H hh _ fun x v G1 H1 ⟨xs, e, q1⟩ s1 r1 => q1 G1 σ H1 (hh.step s1) _ fun y w G2 H2 ⟨ys, e2, hz, q⟩ s2 r2 => by
    subst e e2
    obtain ⟨a, vs, ev, hs, hl⟩ := r1.lst_inv
    obtain ⟨b, ws, ew, ht, hm⟩ := r2.lst_inv
    have hh2 := (hh.step s1).step s2
    have s := s1.trans s2
    refine ⟨a, b, vs, ws, ev, ew, hh2.mem.sub _ _ (s2.ex _ _ hs), hh2.mem.sub _ _ ht, sz (by rw [hl.length, hm.length]; exact hz), fun q' hq => ?_⟩
    exact k _ q' _ _ q rfl (s.trans (hh2.mem.growO hq)) (hh.mem.back s hq) ⟨q', _, rfl, hh2.mem.fresh hq, upd_same, (lmono hl s2.ex).append hm⟩
/-- tuple(xs) -/
theorem we_tupleOf (h : WE p ρ te fun x => ∃ xs, (x = .lst xs ∨ x = .tup xs) ∧ Q (.tup xs)) :
    WE p ρ (tCB (fun xs H Q => ∃ q ys, xs = [V.ref q] ∧ ((SqL p.K H q ys ∧ ∀ l, H l = none → Q (.ref l) (upd H l (.tup ys))) ∨ (SqT p.K H q ys ∧ Q (.ref q) H))) (tCons te tNil)) Q :=
  we_cb (wa_cons (h.imp fun x ⟨xs, e, q⟩ => wa_nil fun G H vs m r Qv k => by
    cases r with
    | cons r rn =>
      cases rn
      rcases e with e | e
      · subst e
        obtain ⟨a, us, ev, hs, hl⟩ := r.lst_inv
        subst ev
        exact ⟨a, us, rfl, .inl ⟨lq m.sub hs, fun l hq => k _ _ _ _ q (m.grow hq) (.tup upd_same (lmono hl (m.grow (o := .tup us) hq).ex))⟩⟩
      · subst e
        obtain ⟨a, us, ev, hs, hl⟩ := r.tup_inv
        subst ev
        exact ⟨a, us, rfl, .inr ⟨tq m.sub hs, k _ _ G H q m.refl (.tup hs hl)⟩⟩))
/-- list(xs): a new one -/
theorem wf_listOf {Q : Cell → Prop} (h : WE p ρ te fun x => ∃ xs, (x = .lst xs ∨ x = .tup xs) ∧ Q (.ol xs)) :
    WF p ρ (tCB (fun xs H Q => ∃ q ys, xs = [V.ref q] ∧ (SqL p.K H q ys ∨ SqT p.K H q ys) ∧ ∀ l, H l = none → Q (.ref l) (upd H l (.lst ys))) (tCons te tNil)) Q := fun G σ H hh Qv k =>
  h G σ H hh _ fun x v G1 H1 ⟨xs, e, q⟩ s1 r1 => by
    have hh1 := hh.step s1
    rcases e with e | e
    · subst e
      obtain ⟨a, us, ev, hs, hl⟩ := r1.lst_inv
      subst ev
      exact ⟨a, us, rfl, .inl (lq hh1.mem.sub hs), fun l hq => k _ l _ _ q rfl (s1.trans (hh1.mem.growO hq)) (hh.mem.back s1 hq) ⟨l, _, rfl, hh1.mem.fresh hq, upd_same, hl⟩⟩
    · subst e
      obtain ⟨a, us, ev, hs, hl⟩ := r1.tup_inv
      subst ev
      exact ⟨a, us, rfl, .inr (tq hh1.mem.sub hs), fun l hq => k _ l _ _ q rfl (s1.trans (hh1.mem.growO hq)) (hh.mem.back s1 hq) ⟨l, _, rfl, hh1.mem.fresh hq, upd_same, hl⟩⟩
end

/-! ### comprehensions -/
def wipeR (ρ : Rho) : List Nat → Rho
  | [] => ρ
  | v :: vs => (wipeR ρ vs).set v none
section
variable {p : Par} {ρ : Rho} {te : TE} {tt : TT} {g : TG}
theorem Hold.wipe {G H : Hp} {σ : L2.St} (hh : Hold p ρ G σ H) : ∀ vs : List Nat, Hold p (wipeR ρ vs) G (L2.wipe σ vs) H
  | [] => hh
  | v :: vs => (Hold.wipe hh vs).forget v none
theorem wipe_get {σ : L2.St} {j : Nat} : ∀ {vs : List Nat}, (L2.wipe σ vs)[j]? = if j ∈ vs then (if j < σ.length then some none else none) else σ[j]?
  | [] => by simp [L2.wipe]
  | v :: vs => by
    have ih := wipe_get (σ := σ) (j := j) (vs := vs)
    show ((L2.wipe σ vs).set v none)[j]? = _
    by_cases hv : v = j
    · subst hv
      rw [if_pos (by simp)]
      by_cases hl : v < σ.length
      · rw [if_pos hl, List.getElem?_set_self (by rw [L2.wipe_length]; exact hl)]
      · rw [if_neg hl, List.getElem?_eq_none (by rw [List.length_set, L2.wipe_length]; omega)]
    · rw [List.getElem?_set_ne hv, ih]
      by_cases hm : j ∈ vs
      · rw [if_pos hm, if_pos (List.mem_cons_of_mem _ hm)]
      · rw [if_neg hm, if_neg (fun z => by rcases List.mem_cons.mp z with e | e; exact hv e.symm; exact hm e)]
theorem wipe_set {σ : L2.St} {j : Nat} {x : Option V} {vs : List Nat} (h : j ∈ vs) : L2.wipe (σ.set j x) vs = L2.wipe σ vs := by
  refine List.ext_getElem? fun i => ?_
  rw [wipe_get, wipe_get, List.length_set]
  by_cases hm : i ∈ vs
  · rw [if_pos hm, if_pos hm]
  · rw [if_neg hm, if_neg hm, List.getElem?_set_ne (fun z => hm (by rw [← z]; exact h))]
theorem wipe_wipe {σ : L2.St} {vs : List Nat} : L2.wipe (L2.wipe σ vs) vs = L2.wipe σ vs := by
  refine List.ext_getElem? fun i => ?_
  rw [wipe_get, wipe_get, L2.wipe_length]
  by_cases hm : i ∈ vs
  · rw [if_pos hm, if_pos hm]
  · rw [if_neg hm, if_neg hm]
/-- a target that stores into the slots vs alone -/
def WGp (p : Par) (vs : List Nat) (ρ : Rho) (g : TG) (x : D) (N : Rho → Prop) : Prop := ∀ G σ H v, Hold p ρ G σ H → Rp p.K p.h G v x → ∀ Qs : L2.St → Hp → Prop, (∀ ρ' σ', N ρ' → Hold p ρ' G σ' H → L2.wipe σ' vs = L2.wipe σ vs → Qs σ' H) → g v σ H Qs
def WGps (p : Par) (vs : List Nat) (ρ : Rho) (g : TGs) (xs : List D) (N : Rho → Prop) : Prop := ∀ G σ H us, Hold p ρ G σ H → RpL p.K p.h G us xs → ∀ Qs : L2.St → Hp → Prop, (∀ ρ' σ', N ρ' → Hold p ρ' G σ' H → L2.wipe σ' vs = L2.wipe σ vs → Qs σ' H) → g us σ H Qs
theorem wgp_name {vs : List Nat} {i : Nat} {x : D} {N : Rho → Prop} (hi : i ∈ vs) (h : N (ρ.set i (some (.d x)))) : WGp p vs ρ (gName i) x N := fun G σ H v hh r Qs k => k _ _ h (hh.setD r) (wipe_set hi)
theorem wgps_nil {vs : List Nat} {xs : List D} {N : Rho → Prop} (h : xs = [] ∧ N ρ) : WGps p vs ρ gNil xs N := fun G σ H us hh r Qs k => by
  obtain ⟨e, h⟩ := h
  subst e
  cases r
  exact ⟨rfl, k _ σ h hh rfl⟩
theorem wgps_cons {vs : List Nat} {g : TG} {gs : TGs} {xs : List D} {N : Rho → Prop} (h : ∃ x r, xs = x :: r ∧ WGp p vs ρ g x fun ρ' => WGps p vs ρ' gs r N) : WGps p vs ρ (gCons g gs) xs N := fun G σ H us hh r Qs k => by
  obtain ⟨x, xr, e, h⟩ := h
  subst e
  cases r with
  | @cons v us _ _ a b => exact ⟨v, us, rfl, h G σ H v hh a _ fun ρ1 σ1 z hh1 e1 => z G σ1 H us hh1 b Qs fun ρ2 σ2 z2 hh2 e2 => k ρ2 σ2 z2 hh2 (e2.trans e1)⟩
theorem wgp_tup {vs : List Nat} {n : Nat} {gs : TGs} {x : D} {N : Rho → Prop} (h : ∃ xs, x = .tup xs ∧ xs.length = n ∧ WGps p vs ρ gs xs N) : WGp p vs ρ (gTup p.K n gs) x N := fun G σ H v hh r Qs k => by
  obtain ⟨xs, e, hl, h⟩ := h
  subst e
  obtain ⟨a, us, ev, hs, hr⟩ := r.tup_inv
  exact ⟨a, us, ev, tq hh.mem.sub hs, by rw [hr.length]; exact hl, h G σ H us hh hr Qs k⟩
theorem Stp.updO {G H G' H' : Hp} {a : Addr} {o : HO} (s : Stp p G H G' H') (n : H a = none) (ow : Own p G' a) (kn : ∃ u, H' a = some u ∧ NT u) : Stp p G H G' (upd H' a o) :=
  ⟨fun b u z => by rw [upd_ne (ne_of_none z ow.1)]; exact s.sub b u z, s.gh, fun b u hb t z => by
    show upd H' a o b = some u
    rw [upd_ne (ne_of_none z n)]
    exact s.base b u hb t z, s.g0, s.new, s.hand.mono (fun _ _ z => z) (upd_ne (Ne.symm ow.2.2)), s.gt, tabs_upd s.tab (.inr kn)⟩
theorem Own.step {G H G' H' : Hp} {a : Addr} {o : HO} (nt : NT o) (ow : Own p G a) (e : H a = some o) (s : Stp p G H G' H') : Own p G' a ∧ H' a = some o := by
  refine ⟨⟨?_, ow.2⟩, s.base a o ow.2.2 nt.tbl e⟩
  cases z : G' a with
  | none => rfl
  | some u =>
    rcases s.new a u z with r | r | ⟨⟨xs, t⟩, r⟩
    · have r' : G a = some u := r
      rw [ow.1] at r'; cases r'
    · obtain ⟨ps, e'⟩ := r o e
      exact (nt.tbl ps e').elim
    · have r' : H a = some u := r
      rw [e] at r'; cases r'
      exact (nt.tup xs t).elim
/-- what stands between two turns: the list at Dl holds acc -/
def Lc (p : Par) (G1 H1 : Hp) (Dl : Addr) (I : Nat → List D → Prop) (k : Nat) (H' : Hp) : Prop := ∃ acc av G', I k acc ∧ acc.length ≤ k ∧ Stp p G1 H1 G' H' ∧ H' Dl = some (.lst av) ∧ Own p G' Dl ∧ RpL p.K p.h G' av acc
theorem lc_turn {vs : List Nat} {G1 H1 H' : Hp} {σ : L2.St} {Dl : Addr} {I : Nat → List D → Prop} {k : Nat} {x : D} {v : V} (hh : Hold p ρ G1 σ H1) (hn : H1 Dl = none) (hk : k < 4000000) (L : Lc p G1 H1 Dl I k H')
    (hr : ∀ G', Stp p G1 H1 G' H' → ∃ G2, Stp p G' H' G2 H' ∧ Rp p.K p.h G2 v x)
    (h : ∀ acc, I k acc → acc.length ≤ k → WGp p vs (wipeR ρ vs) g x fun ρ2 => WT p ρ2 tt fun b => if b = true then WE p ρ2 te fun y => I (k + 1) (acc ++ [y]) else I (k + 1) acc) :
    g v (L2.wipe σ vs) H' fun σ2 H2 => L2.wipe σ2 vs = L2.wipe σ vs ∧ tt σ2 H2 fun b H3 =>
      if b = true then te σ2 H3 fun y H4 => ∃ acc, H4 Dl = some (.lst acc) ∧ acc.length < sizeLine ∧ Lc p G1 H1 Dl I (k + 1) (upd H4 Dl (.lst (acc ++ [y]))) else Lc p G1 H1 Dl I (k + 1) H3 := by
  obtain ⟨acc, av, G0, hi, hl, s0, e0, ow0, r0⟩ := L
  obtain ⟨G', s00, rx⟩ := hr G0 s0
  have s := s0.trans s00
  obtain ⟨ow, e⟩ := Own.step NT.lst ow0 e0 s00
  have r := lmono r0 s00.ex
  refine h acc hi hl G' _ H' v ((hh.step s).wipe vs) rx _ fun ρ2 σ2 z hh2 ew => ⟨by rw [ew, wipe_wipe], z G' σ2 H' hh2 _ fun b G2 H2 q s2 => ?_⟩
  obtain ⟨ow2, e2⟩ := Own.step NT.lst ow e s2
  cases b with
  | false =>
    rw [if_neg (by decide)] at q ⊢
    exact ⟨acc, av, G2, q, Nat.le_succ_of_le hl, s.trans s2, e2, ow2, lmono r s2.ex⟩
  | true =>
    rw [if_pos rfl] at q ⊢
    refine q G2 σ2 H2 (hh2.step s2) _ fun d y G3 H3 q3 s3 r3 => ?_
    obtain ⟨ow3, e3⟩ := Own.step NT.lst ow2 e2 s3
    have hz := r.length
    refine ⟨av, e3, by rw [sizeLine_eq]; omega, acc ++ [d], av ++ [y], G3, q3, by rw [List.length_append, List.length_singleton]; omega, ((s.trans s2).trans s3).updO hn ow3 ⟨_, e3, NT.lst⟩, upd_same, ow3, (lmono r (ex_tr s2.ex s3.ex)).append (.cons r3 .nil)⟩
theorem lc_start {G1 H1 : Hp} {σ : L2.St} {Dl : Addr} {I : Nat → List D → Prop} (hh : Hold p ρ G1 σ H1) (hn : H1 Dl = none) (h0 : I 0 []) : Lc p G1 H1 Dl I 0 (upd H1 Dl (.lst [])) :=
  ⟨[], [], G1, h0, Nat.le_refl _, hh.mem.growO hn, upd_same, hh.mem.fresh hn, .nil⟩
theorem wf_lcL {tl : TE} {vs : List Nat} {Q : Cell → Prop} (h : WE p ρ tl fun x => ∃ xs, x = .lst xs ∧ xs.length ≤ 4000000 ∧ ∃ I : Nat → List D → Prop, I 0 [] ∧
    (∀ k x acc, xs[k]? = some x → I k acc → acc.length ≤ k → WGp p vs (wipeR ρ vs) g x fun ρ2 => WT p ρ2 tt fun b => if b = true then WE p ρ2 te fun y => I (k + 1) (acc ++ [y]) else I (k + 1) acc) ∧ ∀ acc, I xs.length acc → Q (.ol acc)) :
    WF p ρ (tLc (iList p.K tl) g tt te vs) Q := fun G σ H hh Qv kk =>
  h G σ H hh _ fun x v G1 H1 ⟨xs, e, hz, I, h0, hs, hd⟩ s1 r1 => by
    subst e
    obtain ⟨a, us, ev, hq, hl⟩ := r1.lst_inv
    have hh1 := hh.step s1
    refine ⟨a, ev, ⟨us, lq hh1.mem.sub hq⟩, fun Dl hn => lc_list (xs := us) (Lc p G1 H1 Dl I) (lc_start hh1 hn h0) (fun k H' _ L => ?_) (fun k y H' hk L => ?_) fun H' L => ?_⟩
    · obtain ⟨acc, av, G', _, _, s, _⟩ := L
      exact lq s.sub (s.ex _ _ hq)
    · obtain ⟨d, hd1, hd2⟩ := hl.get' hk
      have hk' : k < us.length := (List.getElem?_eq_some_iff.mp hk).1
      exact lc_turn hh1 hn (by have := hl.length; omega) L (fun G' s => ⟨G', (hh1.step s).mem.refl, rmono hd2 s.ex⟩) fun acc hi hle => hs k d acc hd1 hi hle
    · obtain ⟨acc, av, G', hi, _, s, e, ow, r⟩ := L
      rw [hl.length] at hi
      exact kk _ Dl G' H' (hd acc hi) rfl (s1.trans s) (hh.mem.back s1 hn) ⟨Dl, av, rfl, ow, e, r⟩
theorem wf_lcT {tl : TE} {vs : List Nat} {Q : Cell → Prop} (h : WE p ρ tl fun x => ∃ xs, x = .tup xs ∧ xs.length ≤ 4000000 ∧ ∃ I : Nat → List D → Prop, I 0 [] ∧
    (∀ k x acc, xs[k]? = some x → I k acc → acc.length ≤ k → WGp p vs (wipeR ρ vs) g x fun ρ2 => WT p ρ2 tt fun b => if b = true then WE p ρ2 te fun y => I (k + 1) (acc ++ [y]) else I (k + 1) acc) ∧ ∀ acc, I xs.length acc → Q (.ol acc)) :
    WF p ρ (tLc (iTup p.K tl) g tt te vs) Q := fun G σ H hh Qv kk =>
  h G σ H hh _ fun x v G1 H1 ⟨xs, e, hz, I, h0, hs, hd⟩ s1 r1 => by
    subst e
    obtain ⟨a, us, ev, hq, hl⟩ := r1.tup_inv
    have hh1 := hh.step s1
    refine ⟨a, ev, ⟨us, tq hh1.mem.sub hq⟩, fun Dl hn => lc_tup (xs := us) (Lc p G1 H1 Dl I) (lc_start hh1 hn h0) (fun k H' _ L => ?_) (fun k y H' hk L => ?_) fun H' L => ?_⟩
    · obtain ⟨acc, av, G', _, _, s, _⟩ := L
      exact tq s.sub (s.ex _ _ hq)
    · obtain ⟨d, hd1, hd2⟩ := hl.get' hk
      have hk' : k < us.length := (List.getElem?_eq_some_iff.mp hk).1
      exact lc_turn hh1 hn (by have := hl.length; omega) L (fun G' s => ⟨G', (hh1.step s).mem.refl, rmono hd2 s.ex⟩) fun acc hi hle => hs k d acc hd1 hi hle
    · obtain ⟨acc, av, G', hi, _, s, e, ow, r⟩ := L
      rw [hl.length] at hi
      exact kk _ Dl G' H' (hd acc hi) rfl (s1.trans s) (hh.mem.back s1 hn) ⟨Dl, av, rfl, ow, e, r⟩
theorem wf_lc1 {ta : TA} {vs : List Nat} {Q : Cell → Prop} (h : WA p ρ ta fun ds => ∃ n : Int, ds = [.int n] ∧ n ≤ 4000000 ∧ -(2 ^ 62) ≤ n ∧ ∃ I : Nat → List D → Prop, I 0 [] ∧
    (∀ k acc, k < n.toNat → I k acc → acc.length ≤ k → WGp p vs (wipeR ρ vs) g (.int (k : Int)) fun ρ2 => WT p ρ2 tt fun b => if b = true then WE p ρ2 te fun y => I (k + 1) (acc ++ [y]) else I (k + 1) acc) ∧ ∀ acc, I n.toNat acc → Q (.ol acc)) :
    WF p ρ (tLc (iRng1 ta) g tt te vs) Q := fun G σ H hh Qv kk =>
  h G σ H hh _ fun ds ws G1 H1 ⟨n, e, hz, hz2, I, h0, hs, hd⟩ s1 r1 => by
    subst e
    cases r1 with
    | cons r1 rn =>
      cases rn; cases r1
      have hh1 := hh.step s1
      refine ⟨n, rfl, hz2, by omega, fun Dl hn => lc_range (lo := 0) (n := n.toNat) (Lc p G1 H1 Dl I) (lc_start hh1 hn h0) (fun k H' hk L => ?_) fun H' L => ?_⟩
      · rw [Int.zero_add]
        exact lc_turn hh1 hn (by omega) L (fun G' s => ⟨G', (hh1.step s).mem.refl, .int _⟩) fun acc hi hle => hs k acc hk hi hle
      · obtain ⟨acc, av, G', hi, _, s, e, ow, r⟩ := L
        exact kk _ Dl G' H' (hd acc hi) rfl (s1.trans s) (hh.mem.back s1 hn) ⟨Dl, av, rfl, ow, e, r⟩
theorem wf_lc2 {ta : TA} {vs : List Nat} {Q : Cell → Prop} (h : WA p ρ ta fun ds => ∃ lo n : Int, ds = [.int lo, .int n] ∧ n - lo ≤ 4000000 ∧ (-(2 ^ 62) ≤ lo ∧ lo < 2 ^ 62 ∧ -(2 ^ 62) ≤ n ∧ n < 2 ^ 62) ∧ ∃ I : Nat → List D → Prop, I 0 [] ∧
    (∀ k acc, k < (n - lo).toNat → I k acc → acc.length ≤ k → WGp p vs (wipeR ρ vs) g (.int (lo + (k : Int))) fun ρ2 => WT p ρ2 tt fun b => if b = true then WE p ρ2 te fun y => I (k + 1) (acc ++ [y]) else I (k + 1) acc) ∧ ∀ acc, I (n - lo).toNat acc → Q (.ol acc)) :
    WF p ρ (tLc (iRng2 ta) g tt te vs) Q := fun G σ H hh Qv kk =>
  h G σ H hh _ fun ds ws G1 H1 ⟨lo, n, e, hz, hz2, I, h0, hs, hd⟩ s1 r1 => by
    subst e
    cases r1 with
    | cons r1 rn =>
      cases rn with
      | cons r2 rn =>
        cases rn; cases r1; cases r2
        have hh1 := hh.step s1
        refine ⟨lo, n, rfl, hz2, fun Dl hn => lc_range (lo := lo) (n := (n - lo).toNat) (Lc p G1 H1 Dl I) (lc_start hh1 hn h0) (fun k H' hk L => ?_) fun H' L => ?_⟩
        · exact lc_turn hh1 hn (by omega) L (fun G' s => ⟨G', (hh1.step s).mem.refl, .int _⟩) fun acc hi hle => hs k acc hk hi hle
        · obtain ⟨acc, av, G', hi, _, s, e, ow, r⟩ := L
          exact kk _ Dl G' H' (hd acc hi) rfl (s1.trans s) (hh.mem.back s1 hn) ⟨Dl, av, rfl, ow, e, r⟩
end
section
variable {p : Par}
/-- a tuple that stands in H may be taken into what is known -/
theorem Mem.learn {G H : Hp} {q : Addr} {xs : List V} (m : Mem p G H) (e : H q = some (.tup xs)) : ∃ G', Stp p G H G' H ∧ G' q = some (.tup xs) := by
  cases hg : G q with
  | some u =>
    have := m.sub q u hg
    rw [e] at this; cases this
    exact ⟨G, m.refl, hg⟩
  | none =>
    have hq2 : q ≠ p.h.a := fun z => by
      obtain ⟨ns, i', r', n', h1', _⟩ := m.hand
      rw [← z, e] at h1'
      cases h1'
    have ex : Ex G (upd G q (.tup xs)) := fun b u z => by rw [upd_ne (ne_of_none z hg)]; exact z
    refine ⟨upd G q (.tup xs), ⟨fun b u z => ?_, ?_, fun _ _ _ _ z => z, ex, fun b u z => ?_, m.hand.mono ex rfl, fun b ps z => ?_, m.tab⟩, upd_same⟩
    · by_cases hb : b = q
      · subst hb; rw [upd_same] at z; cases z; exact e
      · rw [upd_ne hb] at z; exact m.sub b u z
    · show upd G q (.tup xs) p.h.a = none
      rw [upd_ne (Ne.symm hq2)]; exact m.gh
    · by_cases hb : b = q
      · subst hb; rw [upd_same] at z; cases z; exact .inr (.inr ⟨⟨_, rfl⟩, e⟩)
      · rw [upd_ne hb] at z; exact .inl z
    · by_cases hb : b = q
      · subst hb; rw [upd_same] at z; cases z
      · rw [upd_ne hb] at z; exact m.gt b ps z
end
end Cal
set_option Elab.async false
set_option linter.all false
set_option maxRecDepth 100000
set_option maxHeartbeats 2000000
namespace Cal
open PySem L2 PyProof.Rows
open Evl (Ex ex_l ex_t ex_rd sq_of st_of)

/-! ### sum(d.values()) -/
section
variable {X : Cx} {o : Expr} {p pos apos mpos : Pos} {td : TE}
def tSumVals (td : TE) : TE := fun σ H Q => td σ H fun x H1 => ∃ a kvs is, x = V.ref a ∧ H1 a = some (.dK kvs) ∧ kvs.map (·.2) = is.map V.int ∧ Q (.int (List.sum is)) H1
theorem preSum_list : ∀ (is : List Int), PySem.preSum (fun i => is.getD i 0) is.length = is.sum
  | [] => rfl
  | x :: r => by
    have e := PySem.W.kdu_shift (fun i => (x :: r).getD i 0) r.length
    have ih := preSum_list r
    show PySem.preSum (fun i => (x :: r).getD i 0) (r.length + 1) = (x :: r).sum
    rw [e, List.sum_cons]
    have e2 : (fun i => (x :: r).getD (i + 1) 0) = fun i => r.getD i 0 := by funext i; simp
    rw [e2, ih]
    simp
theorem pe_sumVals (hc : X.calm = true) (hg : Gl X "sum") (hm : X.mg "sum" = none) (hd : PE X o td) (hbase : attributeBase o "values" X.env (eval o X.env) = eval o X.env := by rfl) (hline : (apos.endLine == mpos.line) = true := by rfl)
    (hse : starEach [Expr.Call (.Attribute o "values" apos) [] [] mpos] X.env = [(false, eval (Expr.Call (.Attribute o "values" apos) [] [] mpos) X.env)] := by rfl) :
    PE X (.Call (.Name "sum" p) [.Call (.Attribute o "values" apos) [] [] mpos] [] pos) (tSumVals td) := by
  refine ⟨fun pins s σ H Q I h => ?_⟩
  refine wpAny_Call_Name_kw (ld_blt I hg hm (u := .builtin "sum") (by first | rfl | decide +kernel) ?_ (by first | decide +kernel | decide) (by first | decide +kernel | decide))
  rw [hse]
  refine PySem.callWith_builtin1 (wpAny_Call_method0_late hbase hline (thn (hd.run pins s σ H _ I h) fun v s1 ⟨x, H1, I1, r1, a, kvs, is, ex, ha, hv, q⟩ => ?_))
  subst ex
  obtain rfl : v = Value.ref a := r1
  obtain ⟨_, hsys, vs, rel, dof⟩ := dk_of I1.hok ha
  obtain ⟨ep, dat⟩ := dof.dictAt
  have dat' := dat
  obtain ⟨ob, es, ho, ex, hdat, hko, hpr, hnd⟩ := dat'
  refine ⟨"dict", "dict.values", F.plainAttrs_dict, F.slot_dict_values, F.type_dict_values, ⟨ob, ho, ex.1⟩, fun b e => ?_, Calls.callWith_builtin rfl (PySem.evalArgs_none ?_)⟩
  · cases e
    exact ⟨ob, ho, ex.2.1⟩
  refine call_meetsIn F.slot_dict_values ⟨ob, ho, ex.1⟩ F.entry_dict_values (F.args_dict_values_1 _) (meets_dict_values (mixKind X.prog X.w) a hsys) ⟨⟨vs, dof⟩, ?_⟩
  have k1 : ∀ b u, s1.heap.get? b = some u → (s1.heap.push { cls := .type "dict_values", data := .fields #[.ref a] }).get? b = some u := fun b u e => Heap.get?_push_of_some _ e
  have dat1 : (s1.heap.push { cls := .type "dict_values", data := .fields #[.ref a] }).DictAt (mixKind X.prog X.w) a vs ep := dat.keep k1
  have hlv : vs.length = is.length := by
    have e1 := congrArg List.length hv
    rw [List.length_map, List.length_map] at e1
    rw [← e1]
    exact (KV.length rel).symm
  have hval : ∀ (i : Nat) (v : Value), (∃ k, vs[i]? = some (k, v)) → ∃ t, v = Value.int (is.getD i 0) t := fun i v ⟨k, hk⟩ => by
    obtain ⟨x, h1, h2⟩ := KV.at' rel hk
    have e1 : (kvs.map (·.2))[i]? = some x := by rw [List.getElem?_map, h1] <;> rfl
    rw [hv, List.getElem?_map] at e1
    obtain ⟨j, hj, e2⟩ := Option.map_eq_some_iff.mp e1
    subst e2
    obtain ⟨t, e3⟩ := h2
    refine ⟨t, ?_⟩
    rw [e3, List.getD_eq_getElem?_getD, hj] <;> rfl
  refine PySem.call_sum_walkAnyS ?_
  have K := PySem.W.kdl_values (prog := X.prog) (w := X.w) (knd := mixKind X.prog X.w) (r := s1.heap.objs.size) (d := a) (kvs := vs) (ep := ep)
  obtain ⟨oI, St, hit, W, st⟩ := K.iter X.A.in1 { s1 with heap := s1.heap.push { cls := .type "dict_values", data := .fields #[.ref a] } } (I.ok.hd hc) ⟨⟨_, Heap.get?_push_size _ rfl, rfl, rfl⟩, dat1⟩
  have hsz : (s1.heap.push { cls := .type "dict_values", data := .fields #[.ref a] }).objs.size = s1.heap.objs.size + 1 := Heap.size_push _ _
  have hlt : a < s1.heap.objs.size := Heap.lt_size ho
  refine hit _ _ ⟨(s1.heap.push { cls := .type "dict_values", data := .fields #[.ref a] }).objs.size, _, _, _, vs.length, _, _, (fun i => is.getD i 0), rfl, W.toS, st, fun b hb => ?_, hval, fun s' t' hm => ?_⟩
  · show b < ((s1.heap.push _).push oI).objs.size
    rw [Heap.size_push, Heap.size_push]
    rw [hsz] at hb
    rcases List.mem_cons.mp hb with e | hb
    · rw [e]
      exact Nat.lt_succ_self _
    · have e : b = a := List.mem_singleton.mp hb
      rw [e]
      exact Nat.lt_succ_of_lt (Nat.lt_succ_of_lt hlt)
  · have hk : ∀ b o, s1.heap.get? b = some o → s'.heap.get? b = some o := fun b o e =>
      hm.heap b o (fun hI => by
        have e1 : b = (s1.heap.push { cls := .type "dict_values", data := .fields #[.ref a] }).objs.size := List.mem_singleton.mp hI
        have e2 := Heap.lt_size e
        rw [hsz] at e1
        rw [e1] at e2
        exact absurd e2 (Nat.not_lt.mpr (Nat.le_succ _))) (Heap.get?_push_of_some _ (k1 b o e))
    rw [Moved.eq_with hm]
    have e : PySem.preSum (fun i => is.getD i 0) vs.length = is.sum := by rw [hlv]; exact preSum_list is
    rw [e]
    exact ⟨.int _, H1, I1.kept (t' := s'.toks) hk, ⟨t', rfl⟩, q⟩
end
section
variable {p : Par} {ρ : Rho} {Q : D → Prop} {ta tb te td ty : TE} {tt tu : TT} {P : Post} {ts tv : TS}
theorem RpK.vals {K : PySem.W.Frag} {h : Hnd} {G : Hp} : ∀ {vs : List (Key × V)} {ds : List (Key × D)} {is : List Int}, RpK K h G vs ds → ds.map (·.2) = is.map D.int → vs.map (·.2) = is.map V.int
  | [], [], [], _, _ => rfl
  | [], [], i :: is, _, e => by cases e
  | x :: vs, y :: ds, [], r, e => by cases e
  | x :: vs, y :: ds, i :: is, r, e => by
    cases r with
    | cons a b =>
      rw [List.map_cons, List.map_cons] at e
      injection e with e1 e2
      have e1' := e1
      subst e1'
      cases a
      rw [List.map_cons, List.map_cons, RpK.vals b e2]
  | [], d :: ds, _, r, _ => by cases r
  | v :: vs, [], _, r, _ => by cases r
theorem we_sumVals {i : Nat} {kvs : List (Key × D)} {is : List Int} (e : ρ[i]? = some (some (.ok kvs))) (he : kvs.map (·.2) = is.map D.int) (q : Q (.int is.sum)) : WE p ρ (tSumVals (tVar i)) Q := fun G σ H hh Qv k => by
  obtain ⟨a, vs, h1, h2, h3⟩ := dget_own hh e
  exact ⟨.ref a, h1, a, vs, is, rfl, h2, h3.vals he, k _ _ G H q hh.mem.refl (.int _)⟩
/-- {k: v} -/
theorem wf_disp1 {Q : Cell → Prop} {tk tx : TE} (h : WE p ρ tk fun y => ∃ k, y = kD k ∧ WE p ρ tx fun x => Q (.ok [(k, x)])) : WF p ρ (tDisp [(tk, tx)]) Q := fun G σ H hh Qv kk a ha => by
  have s0 := hh.mem.growO (o := .dK []) ha
  have hh0 := hh.step s0
  refine h G σ _ hh0 _ fun y w G1 H1 ⟨k, ey, q⟩ s1 r1 => q G1 σ H1 (hh0.step s1) _ fun x u G2 H2 q2 s2 r2 => ?_
  subst ey
  have ow := hh.mem.fresh ha
  obtain ⟨ow1, e1⟩ := Own.step NT.dK ow upd_same s1
  obtain ⟨ow2, e2⟩ := Own.step NT.dK ow1 e1 s2
  refine ⟨e2, [(k, u)], ?_, by show 1 ≤ 15; decide, ?_⟩
  · rw [kD_rp r1] <;> rfl
  · refine kk _ a G2 _ q2 rfl (Stp.updO ((s0.trans s1).trans s2) ha ow2 ⟨_, e2, NT.dK⟩) (Nil.no ha) ⟨a, _, rfl, ow2, upd_same, ?_⟩
    show RpK p.K p.h G2 (putK [] k u) [(k, x)]
    exact .cons r2 .nil
/-! ### dicts with tuple keys, a slot's own -/
theorem kDs_rp {G : Hp} : ∀ {ks : List Key} {vs : List V}, RpL p.K p.h G vs (ks.map kD) → vs = ks.map kV
  | [], [], _ => rfl
  | k :: ks, v :: vs, r => by
    cases r with
    | cons a b => rw [List.map_cons, kD_rp a, kDs_rp b]
  | [], v :: vs, r => by cases r
  | k :: ks, [], r => by cases r
theorem rp_kDs {G : Hp} : ∀ (ks : List Key), RpL p.K p.h G (ks.map kV) (ks.map kD)
  | [] => .nil
  | k :: ks => .cons rp_kD (rp_kDs ks)
theorem key_at {G H : Hp} {v : V} {ks : List Key} (e : Ex G H) (r : Rp p.K p.h G v (.tup (ks.map kD))) : ∃ b, v = .ref b ∧ H b = some (.tup (ks.map kV)) := by
  obtain ⟨a, vs, ev, h1, h2⟩ := r.tup_inv
  rw [kDs_rp h2] at h1
  exact ⟨a, ev, e _ _ h1⟩
theorem dgetT_own {i : Nat} {kvs : List (List Key × D)} {G : Hp} {σ : L2.St} {H : Hp} (hh : Hold p ρ G σ H) (e : ρ[i]? = some (some (.ot kvs))) : ∃ a vs, σ[i]? = some (some (.ref a)) ∧ H a = some (.dT vs) ∧ RpT p.K p.h G vs kvs := by
  obtain ⟨sv, h1, a, vs, h2, ow, h4, h5⟩ := hh.slot i _ e
  subst h2
  exact ⟨a, vs, h1, h4, h5⟩
theorem we_dgetT {i : Nat} {kvs : List (List Key × D)} (e : ρ[i]? = some (some (.ot kvs))) (h : WE p ρ ty fun y => ∃ k x, y = .tup (k.map kD) ∧ dGet kvs k = some x ∧ Q x) : WE p ρ (tDGet (tVar i) ty) Q := fun G σ H hh Qv kk => by
  obtain ⟨a, vs, h1, _, _⟩ := dgetT_own hh e
  refine ⟨.ref a, h1, h G σ H hh _ fun y w G1 H1 ⟨k, x, ey, ex, q⟩ s1 r1 => ?_⟩
  subst ey
  obtain ⟨a', vs', h1', h2', h3'⟩ := dgetT_own (hh.step s1) e
  rw [h1] at h1'
  cases h1'
  obtain ⟨b, eb, hb⟩ := key_at s1.sub r1
  rcases h3'.find k with ⟨_, z⟩ | ⟨v, d, z1, z2, z3⟩
  · rw [ex] at z; cases z
  · rw [ex] at z2; cases z2
    exact ⟨a, v, rfl, .inr ⟨vs', k, b, .inl h2', eb, hb, z1.symm⟩, kk _ _ G1 H1 q s1 z3⟩
theorem we_dinT {i : Nat} {kvs : List (List Key × D)} (e : ρ[i]? = some (some (.ot kvs))) (h : WE p ρ ty fun y => ∃ k : List Key, y = .tup (k.map kD) ∧ Q (.bl (dGet kvs k).isSome)) : WE p ρ (tDIn ty (tVar i)) Q := fun G σ H hh Qv kk =>
  h G σ H hh _ fun y w G1 H1 ⟨k, ey, q⟩ s1 r1 => by
    subst ey
    obtain ⟨a, vs, h1, h2, h3⟩ := dgetT_own (hh.step s1) e
    obtain ⟨b, eb, hb⟩ := key_at s1.sub r1
    refine ⟨.ref a, h1, a, valV vs k, rfl, .inr ⟨vs, k, b, .inl h2, eb, hb, rfl⟩, ?_⟩
    have z : (valV vs k).isSome = (dGet kvs k).isSome := by
      rcases h3.find k with ⟨z1, z2⟩ | ⟨v, d, z1, z2, _⟩ <;> rw [z1, z2] <;> rfl
    rw [z]
    exact kk _ _ G1 H1 q s1 (.bl _)
theorem we_dnotinT {i : Nat} {kvs : List (List Key × D)} (e : ρ[i]? = some (some (.ot kvs))) (h : WE p ρ ty fun y => ∃ k : List Key, y = .tup (k.map kD) ∧ Q (.bl (!(dGet kvs k).isSome))) : WE p ρ (tDNotIn ty (tVar i)) Q := fun G σ H hh Qv kk =>
  h G σ H hh _ fun y w G1 H1 ⟨k, ey, q⟩ s1 r1 => by
    subst ey
    obtain ⟨a, vs, h1, h2, h3⟩ := dgetT_own (hh.step s1) e
    obtain ⟨b, eb, hb⟩ := key_at s1.sub r1
    refine ⟨.ref a, h1, a, valV vs k, rfl, .inr ⟨vs, k, b, .inl h2, eb, hb, rfl⟩, ?_⟩
    have z : (valV vs k).isSome = (dGet kvs k).isSome := by
      rcases h3.find k with ⟨z1, z2⟩ | ⟨v, d, z1, z2, _⟩ <;> rw [z1, z2] <;> rfl
    rw [z]
    exact kk _ _ G1 H1 q s1 (.bl _)
theorem we_dget2T {i : Nat} {kvs : List (List Key × D)} {tx : TE} (e : ρ[i]? = some (some (.ot kvs))) (h : WE p ρ ty fun y => ∃ k : List Key, y = .tup (k.map kD) ∧ WE p ρ tx fun x => Q ((dGet kvs k).getD x)) : WE p ρ (tDGet2 (tVar i) ty tx) Q := fun G σ H hh Qv kk => by
  obtain ⟨a, vs, h1, h2, h3⟩ := dgetT_own hh e
  refine ⟨.ref a, h1, a, rfl, .inr ⟨vs, .inl h2⟩, h G σ H hh _ fun y w G1 H1 ⟨k, ey, q⟩ s1 r1 => q G1 σ H1 (hh.step s1) _ fun x u G2 H2 q2 s2 r2 => ?_⟩
  subst ey
  obtain ⟨a', vs', h1', h2', h3'⟩ := dgetT_own ((hh.step s1).step s2) e
  rw [h1] at h1'
  cases h1'
  obtain ⟨b, eb, hb⟩ := key_at s2.sub (rmono r1 s2.ex)
  refine ⟨valV vs' k, .inr ⟨vs', k, b, .inl h2', eb, hb, rfl⟩, ?_⟩
  rcases h3'.find k with ⟨z1, z2⟩ | ⟨v, d, z1, z2, z3⟩
  · rw [z1]; rw [z2] at q2; exact kk _ _ G2 H2 q2 (s1.trans s2) r2
  · rw [z1]; rw [z2] at q2; exact kk _ _ G2 H2 q2 (s1.trans s2) z3
theorem ws_dputT {i : Nat} {kvs : List (List Key × D)} (e : ρ[i]? = some (some (.ot kvs))) (hl : kvs.length < 4000000) (h : WE p ρ te fun x => WE p ρ ty fun y => ∃ k : List Key, y = .tup (k.map kD) ∧ P.n (ρ.set i (some (.ot (dPut kvs k x))))) : WS p ρ (sDPut (tVar i) ty te) P := fun G σ H hh E kn kr kb kc =>
  h G σ H hh _ fun x v G1 H1 q1 s1 r1 => by
    obtain ⟨sv, h1, a, vs, h2, ow, h4, h5⟩ := (hh.step s1).slot i _ e
    subst h2
    refine ⟨.ref a, h1, q1 G1 σ H1 (hh.step s1) _ fun y w G2 H2 ⟨k, ek, z⟩ s2 r2 => ?_⟩
    subst ek
    have hh2 := (hh.step s1).step s2
    obtain ⟨sv', h1', a', vs', h2', ow', h4', h5'⟩ := hh2.slot i _ e
    subst h2'
    rw [h1] at h1'
    cases h1'
    have hz := h5'.length
    obtain ⟨b, eb, hb⟩ := key_at s2.sub r2
    refine ⟨a, _, rfl, .inr ⟨vs', k, b, h4', eb, hb, by rw [sizeLine_eq]; omega, rfl⟩, kn _ G2 σ _ z (ex_tr s1.ex s2.ex) (hh2.write e rfl h1 ow' ⟨a, _, rfl, ow', upd_same, h5'.put k (rmono r1 s2.ex)⟩)⟩

/-! ### walks over a dict that a slot owns, locked meanwhile -/
theorem Hold.lock {G : Hp} {σ : L2.St} {H : Hp} (hh : Hold p ρ G σ H) {i : Nat} {c : Cell} {a : Addr} {o : HO} (e : ρ[i]? = some (some c)) (ho : c.isOwn = true) (q : σ[i]? = some (some (.ref a))) (ow : Own p G a) (nt : NT o) :
    Hold p (ρ.set i (some (.rw a o))) G σ (upd H a o) := hh.write e ho q ow ⟨rfl, ow, upd_same, nt⟩
theorem set_set {α : Type} (l : List α) (i : Nat) (a b : α) : (l.set i a).set i b = l.set i b := by simp
/-- for k, v in d.items(): .., d slot i's own; meanwhile nothing is known of slot i -/
theorem ws_items {i : Nat} {g : TG} {kvs : List (Key × D)} (e : ρ[i]? = some (some (.ok kvs))) (I : Nat → Rho → Prop) (hl : ∀ k ρ', I k ρ' → ρ'.length = ρ.length) (h0 : I 0 (ρ.set i none))
    (hs : ∀ (k : Nat) (key : Key) (x : D) (c : Cell) (ρ' : Rho), kvs[k]? = some (key, x) → I k ρ' → WG p (ρ'.set i (some c)) g (.tup [kD key, x]) fun ρ2 => WS p ρ2 ts ⟨fun ρ3 => ρ3[i]? = some (some c) ∧ I (k + 1) (ρ3.set i none), fun _ => False, fun _ => False, fun ρ3 => ρ3[i]? = some (some c) ∧ I (k + 1) (ρ3.set i none)⟩)
    (hd : ∀ ρ', I kvs.length ρ' → P.n (ρ'.set i (some (.ok kvs)))) : WS p ρ (tLock (tFor (iItems (tVar i)) g ts)) P := fun G σ H hh E kn kr kb kc => by
  obtain ⟨sv, h1, a, vs, h2, ow, h4, h5⟩ := hh.slot i _ e
  subst h2
  refine ⟨a, .dK vs, h4, trivial, fun od => ?_⟩
  have hi : i < ρ.length := (List.getElem?_eq_some_iff.mp e).1
  refine ⟨.ref a, h1, a, od, vs, rfl, upd_same, ?_⟩
  -- the word of the walk: slot i holds the locked dict
  have key : ∀ (k : Nat) (ρ' : Rho) (G' : Hp) (σ' : L2.St) (H' : Hp), I k ρ' → Ex G G' → Hold p (ρ'.set i (some (.rw a (.frz od (.dK vs))))) G' σ' H' → H' a = some (.frz od (.dK vs)) ∧ σ'[i]? = some (some (.ref a)) ∧ Own p G' a := fun k ρ' G' σ' H' hi' ex hh' => by
    obtain ⟨sv, q1, q2, q3, q4, _⟩ := hh'.slot i (.rw a (.frz od (.dK vs))) (by rw [List.getElem?_set_self (by rw [hl k ρ' hi']; exact hi)])
    subst q2
    exact ⟨q4, q1, q3⟩
  refine ⟨fun k m σ' H' => m = vs.length - k ∧ k ≤ vs.length ∧ ∃ ρ' G', I k ρ' ∧ Ex G G' ∧ Hold p (ρ'.set i (some (.rw a (.frz od (.dK vs))))) G' σ' H', ⟨vs.length, by simp, Nat.zero_le _, ρ.set i none, G, h0, Ex.rfl', by rw [set_set]; exact hh.lock e rfl h1 ow NT.frz⟩, ?_⟩
  rintro k m σ' H' ⟨rfl, hk, ρ', G', hi', ex, hh'⟩
  obtain ⟨w1, w2, w3⟩ := key k ρ' G' σ' H' hi' ex hh'
  by_cases hlt : k < vs.length
  · refine .inr ⟨⟨w1, hlt⟩, fun σ2 H2 => ∃ ρ2 G2, I (k + 1) ρ2 ∧ Ex G G2 ∧ Hold p (ρ2.set i (some (.rw a (.frz od (.dK vs))))) G2 σ2 H2, fun σ2 H2 z => ⟨vs.length - (k + 1), by omega, rfl, hlt, z⟩, fun x H2 y => ?_⟩
    obtain ⟨T, ky, v, hx, ex1, hT, eH⟩ := y
    subst ex1 eH
    obtain ⟨d, hd1, hd2⟩ := h5.get' hx
    have s := hh'.mem.grow (o := .tup [kV ky, v]) hT
    have r : Rp p.K p.h (upd G' T (.tup [kV ky, v])) (.ref T) (.tup [kD ky, d]) := .tup upd_same (.cons rp_kD (.cons (rmono (rmono hd2 ex) s.ex) .nil))
    have back : ∀ {ρ3 : Rho}, ρ3[i]? = some (some (.rw a (.frz od (.dK vs)))) → (ρ3.set i none).set i (some (.rw a (.frz od (.dK vs)))) = ρ3 := fun {ρ3} q => by
      rw [set_set]
      refine List.ext_getElem? fun j => ?_
      by_cases hj : i = j
      · subst hj
        rw [List.getElem?_set_self (List.getElem?_eq_some_iff.mp q).1, q]
      · rw [List.getElem?_set_ne hj]
    exact hs k ky d _ ρ' hd1 hi' _ σ' _ _ (hh'.step s) r _ fun ρ2 G2 σ2 H2 z e2 hh2 => z G2 σ2 H2 hh2 _
      (fun ρ3 G3 σ3 H3 ⟨z3, z4⟩ e3 hh3 => ⟨ρ3.set i none, G3, z4, ex_tr (ex_tr ex s.ex) (ex_tr e2 e3), by rw [back z3]; exact hh3⟩)
      (fun d v G3 H3 z3 _ _ => z3.elim) (fun _ _ _ _ z3 => z3.elim)
      (fun ρ3 G3 σ3 H3 ⟨z3, z4⟩ e3 hh3 => ⟨ρ3.set i none, G3, z4, ex_tr (ex_tr ex s.ex) (ex_tr e2 e3), by rw [back z3]; exact hh3⟩)
  · have ek : k = vs.length := by omega
    subst ek
    refine .inl ⟨⟨w1, Nat.le_refl _⟩, w1, ?_⟩
    have hh2 : Hold p ((ρ'.set i (some (.rw a (.frz od (.dK vs))))).set i (some (.ok kvs))) G' σ' (upd H' a (.dK vs)) :=
      hh'.write (c := .rw a (.frz od (.dK vs))) (by rw [List.getElem?_set_self (by rw [hl _ ρ' hi']; exact hi)]) rfl w2 w3 ⟨a, vs, rfl, w3, upd_same, RpK.mono ex _ _ h5⟩
    rw [set_set] at hh2
    exact kn _ G' σ' _ (hd ρ' (by rw [← h5.length]; exact hi')) ex hh2
end
/-! ### comprehensions over a dict that a slot owns -/
section
variable {p : Par} {ρ : Rho} {Q : D → Prop} {ta tb te td ty : TE} {tt tu : TT} {P : Post} {ts tv : TS} {g : TG}
theorem we_dgetLT {i : Nat} {kvs : List (List Key × D)} (e : ρ[i]? = some (some (.lt kvs))) (h : WE p ρ ty fun y => ∃ k x, y = .tup (k.map kD) ∧ dGet kvs k = some x ∧ Q x) : WE p ρ (tDGet (tVar i) ty) Q := fun G σ H hh Qv kk => by
  obtain ⟨sv, h1, a, od, vs, h2, _⟩ := hh.slot i _ e
  subst h2
  refine ⟨.ref a, h1, h G σ H hh _ fun y w G1 H1 ⟨k, x, ey, ex, q⟩ s1 r1 => ?_⟩
  subst ey
  obtain ⟨sv', h1', a', od', vs', h2', ow', h4', h5'⟩ := (hh.step s1).slot i _ e
  subst h2'
  rw [h1] at h1'
  cases h1'
  obtain ⟨b, eb, hb⟩ := key_at s1.sub r1
  rcases h5'.find k with ⟨_, z⟩ | ⟨v, d, z1, z2, z3⟩
  · rw [ex] at z; cases z
  · rw [ex] at z2; cases z2
    exact ⟨a, v, rfl, .inr ⟨vs', k, b, .inr ⟨_, h4'⟩, eb, hb, z1.symm⟩, kk _ _ G1 H1 q s1 z3⟩
theorem we_dgetLK {i : Nat} {kvs : List (Key × D)} (e : ρ[i]? = some (some (.lk kvs))) (h : WE p ρ ty fun y => ∃ k x, y = kD k ∧ dGet kvs k = some x ∧ Q x) : WE p ρ (tDGet (tVar i) ty) Q := fun G σ H hh Qv kk => by
  obtain ⟨sv, h1, a, od, vs, h2, _⟩ := hh.slot i _ e
  subst h2
  refine ⟨.ref a, h1, h G σ H hh _ fun y w G1 H1 ⟨k, x, ey, ex, q⟩ s1 r1 => ?_⟩
  subst ey
  obtain ⟨sv', h1', a', od', vs', h2', ow', h4', h5'⟩ := (hh.step s1).slot i _ e
  subst h2'
  rw [h1] at h1'
  cases h1'
  rcases h5'.find k with ⟨_, z⟩ | ⟨v, d, z1, z2, z3⟩
  · rw [ex] at z; cases z
  · rw [ex] at z2; cases z2
    exact ⟨a, v, rfl, .inl ⟨vs', k, .inr ⟨_, h4'⟩, kD_rp r1, z1.symm⟩, kk _ _ G1 H1 q s1 z3⟩
/-- the walk over the keys of a locked dict with tuple keys, told as a new list -/
theorem lcKeysT {i : Nat} {vs : List Nat} {kvs : List (List Key × D)} {G : Hp} {σ : L2.St} {H : Hp} {Qv : VK} {a : Addr} {od : Obj} {us : List (List Key × V)} (hh : Hold p ρ G σ H) (hq : σ[i]? = some (some (.ref a))) (ha : H a = some (.frz od (.dT us))) (oa : Own p G a) (hl : RpT p.K p.h G us kvs) (hz : kvs.length ≤ 4000000)
    (I : Nat → List D → Prop) (h0 : I 0 [])
    (hs : ∀ (k : Nat) (key : List Key) (x : D) acc, kvs[k]? = some (key, x) → I k acc → acc.length ≤ k → WGp p vs (wipeR ρ vs) g (.tup (key.map kD)) fun ρ2 => WT p ρ2 tt fun b => if b = true then WE p ρ2 te fun y => I (k + 1) (acc ++ [y]) else I (k + 1) acc)
    (kk : ∀ acc Dl G' H', I kvs.length acc → Stp p G H G' H' → H Dl = none → Slot p G' H' (some (.ref Dl)) (.ol acc) → Qv (.ref Dl) H') : tLc (iKeys (tVar i)) g tt te vs σ H Qv := by
  refine ⟨.ref a, hq, a, od, rfl, .inr ⟨us, ha, fun Dl hn => ?_⟩⟩
  refine ⟨fun k m H' => m = us.length - k ∧ k ≤ us.length ∧ Lc p G H Dl I k H', ⟨us.length, by simp, Nat.zero_le _, lc_start hh hn h0⟩, ?_⟩
  rintro k m H' ⟨rfl, hk, L⟩
  have hfrz : H' a = some (.frz od (.dT us)) := by
    obtain ⟨acc, av, G', _, _, s, _⟩ := L
    exact s.base a _ oa.2.2 NT.frz.tbl ha
  by_cases hlt : k < us.length
  · refine .inr ⟨⟨hfrz, hlt⟩, Lc p G H Dl I (k + 1), fun H2 z => ⟨us.length - (k + 1), by omega, rfl, hlt, z⟩, fun x H2 y => ?_⟩
    obtain ⟨eH, ky, v, q, hx, ex, hT⟩ := y
    subst ex eH
    obtain ⟨d, hd1, hd2⟩ := hl.get' hx
    have hlen := hl.length
    exact lc_turn hh hn (by omega) L (fun G' s => by
      obtain ⟨G2, s2, hq2⟩ := Mem.learn (p := p) (hh.step s).mem hT
      exact ⟨G2, s2, .tup hq2 (rp_kDs ky)⟩) fun acc hi hle => hs k ky d acc hd1 hi hle
  · have ek : k = us.length := by omega
    subst ek
    obtain ⟨acc, av, G', hi, _, s, e, ow, r⟩ := L
    exact .inl ⟨⟨hfrz, Nat.le_refl _⟩, kk acc Dl G' H' (by rw [← hl.length]; exact hi) s hn ⟨Dl, av, rfl, ow, e, r⟩⟩
/-- y = [.. for k in d ..], d slot i's own with tuple keys -/
theorem ws_lcKeysT {i j : Nat} {vs : List Nat} {kvs : List (List Key × D)} (e : ρ[i]? = some (some (.ot kvs))) (hz : kvs.length ≤ 4000000) (I : Nat → List D → Prop) (h0 : I 0 [])
    (hs : ∀ (k : Nat) (key : List Key) (x : D) acc, kvs[k]? = some (key, x) → I k acc → acc.length ≤ k → WGp p vs (wipeR (ρ.set i (some (.lt kvs))) vs) g (.tup (key.map kD)) fun ρ2 => WT p ρ2 tt fun b => if b = true then WE p ρ2 te fun y => I (k + 1) (acc ++ [y]) else I (k + 1) acc)
    (hd : ∀ acc, I kvs.length acc → P.n (ρ.set j (some (.ol acc)))) (hij : i ≠ j) : WS p ρ (tLock (tAsg (tLc (iKeys (tVar i)) g tt te vs) (gName j))) P := fun G σ H hh E kn kr kb kc => by
  obtain ⟨sv, h1, a, us, h2, ow, h4, h5⟩ := hh.slot i _ e
  subst h2
  refine ⟨a, .dT us, h4, trivial, fun od => ?_⟩
  have hi : i < ρ.length := (List.getElem?_eq_some_iff.mp e).1
  have hh1 : Hold p (ρ.set i (some (.lt kvs))) G σ (upd H a (.frz od (.dT us))) := hh.write e rfl h1 ow ⟨a, od, us, rfl, ow, upd_same, h5⟩
  refine lcKeysT hh1 h1 upd_same ow h5 hz I h0 hs fun acc Dl G' H' hacc s hn x => ?_
  have hfr : H' a = some (.frz od (.dT us)) := s.base a _ ow.2.2 NT.frz.tbl upd_same
  refine ⟨hfr, ?_⟩
  have hh2 := hh1.setNew (i := j) s (Nil.no hn) x
  have hlt : (ρ.set i (some (.lt kvs)) : Rho)[i]? = some (some (.lt kvs)) := List.getElem?_set_self hi
  have ow2 : Own p G' a := (Own.step NT.frz ow (upd_same (H := H) (o := .frz od (.dT us))) s).1
  have hh3 : Hold p (((ρ.set i (some (.lt kvs))).set j (some (.ol acc))).set i (some (.ot kvs))) G' (σ.set j (some (.ref Dl))) (upd H' a (.dT us)) :=
    hh2.write (c := .lt kvs) (by rw [List.getElem?_set_ne (Ne.symm hij)]; exact hlt) rfl (by rw [List.getElem?_set_ne (Ne.symm hij)]; exact h1) ow2 ⟨a, us, rfl, ow2, upd_same, RpT.mono s.ex _ _ h5⟩
  have er : (((ρ.set i (some (.lt kvs))).set j (some (.ol acc))).set i (some (.ot kvs))) = ρ.set j (some (.ol acc)) := by
    rw [List.set_comm _ _ (Ne.symm hij), set_set]
    congr 1
    refine List.ext_getElem? fun m => ?_
    by_cases hm : i = m
    · subst hm
      rw [List.getElem?_set_self hi, e]
    · rw [List.getElem?_set_ne hm]
  rw [er] at hh3
  exact kn _ G' _ _ (hd acc hacc) s.ex hh3
end
end Cal
set_option Elab.async false
set_option linter.all false
set_option maxRecDepth 100000
set_option maxHeartbeats 2000000
namespace Cal
open PySem L2 PyProof.Rows
open Evl (Ex ex_l ex_t ex_rd sq_of st_of)
/-! ### isinstance -/
def tyD : D → Option String
  | .non => some "NoneType" | .bl _ => some "bool" | .int _ => some "int" | .str _ => some "str" | .tup _ => some "tuple" | .lst _ => some "list" | .dK _ => some "dict" | _ => none
section
variable {p : Par} {ρ : Rho} {Q : D → Prop} {ta tb te td ty : TE} {tt tu : TT} {P : Post} {ts tv : TS} {g : TG}
theorem tyD_x {G H : Hp} {v : V} {t : String} (e : Ex G H) : ∀ {x : D}, Rp p.K p.h G v x → tyD x = some t → TyX p.K H v (.type t)
  | .non, r, h => by cases r; cases h; exact .base .non
  | .bl b, r, h => by cases r; cases h; exact .base (.bl b)
  | .int i, r, h => by cases r; cases h; exact .base (.int i)
  | .str x, r, h => by cases r; cases h; exact .base (.str x)
  | .tup xs, r, h => by
    cases h
    obtain ⟨a, vs, ev, h1, _⟩ := r.tup_inv
    subst ev
    exact .base (.tup (e _ _ h1))
  | .lst xs, r, h => by
    cases h
    obtain ⟨a, vs, ev, h1, _⟩ := r.lst_inv
    subst ev
    exact .base (.lst (e _ _ h1))
  | .dK kvs, r, h => by
    cases h
    cases r with
    | dK q _ =>
      rcases ex_rd e q with q | ⟨o, q⟩
      · exact .base (.dK q)
      · exact .fDict q
  | .hand, _, h => by cases h
  | .dT _, _, h => by cases h
  | .raw _, _, h => by cases h
  | .ins _ _, _, h => by cases h
theorem we_isi {T : String} (h : WE p ρ te fun x => ∃ t b, tyD x = some t ∧ kitB t T = some b ∧ Q (.bl b)) : WE p ρ (tCB (rIsi p.K) (tCons te (tCons (tC (.ty T)) tNil))) Q := fun G σ H hh Qv k =>
  h G σ H hh _ fun x v G1 H1 ⟨t, b, e1, e2, q⟩ s r => ⟨v, .ty T, .type t, .type T, b, rfl, .ty T, tyD_x s.sub r e1, kit_ty e2, k _ _ G1 H1 q s (.bl _)⟩
end
theorem kb_int_int : kitB "int" "int" = some true := by decide +kernel
theorem kb_bool_int : kitB "bool" "int" = some true := by decide +kernel
theorem kb_tuple_int : kitB "tuple" "int" = some false := by decide +kernel
theorem kb_list_int : kitB "list" "int" = some false := by decide +kernel
theorem kb_str_int : kitB "str" "int" = some false := by decide +kernel
theorem kb_none_int : kitB "NoneType" "int" = some false := by decide +kernel
theorem kb_dict_int : kitB "dict" "int" = some false := by decide +kernel
theorem kb_int_bool : kitB "int" "bool" = some false := by decide +kernel
theorem kb_bool_bool : kitB "bool" "bool" = some true := by decide +kernel
theorem kb_tuple_bool : kitB "tuple" "bool" = some false := by decide +kernel
theorem kb_list_bool : kitB "list" "bool" = some false := by decide +kernel
theorem kb_str_bool : kitB "str" "bool" = some false := by decide +kernel
theorem kb_none_bool : kitB "NoneType" "bool" = some false := by decide +kernel
theorem kb_dict_bool : kitB "dict" "bool" = some false := by decide +kernel
theorem kb_int_tuple : kitB "int" "tuple" = some false := by decide +kernel
theorem kb_bool_tuple : kitB "bool" "tuple" = some false := by decide +kernel
theorem kb_tuple_tuple : kitB "tuple" "tuple" = some true := by decide +kernel
theorem kb_list_tuple : kitB "list" "tuple" = some false := by decide +kernel
theorem kb_str_tuple : kitB "str" "tuple" = some false := by decide +kernel
theorem kb_none_tuple : kitB "NoneType" "tuple" = some false := by decide +kernel
theorem kb_dict_tuple : kitB "dict" "tuple" = some false := by decide +kernel
theorem kb_int_list : kitB "int" "list" = some false := by decide +kernel
theorem kb_int_dict : kitB "int" "dict" = some false := by decide +kernel

/-! ### ints -/
theorem ix0 {α : Type} {xs : List α} {n : Nat} {x : α} (h : xs[n]? = some x) : atI xs (n : Int) = some x := by
  unfold atI ixN
  have hl : n < xs.length := (List.getElem?_eq_some_iff.mp h).1
  rw [if_pos (by omega), if_pos (by omega)]
  simpa using h
theorem atI_of {α : Type} {xs : List α} {i : Int} (h0 : 0 ≤ i) (h : i < xs.length) : ∃ x, atI xs i = some x ∧ xs[i.toNat]? = some x := by
  have hl : i.toNat < xs.length := by omega
  refine ⟨xs[i.toNat], ?_, List.getElem?_eq_getElem hl⟩
  unfold atI ixN
  rw [if_pos h0, if_pos h]
  exact List.getElem?_eq_getElem hl
/-- products of ints below 2 ^ 500000 -/
theorem mulOk {i j : Int} (hi : i.natAbs < 2 ^ 499999) (hj : j.natAbs < 2 ^ 499999) : CMulW i j := wide_mul (a := 499999) (b := 499999) hi hj (by decide) (by decide) (by decide)
theorem mulS {i j : Int} (a b : Nat) (hi : i.natAbs < 2 ^ a) (hj : j.natAbs < 2 ^ b) (h0 : 0 < a) (h1 : 0 < b) (h : a + b ≤ 1000000) : CMulW i j := wide_mul hi hj h0 h1 h
theorem big {n : Nat} {k : Nat} (h : n < 18446744073709551616) (hk : 64 ≤ k) : n < 2 ^ k := Nat.lt_of_lt_of_le (show n < 2 ^ 64 from h) (Nat.pow_le_pow_right (by decide) hk)
theorem natAbs_lt {i : Int} {n : Nat} (h1 : -(n : Int) < i) (h2 : i < n) : i.natAbs < n := by omega
/-- products of ints below 2 ^ 64 -/
theorem mul64 {i j : Int} (hi : i.natAbs < 18446744073709551616) (hj : j.natAbs < 18446744073709551616) : CMulW i j := mulS 64 64 hi hj (by decide) (by decide) (by decide)
theorem div64 {j : Int} (i : Int) (h : 0 < j) (hj : j < 18446744073709551616) : CDivW i j := by
  refine wide_div (b := 64) h ?_ (by decide) (by decide)
  have e : (2 : Nat) ^ 64 = 18446744073709551616 := by decide
  rw [e]
  omega
/-- a product: one side below 2 ^ 64, or both together not too long -/
def CMulA (i j : Int) : Prop := (-18446744073709551616 < i ∧ i < 18446744073709551616) ∨ (-18446744073709551616 < j ∧ j < 18446744073709551616) ∨ CMulW i j
def CDivA (_ j : Int) : Prop := 0 < j ∧ (j < 18446744073709551616 ∨ j.natAbs.log2 < 9000)
theorem op_mulA {X : Cx} : OpR X (binaryOp .Mult) (rI CMulA fun i j => .int (i * j)) := by
  intro pins s σ H x y v u Q I rx ry h
  obtain ⟨i, j, ex, ey, c, q⟩ := h
  have e : (2 : Int) ^ 64 = 18446744073709551616 := by decide
  rcases c with c | c | c
  · exact op_mul pins s σ H x y v u Q I rx ry ⟨i, j, ex, ey, .inl (by rw [e]; exact c), q⟩
  · exact op_mul pins s σ H x y v u Q I rx ry ⟨i, j, ex, ey, .inr (by rw [e]; exact c), q⟩
  · exact op_mulW pins s σ H x y v u Q I rx ry ⟨i, j, ex, ey, c, q⟩
theorem op_divA {X : Cx} : OpR X (binaryOp .FloorDiv) (rI CDivA fun i j => .int (i / j)) := by
  intro pins s σ H x y v u Q I rx ry h
  obtain ⟨i, j, ex, ey, ⟨c1, c2⟩, q⟩ := h
  refine op_fdivW pins s σ H x y v u Q I rx ry ⟨i, j, ex, ey, ?_, q⟩
  rcases c2 with c | c
  · exact div64 i c1 c
  · exact ⟨c1, c⟩
/-! ### the hand -/
section
variable {p : Par} {ρ : Rho} {Q : D → Prop} {ta tb te td ty : TE} {tt tu : TT} {P : Post} {ts tv : TS} {g : TG}
theorem we_hand0 (h : WE p ρ ta fun x => x = .hand ∧ ∀ ns : List Int, ns.length ≤ 63 → Q (.lst (ns.map D.int))) : WE p ρ (tOp (rIxL p.K) ta (tC (.int 0))) Q := fun G σ H hh Qv k =>
  h G σ H hh _ fun x v G1 H1 ⟨e, q⟩ s1 r1 => by
    subst e
    cases r1
    obtain ⟨ns, i, r, n, h1, h2, h3, _⟩ := s1.hand
    exact ⟨p.h.a, _, 0, .ref p.h.c, rfl, rfl, sq_of h1, rfl, k _ _ G1 H1 (q ns h3) s1 (.lst h2 (RpL.ofInts ns))⟩
theorem we_handN {j : Int} (hj : j = 1 ∨ j = 2 ∨ j = 3) (h : WE p ρ ta fun x => x = .hand ∧ ∀ i : Int, 0 ≤ i → Q (.int i)) : WE p ρ (tOp (rIxL p.K) ta (tC (.int j))) Q := fun G σ H hh Qv k =>
  h G σ H hh _ fun x v G1 H1 ⟨e, q⟩ s1 r1 => by
    subst e
    cases r1
    obtain ⟨ns, i, r, n, h1, h2, h3, h4, h5, h6⟩ := s1.hand
    rcases hj with e | e | e
    · subst e; exact ⟨p.h.a, _, 1, .int i, rfl, rfl, sq_of h1, rfl, k _ _ G1 H1 (q i h4) s1 (.int _)⟩
    · subst e; exact ⟨p.h.a, _, 2, .int r, rfl, rfl, sq_of h1, rfl, k _ _ G1 H1 (q r h5) s1 (.int _)⟩
    · subst e; exact ⟨p.h.a, _, 3, .int n, rfl, rfl, sq_of h1, rfl, k _ _ G1 H1 (q n h6) s1 (.int _)⟩
theorem Hold.handed {G : Hp} {σ : L2.St} {H H' : Hp} (hh : Hold p ρ G σ H) (hne : ∀ a, a ≠ p.h.a → H' a = H a) (hd : Hand p.K G H' p.h) : Hold p ρ G σ H' := by
  refine ⟨⟨fun b u z => ?_, hh.mem.gh, fun b u n t z => by rw [hne b n]; exact hh.mem.base b u n t z, hh.mem.g0, hh.mem.new, hd, hh.mem.gt, fun q hq => ?_⟩, hh.len, fun j c e => ?_, hh.sep⟩
  · rw [hne b (fun y => by rw [y, hh.mem.gh] at z; cases z)]; exact hh.mem.sub b u z
  · obtain ⟨xs, hx⟩ := hh.mem.hand.some
    have ne : ∀ {b : Addr} {u : HO}, H b = some u → (∀ ys, u ≠ .lst ys) → H' b = some u := fun {b u} e t => by
      rw [hne b (fun z => by rw [z, hx] at e; exact t xs (Option.some.inj e).symm)]
      exact e
    obtain ⟨ps, h1, h2, h3⟩ := hh.mem.tab q hq
    refine ⟨ps, ne h1 (fun ys z => by cases z), h2, fun pos cv hc => ?_⟩
    obtain ⟨c, e1, e2⟩ := h3 pos cv hc
    exact ⟨c, e1, ne e2 (fun ys z => by unfold LamX.CodeO at z; cases z)⟩
  · obtain ⟨sv, h1, h2⟩ := hh.slot j c e
    refine ⟨sv, h1, ?_⟩
    cases c with
    | d x => exact h2
    | ol xs => obtain ⟨b, vs, h3, h4, h5, h6⟩ := h2; exact ⟨b, vs, h3, h4, by rw [hne b h4.2.2]; exact h5, h6⟩
    | ok xs => obtain ⟨b, vs, h3, h4, h5, h6⟩ := h2; exact ⟨b, vs, h3, h4, by rw [hne b h4.2.2]; exact h5, h6⟩
    | ot xs => obtain ⟨b, vs, h3, h4, h5, h6⟩ := h2; exact ⟨b, vs, h3, h4, by rw [hne b h4.2.2]; exact h5, h6⟩
    | rw b u => obtain ⟨h3, h4, h5, h6⟩ := h2; exact ⟨h3, h4, by rw [hne b h4.2.2]; exact h5, h6⟩
    | lk xs => obtain ⟨b, od, vs, h3, h4, h5, h6⟩ := h2; exact ⟨b, od, vs, h3, h4, by rw [hne b h4.2.2]; exact h5, h6⟩
    | lt xs => obtain ⟨b, od, vs, h3, h4, h5, h6⟩ := h2; exact ⟨b, od, vs, h3, h4, by rw [hne b h4.2.2]; exact h5, h6⟩
    | oi _ C xs => obtain ⟨b, od, vs, h3, h4, h5, h6⟩ := h2; exact ⟨b, od, vs, h3, h4, by rw [hne b h4.2.2]; exact h5, h6⟩
theorem ws_handN {j : Int} (hj : j = 1 ∨ j = 2 ∨ j = 3) (h : WE p ρ te fun y => ∃ i, y = .int i ∧ 0 ≤ i ∧ WE p ρ ta fun x => x = .hand ∧ P.n ρ) : WS p ρ (tAsg te (gSub ta (tC (.int j)) rSetL)) P := fun G σ H hh E kn kr kb kc =>
  h G σ H hh _ fun y w G1 H1 ⟨z, e, hz, q⟩ s1 r1 => q G1 σ H1 (hh.step s1) _ fun x v G2 H2 ⟨e2, q2⟩ s2 r2 => by
    subst e e2
    cases r1
    cases r2
    have hh2 := (hh.step s1).step s2
    obtain ⟨ns, i, r, n, h1, h2, h3, h4, h5, h6⟩ := s2.hand
    have go : ∀ (jn : Nat) (xs' : List V), Hand p.K G2 (upd H2 p.h.a (.lst xs')) p.h → E.nx σ (upd H2 p.h.a (.lst xs')) := fun jn xs' hd =>
      kn ρ G2 σ _ q2 (ex_tr s1.ex s2.ex) (hh2.handed (fun a ha => upd_ne ha) hd)
    rcases hj with e | e | e
    · subst e
      exact ⟨p.h.a, _, 1, 1, rfl, rfl, h1, rfl, go 1 _ ⟨ns, z, r, n, upd_same, h2, h3, hz, h5, h6⟩⟩
    · subst e
      exact ⟨p.h.a, _, 2, 2, rfl, rfl, h1, rfl, go 2 _ ⟨ns, i, z, n, upd_same, h2, h3, h4, hz, h6⟩⟩
    · subst e
      exact ⟨p.h.a, _, 3, 3, rfl, rfl, h1, rfl, go 3 _ ⟨ns, i, r, z, upd_same, h2, h3, h4, h5, hz⟩⟩
end
/-! ### chains, truth -/
section
variable {p : Par} {ρ : Rho} {Q : D → Prop} {ta tb tc te td ty : TE} {tt tu : TT} {P : Post} {ts tv : TS} {g : TG}
theorem we_chain {f f' : Int → Int → Bool} (h : WE p ρ ta fun x => ∃ i, x = .int i ∧ WE p ρ tb fun y => ∃ j, y = .int j ∧ (f i j = true → WE p ρ tc fun z => ∃ k, z = .int k ∧ Q (.bl (f' j k))) ∧ (f i j = false → Q (.bl false))) :
    WE p ρ (tChain (rI0 fun i j => .bl (f i j)) (rI0 fun i j => .bl (f' i j)) ta tb tc) Q := fun G σ H hh Qv k =>
  h G σ H hh _ fun x v G1 H1 ⟨i, e1, h2⟩ s1 r1 => h2 G1 σ H1 (hh.step s1) _ fun y w G2 H2 ⟨j, e2, q1, q2⟩ s2 r2 => by
    subst e1 e2
    refine ⟨i, j, rp_int r1, rp_int r2, f i j, rfl, ?_⟩
    cases hb : f i j with
    | false => rw [if_neg (by decide)]; exact k _ _ G2 H2 (q2 hb) (s1.trans s2) (.bl _)
    | true =>
      rw [if_pos rfl]
      refine q1 hb G2 σ H2 ((hh.step s1).step s2) _ fun z u G3 H3 ⟨l, e3, q⟩ s3 r3 => ?_
      subst e3
      exact ⟨j, l, rp_int r2, rp_int r3, k _ _ G3 H3 q ((s1.trans s2).trans s3) (.bl _)⟩
end
/-! ### kinds -/
def isIB : D → Bool | .int _ => true | .bl _ => true | _ => false
def isBl : D → Bool | .bl _ => true | _ => false
def isI : D → Bool | .int _ => true | _ => false
def isTu : D → Bool | .tup _ => true | _ => false
def isLs : D → Bool | .lst _ => true | _ => false
theorem kb_int : ∀ {x : D} {t : String}, tyD x = some t → kitB t "int" = some (isIB x)
  | .non, _, h => by cases h; exact kb_none_int
  | .bl _, _, h => by cases h; exact kb_bool_int
  | .int _, _, h => by cases h; exact kb_int_int
  | .str _, _, h => by cases h; exact kb_str_int
  | .tup _, _, h => by cases h; exact kb_tuple_int
  | .lst _, _, h => by cases h; exact kb_list_int
  | .dK _, _, h => by cases h; exact kb_dict_int
  | .hand, _, h => by cases h
  | .dT _, _, h => by cases h
  | .raw _, _, h => by cases h
  | .ins _ _, _, h => by cases h
theorem kb_bool : ∀ {x : D} {t : String}, tyD x = some t → kitB t "bool" = some (isBl x)
  | .non, _, h => by cases h; exact kb_none_bool
  | .bl _, _, h => by cases h; exact kb_bool_bool
  | .int _, _, h => by cases h; exact kb_int_bool
  | .str _, _, h => by cases h; exact kb_str_bool
  | .tup _, _, h => by cases h; exact kb_tuple_bool
  | .lst _, _, h => by cases h; exact kb_list_bool
  | .dK _, _, h => by cases h; exact kb_dict_bool
  | .hand, _, h => by cases h
  | .dT _, _, h => by cases h
  | .raw _, _, h => by cases h
  | .ins _ _, _, h => by cases h
theorem kb_tuple : ∀ {x : D} {t : String}, tyD x = some t → kitB t "tuple" = some (isTu x)
  | .non, _, h => by cases h; exact kb_none_tuple
  | .bl _, _, h => by cases h; exact kb_bool_tuple
  | .int _, _, h => by cases h; exact kb_int_tuple
  | .str _, _, h => by cases h; exact kb_str_tuple
  | .tup _, _, h => by cases h; exact kb_tuple_tuple
  | .lst _, _, h => by cases h; exact kb_list_tuple
  | .dK _, _, h => by cases h; exact kb_dict_tuple
  | .hand, _, h => by cases h
  | .dT _, _, h => by cases h
  | .raw _, _, h => by cases h
  | .ins _ _, _, h => by cases h
/-! ### more built-ins -/
section
variable {p : Par} {ρ : Rho} {Q : D → Prop} {ta tb tc te td ty : TE} {tt tu : TT} {P : Post} {ts tv : TS} {g : TG}
theorem we_isiT {A B : String} (h : WE p ρ te fun x => ∃ t a b, tyD x = some t ∧ kitB t A = some a ∧ kitB t B = some b ∧ Q (.bl (a || b))) : WE p ρ (tCB (rIsiT p.K) (tCons te (tCons (tTup (tCons (tC (.ty A)) (tCons (tC (.ty B)) tNil))) tNil))) Q := fun G σ H hh Qv k =>
  h G σ H hh _ fun x v G1 H1 ⟨t, a, b, e1, e2, e3, q⟩ s r => ⟨sz (Nat.le_of_ble_eq_true rfl), fun tp hp => by
    have s2 := (hh.step s).mem.grow (o := .tup [.ty A, .ty B]) hp
    refine ⟨v, tp, [.ty A, .ty B], .type t, [.type A, .type B], a || b, rfl, upd_same, .cons (.ty A) (.cons (.ty B) .nil), tyD_x s2.sub (rmono r s2.ex) e1, ?_, k _ _ _ _ q (s.trans s2) (.bl _)⟩
    refine kitAny_cons (kit_ty e2) (fun ha => ?_) (fun ha => by rw [ha]; rfl)
    rw [ha]
    refine kitAny_cons (kit_ty e3) (fun hb => ?_) (fun hb => by rw [hb]; rfl)
    rw [hb]
    exact kitAny_nil⟩
theorem we_eqB (h : WE p ρ ta fun x => ∃ i, x = .bl i ∧ WE p ρ tb fun y => ∃ j, y = .bl j ∧ Q (.bl (i == j))) : WE p ρ (tOp rEq ta tb) Q :=
  we_op (h.imp fun x ⟨i, e, h⟩ => h.imp fun y ⟨j, e2, q⟩ => fun G H v w m r1 r2 Qv k => by
    subst e e2
    rw [rp_bl r1, rp_bl r2]
    refine ⟨rfl, ?_⟩
    rw [dec_bl]
    exact k _ _ G H q m.refl (.bl _))
theorem we_sum (h : WE p ρ te fun x => ∃ ns : List Int, x = .lst (ns.map D.int) ∧ Q (.int ns.sum)) : WE p ρ (tCB (rSum p.K) (tCons te tNil)) Q :=
  we_cb (wa_cons (h.imp fun x ⟨ns, e, q⟩ => wa_nil fun G H vs m r Qv k => by
    subst e
    cases r with
    | cons r rn =>
      cases rn
      obtain ⟨a, us, ev, hs, hl⟩ := r.lst_inv
      subst ev
      rw [hl.ints] at hs
      exact ⟨a, ns, rfl, lq m.sub hs, k _ _ G H q m.refl (.int _)⟩))
end
/-! ### the law's own start -/
/-- a def by a promise of its own -/
structure DfnR (P : Program) (w : World) (K : PySem.W.Frag) (mg : Str → Option Value) (base : Heap) (k : Nat) (x : Str) (ps : List Str) (sp : Sp) : Prop where
  ex : ∃ f fd, mg x = some (.ref f) ∧ PySem.W.keepIn K (.ref f) = true ∧ FnOk P w K mg base CX0 k f fd ps sp ∧ Binds K fd ps []
section
variable {X : Cx} {x : Str} {p pos : Pos} {e : Expr} {es : List Expr} {t : TA} {k : Nat} {ps : List Str} {sp : Sp}
theorem pe_callR (F : DfnR X.prog X.w X.K X.mg X.base k x ps sp) (hr : Room k X.A) (ha : PA X (e :: es) t) (hg : Gl X x := by rfl) (hdb : (x == ("__debug__" : Str)) = false := by decide)
    (he : starEach (e :: es) X.env = (false, eval e X.env) :: starEach es X.env := by rfl) (hpl : (backTo pos (starEach es X.env)).any (·.1) = false := by rfl) : PE X (.Call (.Name x p) (e :: es) [] pos) (tCall sp [] E0 t) := by
  obtain ⟨f, fd, h1, h2, h3, h4⟩ := F.ex
  exact pe_call h3 hr hg h1 h2 h4 .nil pass0 ha hdb he hpl
end
section
variable {P : Program} {w : World} {K : PySem.W.Frag} {mg : Str → Option Value} {base : Heap}
theorem mkR {x : Str} {st : Stmt} {N ps : List Str} {k : Nat} {sp : Sp} (F : Src K mg x st) (sc : FnScope N ps (defScope st))
    (hb : ∀ (kV doc pm : Value) (an : Option Addr) (cdv ct : Value) (us : List Value), us.length = ps.length → bindArgs (PySem.W.fnOf x x (defArgs st) (defBody st) (defScope st) .none kV doc pm an cdv ct) ⟨us, []⟩ = pure (ps.zip us))
    (len : ∀ vs H Q E, sp vs H Q E → vs.length = ps.length)
    (body : ∀ (f : Addr) (cdv : Value) (A : Around) (outer : List Env) (s : Shared) (H : Hp) (E : XK), Room k (A.deeper (envOfC x (defScope st) s.heap.objs.size f cdv)) →
      ∃ t, PSs (cxOf CX0 P w K mg base N x (defScope st) f cdv A outer s H E).nox (defBody st) t ∧ ∀ vs Q, sp vs H Q E → t { nx := fun _ H' => Q .non H', rt := Q } (L2.start N vs) H) : DfnR P w K mg base (k + 1) x ps sp := by
  obtain ⟨f, fd, hm, F⟩ := F.ex
  refine ⟨f, fd, hm, F.kp, F.ok sc len (fun cdv A outer s H vs Q E hr h => ?_), F.binds hb⟩
  obtain ⟨t, ht, hw⟩ := body f cdv A outer s H E hr
  exact ⟨t, ht, hw vs Q h⟩
end
/-- _law_hand's promise -/
def spHand (K : PySem.W.Frag) : Sp := fun vs H Q _ => ∃ (a : Addr) (ns : List Int), vs = [.ref a] ∧ SqL K H a (ns.map V.int) ∧ ns.length ≤ 63 ∧
  ∀ (h c : Addr) (H' : Hp), Ex H H' → h ≠ c → H' h = some (.lst [.ref c, .int 0, .int 0, .int 0]) → H' c = some (.lst (ns.map V.int)) → Q (.ref h) H'
def spLaw (K : PySem.W.Frag) : Sp := fun vs H Q _ => ∃ (a : Addr) (ns : List Int), vs = [.ref a] ∧ SqL K H a (ns.map V.int) ∧ ns.length ≤ 63 ∧ ∀ H', Q (.bl true) H'
def lawP : Post := ⟨fun _ => False, fun d => d = .bl true, fun _ => False, fun _ => False⟩
theorem law_go {K : PySem.W.Frag} {H : Hp} {h c : Addr} {T : List (Addr × Str)} {ns : List Int} {σ : L2.St} {ts : TS} {E : Ends} (ρ : Rho) (hne : h ≠ c) (hl : ns.length ≤ 63) (hh : H h = some (.lst [.ref c, .int 0, .int 0, .int 0])) (hc : H c = some (.lst (ns.map V.int)))
    (len : σ.length = ρ.length) (hρ : ∀ (i : Nat) (x : Cell), ρ[i]? = some (some x) → x = .d .hand ∧ σ[i]? = some (some (.ref h))) (hw : ∀ H0 G0, WS ⟨K, ⟨h, c, T⟩, H0, G0⟩ ρ ts lawP) (hE : ∀ H', E.rt (.bl true) H') (hT : LamX.Tabs T H) : ts E σ H := by
  let G : Hp := fun a => if a = h then none else match H a with
    | some (.tbl _) => none
    | o => o
  have hG : ∀ a o, G a = some o → H a = some o ∧ a ≠ h ∧ ∀ ps, o ≠ .tbl ps := fun a o e => by
    by_cases ha : a = h
    · have : G a = none := if_pos ha
      rw [this] at e; cases e
    · have : G a = match H a with
          | some (.tbl _) => none
          | o => o := if_neg ha
      rw [this] at e
      split at e
      · cases e
      · rename_i x
        exact ⟨e, ha, fun ps z => by subst z; exact x _ e⟩
  have hGc : G c = some (.lst (ns.map V.int)) := by
    have : G c = match H c with
          | some (.tbl _) => none
          | o => o := if_neg (Ne.symm hne)
    rw [this, hc]
  have m : Mem ⟨K, ⟨h, c, T⟩, H, G⟩ G H := ⟨fun a o e => (hG a o e).1, if_pos rfl, fun _ _ _ _ e => e, fun _ _ e => e, fun _ _ e => .inl e, ⟨ns, 0, 0, 0, hh, hGc, hl, by omega, by omega, by omega⟩, fun a ps e => (hG a _ e).2.2 ps rfl, hT⟩
  refine hw H G G σ H ⟨m, len, fun i x e => ?_, fun i j x x' a e1 o1 e2 o2 _ _ => ?_⟩ E (fun _ _ _ _ z => z.elim) (fun d v G' H' z _ r => ?_) (fun _ _ _ _ z => z.elim) fun _ _ _ _ z => z.elim
  · obtain ⟨rfl, q⟩ := hρ i x e
    exact ⟨_, q, _, rfl, .hand⟩
  · obtain ⟨rfl, _⟩ := hρ i x e1
    cases o1
  · have z' : d = .bl true := z
    subst z'
    rw [rp_bl r]
    exact hE H'
/-- behind a statement what slot i owns is plain data -/
theorem ws_endfreeze {p : Par} {ρ : Rho} {ts : TS} {P : Post} (i : Nat) (h : WS p ρ ts { P with n := fun ρ' => ∃ c, ρ'[i]? = some (some c) ∧ c.isOwn = true ∧ P.n (ρ'.set i (some (.d c.toD))) }) : WS p ρ ts P := fun G σ H hh E kn kr kb kc =>
  h G σ H hh E (fun ρ' G' σ' H' ⟨c, e, ho, z⟩ ex hh' => by
    obtain ⟨sv, h1, h2⟩ := hh'.slot i _ e
    obtain ⟨a, u, h3, _, _⟩ := Cell.own_ref h2 ho
    subst h3
    obtain ⟨o, ha, ow, r⟩ := h2.toD ho
    obtain ⟨hh2, ex2⟩ := hh'.freeze e ho h1 ow ha r
    exact kn _ _ σ' H' z (ex_tr ex ex2) hh2) kr kb kc
theorem law_go1T {K : PySem.W.Frag} {H : Hp} {h c a : Addr} {T : List (Addr × Str)} {ns : List Int} {ts : TS} {E : Ends} (k : Nat) (hne : h ≠ c) (hl : ns.length ≤ 63) (hh : H h = some (.lst [.ref c, .int 0, .int 0, .int 0])) (hc : H c = some (.lst (ns.map V.int)))
    (hw : ∀ H0 G0, WS ⟨K, ⟨h, c, T⟩, H0, G0⟩ (none :: some (.d .hand) :: List.replicate k none) ts lawP) (hE : ∀ H', E.rt (.bl true) H') (hT : LamX.Tabs T H) : ts E (some (.ref a) :: some (.ref h) :: List.replicate k none) H := by
  refine law_go (none :: some (.d .hand) :: List.replicate k none) hne hl hh hc (by simp) (fun i x e => ?_) hw hE hT
  match i, e with
  | 0, e => simp at e
  | 1, e =>
    simp only [List.getElem?_cons_succ, List.getElem?_cons_zero, Option.some.injEq] at e
    subst e
    exact ⟨rfl, rfl⟩
  | i + 2, e =>
    simp only [List.getElem?_cons_succ, List.getElem?_replicate] at e
    split at e <;> cases e
theorem law_go1 {K : PySem.W.Frag} {H : Hp} {h c a : Addr} {ns : List Int} {ts : TS} {E : Ends} (k : Nat) (hne : h ≠ c) (hl : ns.length ≤ 63) (hh : H h = some (.lst [.ref c, .int 0, .int 0, .int 0])) (hc : H c = some (.lst (ns.map V.int)))
    (hw : ∀ H0 G0, WS ⟨K, ⟨h, c, []⟩, H0, G0⟩ (none :: some (.d .hand) :: List.replicate k none) ts lawP) (hE : ∀ H', E.rt (.bl true) H') : ts E (some (.ref a) :: some (.ref h) :: List.replicate k none) H :=
  law_go1T (T := []) k hne hl hh hc hw hE (fun _ z => nomatch z)
/-! ### the rules with the written part by its name -/
section
variable {X : Cx} {K0 : PySem.W.Frag}
theorem ix_tupK (hK : X.K = K0) : IxR X (rIxT K0) := hK ▸ ix_tup
theorem ix_listK (hK : X.K = K0) : IxR X (rIxL K0) := hK ▸ ix_list
theorem sl_tupK (hK : X.K = K0) : SlR X (rSlA K0) := hK ▸ sl_tupA
theorem sl_listK (hK : X.K = K0) : SlR X (rSlL K0) := hK ▸ sl_list
theorem op_catK (hK : X.K = K0) : OpR X (binaryOp .Add) (rCatA K0) := hK ▸ op_catA
theorem op_eqK (hK : X.K = K0) (hu : X.A.units + 64 < cLine) : OpR X (compareOp .Eq) (rEqD K0) := hK ▸ op_eqD hu
theorem op_neK (hK : X.K = K0) (hu : X.A.units + 64 < cLine) : OpR X (compareOp .NotEq) (rNeD K0) := hK ▸ op_neD hu
theorem call_lenK (hK : X.K = K0) : CallR X (.builtin "len") (fun xs H Q => ∃ q ys, xs = [V.ref q] ∧ (SqL K0 H q ys ∨ SqT K0 H q ys) ∧ Q (.int ys.length) H) := hK ▸ call_len_seq
theorem call_tupleK (hK : X.K = K0) : CallR X (.type "tuple") (fun xs H Q => ∃ q ys, xs = [V.ref q] ∧ ((SqL K0 H q ys ∧ ∀ l, H l = none → Q (.ref l) (upd H l (.tup ys))) ∨ (SqT K0 H q ys ∧ Q (.ref q) H))) := hK ▸ call_tuple_of
theorem call_listK (hK : X.K = K0) : CallR X (.type "list") (fun xs H Q => ∃ q ys, xs = [V.ref q] ∧ (SqL K0 H q ys ∨ SqT K0 H q ys) ∧ ∀ l, H l = none → Q (.ref l) (upd H l (.lst ys))) := hK ▸ call_list_of
theorem call_isiK0 (hK : X.K = K0) : CallR X (.builtin "isinstance") (rIsi K0) := hK ▸ call_isi
theorem call_isiTK (hK : X.K = K0) : CallR X (.builtin "isinstance") (rIsiT K0) := hK ▸ call_isiT
theorem cr_sumK (hK : X.K = K0) (hc : X.calm = true) : CallR X (.builtin "sum") (rSum K0) := hK ▸ cr_sum hc
variable {x : Str} {p pos : Pos} {e : Expr} {es : List Expr} {t : TA} {k : Nat} {ps : List Str} {S : List D → (D → Prop) → Prop}
theorem pe_callK0 (hK : X.K = K0) (F : Dfn X.prog X.w K0 X.mg X.base k x ps S) (hr : Room k X.A) (ha : PA X (e :: es) t) (hg : Gl X x := by rfl) (hdb : (x == ("__debug__" : Str)) = false := by decide)
    (he : starEach (e :: es) X.env = (false, eval e X.env) :: starEach es X.env := by rfl) (hpl : (backTo pos (starEach es X.env)).any (·.1) = false := by rfl) : PE X (.Call (.Name x p) (e :: es) [] pos) (tCall (spD K0 S) [] E0 t) := by
  subst hK
  exact pe_callD F hr ha hg hdb he hpl
theorem pe_call00 (hK : X.K = K0) (F : Dfn X.prog X.w K0 X.mg X.base k x ps S) (hr : Room k X.A) (hg : Gl X x := by rfl) (hdb : (x == ("__debug__" : Str)) = false := by decide) : PE X (.Call (.Name x p) [] [] pos) (tCall (spD K0 S) [] E0 tNil) := by
  subst hK
  exact pe_call0D F hr hg hdb
variable {tg l : Expr} {tl : TE}
theorem pi_listK (hK : X.K = K0) (hl : PE X l tl) : PI X tg l (iList K0 tl) := by subst hK; exact pi_list hl
theorem pi_tupK (hK : X.K = K0) (hl : PE X l tl) : PI X tg l (iTup K0 tl) := by subst hK; exact pi_tup hl
end
end Cal
set_option Elab.async false
set_option linter.all false
set_option maxRecDepth 100000
set_option maxHeartbeats 4000000
namespace Cal
open PySem L2 PyProof.Rows
section
variable {X : Cx} {x : Str} {C : Addr} {e : Expr} {es : List Expr} {ta : TA} {te : TE} {p p1 p2 pos : Pos}
/-- C.__init__(e, ..) of a class of the program that has ValueError's own __init__ -/
theorem pe_cinit {pl : Sem Bool} (hm : X.mg x = some (.ref C)) (hga : PySem.W.specialIn X.K (.ref C) "__getattribute__" = some (some (.builtin "type.__getattribute__"))) (hr : PySem.W.readsIn X.K C (.type "type") = true)
    (hv : PySem.W.findCls X.K (.ref C) (.type "type") "__init__" = some (.val (.builtin "ValueError.__init__"))) (ha : PA X (e :: es) ta) (hg : Gl X x := by rfl) (hdb : (x == ("__debug__" : Str)) = false := by decide)
    (hc : eval (.Call (.Attribute (.Name x p1) "__init__" p2) (e :: es) [] pos) X.env = (do let ov ← eval (.Name x p1) X.env; standAt p2.atName; let (f, first) ← holding [ov] (getMethod ov "__init__" pl); callWith pos f first (backTo pos (starEach (e :: es) X.env)) (backToKw pos (keywordEach [] X.env))) := by rfl)
    (he : starEach (e :: es) X.env = (false, eval e X.env) :: starEach es X.env := by rfl) (hpl : (backTo pos (starEach es X.env)).any (·.1) = false := by rfl) : PE X (.Call (.Attribute (.Name x p1) "__init__" p2) (e :: es) [] pos) (tVeI X.K ta) := by
  refine ⟨fun pins s σ H Q I h => PySem.W.methodCall_KW (ld_glob I hg hm ?_ hdb) hc⟩
  refine PySem.W.method_cls I.kIn hga (PySem.W.cls_value I.kIn hr hv rfl ?_)
  show wpAny _ _ (callWith pos (Value.builtin "ValueError.__init__") [] (backTo pos (starEach (e :: es) X.env)) []) _ _ _
  refine PyProof.Rows.callWith_method1 (thn (ha.run pos pins _ σ H _ ((I.tok _).tok _) h) fun us s1 hh => ?_) he hpl
  obtain ⟨vs, H1, I1, r1, a, C', ws, ev, hl, T, ea, q⟩ := hh
  subst ev
  cases r1 with
  | @cons _ u0 _ ur ra rw' =>
    have eu : u0 = Value.ref a := ra
    subst eu
    exact oinit_ok T I1 ea (by rw [← Paired.length rw', sizeLine_eq]; omega) fun s' J => ⟨.non, H1, J, rfl, q⟩

/-- behind C(): the exception, that has no dict, is let go -/
theorem mk_endN {X : Cx} {pins : List (Addr × Obj)} {σ : L2.St} {H1 H2 : Hp} {Q : XK} {hp hp2 h2 : Heap} {g1 g2 : Array GenState} {d1 d2 : Drawn} {t1 t2 : Nat} {os1 os2 : OsState} {a C : Addr} (T : Raises X (.ref C)) (I1 : Inv X pins σ H1 ⟨hp, g1, d1, t1, os1⟩)
    (ha : hp.objs.size ≤ a) (k : ∀ b o, hp.get? b = some o → hp2.get? b = some o) (un : Un (frs X.stack) [] (upd H1 a (exo a C none)) H2 hp2 h2) (hok : HOk X.prog X.w H2 h2) (ho : os2 = os1) (hb : AllBare g2) (ea : H2 a = some (exo a C none)) (q : Q (.ref C) none (del H2 a)) :
    MkP X pins σ Q (.ref a) ⟨h2, g2, d2, t2, os2⟩ := by
  obtain ⟨t0, hoe⟩ := exo_at hok ea
  have hn : H1 a = none := I1.hok.fresh ha
  obtain ⟨G, gk0, ge0⟩ := restrict h2 fun b => decide (b ≠ a)
  have gk : ∀ b, b ≠ a → G.get? b = h2.get? b := fun b hb' => gk0 b (decide_eq_true hb')
  have ge : G.get? a = none := ge0 a (by simp)
  have nha : ∀ {b : Addr} {o : Obj}, hp.get? b = some o → b ≠ a := fun {b o} z => Nat.ne_of_lt (Nat.lt_of_lt_of_le (Heap.lt_size z) ha)
  have up : ∀ {b : Addr}, b ≠ a → H1 b = none → upd H1 a (exo a C none) b = none := fun {b} hb' n => (upd_ne hb').trans n
  have U : Un (frs X.stack) [] H1 (del H2 a) hp G := by
    constructor
    · intro b o z n hf hx; rw [gk b (nha z)]; exact un.keep b o (k b o z) (up (nha z) n) hf hx
    · intro b o z n hf hx; rw [gk b (nha z)]; exact un.slot b o (k b o z) (up (nha z) n) hf hx
    · intro b o z n hx; rw [del_ne (nha z)]; exact un.free b o (k b o z) (up (nha z) n) hx
    · intro b o z hx; rw [gk b (nha z)]; exact un.there b o (k b o z) hx
    · intro b xs z; rw [del_ne (ne_of_none z hn)]; exact un.tups b xs ((upd_ne (ne_of_none z hn)).trans z)
    · intro b o v z; rw [del_ne (ne_of_none z hn)]; exact un.frzs b o v ((upd_ne (ne_of_none z hn)).trans z)
    · intro b ps z; rw [del_ne (ne_of_none z hn)]; exact un.tbls b ps ((upd_ne (ne_of_none z hn)).trans z)
  have hok3 : HOk X.prog X.w (del H2 a) G := by
    intro b o z
    have hba : b ≠ a := fun e' => by rw [e', del_same] at z; cases z
    rw [del_ne hba] at z
    have noa : ∀ {c : Addr}, H2 c = some (.own b) → c ≠ a := fun {c} hc => at_ne ea hc exo_own
    refine (hok b o z).stay (fun c v hc y => ?_) (fun c hc => (del_ne (noa hc)).trans hc) fun c xs hc => (del_ne (at_ne ea hc exo_tup)).trans hc
    have hca : c ≠ a := by rcases hc with rfl | hc <;> first | exact hba | exact noa hc
    rw [gk c hca]; exact y
  have J : Inv X pins σ (del H2 a) ⟨G, g2, d2, t2, os2⟩ := I1.call' (ch := []) ho U hok3 hb fun b z => absurd z (by simp)
  refine ⟨a, _, _, ⟨G, g2, d2, t2, os2⟩, _, .ref C, none, rfl, J, fun b o z => ?_, ge, hoe, ⟨rfl, rfl⟩, rfl, rfl, del_same, rfl, hb, T, q⟩
  by_cases hba : b = a
  · rw [hba, ge] at z; cases z
  · exact (gk b hba).symm.trans z
/-- C() of an own exception class whose __init__ keeps nothing -/
def tMk0 (C : Addr) (sp : Sp) : L2.St → Hp → XK → Prop := fun _ H Q => ∀ a, H a = none → sp [.ref a] (upd H a (exo a C none)) (fun v H2 => v = .non ∧ H2 a = some (exo a C none) ∧ Q (.ref C) none (del H2 a)) E0
theorem pmk_oe0 {CX : CXT} {fI : Addr} {k : Nat} {fd : FuncData} {ps : List Str} {sp : Sp} (T : OexC X.K C) (iC : PySem.W.findIn X.K (.ref C) "__init__" = some (some (.ref fI))) (tI : PySem.W.typeIn X.K (.ref fI) = some (.type "function"))
    (F1 : FnOk X.prog X.w X.K X.mg X.base CX k fI fd ps sp) (hr : Room (k + 1) X.A) (hb : Binds X.K fd ps []) (hx : Passes CX X E0) (hm : X.mg x = some (.ref C)) (hg : Gl X x := by rfl) (hdb : (x == ("__debug__" : Str)) = false := by decide) :
    PMk X (.Call (.Name x p) [] [] pos) (tMk0 C sp) := by
  intro pins s σ H Q I h
  obtain ⟨nm, q, N, bs, bm, sn, sub, ab, col, dd, k0, k1, k2, k3, k5, hC, hbm⟩ := T.cls
  refine wpAny_Call_Name_kw (ld_glob I hg hm ?_ hdb)
  refine PySem.W.callWith_K0 I.kIn T.kC ?_
  show wpAny _ _ (call (.ref C) []) _ _ _
  obtain ⟨hp, g, dr, tk, os⟩ := s
  have hsz : hp.objs.size ≤ hp.objs.size + 1 := Nat.le_succ _
  have hq := h (hp.objs.size + 1) (I.hok.fresh hsz)
  have kk : ∀ b o, hp.get? b = some o → ((hp.push (PySem.W.kdv_tup [])).push (PySem.HandSPX.excO C hp.objs.size)).get? b = some o := fun b o e' => Heap.get?_push_of_some _ (Heap.get?_push_of_some _ e')
  have hget : ((hp.push (PySem.W.kdv_tup [])).push (PySem.HandSPX.excO C hp.objs.size)).get? (hp.objs.size + 1) = some (PySem.HandSPX.excO C hp.objs.size) := by heap_get
  have I2 : Inv X pins σ (upd H (hp.objs.size + 1) (exo (hp.objs.size + 1) C none)) ⟨(hp.push (PySem.W.kdv_tup [])).push (PySem.HandSPX.excO C hp.objs.size), g, dr, tk, os⟩ := I.laid (t' := tk) kk hsz (exo_ok hget)
  have r2 : Vals [V.ref (hp.objs.size + 1)] [Value.ref (hp.objs.size + 1)] := .cons rfl .nil
  have hl : ([Value.ref (hp.objs.size + 1)] ++ []).length = ps.length := (F1.len _ _ _ _ hq)
  refine wpAny_call (PySem.HandSPX.call_own F.excBase_ValueError (fun Y => PySem.HandSPX.refsVE_contains Y bm hbm) (I.kIn _ _ hC) (PySem.W.looks_findIn I.kIn iC) (fun self => PySem.W.bind_fn I.kIn self tI) (Nat.zero_le _)
    (codeAny_mono (F1.run _ X.stack _ _ ⟨[Value.ref (hp.objs.size + 1)], []⟩ [Value.ref (hp.objs.size + 1)] _ _ E0 (hr.make C [] []) (I2.env0.make C [] []) (hb _ [Value.ref (hp.objs.size + 1)] I2.kIn hl) r2 hq) fun r s' hq' => ?_))
  cases r with
  | error er => exact hx pins σ _ _ er s' I2 hq'
  | ok fl =>
    cases fl with
    | ret u =>
      obtain ⟨v, H2, os2, bare2, un2, hok2, rv, ev, ea, q2⟩ := hq'
      subst ev
      obtain ⟨h2, g2, d2, t2, os'⟩ := s'
      exact ⟨rv, mk_endN (raises_own T.exC T.tyC) I hsz kk un2 hok2 os2 bare2 ea q2⟩
    | next => exact False.elim hq'
    | brk => exact False.elim hq'
    | cont => exact False.elim hq'
end
end Cal
set_option Elab.async false
set_option linter.all false
set_option maxRecDepth 100000
set_option maxHeartbeats 4000000
namespace Cal
open PySem L2 PyProof.Rows
open Evl (Ex)
/-! ### outcomes: a value, or an error of the class of a name with its fields -/
inductive Out where
  | ok (d : D) | ex (x : Str) (fs : List (Str × D))
  /-- a new object that nobody else knows -/
  | new (c : Cell)
def Out.cas (Q : D → Prop) (X : Str → List (Str × D) → Prop) : Out → Prop
  | .ok d => Q d
  | .ex x fs => X x fs
  | .new c => Q c.toD
/-- only what is new is handed back -/
def Out.casN (Q : Cell → Prop) (X : Str → List (Str × D) → Prop) : Out → Prop
  | .ok _ => False
  | .ex x fs => X x fs
  | .new c => Q c
/-- the dict of an error -/
def XR (K : PySem.W.Frag) (h : Hnd) (G : Hp) (d : Option Addr) (fs : List (Str × D)) : Prop :=
  (fs = [] ∧ d = none) ∨ ∃ dd vfs, d = some dd ∧ G dd = some (.xd vfs) ∧ vfs.map (·.1) = fs.map (·.1) ∧ RpL K h G (vfs.map (·.2)) (fs.map (·.2)) ∧ fs ≠ []
theorem XR.mono {K : PySem.W.Frag} {h : Hnd} {G G' : Hp} {d : Option Addr} {fs : List (Str × D)} (x : XR K h G d fs) (e : Ex G G') : XR K h G' d fs := by
  rcases x with x | ⟨dd, vfs, h1, h2, h3, h4⟩
  · exact .inl x
  · exact .inr ⟨dd, vfs, h1, e _ _ h2, h3, lmono h4.1 e, h4.2⟩
theorem lookup_if {α : Type} (f g : Str) (y : α) (fs : List (Str × α)) : ((f, y) :: fs).lookup g = if g = f then some y else fs.lookup g := by
  by_cases h : g = f
  · rw [if_pos h, h]; simp [List.lookup]
  · have e : (g == f) = false := by simpa using h
    rw [if_neg h]; simp [List.lookup, e]
theorem lookup_of {K : PySem.W.Frag} {h : Hnd} {G : Hp} {f : Str} {y : D} : ∀ {vfs : List (Str × V)} {fs : List (Str × D)}, vfs.map (·.1) = fs.map (·.1) → RpL K h G (vfs.map (·.2)) (fs.map (·.2)) → fs.lookup f = some y → ∃ v, vfs.lookup f = some v ∧ Rp K h G v y
  | [], [], _, _, e => by cases e
  | [], p :: fs, e, _, _ => by cases e
  | p :: vfs, [], e, _, _ => by cases e
  | (g, v) :: vfs, (g', d) :: fs, e, r, l => by
    have e1 : g = g' := (List.cons.inj e).1
    have e2 := (List.cons.inj e).2
    subst e1
    cases r with
    | cons a b =>
      rw [lookup_if] at l ⊢
      by_cases hf : f = g
      · rw [if_pos hf] at l ⊢
        cases l
        exact ⟨v, rfl, a⟩
      · rw [if_neg hf] at l ⊢
        exact lookup_of e2 b l
/-- what is wished of the errors that leave a piece of a body -/
def XW (mg : Str → Option Value) (p : Par) (Xp : Rho → Str → List (Str × D) → Prop) (W : WX) : Prop := ∀ ρ G σ H x fs C d, Xp ρ x fs → mg x = some (.ref C) → Hold p ρ G σ H → XR p.K p.h G d fs → W (.ref C) d σ H
/-- the promise of a def that may raise -/
def spX (K : PySem.W.Frag) (mg : Str → Option Value) (S : List D → (Out → Prop) → Prop) : Sp := fun vs H Q E => ∃ h G ds R, RpL K h G vs ds ∧ Mem ⟨K, h, H, G⟩ G H ∧ S ds R ∧ (∀ d v G' H', R (.ok d) → Mem ⟨K, h, H, G⟩ G' H' → Rp K h G' v d → Q v H') ∧
  (∀ c a G' H', R (.new c) → c.isOwn = true → Mem ⟨K, h, H, G⟩ G' H' → Slot ⟨K, h, H, G⟩ G' H' (some (.ref a)) c → Q (.ref a) H') ∧ ∀ x fs C d G' H', R (.ex x fs) → mg x = some (.ref C) → Mem ⟨K, h, H, G⟩ G' H' → XR K h G' d fs → E (.ref C) d H'
/-- as WS, with what is handed back new -/
def WSO (p : Par) (ρ : Rho) (ts : TS) (P : Post) (O : Cell → Prop) : Prop := ∀ G σ H, Hold p ρ G σ H → ∀ E : Ends,
  (∀ ρ' G' σ' H', P.n ρ' → Ex G G' → Hold p ρ' G' σ' H' → E.nx σ' H') → (∀ d v G' H', P.r d → Mem p G' H' → Rp p.K p.h G' v d → E.rt v H') →
  (∀ ρ' G' σ' H', P.b ρ' → Ex G G' → Hold p ρ' G' σ' H' → E.bk σ' H') → (∀ ρ' G' σ' H', P.c ρ' → Ex G G' → Hold p ρ' G' σ' H' → E.ct σ' H') →
  (∀ c a G' H', O c → c.isOwn = true → Mem p G' H' → Slot p G' H' (some (.ref a)) c → E.rt (.ref a) H') → ts E σ H
theorem WS.o {p : Par} {ρ : Rho} {ts : TS} {P : Post} {O : Cell → Prop} (h : WS p ρ ts P) : WSO p ρ ts P O := fun G σ H hh E kn kr kb kc _ => h G σ H hh E kn kr kb kc
theorem wso_seq {p : Par} {ρ : Rho} {ts tv : TS} {P : Post} {O : Cell → Prop} (h : WS p ρ ts { P with n := fun ρ' => WSO p ρ' tv P O, r := P.r }) : WSO p ρ (tSeq ts tv) P O := fun G σ H hh E kn kr kb kc ko =>
  h G σ H hh { E with nx := tv E } (fun ρ' G' σ' H' z e hh' => z G' σ' H' hh' E (fun ρ2 G2 σ2 H2 z2 e2 => kn ρ2 G2 σ2 H2 z2 (ex_tr e e2)) kr (fun ρ2 G2 σ2 H2 z2 e2 => kb ρ2 G2 σ2 H2 z2 (ex_tr e e2)) (fun ρ2 G2 σ2 H2 z2 e2 => kc ρ2 G2 σ2 H2 z2 (ex_tr e e2)) ko) kr kb kc
theorem wso_retF {p : Par} {ρ : Rho} {te : TE} {P : Post} {O : Cell → Prop} (h : WF p ρ te O) : WSO p ρ (tRet te) P O := fun G σ H hh E kn kr kb kc ko =>
  h G σ H hh _ fun c a G' H' z ho s n x => ko c a G' H' z ho (hh.step s).mem x
theorem wso_freeze {p : Par} {ρ : Rho} {ts : TS} {P : Post} {O : Cell → Prop} (i : Nat) {c : Cell} (e : ρ[i]? = some (some c)) (ho : c.isOwn = true) (h : WSO p (ρ.set i (some (.d c.toD))) ts P O) : WSO p ρ ts P O := fun G σ H hh E kn kr kb kc ko => by
  obtain ⟨sv, h1, h2⟩ := hh.slot i _ e
  obtain ⟨a, u, e1, ow, e3⟩ := Cell.own_ref h2 ho
  subst e1
  obtain ⟨o, e4, _, r⟩ := h2.toD ho
  obtain ⟨hh', ex⟩ := hh.freeze e ho h1 ow e4 r
  exact h _ σ H hh' E (fun ρ' G' σ' H' z e' => kn ρ' G' σ' H' z (ex_tr ex e')) kr (fun ρ' G' σ' H' z e' => kb ρ' G' σ' H' z (ex_tr ex e')) (fun ρ' G' σ' H' z e' => kc ρ' G' σ' H' z (ex_tr ex e')) ko
theorem Slot.up {p : Par} {G H G' H' : Hp} {a : Addr} {c : Cell} (m : Mem p G H) (x : Slot ⟨p.K, p.h, H, G⟩ G' H' (some (.ref a)) c) (ho : c.isOwn = true) : Slot p G' H' (some (.ref a)) c ∧ Nil (H a) := by
  have up : ∀ {b : Addr}, Own ⟨p.K, p.h, H, G⟩ G' b → Own p G' b := fun {b} o => ⟨o.1, (m.nilFresh o.2.1).2.1, o.2.2⟩
  cases c with
  | d x => cases ho
  | ol xs => obtain ⟨b, vs, h1, h2, h3⟩ := x; cases h1; exact ⟨⟨a, vs, rfl, up h2, h3⟩, h2.2.1⟩
  | ok xs => obtain ⟨b, vs, h1, h2, h3⟩ := x; cases h1; exact ⟨⟨a, vs, rfl, up h2, h3⟩, h2.2.1⟩
  | ot xs => obtain ⟨b, vs, h1, h2, h3⟩ := x; cases h1; exact ⟨⟨a, vs, rfl, up h2, h3⟩, h2.2.1⟩
  | rw b o => obtain ⟨h1, h2, h3⟩ := x; cases h1; exact ⟨⟨rfl, up h2, h3⟩, h2.2.1⟩
  | lk xs => obtain ⟨b, od, vs, h1, h2, h3⟩ := x; cases h1; exact ⟨⟨a, od, vs, rfl, up h2, h3⟩, h2.2.1⟩
  | lt xs => obtain ⟨b, od, vs, h1, h2, h3⟩ := x; cases h1; exact ⟨⟨a, od, vs, rfl, up h2, h3⟩, h2.2.1⟩
  | oi _ C xs => obtain ⟨b, od, vs, h1, h2, h3⟩ := x; cases h1; exact ⟨⟨a, od, vs, rfl, up h2, h3⟩, h2.2.1⟩
structure DfnX (P : Program) (w : World) (K : PySem.W.Frag) (mg : Str → Option Value) (base : Heap) (k : Nat) (x : Str) (ps : List Str) (S : List D → (Out → Prop) → Prop) : Prop where
  ex : ∃ f fd, mg x = some (.ref f) ∧ PySem.W.keepIn K (.ref f) = true ∧ FnOk P w K mg base (L2.CX P w) k f fd ps (spX K mg S) ∧ Binds K fd ps []
section
variable {P : Program} {w : World} {K : PySem.W.Frag} {mg : Str → Option Value} {base : Heap}
theorem DfnX.mono {j k : Nat} {x : Str} {ps : List Str} {S : List D → (Out → Prop) → Prop} (F : DfnX P w K mg base j x ps S) (h : j ≤ k) : DfnX P w K mg base k x ps S := by
  obtain ⟨f, fd, h1, h2, h3, h4⟩ := F.ex
  exact ⟨f, fd, h1, h2, h3.mono h, h4⟩
theorem DfnX.imp {k : Nat} {x : Str} {ps : List Str} {S S' : List D → (Out → Prop) → Prop} (F : DfnX P w K mg base k x ps S) (h : ∀ ds R, S' ds R → S ds R) : DfnX P w K mg base k x ps S' := by
  obtain ⟨f, fd, h1, h2, h3, h4⟩ := F.ex
  exact ⟨f, fd, h1, h2, h3.imp fun vs H Q E ⟨hd, G, ds, R, a, b, c, d⟩ => ⟨hd, G, ds, R, a, b, h ds R c, d⟩, h4⟩
/-- a def that raises nothing, among those that may -/
theorem Dfn.toX {k : Nat} {x : Str} {ps : List Str} {S : List D → (D → Prop) → Prop} (F : Dfn P w K mg base k x ps S) : DfnX P w K mg base k x ps fun ds R => S ds fun d => R (.ok d) := by
  obtain ⟨f, fd, h1, h2, h3, h4⟩ := F.ex
  refine ⟨f, fd, h1, h2, ⟨fun vs H Q E ⟨hd, G, ds, R, a, b, c, d, eo, e⟩ => h3.len vs H Q E ⟨hd, G, ds, _, a, b, c, d⟩, fun A outer s H args us vs Q E hr he hb hv ⟨hd, G, ds, R, a, b, c, d, eo, e⟩ => ?_⟩, h4⟩
  refine codeAny_mono (h3.run A outer s H args us vs Q E hr he hb hv ⟨hd, G, ds, _, a, b, c, d⟩) fun r s' q => ?_
  cases r with
  | error z => exact (show False from q).elim
  | ok fl =>
    cases fl with
    | ret u => exact q
    | next => exact (show False from q).elim
    | brk => exact (show False from q).elim
    | cont => exact (show False from q).elim
theorem mkX {x : Str} {st : Stmt} {N ps : List Str} {k : Nat} {S : List D → (Out → Prop) → Prop} (F : Src K mg x st) (sc : FnScope N ps (defScope st))
    (hb : ∀ (kV doc pm : Value) (an : Option Addr) (cdv ct : Value) (us : List Value), us.length = ps.length → bindArgs (PySem.W.fnOf x x (defArgs st) (defBody st) (defScope st) .none kV doc pm an cdv ct) ⟨us, []⟩ = pure (ps.zip us))
    (len : ∀ ds R, S ds R → ds.length = ps.length)
    (body : ∀ (f : Addr) (cdv : Value) (A : Around) (outer : List Env) (s : Shared) (H : Hp) (E : XK), Room k (A.deeper (envOfC x (defScope st) s.heap.objs.size f cdv)) →
      ∃ t, PSs (cxOf (L2.CX P w) P w K mg base N x (defScope st) f cdv A outer s H E) (defBody st) t ∧ ∀ (h : Hnd) (H0 G0 : Hp) ds R, S ds R → XW mg ⟨K, h, H0, G0⟩ (fun _ x fs => R (.ex x fs)) (fun cls d _ H => E cls d H) → WSO ⟨K, h, H0, G0⟩ (rho0 N ds) t (retP fun d => R (.ok d)) fun c => R (.new c)) :
    DfnX P w K mg base (k + 1) x ps S := by
  obtain ⟨f, fd, hm, F⟩ := F.ex
  refine ⟨f, fd, hm, F.kp, F.okX sc (fun vs H Q E h => ?_) (fun cdv A outer s H vs Q E hr h => ?_), F.binds hb⟩
  · obtain ⟨hd, G, ds, R, r, m, hs, q⟩ := h
    rw [r.length]; exact len ds R hs
  · obtain ⟨hd, G, ds, R, r, m, hs, q, qo, qx⟩ := h
    obtain ⟨t, ht, hw⟩ := body f cdv A outer s H E hr
    exact ⟨t, ht, hw hd H G ds R hs (fun ρ G' σ H' x fs C d z hm hh xr => qx x fs C d G' H' z hm hh.mem xr) G _ H (hold0 m r) _ (fun ρ' G' σ' H' z e hh => q .non .non G' H' z hh.mem .non) (fun d v G' H' z m' r' => q d v G' H' z m' r') (fun _ _ _ _ z => z.elim) (fun _ _ _ _ z => z.elim) fun c a G' H' z ho m' x => qo c a G' H' z ho m' x⟩
end
section
variable {X : Cx} {x : Str} {p pos : Pos} {e : Expr} {es : List Expr} {t : TA} {k : Nat} {ps : List Str} {S : List D → (Out → Prop) → Prop} {W : WX}
theorem pe_callX (F : DfnX X.prog X.w X.K X.mg X.base k x ps S) (hr : Room k X.A) (tk : Takes X W) (ha : PA X (e :: es) t) (hg : Gl X x := by rfl) (hdb : (x == ("__debug__" : Str)) = false := by decide)
    (he : starEach (e :: es) X.env = (false, eval e X.env) :: starEach es X.env := by rfl) (hpl : (backTo pos (starEach es X.env)).any (·.1) = false := by rfl) : PE X (.Call (.Name x p) (e :: es) [] pos) (tCallS (spX X.K X.mg S) (L2.WE W) t) := by
  obtain ⟨f, fd, h1, h2, h3, h4⟩ := F.ex
  exact pe_callS h3 hr hg h1 h2 h4 (fun σ => passAt tk σ) ha hdb he hpl
end
section
variable {p : Par} {ρ : Rho} {Q : D → Prop} {ta tb te tl th : TE} {tt tu : TT} {P : Post} {ts tv : TS} {mg : Str → Option Value} {Xp : Rho → Str → List (Str × D) → Prop} {W : WX}
theorem we_callX {S : List D → (Out → Prop) → Prop} {ta : TA} (hW : XW mg p Xp W) (h : WA p ρ ta fun ds => S ds (Out.cas Q (Xp ρ))) : WE p ρ (tCallS (spX p.K mg S) (L2.WE W) ta) Q := fun G σ H hh Qv k =>
  h G σ H hh _ fun ds vs G1 H1 q s1 r1 => by
    have hh1 := hh.step s1
    exact ⟨p.h, G1, ds, _, r1, hh1.mem.refl, q, fun d v G' H' z m r => k d v G' H' z (s1.trans m) r, fun c a G' H' z ho m x => by
      obtain ⟨x', n⟩ := x.up hh1.mem ho
      have hh2 := hh1.step m
      obtain ⟨o, e4, ow, r⟩ := x'.toD ho
      obtain ⟨o2, e5, ow2, _⟩ := x.toD ho
      have m2 := Mem.know (p := ⟨p.K, p.h, H1, G1⟩) m ow2 e4 (x'.nt ho e4).tbl
      exact k _ _ _ _ z (s1.trans m2.1) r, fun x fs C d G' H' z hm m xr => hW ρ G' σ H' x fs C d z hm (hh1.step m) xr⟩
theorem wf_callX {S : List D → (Out → Prop) → Prop} {Qc : Cell → Prop} {ta : TA} (hW : XW mg p Xp W) (h : WA p ρ ta fun ds => S ds (Out.casN Qc (Xp ρ))) : WF p ρ (tCallS (spX p.K mg S) (L2.WE W) ta) Qc := fun G σ H hh Qv k =>
  h G σ H hh _ fun ds vs G1 H1 q s1 r1 => by
    have hh1 := hh.step s1
    exact ⟨p.h, G1, ds, _, r1, hh1.mem.refl, q, fun d v G' H' z m r => z.elim, fun c a G' H' z ho m x => by
      obtain ⟨x', n⟩ := x.up hh1.mem ho
      exact k c a G' H' z ho (s1.trans m) (hh.mem.backN s1 n) x', fun x fs C d G' H' z hm m xr => hW ρ G' σ H' x fs C d z hm (hh1.step m) xr⟩

/-! ### errors that are made -/
/-- __init__ of a class with one field -/
def spI1 (C : Addr) (f : Str) : Sp := fun vs H Q _ => ∃ a y, vs = [.ref a, y] ∧ H a = some (exo a C none) ∧ ∀ dx, H dx = none → dx ≠ a → Q .non (upd (upd H dx (exd dx [(f, y)])) a (exo a C (some dx)))
/-- .. with none -/
def spI0 (C : Addr) : Sp := fun vs H Q _ => ∃ a, vs = [.ref a] ∧ H a = some (exo a C none) ∧ Q .non H
theorem ws_raise1 {x : Str} {C : Addr} {f : Str} (hW : XW mg p Xp W) (hm : mg x = some (.ref C)) (h : WE p ρ te fun y => Xp ρ x [(f, y)]) : WS p ρ (fun _ σ H => tMkO C (spI1 C f) [] (tCons te tNil) σ H fun cls d H' => W cls d σ H') P := fun G σ H hh E kn kr kb kc => by
  refine h G σ H hh _ fun d v G1 H1 hx s1 r1 => ?_
  have hh1 := hh.step s1
  refine ⟨by show 1 ≤ 1000; decide, fun a ha => ⟨a, v, rfl, upd_same, fun dx hdx hne => ⟨rfl, dx, [(f, v)], upd_same, ?_, ?_, ?_⟩⟩⟩
  · rw [upd_ne hne, upd_same]
  · rw [upd_ne hne] at hdx; exact hdx
  · rw [upd_ne hne] at hdx
    have e : upd (del (upd (upd (upd H1 a (exo a C none)) dx (exd dx [(f, v)])) a (exo a C (some dx))) a) dx (.xd [(f, v)]) = upd H1 dx (.xd [(f, v)]) := by
      funext b
      by_cases hb : b = dx
      · rw [hb, upd_same, upd_same]
      · rw [upd_ne hb, upd_ne hb]
        by_cases hba : b = a
        · rw [hba, del_same, ha]
        · rw [del_ne hba, upd_ne hba, upd_ne hb, upd_ne hba]
    rw [e]
    have g := hh1.mem.grow (o := .xd [(f, v)]) hdx
    exact hW ρ _ σ _ x [(f, d)] C (some dx) hx hm (hh1.step g) (.inr ⟨dx, [(f, v)], rfl, upd_same, rfl, .cons (rmono r1 g.ex) .nil, fun z => by cases z⟩)
theorem ws_raise0 {x : Str} {C : Addr} (hW : XW mg p Xp W) (hm : mg x = some (.ref C)) (h : Xp ρ x []) : WS p ρ (fun _ σ H => tMk0 C (spI0 C) σ H fun cls d H' => W cls d σ H') P := fun G σ H hh E kn kr kb kc => by
  refine fun a ha => ⟨a, rfl, upd_same, rfl, upd_same, ?_⟩
  have e : del (upd H a (exo a C none)) a = H := by
    funext b
    by_cases hba : b = a
    · rw [hba, del_same, ha]
    · rw [del_ne hba, upd_ne hba]
  rw [e]
  exact hW ρ G σ H x [] C none h hm hh (.inl ⟨rfl, rfl⟩)
/-! ### errors that are caught -/
/-- with what is known from some state on -/
def WSg (p : Par) (G1 : Hp) (ρ : Rho) (ts : TS) (P : Post) : Prop := ∀ G σ H, Ex G1 G → Hold p ρ G σ H → ∀ E : Ends,
  (∀ ρ' G' σ' H', P.n ρ' → Ex G G' → Hold p ρ' G' σ' H' → E.nx σ' H') → (∀ d v G' H', P.r d → Mem p G' H' → Rp p.K p.h G' v d → E.rt v H') →
  (∀ ρ' G' σ' H', P.b ρ' → Ex G G' → Hold p ρ' G' σ' H' → E.bk σ' H') → (∀ ρ' G' σ' H', P.c ρ' → Ex G G' → Hold p ρ' G' σ' H' → E.ct σ' H') → ts E σ H
theorem WS.g {G1 : Hp} (h : WS p ρ ts P) : WSg p G1 ρ ts P := fun G σ H _ hh E kn kr kb kc => h G σ H hh E kn kr kb kc
/-- a suite that hands back -/
def outP (R : D → Prop) : Post := ⟨fun _ => False, R, fun _ => False, fun _ => False⟩
theorem ws_try_as {tb : WX → TS} {tsu : Addr → Value → Option Addr → TS} {Wout : WX} {c : Value} {i : Nat} (Xb : Rho → Str → List (Str × D) → Prop) (hc : ∀ ρ' x fs C, Xb ρ' x fs → mg x = some (.ref C) → PySem.W.exmOne p.K (.ref C) c = some true)
    (hb : ∀ W, XW mg p Xb W → WS p ρ (tb W) P) (hs : ∀ ρ' x fs a C d G1, Xb ρ' x fs → mg x = some (.ref C) → XR p.K p.h G1 d fs → WSg p G1 (ρ'.set i (some (.d (.raw (.ref a))))) (tsu a (.ref C) d) (outP P.r)) :
    WS p ρ (fun D σ H => tb (wAs p.K c i tsu Wout D) D σ H) P := fun G σ H hh D kn kr kb kc => by
  refine hb (wAs p.K c i tsu Wout D) (fun ρ' G' σ' H' x fs C d z hm hh' xr => ⟨true, hc ρ' x fs C z hm, fun _ a na => ?_, fun q => Bool.noConfusion q⟩) G σ H hh D kn kr kb kc
  exact hs ρ' x fs a C d G' z hm xr G' _ H' (fun _ _ e => e) (hh'.setD (.raw (.ref a))) _ (fun _ _ _ _ z => z.elim) kr (fun _ _ _ _ z => z.elim) fun _ _ _ _ z => z.elim
theorem wso_try_as {tb : WX → TS} {tsu : Addr → Value → Option Addr → TS} {Wout : WX} {c : Value} {i : Nat} {O : Cell → Prop} (Xb : Rho → Str → List (Str × D) → Prop) (hc : ∀ ρ' x fs C, Xb ρ' x fs → mg x = some (.ref C) → PySem.W.exmOne p.K (.ref C) c = some true)
    (hb : ∀ W, XW mg p Xb W → WSO p ρ (tb W) P O) (hs : ∀ ρ' x fs a C d G1, Xb ρ' x fs → mg x = some (.ref C) → XR p.K p.h G1 d fs → WSg p G1 (ρ'.set i (some (.d (.raw (.ref a))))) (tsu a (.ref C) d) (outP P.r)) :
    WSO p ρ (fun D σ H => tb (wAs p.K c i tsu Wout D) D σ H) P O := fun G σ H hh D kn kr kb kc ko => by
  refine hb (wAs p.K c i tsu Wout D) (fun ρ' G' σ' H' x fs C d z hm hh' xr => ⟨true, hc ρ' x fs C z hm, fun _ a na => ?_, fun q => Bool.noConfusion q⟩) G σ H hh D kn kr kb kc ko
  exact hs ρ' x fs a C d G' z hm xr G' _ H' (fun _ _ e => e) (hh'.setD (.raw (.ref a))) _ (fun _ _ _ _ z => z.elim) kr (fun _ _ _ _ z => z.elim) fun _ _ _ _ z => z.elim
theorem ws_try_only {tb : WX → TS} {tsu : Addr → Value → Option Addr → TS} {Wout : WX} {c : Value} (Xb : Rho → Str → List (Str × D) → Prop) (hc : ∀ ρ' x fs C, Xb ρ' x fs → mg x = some (.ref C) → PySem.W.exmOne p.K (.ref C) c = some true)
    (hb : ∀ W, XW mg p Xb W → WS p ρ (tb W) P) (hs : ∀ ρ' x fs a C d G1, Xb ρ' x fs → mg x = some (.ref C) → XR p.K p.h G1 d fs → WSg p G1 ρ' (tsu a (.ref C) d) (outP P.r)) :
    WS p ρ (fun D σ H => tb (wOnly p.K c tsu Wout D) D σ H) P := fun G σ H hh D kn kr kb kc => by
  refine hb (wOnly p.K c tsu Wout D) (fun ρ' G' σ' H' x fs C d z hm hh' xr => ⟨true, hc ρ' x fs C z hm, fun _ a na => ?_, fun q => Bool.noConfusion q⟩) G σ H hh D kn kr kb kc
  exact hs ρ' x fs a C d G' z hm xr G' _ H' (fun _ _ e => e) hh' _ (fun _ _ _ _ z => z.elim) kr (fun _ _ _ _ z => z.elim) fun _ _ _ _ z => z.elim
/-- return e.f -/
theorem wsg_retf {G1 : Hp} {R : D → Prop} {a C : Addr} {d : Option Addr} {f : Str} {i : Nat} {fs : List (Str × D)} {y : D} (e : ρ[i]? = some (some (.d (.raw (.ref a))))) (xr : XR p.K p.h G1 d fs) (hf : fs.lookup f = some y) (hR : R y) :
    WSg p G1 ρ (tRet (tXf a (.ref C) d C f (tVar i))) (outP R) := fun G σ H ex hh E kn kr kb kc => by
  obtain ⟨sv, h1, v, h2, h3⟩ := hh.slot i _ e
  subst h2
  have hv : v = .ref a := by cases h3; rfl
  subst hv
  rcases xr.mono ex with ⟨rfl, _⟩ | ⟨dd, vfs, q1, q2, q3, q4⟩
  · cases hf
  · obtain ⟨v, l1, l2⟩ := lookup_of q3 q4.1 hf
    exact ⟨_, h1, rfl, rfl, dd, vfs, v, q1, hh.mem.sub _ _ q2, l1, kr y v G H hR hh.mem l2⟩
end
end Cal
set_option Elab.async false
set_option linter.all false
set_option maxRecDepth 100000
set_option maxHeartbeats 4000000
namespace Cal
open PySem L2 PyProof.Rows
open Evl (Ex)
/-! ### the classes of errors in the text -/
/-- an error class with its __init__ -/
structure XSrc (K : PySem.W.Frag) (mg : Str → Option Value) (x : Str) (fl : List Str) (st : Stmt) (q : Str) : Prop where
  ex : ∃ C fI fd, mg x = some (.ref C) ∧ OexC K C ∧ PySem.W.findIn K (.ref C) "__init__" = some (some (.ref fI)) ∧ PySem.W.typeIn K (.ref fI) = some (.type "function") ∧ Fun K "__init__" q st fI fd ∧
    PySem.W.exmOne K (.ref C) (.ref C) = some true ∧ XfC K C ∧ ∀ f, f ∈ fl → PySem.W.findIn K (.ref C) f = some none
/-- a class that has ValueError's own __init__ -/
structure XBase (K : PySem.W.Frag) (mg : Str → Option Value) (x : Str) : Prop where
  ex : ∃ C, mg x = some (.ref C) ∧ PySem.W.specialIn K (.ref C) "__getattribute__" = some (some (.builtin "type.__getattribute__")) ∧ PySem.W.readsIn K C (.type "type") = true ∧
    PySem.W.findCls K (.ref C) (.type "type") "__init__" = some (.val (.builtin "ValueError.__init__"))
/-- an error of a class is what a clause that names the class takes -/
theorem exm_same {K : PySem.W.Frag} {C : Addr} (h1 : PySem.W.subIn K (.ref C) (.type "BaseException") = some true) (h2 : PySem.W.isClsIn K C = true) (h3 : PySem.W.typeIn K (.ref C) = some (.type "type")) (h4 : PySem.W.subIn K (.ref C) (.ref C) = some true) : PySem.W.exmOne K (.ref C) (.ref C) = some true := by
  have h2' : (PySem.W.clsIn K C).isSome = true := h2
  have e1 : (PySem.W.subIn K (.ref C) (.type "BaseException") == some true) = true := by rw [h1]; rfl
  have e2 : ((PySem.W.clsIn K C).isSome && PySem.W.typeIn K (.ref C) == some (.type "type")) = true := by rw [h2', h3]; rfl
  refine Eq.trans (b := if (PySem.W.subIn K (.ref C) (.type "BaseException") == some true) = true then (if ((PySem.W.clsIn K C).isSome && PySem.W.typeIn K (.ref C) == some (.type "type")) = true then PySem.W.subIn K (.ref C) (.ref C) else none) else none) rfl ?_
  rw [if_pos e1, if_pos e2, h4]
/-- an error class that can be made: sp its __init__'s promise -/
structure XDef (P : Program) (w : World) (K : PySem.W.Frag) (mg : Str → Option Value) (base : Heap) (k : Nat) (x : Str) (fl : List Str) (sp : Addr → Sp) (C : Addr) : Prop where
  gC : mg x = some (.ref C)
  ox : OexC K C
  te : PySem.W.exmOne K (.ref C) (.ref C) = some true
  xf : XfC K C
  no : ∀ f, f ∈ fl → PySem.W.findIn K (.ref C) f = some none
  ini : ∃ fI fd ps, PySem.W.findIn K (.ref C) "__init__" = some (some (.ref fI)) ∧ PySem.W.typeIn K (.ref fI) = some (.type "function") ∧ FnOk P w K mg base CX0 k fI fd ps (sp C) ∧ Binds K fd ps []
section
variable {P : Program} {w : World} {K : PySem.W.Frag} {mg : Str → Option Value} {base : Heap}
theorem xdef1 {x q f y : Str} {m : PySem.Str} {st : Stmt} (S : XSrc K mg x [f] st q) (B : XBase K mg b) (sc : FnScope ["self", y] ["self", y] (defScope st))
    (hb : ∀ (kV doc pm : Value) (an : Option Addr) (cdv ct : Value) (us : List Value), us.length = 2 → bindArgs (PySem.W.fnOf "__init__" q (defArgs st) (defBody st) (defScope st) .none kV doc pm an cdv ct) ⟨us, []⟩ = pure ((["self", y] : List Str).zip us))
    (body : ∀ (C f' : Addr) (cdv : Value) (A : Around) (outer : List Env) (s : Shared) (H : Hp) (E : XK), mg b = some (.ref C) → PySem.W.specialIn K (.ref C) "__getattribute__" = some (some (.builtin "type.__getattribute__")) → PySem.W.readsIn K C (.type "type") = true →
      PySem.W.findCls K (.ref C) (.type "type") "__init__" = some (.val (.builtin "ValueError.__init__")) →
      PSs (cxOf CX0 P w K mg base ["self", y] q (defScope st) f' cdv A outer s H E).nox (defBody st) (tSeq (tDrop (tVeI K (tCons (tVar 0) (tCons (tC (.str m)) tNil)))) (tOst K f (tVar 0) (tVar 1)))) :
    ∃ C, XDef P w K mg base 1 x [f] (fun C => spI1 C f) C := by
  obtain ⟨C, fI, fd, h1, h2, h3, h4, F, h6, h7, h8⟩ := S.ex
  obtain ⟨CB, b1, b2, b3, b4⟩ := B.ex
  refine ⟨C, h1, h2, h6, h7, h8, fI, fd, ["self", y], h3, h4, F.ok sc (fun vs H Q E h => ?_) (fun cdv A outer s H vs Q E hr h => ⟨_, body CB fI cdv A outer s H E b1 b2 b3 b4, ?_⟩), F.binds hb⟩
  · obtain ⟨a, z, rfl, _⟩ := h; rfl
  · obtain ⟨a, z, rfl, ha, hQ⟩ := h
    have hn := h8 f (List.mem_singleton.mpr rfl)
    refine ⟨_, rfl, a, C, [.str m], rfl, by show 1 ≤ 1000; decide, h2, ha, ?_⟩
    refine ⟨_, rfl, _, rfl, a, C, rfl, h2, hn, .inl ⟨ha, fun dx n1 n2 => hQ dx n1 n2⟩⟩
theorem xdef0 {x q : Str} {m : PySem.Str} {st : Stmt} (S : XSrc K mg x [] st q) (B : XBase K mg b) (sc : FnScope ["self"] ["self"] (defScope st))
    (hb : ∀ (kV doc pm : Value) (an : Option Addr) (cdv ct : Value) (us : List Value), us.length = 1 → bindArgs (PySem.W.fnOf "__init__" q (defArgs st) (defBody st) (defScope st) .none kV doc pm an cdv ct) ⟨us, []⟩ = pure ((["self"] : List Str).zip us))
    (body : ∀ (C f' : Addr) (cdv : Value) (A : Around) (outer : List Env) (s : Shared) (H : Hp) (E : XK), mg b = some (.ref C) → PySem.W.specialIn K (.ref C) "__getattribute__" = some (some (.builtin "type.__getattribute__")) → PySem.W.readsIn K C (.type "type") = true →
      PySem.W.findCls K (.ref C) (.type "type") "__init__" = some (.val (.builtin "ValueError.__init__")) →
      PSs (cxOf CX0 P w K mg base ["self"] q (defScope st) f' cdv A outer s H E).nox (defBody st) (tDrop (tVeI K (tCons (tVar 0) (tCons (tC (.str m)) tNil))))) :
    ∃ C, XDef P w K mg base 1 x [] (fun C => spI0 C) C := by
  obtain ⟨C, fI, fd, h1, h2, h3, h4, F, h6, h7, h8⟩ := S.ex
  obtain ⟨CB, b1, b2, b3, b4⟩ := B.ex
  refine ⟨C, h1, h2, h6, h7, h8, fI, fd, ["self"], h3, h4, F.ok sc (fun vs H Q E h => ?_) (fun cdv A outer s H vs Q E hr h => ⟨_, body CB fI cdv A outer s H E b1 b2 b3 b4, ?_⟩), F.binds hb⟩
  · obtain ⟨a, rfl, _⟩ := h; rfl
  · obtain ⟨a, rfl, ha, hQ⟩ := h
    exact ⟨_, rfl, a, C, [.str m], rfl, by show 1 ≤ 1000; decide, h2, ha, hQ⟩
end
section
variable {X : Cx} {x : Str} {C : Addr} {fl : List Str} {f : Str} {k : Nat} {W : WX} {e : Expr} {te : TE} {p p1 pos pos' : Pos}
/-- raise C(e) -/
theorem ps_rz1 (D : XDef X.prog X.w X.K X.mg X.base k x fl (fun C => spI1 C f) C) (hr : Room (k + 1) X.A) (tk : Takes X W) (he : PE X e te) (hc : X.calm = true := by rfl) (hg : Gl X x := by rfl) (hdb : (x == ("__debug__" : Str)) = false := by decide)
    (hs : starEach [e] X.env = (false, eval e X.env) :: starEach [] X.env := by rfl) : PS X (.Raise (some (.Call (.Name x p) [e] [] pos)) none pos') (fun _ σ H => tMkO C (spI1 C f) [] (tCons te tNil) σ H fun cls d H' => W cls d σ H') := by
  obtain ⟨fI, fd, ps, h1, h2, h3, h4⟩ := D.ini
  exact ps_raise hc tk (pmk_oex D.ox h1 h2 h3 hr h4 .nil pass0 hg D.gC (pa_cons he pa_nil hs) hdb hs rfl)
/-- raise C() -/
theorem ps_rz0 (D : XDef X.prog X.w X.K X.mg X.base k x fl (fun C => spI0 C) C) (hr : Room (k + 1) X.A) (tk : Takes X W) (hc : X.calm = true := by rfl) (hg : Gl X x := by rfl) (hdb : (x == ("__debug__" : Str)) = false := by decide) :
    PS X (.Raise (some (.Call (.Name x p) [] [] pos)) none pos') (fun _ σ H => tMk0 C (spI0 C) σ H fun cls d H' => W cls d σ H') := by
  obtain ⟨fI, fd, ps, h1, h2, h3, h4⟩ := D.ini
  exact ps_raise hc tk (pmk_oe0 D.ox h1 h2 h3 hr h4 pass0 D.gC hg hdb)
end
end Cal
set_option Elab.async false
set_option linter.all false
set_option maxRecDepth 100000
set_option maxHeartbeats 4000000
namespace Cal
open PySem L2 PyProof.Rows
open Evl (Ex)
/-! ### loops over reversed(..), enumerate(..), zip(..) of lists; xs[::-1] -/
theorem for_any {T : It} {n : Nat} {g : TG} {tb : TS} {D : Ends} {σ : L2.St} {H : Hp} (Pv : Nat → L2.St → Hp → Prop) (h0 : Pv 0 σ H) (hgo : ∀ i σ H, i < n → Pv i σ H → T.go i H) (hst : ∀ σ H, Pv n σ H → T.stop n H)
    (hs : ∀ i x σ H H', i < n → Pv i σ H → T.yld i H x H' → g x σ H' fun σ2 H2 => tb { D with nx := Pv (i + 1), ct := Pv (i + 1), bk := D.nx } σ2 H2) (hd : ∀ σ H, Pv n σ H → D.nx σ H) :
    ∃ W : Nat → Nat → L2.St → Hp → Prop, (∃ m, W 0 m σ H) ∧ ∀ i m σ H, W i m σ H →
      (T.stop i H ∧ D.nx σ H) ∨ (T.go i H ∧ ∃ N : L2.St → Hp → Prop, (∀ σ' H', N σ' H' → ∃ m', m' < m ∧ W (i + 1) m' σ' H') ∧ ∀ x H', T.yld i H x H' → g x σ H' fun σ2 H2 => tb { D with nx := N, ct := N, bk := D.nx } σ2 H2) := by
  refine ⟨fun i m σ H => m = n - i ∧ i ≤ n ∧ Pv i σ H, ⟨n, rfl, Nat.zero_le _, h0⟩, fun i m σ H ⟨e, hi, q⟩ => ?_⟩
  by_cases hlt : i < n
  · exact .inr ⟨hgo i σ H hlt q, Pv (i + 1), fun σ' H' q' => ⟨n - (i + 1), by omega, rfl, hlt, q'⟩, fun x H' y => hs i x σ H H' hlt q y⟩
  · have hi' : i = n := by omega
    subst hi'
    exact .inl ⟨hst σ H q, hd σ H q⟩
section
variable {p : Par} {ρ : Rho} {Q : D → Prop} {ta tb te tl th : TE} {tt tu : TT} {P : Post} {ts tv : TS}
theorem ws_forRev {g : TG} {ta : TA} (h : WA p ρ ta fun ds => ∃ xs, ds = [.lst xs] ∧ ∃ I : Nat → Rho → Prop, I 0 ρ ∧
    (∀ k x ρ', xs.reverse[k]? = some x → I k ρ' → WG p ρ' g x fun ρ2 => WS p ρ2 ts ⟨I (k + 1), P.r, P.n, I (k + 1)⟩) ∧ ∀ ρ', I xs.length ρ' → P.n ρ') : WS p ρ (tFor (iRev p.K ta) g ts) P := fun G σ H hh E kn kr kb kc =>
  h G σ H hh _ fun ds vs0 G0 H0 ⟨xs, e, I, h0, hs, hd⟩ s r => by
    subst e
    cases r with
    | cons r rn =>
    cases rn
    obtain ⟨a, vs, ev, hq, hl⟩ := r.lst_inv
    subst ev
    have hh0 := hh.step s
    have hn := hl.length
    have sq : ∀ {G' H'}, Ex G0 G' → Ex G' H' → SqL p.K H' a vs := fun e1 e2 => lq e2 (e1 _ _ hq)
    refine ⟨a, vs, rfl, lq hh0.mem.sub hq, for_any (n := vs.length) (fun k σ' H' => ∃ ρ' G', I k ρ' ∧ Ex G0 G' ∧ Hold p ρ' G' σ' H') ⟨ρ, G0, h0, Ex.rfl', hh0⟩ (fun k σ' H' hk ⟨ρ', G', hi, e, hh'⟩ => ?_) (fun σ' H' _ => Nat.le_refl _) (fun k x σ' H' H2 hk ⟨ρ', G', hi, e, hh'⟩ hy => ?_) fun σ' H' ⟨ρ', G', hi, e, hh'⟩ => kn ρ' G' σ' H' (hd ρ' (by rw [← hn]; exact hi)) (ex_tr s.ex e) hh'⟩
    · exact ⟨hk, vs, vs[vs.length - 1 - k], sq e hh'.mem.sub, List.getElem?_eq_getElem (by omega)⟩
    · obtain ⟨e2, hx⟩ := hy
      subst e2
      have hx' := hx vs (sq e hh'.mem.sub)
      obtain ⟨d, hd1, hd2⟩ := hl.get' hx'
      refine hs k d ρ' ?_ hi G' σ' _ _ hh' (rmono hd2 e) _ fun ρ2 G2 σ2 H2 z e2 hh2 => z G2 σ2 H2 hh2 _ (fun ρ3 G3 σ3 H3 z3 e3 hh3 => ⟨ρ3, G3, z3, ex_tr (ex_tr e e2) e3, hh3⟩) kr (fun ρ3 G3 σ3 H3 z3 e3 hh3 => kn ρ3 G3 σ3 H3 z3 (ex_tr s.ex (ex_tr (ex_tr e e2) e3)) hh3)
        (fun ρ3 G3 σ3 H3 z3 e3 hh3 => ⟨ρ3, G3, z3, ex_tr (ex_tr e e2) e3, hh3⟩)
      rw [List.getElem?_reverse (by omega), ← hn]
      exact hd1
theorem ws_forEnum {g : TG} {ta : TA} (h : WA p ρ ta fun ds => ∃ xs, ds = [.lst xs] ∧ ∃ I : Nat → Rho → Prop, I 0 ρ ∧
    (∀ k x ρ', xs[k]? = some x → I k ρ' → WG p ρ' g (.tup [.int (k : Int), x]) fun ρ2 => WS p ρ2 ts ⟨I (k + 1), P.r, P.n, I (k + 1)⟩) ∧ ∀ ρ', I xs.length ρ' → P.n ρ') : WS p ρ (tFor (iEnum p.K ta) g ts) P := fun G σ H hh E kn kr kb kc =>
  h G σ H hh _ fun ds vs0 G0 H0 ⟨xs, e, I, h0, hs, hd⟩ s r => by
    subst e
    cases r with
    | cons r rn =>
    cases rn
    obtain ⟨a, vs, ev, hq, hl⟩ := r.lst_inv
    subst ev
    have hh0 := hh.step s
    have hn := hl.length
    have sq : ∀ {G' H'}, Ex G0 G' → Ex G' H' → SqL p.K H' a vs := fun e1 e2 => lq e2 (e1 _ _ hq)
    refine ⟨a, vs, rfl, lq hh0.mem.sub hq, for_any (n := vs.length) (fun k σ' H' => ∃ ρ' G', I k ρ' ∧ Ex G0 G' ∧ Hold p ρ' G' σ' H') ⟨ρ, G0, h0, Ex.rfl', hh0⟩ (fun k σ' H' hk ⟨ρ', G', hi, e, hh'⟩ => ?_) (fun σ' H' ⟨ρ', G', hi, e, hh'⟩ => ⟨vs, sq e hh'.mem.sub, Nat.le_refl _⟩) (fun k x σ' H' H2 hk ⟨ρ', G', hi, e, hh'⟩ hy => ?_) fun σ' H' ⟨ρ', G', hi, e, hh'⟩ => kn ρ' G' σ' H' (hd ρ' (by rw [← hn]; exact hi)) (ex_tr s.ex e) hh'⟩
    · exact ⟨vs, vs[k], sq e hh'.mem.sub, List.getElem?_eq_getElem hk⟩
    · obtain ⟨T, x', e1, hT, e2, hx⟩ := hy
      subst e1 e2
      have hx' := hx vs (sq e hh'.mem.sub)
      obtain ⟨d, hd1, hd2⟩ := hl.get' hx'
      have gr := hh'.mem.grow (o := .tup [.int (k : Int), x']) hT
      have e4 := ex_tr e gr.ex
      refine hs k d ρ' hd1 hi _ σ' _ _ (hh'.step gr) (.tup upd_same (.cons (.int _) (.cons (rmono hd2 e4) .nil))) _ fun ρ2 G2 σ2 H2 z e2 hh2 => z G2 σ2 H2 hh2 _ (fun ρ3 G3 σ3 H3 z3 e3 hh3 => ⟨ρ3, G3, z3, ex_tr (ex_tr e4 e2) e3, hh3⟩) kr
        (fun ρ3 G3 σ3 H3 z3 e3 hh3 => kn ρ3 G3 σ3 H3 z3 (ex_tr s.ex (ex_tr (ex_tr e4 e2) e3)) hh3) (fun ρ3 G3 σ3 H3 z3 e3 hh3 => ⟨ρ3, G3, z3, ex_tr (ex_tr e4 e2) e3, hh3⟩)
theorem wf_revL {Q : Cell → Prop} (h : WE p ρ te fun x => ∃ xs, x = .lst xs ∧ Q (.ol xs.reverse)) : WF p ρ (tRevL p.K te) Q := fun G σ H hh Qv k =>
  h G σ H hh _ fun x v G1 H1 ⟨xs, e, q⟩ s1 r1 => by
    subst e
    obtain ⟨a, vs, ev, hq, hl⟩ := r1.lst_inv
    have m1 := (hh.step s1).mem
    refine ⟨a, vs, ev, lq m1.sub hq, fun b hb => k _ b _ _ q rfl (s1.trans (m1.growO hb)) (hh.mem.back s1 hb) ⟨b, vs.reverse, rfl, m1.fresh hb, upd_same, ?_⟩⟩
    have rev : ∀ {us : List V} {es : List D}, RpL p.K p.h G1 us es → RpL p.K p.h G1 us.reverse es.reverse := by
      intro us
      induction us with
      | nil => intro es r; cases r; exact .nil
      | cons u us ih =>
        intro es r
        cases r with
        | cons a b => rw [List.reverse_cons, List.reverse_cons]; exact (ih b).append (.cons a .nil)
    exact rev hl
theorem we_revL (h : WE p ρ te fun x => ∃ xs, x = .lst xs ∧ Q (.lst xs.reverse)) : WE p ρ (tRevL p.K te) Q := we_F (wf_revL h)
end
end Cal
set_option Elab.async false
set_option linter.all false
set_option maxRecDepth 100000
set_option maxHeartbeats 4000000
namespace Cal
open PySem L2 PyProof.Rows
open Evl (Ex)
/-! ### comprehensions over zip(..), all(..), any(..), != of flags -/
theorem lc_any {J : It} {n : Nat} {g : TG} {tt : TT} {te : TE} {vs : List Nat} {σ : L2.St} {H1 : Hp} {Dl : Addr} {Qd : Hp → Prop} (Pv : Nat → Hp → Prop) (h0 : Pv 0 (upd H1 Dl (.lst []))) (hgo : ∀ i H, i < n → Pv i H → J.go i H) (hst : ∀ H, Pv n H → J.stop n H)
    (hs : ∀ i x H H', i < n → Pv i H → J.yld i H x H' → g x (L2.wipe σ vs) H' fun σ2 H2 => L2.wipe σ2 vs = L2.wipe σ vs ∧ tt σ2 H2 fun b H3 => if b = true then te σ2 H3 fun y H4 => ∃ acc, H4 Dl = some (.lst acc) ∧ acc.length < sizeLine ∧ Pv (i + 1) (upd H4 Dl (.lst (acc ++ [y]))) else Pv (i + 1) H3)
    (hd : ∀ H, Pv n H → Qd H) : ∃ W : Nat → Nat → Hp → Prop, (∃ m, W 0 m (upd H1 Dl (.lst []))) ∧ ∀ i m H, W i m H →
      (J.stop i H ∧ Qd H) ∨ (J.go i H ∧ ∃ Nx : Hp → Prop, (∀ H', Nx H' → ∃ m', m' < m ∧ W (i + 1) m' H') ∧ ∀ x H', J.yld i H x H' → g x (L2.wipe σ vs) H' fun σ2 H2 => L2.wipe σ2 vs = L2.wipe σ vs ∧ tt σ2 H2 fun b H3 =>
        if b = true then te σ2 H3 fun y H4 => ∃ acc, H4 Dl = some (.lst acc) ∧ acc.length < sizeLine ∧ Nx (upd H4 Dl (.lst (acc ++ [y]))) else Nx H3) := by
  refine ⟨fun i m H => m = n - i ∧ i ≤ n ∧ Pv i H, ⟨n, rfl, Nat.zero_le _, h0⟩, fun i m H ⟨e, hi, q⟩ => ?_⟩
  by_cases hlt : i < n
  · exact .inr ⟨hgo i H hlt q, Pv (i + 1), fun H' q' => ⟨n - (i + 1), by omega, rfl, hlt, q'⟩, fun x H' y => hs i x H H' hlt q y⟩
  · have hi' : i = n := by omega
    subst hi'
    exact .inl ⟨hst H q, hd H q⟩
section
variable {p : Par} {ρ : Rho} {Q : D → Prop} {ta tb te tl th : TE} {tt tu : TT} {P : Post} {ts tv : TS} {g : TG}
theorem lc_grow {G1 H1 H' : Hp} {σ : L2.St} {Dl T : Addr} {o : HO} {I : Nat → List D → Prop} {k : Nat} (hh : Hold p ρ G1 σ H1) (L : Lc p G1 H1 Dl I k H') (hT : H' T = none) : Lc p G1 H1 Dl I k (upd H' T o) := by
  obtain ⟨acc, av, G', hi, hle, s, e, ow, r⟩ := L
  exact ⟨acc, av, G', hi, hle, s.trans ((hh.step s).mem.growO hT), by rw [upd_ne (ne_of_none e hT)]; exact e, ow, r⟩
theorem wf_lcZip {ta : TA} {vs : List Nat} {Q : Cell → Prop} (h : WA p ρ ta fun ds => ∃ xs ys, (ds = [.lst xs, .lst ys] ∨ ds = [.tup xs, .tup ys]) ∧ xs.length = ys.length ∧ xs.length ≤ 4000000 ∧ ∃ I : Nat → List D → Prop, I 0 [] ∧
    (∀ k x y acc, xs[k]? = some x → ys[k]? = some y → I k acc → acc.length ≤ k → WGp p vs (wipeR ρ vs) g (.tup [x, y]) fun ρ2 => WT p ρ2 tt fun b => if b = true then WE p ρ2 te fun y => I (k + 1) (acc ++ [y]) else I (k + 1) acc) ∧ ∀ acc, I xs.length acc → Q (.ol acc)) :
    WF p ρ (tLc (RZ.iZipA p.K ta) g tt te vs) Q := fun G σ H hh Qv kk =>
  h G σ H hh _ fun ds vv G1 H1 ⟨xs, ys, e, hxy, hz, I, h0, hs, hd⟩ s1 r1 => by
    have hh1 := hh.step s1
    rcases e with e | e
    · subst e
      cases r1 with
      | cons r rn =>
      cases rn with
      | cons r' rn =>
      cases rn
      obtain ⟨a, us, ev, hq, hl⟩ := r.lst_inv
      obtain ⟨b, ws, ev', hq', hl'⟩ := r'.lst_inv
      subst ev ev'
      have n1 := hl.length
      have n2 := hl'.length
      have sq : ∀ {H' : Hp} {Dl : Addr} {k : Nat}, Lc p G1 H1 Dl I k H' → SqL p.K H' a us ∧ SqL p.K H' b ws := fun {H'} {Dl} {k} L => by
        obtain ⟨acc, av, G', _, _, s, _⟩ := L
        exact ⟨lq s.sub (s.ex _ _ hq), lq s.sub (s.ex _ _ hq')⟩
      refine ⟨a, b, us, ws, rfl, .inl ⟨lq hh1.mem.sub hq, lq hh1.mem.sub hq', fun Dl hn => lc_any (n := us.length) (Lc p G1 H1 Dl I) (lc_start hh1 hn h0) (fun k H' hk L => ?_) (fun H' L => ?_) (fun k v H' H2 hk L hy => ?_) fun H' L => ?_⟩⟩
      · obtain ⟨q1, q2⟩ := sq L
        exact ⟨us, ws, us[k], ws[k]'(by omega), q1, q2, List.getElem?_eq_getElem hk, List.getElem?_eq_getElem (by omega)⟩
      · obtain ⟨q1, q2⟩ := sq L
        exact ⟨us, ws, q1, q2, .inl (Nat.le_refl _)⟩
      · obtain ⟨q1, q2⟩ := sq L
        obtain ⟨T, x', y', e1, hT, e2, hx, hy'⟩ := hy
        subst e1 e2
        obtain ⟨dx, hx1, hx2⟩ := hl.get' (hx us q1)
        obtain ⟨dy, hy1, hy2⟩ := hl'.get' (hy' ws q2)
        refine lc_turn hh1 hn (by omega) (lc_grow hh1 L hT) (fun G' s => ?_) fun acc hi hle => hs k dx dy acc hx1 hy1 hi hle
        obtain ⟨G2, s2, hq2⟩ := Mem.learn (p := p) (hh1.step s).mem upd_same
        exact ⟨G2, s2, .tup hq2 (.cons (rmono hx2 (ex_tr s.ex s2.ex)) (.cons (rmono hy2 (ex_tr s.ex s2.ex)) .nil))⟩
      · obtain ⟨acc, av, G', hi, _, s, e, ow, r⟩ := L
        rw [n1] at hi
        exact kk _ Dl G' H' (hd acc hi) rfl (s1.trans s) (hh.mem.back s1 hn) ⟨Dl, av, rfl, ow, e, r⟩
    · subst e
      cases r1 with
      | cons r rn =>
      cases rn with
      | cons r' rn =>
      cases rn
      obtain ⟨a, us, ev, hq, hl⟩ := r.tup_inv
      obtain ⟨b, ws, ev', hq', hl'⟩ := r'.tup_inv
      subst ev ev'
      have n1 := hl.length
      have n2 := hl'.length
      have sq : ∀ {H' : Hp} {Dl : Addr} {k : Nat}, Lc p G1 H1 Dl I k H' → SqT p.K H' a us ∧ SqT p.K H' b ws := fun {H'} {Dl} {k} L => by
        obtain ⟨acc, av, G', _, _, s, _⟩ := L
        exact ⟨tq s.sub (s.ex _ _ hq), tq s.sub (s.ex _ _ hq')⟩
      refine ⟨a, b, us, ws, rfl, .inr ⟨tq hh1.mem.sub hq, tq hh1.mem.sub hq', fun Dl hn => lc_any (n := us.length) (Lc p G1 H1 Dl I) (lc_start hh1 hn h0) (fun k H' hk L => ?_) (fun H' L => ?_) (fun k v H' H2 hk L hy => ?_) fun H' L => ?_⟩⟩
      · obtain ⟨q1, q2⟩ := sq L
        exact ⟨us, ws, us[k], ws[k]'(by omega), q1, q2, List.getElem?_eq_getElem hk, List.getElem?_eq_getElem (by omega)⟩
      · obtain ⟨q1, q2⟩ := sq L
        exact ⟨us, ws, q1, q2, .inl (Nat.le_refl _)⟩
      · obtain ⟨q1, q2⟩ := sq L
        obtain ⟨T, x', y', e1, hT, e2, hx, hy'⟩ := hy
        subst e1 e2
        obtain ⟨dx, hx1, hx2⟩ := hl.get' (hx us q1)
        obtain ⟨dy, hy1, hy2⟩ := hl'.get' (hy' ws q2)
        refine lc_turn hh1 hn (by omega) (lc_grow hh1 L hT) (fun G' s => ?_) fun acc hi hle => hs k dx dy acc hx1 hy1 hi hle
        obtain ⟨G2, s2, hq2⟩ := Mem.learn (p := p) (hh1.step s).mem upd_same
        exact ⟨G2, s2, .tup hq2 (.cons (rmono hx2 (ex_tr s.ex s2.ex)) (.cons (rmono hy2 (ex_tr s.ex s2.ex)) .nil))⟩
      · obtain ⟨acc, av, G', hi, _, s, e, ow, r⟩ := L
        rw [n1] at hi
        exact kk _ Dl G' H' (hd acc hi) rfl (s1.trans s) (hh.mem.back s1 hn) ⟨Dl, av, rfl, ow, e, r⟩
theorem RpL.bls {K : PySem.W.Frag} {h : Hnd} {G : Hp} : ∀ {vs : List V} {bs : List Bool}, RpL K h G vs (bs.map D.bl) → vs = bs.map V.bl
  | [], [], _ => rfl
  | v :: vs, b :: bs, r => by
    cases r with
    | cons a c => cases a; rw [List.map_cons, RpL.bls c]
  | [], d :: ds, r => by cases r
  | v :: vs, [], r => by cases r
theorem we_all (h : WE p ρ te fun x => ∃ bs : List Bool, x = .lst (bs.map D.bl) ∧ Q (.bl (bs.all id))) : WE p ρ (tCB (rAll p.K) (tCons te tNil)) Q :=
  we_cb (wa_cons (h.imp fun x ⟨bs, e, q⟩ => wa_nil fun G H vs m r Qv k => by
    subst e
    cases r with
    | cons r rn =>
      cases rn
      obtain ⟨a, us, ev, hs, hl⟩ := r.lst_inv
      subst ev
      rw [hl.bls] at hs
      exact ⟨a, bs, rfl, lq m.sub hs, k _ _ G H q m.refl (.bl _)⟩))
theorem we_anyB (h : WE p ρ te fun x => ∃ bs : List Bool, x = .lst (bs.map D.bl) ∧ Q (.bl (bs.any id))) : WE p ρ (tCB (rAny p.K) (tCons te tNil)) Q :=
  we_cb (wa_cons (h.imp fun x ⟨bs, e, q⟩ => wa_nil fun G H vs m r Qv k => by
    subst e
    cases r with
    | cons r rn =>
      cases rn
      obtain ⟨a, us, ev, hs, hl⟩ := r.lst_inv
      subst ev
      rw [hl.bls] at hs
      exact ⟨a, bs, rfl, lq m.sub hs, k _ _ G H q m.refl (.bl _)⟩))
theorem we_neB (h : WE p ρ ta fun x => ∃ i, x = .bl i ∧ WE p ρ tb fun y => ∃ j, y = .bl j ∧ Q (.bl (!(i == j)))) : WE p ρ (tOp rNe ta tb) Q :=
  we_op (h.imp fun x ⟨i, e, h⟩ => h.imp fun y ⟨j, e2, q⟩ => fun G H v w m r1 r2 Qv k => by
    subst e e2
    rw [rp_bl r1, rp_bl r2]
    refine ⟨rfl, ?_⟩
    rw [dec_bl]
    exact k _ _ G H q m.refl (.bl _))
end
/-- nothing is promised -/
theorem Dfn.none {P : Program} {w : World} {K : PySem.W.Frag} {mg : Str → Option Value} {base : Heap} {x : Str} {st : Stmt} {ps : List Str} (F : Src K mg x st) (k : Nat)
    (hb : ∀ (kV doc pm : Value) (an : Option Addr) (cdv ct : Value) (us : List Value), us.length = ps.length → bindArgs (PySem.W.fnOf x x (defArgs st) (defBody st) (defScope st) .none kV doc pm an cdv ct) ⟨us, []⟩ = pure (ps.zip us)) :
    Dfn P w K mg base k x ps fun _ _ => False := by
  obtain ⟨f, fd, hm, F⟩ := F.ex
  exact ⟨f, fd, hm, F.kp, ⟨fun vs H Q E ⟨_, _, _, _, _, _, z, _⟩ => z.elim, fun A outer s H args us vs Q E _ _ _ _ ⟨_, _, _, _, _, _, z, _⟩ => z.elim⟩, F.binds hb⟩
/-! ### data that the laws compare -/
theorem kb_tuple_list : kitB "tuple" "list" = some false := by decide +kernel
theorem kb_list_list : kitB "list" "list" = some true := by decide +kernel
mutual
/-- whether two things are the same, tuples being no lists -/
def isD : D → D → Bool
  | .int i, .int j => decide (i = j)
  | .tup xs, .tup ys => isDL xs ys
  | .lst xs, .lst ys => isDL xs ys
  | _, _ => false
def isDL : List D → List D → Bool
  | [], [] => true
  | x :: xs, y :: ys => isD x y && isDL xs ys
  | _, _ => false
end
/-- of integers, tuples and lists, nested at most n deep, of like kinds at like places -/
inductive P2 : Nat → D → D → Prop
  | int (n : Nat) (i j : Int) : P2 n (.int i) (.int j)
  | tup {n : Nat} {xs ys : List D} : xs.length ≤ 4000000 → (xs.length = ys.length → ∀ (k : Nat) (x y : D), xs[k]? = some x → ys[k]? = some y → P2 n x y) → P2 (n + 1) (.tup xs) (.tup ys)
  | lst {n : Nat} {xs ys : List D} : xs.length ≤ 4000000 → (xs.length = ys.length → ∀ (k : Nat) (x y : D), xs[k]? = some x → ys[k]? = some y → P2 n x y) → P2 (n + 1) (.lst xs) (.lst ys)
theorem isDL_ne : ∀ {xs ys : List D}, xs.length ≠ ys.length → isDL xs ys = false
  | [], [], h => absurd rfl h
  | x :: xs, y :: ys, h => by
    rw [isDL, isDL_ne (xs := xs) (ys := ys) fun e => h (by rw [List.length_cons, List.length_cons, e]), Bool.and_false]
  | [], y :: ys, h => by rw [isDL]; all_goals (intros; simp_all)
  | x :: xs, [], h => by rw [isDL]; all_goals (intros; simp_all)
theorem isDL_all : ∀ {xs ys : List D}, xs.length = ys.length → isDL xs ys = ((xs.zip ys).map fun z => isD z.1 z.2).all id
  | [], [], _ => by rw [isDL]; rfl
  | x :: xs, y :: ys, h => by
    rw [isDL, isDL_all (by simpa using h)]
    rfl
  | [], y :: ys, h => by cases h
  | x :: xs, [], h => by cases h
mutual
theorem isD_self {n : Nat} : ∀ x : D, P2 n x x → isD x x = true
  | .int i, _ => by rw [isD]; exact decide_eq_true rfl
  | .tup xs, h => by
    rw [isD]
    cases h with
    | tup _ q => exact isDL_self xs (fun k x e => q rfl k x x e e)
  | .lst xs, h => by
    rw [isD]
    cases h with
    | lst _ q => exact isDL_self xs (fun k x e => q rfl k x x e e)
  | .non, h => by cases h
  | .bl _, h => by cases h
  | .str _, h => by cases h
  | .hand, h => by cases h
  | .dK _, h => by cases h
  | .dT _, h => by cases h
  | .raw _, h => by cases h
  | .ins _ _, h => by cases h
theorem isDL_self {n : Nat} : ∀ xs : List D, (∀ (k : Nat) (x : D), xs[k]? = some x → P2 n x x) → isDL xs xs = true
  | [], _ => by rw [isDL]
  | x :: xs, h => by
    rw [isDL, isD_self x (h 0 x rfl), isDL_self xs fun k y e => h (k + 1) y (by simpa using e)]
    rfl
end
end Cal
set_option Elab.async false
set_option linter.all false
set_option maxRecDepth 100000
set_option maxHeartbeats 4000000
namespace Cal
open PySem L2 PyProof.Rows
open Evl (Ex sq_of)
section
variable {p : Par} {ρ : Rho} {Q : D → Prop} {ta tb te tl th : TE} {tt tu : TT} {P : Post} {ts tv : TS} {g : TG}
/-- xs.extend(ys), xs slot i's own -/
theorem ws_extend {i : Nat} {xs : List D} (e : ρ[i]? = some (some (.ol xs))) (h : WE p ρ te fun x => ∃ ys, x = .lst ys ∧ xs.length + ys.length ≤ 4000000 ∧ P.n (ρ.set i (some (.ol (xs ++ ys))))) :
    WS p ρ (tDrop (tBM p.K "list" rExtend (tVar i) (tCons te tNil))) P := fun G σ H hh E kn kr kb kc => by
  obtain ⟨sv, h1, a, vs, h2, ow, h4, h5⟩ := hh.slot i _ e
  subst h2
  refine ⟨.ref a, h1, Or.inl ⟨rfl, vs, sq_of h4⟩, h G σ H hh _ fun d w G' H' ⟨ys, ey, hl, z⟩ s r => ?_⟩
  subst ey
  obtain ⟨b, ws, ew, hb, hlr⟩ := r.lst_inv
  subst ew
  have hh' := hh.step s
  obtain ⟨sv', h1', a', vs', h2', ow', h4', h5'⟩ := hh'.slot i _ e
  subst h2'
  rw [h1] at h1'
  cases h1'
  have n1 := h5'.length
  have n2 := hlr.length
  exact ⟨a, b, vs', ws, rfl, rfl, h4', hh'.mem.sub _ _ hb, by rw [sizeLine_eq]; omega, kn _ G' σ _ z s.ex (hh'.write e rfl h1 ow' ⟨a, _, rfl, ow', upd_same, h5'.append hlr⟩)⟩
end
end Cal
set_option Elab.async false
set_option linter.all false
set_option maxRecDepth 100000
set_option maxHeartbeats 4000000
namespace Cal
open PySem L2 PyProof.Rows
open Evl (Ex sq_of)
section
variable {κ : Type} [DecidableEq κ]
theorem dPut_new {kvs : List (κ × D)} {k : κ} {v : D} (h : dGet kvs k = none) : dPut kvs k v = kvs ++ [(k, v)] := by
  unfold dPut
  rw [if_neg]
  intro z
  unfold dGet at h
  rw [Option.map_eq_none_iff, List.find?_eq_none] at h
  obtain ⟨x, hx, e⟩ := List.any_eq_true.mp z
  exact h x hx e
theorem dGet_new {kvs : List (κ × D)} {k : κ} {v : D} (h : dGet kvs k = none) : dGet (kvs ++ [(k, v)]) k = some v := by
  unfold dGet at h ⊢
  rw [Option.map_eq_none_iff] at h
  rw [List.find?_append, h]
  simp
theorem dGet_mem {kvs : List (κ × D)} {k : κ} {v : D} (h : dGet kvs k = some v) : (k, v) ∈ kvs := by
  unfold dGet at h
  obtain ⟨x, hx, e⟩ := Option.map_eq_some_iff.mp h
  have h1 := List.mem_of_find?_eq_some hx
  have h2 := List.find?_some hx
  have h3 : x.1 = k := of_decide_eq_true h2
  rw [← h3, ← e]
  exact h1
theorem dGet_no {kvs : List (κ × D)} {k : κ} (h : dGet kvs k = none) : k ∉ kvs.map (·.1) := by
  intro z
  obtain ⟨x, hx, e⟩ := List.mem_map.mp z
  unfold dGet at h
  rw [Option.map_eq_none_iff, List.find?_eq_none] at h
  exact h x hx (decide_eq_true e)
theorem dGet_not {kvs : List (κ × D)} {k : κ} (h : k ∉ kvs.map (·.1)) : dGet kvs k = none := by
  cases e : dGet kvs k with
  | none => rfl
  | some v => exact (h (List.mem_map.mpr ⟨_, dGet_mem e, rfl⟩)).elim
end
section
variable {p : Par} {ρ : Rho} {Q : D → Prop} {ta tb te tl th : TE} {tt tu : TT} {P : Post} {ts tv : TS} {g : TG}
/-- a, b, c, d = [], x, {}, {}: the dicts with tuples for keys -/
theorem ws_new4T {i j k l r0 : Nat} {x : D} (e : ρ[r0]? = some (some (.d x))) (h : P.n ((((ρ.set i (some (.ol []))).set j (some (.d x))).set k (some (.ot []))).set l (some (.ot [])))) :
    WS p ρ (tAsg (tTup (tCons (tLst tNil) (tCons (tVar r0) (tCons tDNewT (tCons tDNewT tNil))))) (gTup p.K 4 (gCons (gName i) (gCons (gName j) (gCons (gName k) (gCons (gName l) gNil)))))) P := fun G σ H hh E kn kr kb kc => by
  obtain ⟨sv, h1, v, h2, h3⟩ := hh.slot r0 _ e
  subst h2
  refine ⟨sz (Nat.zero_le _), fun a ha => ⟨v, h1, fun b hb c hc => ⟨sz (by show 4 ≤ 4000000; decide), fun t ht => ?_⟩⟩⟩
  have s1 := hh.mem.growO (o := .lst []) ha
  have h1 := hh.setNew (i := i) (c := .ol []) s1 (Nil.no ha) ⟨a, [], rfl, hh.mem.fresh ha, upd_same, .nil⟩
  have h2 := h1.setD (i := j) h3
  have s3 := h2.mem.growO (o := .dT []) hb
  have h4 := h2.setNew (i := k) (c := .ot []) s3 (Nil.no hb) ⟨b, [], rfl, h2.mem.fresh hb, upd_same, .nil⟩
  have s5 := h4.mem.growO (o := .dT []) hc
  have h6 := h4.setNew (i := l) (c := .ot []) s5 (Nil.no hc) ⟨c, [], rfl, h4.mem.fresh hc, upd_same, .nil⟩
  have h7 := h6.step (h6.mem.growO (o := .tup [.ref a, v, .ref b, .ref c]) ht)
  refine ⟨t, _, rfl, Evl.st_of upd_same, rfl, ⟨_, _, rfl, ⟨_, _, rfl, ⟨_, _, rfl, ⟨_, _, rfl, rfl, ?_⟩⟩⟩⟩⟩
  exact kn _ G _ _ h Ex.rfl' h7
end
end Cal
set_option Elab.async false
set_option linter.all false
set_option maxRecDepth 100000
set_option maxHeartbeats 4000000
namespace Cal
open PySem L2 PyProof.Rows
open Evl (Ex sq_of st_of)
/-! ### == and != of nested data -/
mutual
/-- as the data of the comparison of nested things (what has no such data: None) -/
def toPy : D → PyData
  | .non => .none
  | .bl b => .bool b
  | .int i => .int i
  | .str x => .str x
  | .tup xs => .tuple (toPyL xs)
  | .lst xs => .list (toPyL xs)
  | _ => .none
def toPyL : List D → List PyData
  | [] => []
  | x :: xs => toPy x :: toPyL xs
end
/-- None, flags, integers, texts, tuples and lists of such -/
inductive Cmp : D → Prop
  | non : Cmp .non
  | bl (b : Bool) : Cmp (.bl b)
  | int (i : Int) : Cmp (.int i)
  | str (x : Str) : Cmp (.str x)
  | tup {xs : List D} : (∀ x ∈ xs, Cmp x) → Cmp (.tup xs)
  | lst {xs : List D} : (∀ x ∈ xs, Cmp x) → Cmp (.lst xs)
section
variable {K : PySem.W.Frag} {h : Hnd} {G H : Hp}
mutual
theorem dp_of (e : Ex G H) : ∀ (x : D) (v : V), Cmp x → Rp K h G v x → Dp K H v (toPy x)
  | .non, _, _, r => by cases r; exact .non
  | .bl b, _, _, r => by cases r; exact .bl b
  | .int i, _, _, r => by cases r; exact .int i
  | .str x, _, _, r => by cases r; exact .str x
  | .tup xs, _, c, r => by
    obtain ⟨a, vs, ev, hs, hl⟩ := r.tup_inv
    subst ev
    rw [toPy]
    cases c with
    | tup cs => exact .tup (tq e hs) (dpl_of e xs vs cs hl)
  | .lst xs, _, c, r => by
    obtain ⟨a, vs, ev, hs, hl⟩ := r.lst_inv
    subst ev
    rw [toPy]
    cases c with
    | lst cs => exact .lst (lq e hs) (dpl_of e xs vs cs hl)
  | .hand, _, c, _ => by cases c
  | .dK _, _, c, _ => by cases c
  | .dT _, _, c, _ => by cases c
  | .raw _, _, c, _ => by cases c
  | .ins _ _, _, c, _ => by cases c
theorem dpl_of (e : Ex G H) : ∀ (xs : List D) (vs : List V), (∀ x ∈ xs, Cmp x) → RpL K h G vs xs → DpAll K H vs (toPyL xs)
  | [], _, _, r => by cases r; rw [toPyL]; exact .nil
  | x :: xs, _, c, r => by
    cases r with
    | cons a b =>
      rw [toPyL]
      exact .cons (dp_of e x _ (c x List.mem_cons_self) a) (dpl_of e xs _ (fun y hy => c y (List.mem_cons_of_mem _ hy)) b)
end
end
section
variable {p : Par} {ρ : Rho} {Q : D → Prop} {ta tb te tl th : TE} {tt tu : TT} {P : Post} {ts tv : TS} {g : TG}
theorem we_eqD (h : WE p ρ ta fun x => Cmp x ∧ SeqAt.shaped (toPy x) = true ∧ WE p ρ tb fun y => Cmp y ∧ SeqAt.shaped (toPy y) = true ∧ Q (.bl (PyData.eqv (toPy x) (toPy y)))) : WE p ρ (tOp (rEqD p.K) ta tb) Q :=
  we_op (h.imp fun x ⟨c1, s1, h⟩ => h.imp fun y ⟨c2, s2, q⟩ => fun G H v w m r1 r2 Qv k =>
    ⟨_, _, dp_of m.sub x v c1 r1, dp_of m.sub y w c2 r2, s1, s2, k _ _ G H q m.refl (.bl _)⟩)
theorem we_neD (h : WE p ρ ta fun x => Cmp x ∧ SeqAt.shaped (toPy x) = true ∧ WE p ρ tb fun y => Cmp y ∧ SeqAt.shaped (toPy y) = true ∧ Q (.bl (!PyData.eqv (toPy x) (toPy y)))) : WE p ρ (tOp (rNeD p.K) ta tb) Q :=
  we_op (h.imp fun x ⟨c1, s1, h⟩ => h.imp fun y ⟨c2, s2, q⟩ => fun G H v w m r1 r2 Qv k =>
    ⟨_, _, dp_of m.sub x v c1 r1, dp_of m.sub y w c2 r2, s1, s2, k _ _ G H q m.refl (.bl _)⟩)
/-- max(ns), min(ns) of a list of integers -/
theorem we_maxL (h : WE p ρ te fun x => ∃ ns : List Int, x = .lst (ns.map D.int) ∧ 0 < ns.length ∧ ∀ m, m ∈ ns → (∀ y, y ∈ ns → y ≤ m) → Q (.int m)) : WE p ρ (tCB (rMax p.K) (tCons te tNil)) Q :=
  we_cb (wa_cons (h.imp fun x ⟨ns, e, hn, q⟩ => wa_nil fun G H vs m r Qv k => by
    subst e
    cases r with
    | cons r rn =>
      cases rn
      obtain ⟨a, us, ev, hs, hl⟩ := r.lst_inv
      subst ev
      rw [hl.ints] at hs
      exact ⟨a, ns, rfl, lq m.sub hs, hn, fun z h1 h2 => k _ _ G H (q z h1 h2) m.refl (.int _)⟩))
theorem we_minL (h : WE p ρ te fun x => ∃ ns : List Int, x = .lst (ns.map D.int) ∧ 0 < ns.length ∧ ∀ m, m ∈ ns → (∀ y, y ∈ ns → m ≤ y) → Q (.int m)) : WE p ρ (tCB (rMin p.K) (tCons te tNil)) Q :=
  we_cb (wa_cons (h.imp fun x ⟨ns, e, hn, q⟩ => wa_nil fun G H vs m r Qv k => by
    subst e
    cases r with
    | cons r rn =>
      cases rn
      obtain ⟨a, us, ev, hs, hl⟩ := r.lst_inv
      subst ev
      rw [hl.ints] at hs
      exact ⟨a, ns, rfl, lq m.sub hs, hn, fun z h1 h2 => k _ _ G H (q z h1 h2) m.refl (.int _)⟩))
theorem any_toPy {x : D} {ys : List D} : ((toPyL ys).any fun z => PyData.eqv z (toPy x)) = ys.any fun y => PyData.eqv (toPy y) (toPy x) := by
  induction ys with
  | nil => rw [toPyL]; rfl
  | cons y ys ih => rw [toPyL, List.any_cons, List.any_cons, ih]
theorem we_inD (h : WE p ρ ta fun x => Cmp x ∧ SeqAt.shaped (toPy x) = true ∧ WE p ρ tb fun y => ∃ ys, y = .lst ys ∧ Cmp y ∧ SeqAt.shaped (toPy y) = true ∧ Q (.bl (ys.any fun z => PyData.eqv (toPy z) (toPy x)))) : WE p ρ (tOp (rInD p.K) ta tb) Q :=
  we_op (h.imp fun x ⟨c1, s1, h⟩ => h.imp fun y ⟨ys, ey, c2, s2, q⟩ => fun G H v w m r1 r2 Qv k => by
    subst ey
    have d2 := dp_of m.sub _ w c2 r2
    rw [toPy] at d2 s2
    refine ⟨_, _, dp_of m.sub x v c1 r1, d2, s1, s2, ?_⟩
    rw [any_toPy]
    exact k _ _ G H q m.refl (.bl _))
theorem we_notInD (h : WE p ρ ta fun x => Cmp x ∧ SeqAt.shaped (toPy x) = true ∧ WE p ρ tb fun y => ∃ ys, y = .lst ys ∧ Cmp y ∧ SeqAt.shaped (toPy y) = true ∧ Q (.bl (!ys.any fun z => PyData.eqv (toPy z) (toPy x)))) : WE p ρ (tOp (rNotInD p.K) ta tb) Q :=
  we_op (h.imp fun x ⟨c1, s1, h⟩ => h.imp fun y ⟨ys, ey, c2, s2, q⟩ => fun G H v w m r1 r2 Qv k => by
    subst ey
    have d2 := dp_of m.sub _ w c2 r2
    rw [toPy] at d2 s2
    refine ⟨_, _, dp_of m.sub x v c1 r1, d2, s1, s2, ?_⟩
    rw [any_toPy]
    exact k _ _ G H q m.refl (.bl _))
theorem rep_rp {G : Hp} {vs : List V} {ds : List D} (r : RpL p.K p.h G vs ds) : ∀ n : Nat, RpL p.K p.h G (List.replicate n vs).flatten (List.replicate n ds).flatten
  | 0 => .nil
  | n + 1 => by
    rw [List.replicate_succ, List.replicate_succ, List.flatten_cons, List.flatten_cons]
    exact r.append (rep_rp r n)
/-- xs * n -/
theorem we_repL (h : WE p ρ ta fun x => ∃ xs, x = .lst xs ∧ WE p ρ tb fun y => ∃ n : Int, y = .int n ∧ -(2 ^ 63) ≤ n ∧ n < 2 ^ 63 ∧ xs.length * n.toNat ≤ 4000000 ∧ Q (.lst (List.replicate n.toNat xs).flatten)) : WE p ρ (tOp rRep ta tb) Q :=
  we_op (h.imp fun x ⟨xs, ex, h⟩ => h.imp fun y ⟨n, ey, n1, n2, n3, q⟩ => fun G H v w m r1 r2 Qv k => by
    subst ex ey
    obtain ⟨a, vs, ev, hs, hl⟩ := r1.lst_inv
    subst ev
    have hz := hl.length
    refine ⟨a, n, vs, rfl, rp_int r2, m.sub _ _ hs, n1, n2, by rw [hz, sizeLine_eq]; omega, fun b hb => ?_⟩
    have g := m.grow (o := .lst (List.replicate n.toNat vs).flatten) hb
    exact k _ _ _ _ q g (.lst upd_same (lmono (rep_rp hl _) g.ex)))
theorem we_repT (h : WE p ρ ta fun x => ∃ xs, x = .tup xs ∧ xs ≠ [] ∧ xs.length ≤ 1000 ∧ WE p ρ tb fun y => ∃ n : Int, y = .int n ∧ 2 ≤ n ∧ n ≤ 1000 ∧ Q (.tup (List.replicate n.toNat xs).flatten)) : WE p ρ (tOp (rRepT p.K) ta tb) Q :=
  we_op (h.imp fun x ⟨xs, ex, hne, hxl, h⟩ => h.imp fun y ⟨n, ey, n1, n2, q⟩ => fun G H v w m r1 r2 Qv k => by
    subst ex ey
    obtain ⟨a, vs, ev, hs, hl⟩ := r1.tup_inv
    subst ev
    have hz := hl.length
    refine ⟨a, n, vs, rfl, rp_int r2, tq m.sub hs, fun z => hne ?_, n1, n2, by omega, fun b hb => ?_⟩
    · rw [z] at hz
      exact List.length_eq_zero_iff.mp hz.symm
    · have g := m.grow (o := .tup (List.replicate n.toNat vs).flatten) hb
      exact k _ _ _ _ q g (.tup upd_same (lmono (rep_rp hl _) g.ex)))
end
section
variable {X : Cx} {K0 : PySem.W.Frag}
theorem cr_maxK (hK : X.K = K0) (hc : X.calm = true) : CallR X (.builtin "max") (rMax K0) := hK ▸ cr_max hc
theorem cr_minK (hK : X.K = K0) (hc : X.calm = true) : CallR X (.builtin "min") (rMin K0) := hK ▸ cr_min hc
theorem op_inDK (hK : X.K = K0) (hu : X.A.units + 65 < cLine) : OpR X (compareOp .In) (rInD K0) := hK ▸ op_inD hu
theorem op_notInDK (hK : X.K = K0) (hu : X.A.units + 65 < cLine) : OpR X (compareOp .NotIn) (rNotInD K0) := hK ▸ op_notInD hu
theorem op_repTK (hK : X.K = K0) : OpR X (binaryOp .Mult) (rRepT K0) := hK ▸ op_repT
theorem room65 {A : Around} {k : Nat} (hr : Room k A) : A.units + 65 < cLine := by have := hr.un; omega
end
end Cal
set_option Elab.async false
set_option linter.all false
set_option maxRecDepth 100000
set_option maxHeartbeats 4000000
namespace Cal
open PySem L2 PyProof.Rows
open Evl (Ex sq_of st_of)
/-! ### an owned list, lent to an expression that tells a scalar -/
theorem rp_sc {K : PySem.W.Frag} {h : Hnd} {G G' : Hp} {v : V} : ∀ {d : D}, d.sc = true → Rp K h G v d → Rp K h G' v d
  | .non, _, r => by cases r; exact .non
  | .bl b, _, r => by cases r; exact .bl b
  | .int i, _, r => by cases r; exact .int i
  | .str x, _, r => by cases r; exact .str x
  | .hand, h, _ => by cases h
  | .tup _, h, _ => by cases h
  | .lst _, h, _ => by cases h
  | .dK _, h, _ => by cases h
  | .dT _, h, _ => by cases h
  | .raw _, h, _ => by cases h
  | .ins _ _, h, _ => by cases h
/-- no list of integers alone -/
def D.nonInt : List D → Bool
  | .tup _ :: _ => true | .lst _ :: _ => true | .non :: _ => true | .str _ :: _ => true | .bl _ :: _ => true | _ => false
theorem lent {p : Par} {ρ : Rho} {G G' H H' : Hp} {σ : L2.St} {a : Addr} {vs : List V} {xs : List D} (hh : Hold p ρ G σ H) (ow : Own p G a) (ha : H a = some (.lst vs)) (hl : RpL p.K p.h G vs xs) (hn : D.nonInt xs = true) (s : Stp p (upd G a (.lst vs)) H G' H') :
    Stp p G H (fun b => if b = a then none else G' b) H' := by
  have ne : ∀ {b : Addr} {o : HO}, (if b = a then none else G' b) = some o → b ≠ a ∧ G' b = some o := fun {b o} z => by
    by_cases hb : b = a
    · rw [if_pos hb] at z; cases z
    · rw [if_neg hb] at z; exact ⟨hb, z⟩
  refine ⟨fun b o z => s.sub b o (ne z).2, ?_, s.base, fun b o z => ?_, fun b o z => ?_, ?_, fun b ps z => s.gt b ps (ne z).2, s.tab⟩
  · show (if p.h.a = a then none else G' p.h.a) = none
    rw [if_neg (Ne.symm ow.2.2)]; exact s.gh
  · have hb : b ≠ a := ne_of_none z ow.1
    show (if b = a then none else G' b) = some o
    rw [if_neg hb]
    exact s.g0 b o ((upd_ne hb).trans z)
  · obtain ⟨hb, z2⟩ := ne z
    rcases s.new b o z2 with q | q
    · exact .inl ((upd_ne hb).symm.trans q)
    · exact .inr q
  · obtain ⟨ns, i, r, n, h1, h2, h3⟩ := s.hand
    have hc : p.h.c ≠ a := fun e => by
      obtain ⟨ns2, _, _, _, _, g2, _⟩ := hh.mem.hand
      rw [e, ow.1] at g2
      cases g2
    exact ⟨ns, i, r, n, h1, by show (if p.h.c = a then none else G' p.h.c) = _; rw [if_neg hc]; exact h2, h3⟩
section
variable {p : Par} {ρ : Rho} {Q : D → Prop} {ta tb te : TE} {tt tu : TT}
theorem we_lend (i : Nat) {xs : List D} (e : ρ[i]? = some (some (.ol xs))) (hn : D.nonInt xs = true) (h : WE p (ρ.set i (some (.d (.lst xs)))) te fun d => d.sc = true ∧ Q d) : WE p ρ te Q := fun G σ H hh Qv k => by
  obtain ⟨sv, h1, a, vs, h2, ow, h4, h5⟩ := hh.slot i _ e
  subst h2
  obtain ⟨hh', ex⟩ := hh.freeze e rfl h1 ow h4 (x := .lst xs) (.lst upd_same (lmono h5 fun b u z => by rw [upd_ne (ne_of_none z ow.1)]; exact z))
  refine h _ σ H hh' Qv fun d v G' H' ⟨hd, q⟩ s r => ?_
  exact k d v _ H' q (lent hh ow h4 h5 hn s) (rp_sc hd r)
theorem wt_lend (i : Nat) {xs : List D} {R : Bool → Prop} (e : ρ[i]? = some (some (.ol xs))) (hn : D.nonInt xs = true) (h : WT p (ρ.set i (some (.d (.lst xs)))) tt R) : WT p ρ tt R := fun G σ H hh Qv k => by
  obtain ⟨sv, h1, a, vs, h2, ow, h4, h5⟩ := hh.slot i _ e
  subst h2
  obtain ⟨hh', ex⟩ := hh.freeze e rfl h1 ow h4 (x := .lst xs) (.lst upd_same (lmono h5 fun b u z => by rw [upd_ne (ne_of_none z ow.1)]; exact z))
  exact h _ σ H hh' Qv fun b G' H' q s => k b _ H' q (lent hh ow h4 h5 hn s)
end
end Cal
set_option Elab.async false
set_option linter.all false
set_option maxRecDepth 100000
set_option maxHeartbeats 4000000
namespace Cal
open PySem L2 PyProof.Rows
open Evl (Ex sq_of st_of)
section
variable {p : Par} {ρ : Rho} {Q : D → Prop} {ta tb te tl th : TE} {tt tu : TT} {P : Post} {ts tv : TS} {g : TG}
/-- a comprehension over range(a, b, c) -/
theorem wf_lc3 {ta : TA} {vs : List Nat} {Q : Cell → Prop} (h : WA p ρ ta fun ds => ∃ (lo hi c : Int) (n : Nat), ds = [.int lo, .int hi, .int c] ∧ RgC lo hi c n ∧ n ≤ 4000000 ∧ ∃ I : Nat → List D → Prop, I 0 [] ∧
    (∀ k acc, k < n → I k acc → acc.length ≤ k → WGp p vs (wipeR ρ vs) g (.int (lo + (k : Nat) * c)) fun ρ2 => WT p ρ2 tt fun b => if b = true then WE p ρ2 te fun y => I (k + 1) (acc ++ [y]) else I (k + 1) acc) ∧ ∀ acc, I n acc → Q (.ol acc)) :
    WF p ρ (tLc (iRng3 ta) g tt te vs) Q := fun G σ H hh Qv kk =>
  h G σ H hh _ fun ds ws G1 H1 ⟨lo, hi, c, n, e, hc, hz, I, h0, hs, hd⟩ s1 r1 => by
    subst e
    cases r1 with
    | cons r1 rn =>
      cases rn with
      | cons r2 rn =>
        cases rn with
        | cons r3 rn =>
          cases rn; cases r1; cases r2; cases r3
          have hh1 := hh.step s1
          refine ⟨lo, hi, c, n, rfl, hc, fun Dl hn => lc_any (n := n) (Lc p G1 H1 Dl I) (lc_start hh1 hn h0) (fun k H' hk L => hk) (fun H' L => Nat.le_refl _) (fun k v H' H2 hk L hy => ?_) fun H' L => ?_⟩
          · obtain ⟨e1, e2⟩ := hy
            subst e1 e2
            exact lc_turn hh1 hn (by omega) L (fun G' s => ⟨G', (hh1.step s).mem.refl, .int _⟩) fun acc hi hle => hs k acc hk hi hle
          · obtain ⟨acc, av, G', hi, _, s, e, ow, r⟩ := L
            exact kk _ Dl G' H' (hd acc hi) rfl (s1.trans s) (hh.mem.back s1 hn) ⟨Dl, av, rfl, ow, e, r⟩
theorem fits {z : Int} (h : -9000000 ≤ z ∧ z ≤ 9000000) : Builtin.Range.rangeFitsLong z = true := by
  unfold Builtin.Range.rangeFitsLong
  rw [decide_eq_true (show -(2 ^ 63) ≤ z by omega), decide_eq_true (show z < 2 ^ 63 by omega)]
  rfl
theorem rgc2 (m : Nat) (h : m ≤ 4000000) : RgC 0 ((2 * m : Nat) : Int) 2 m := by
  have e : Builtin.Range.rangeSize 0 ((2 * m : Nat) : Int) 2 = m := by
    unfold Builtin.Range.rangeSize
    rw [if_pos (by decide)]
    split <;> omega
  refine ⟨by decide, by decide, ?_, e⟩
  unfold Builtin.Range.small
  rw [e, if_pos (by decide), fits (by omega), fits (by omega), fits (by omega), fits (by omega), fits (by omega), Bool.or_true]
  rfl
/-- whether an int is not 0 -/
theorem wt_truI {R : Bool → Prop} (h : WE p ρ te fun x => ∃ i : Int, x = .int i ∧ R (decide (i ≠ 0))) : WT p ρ (fun σ H Q => te σ H fun x H' => ∃ k, TruV p.K x H' k ∧ Q k H') R := fun G σ H hh Qv k =>
  h G σ H hh _ fun x v G1 H1 ⟨i, e, q⟩ s1 r1 => by
    subst e
    cases r1
    refine ⟨decide (i ≠ 0), ?_, k _ G1 H1 q s1⟩
    show decide (i ≠ 0) = (i != 0)
    by_cases hi : i = 0
    · rw [hi]; rfl
    · rw [decide_eq_true hi]; simpa using hi
/-- by way of what is known between -/
theorem ws_to (M : Rho → Prop) (h : WS p ρ ts ⟨M, P.r, P.b, P.c⟩) (k : ∀ ρ', M ρ' → P.n ρ') : WS p ρ ts P := fun G σ H hh E kn kr kb kc =>
  h G σ H hh E (fun ρ' G' σ' H' z e hh' => kn ρ' G' σ' H' (k ρ' z) e hh') kr kb kc
theorem band1 (x : Int) : Builtin.bitAnd x 1 = x % 2 := bitAnd_m1 x
end
end Cal
set_option Elab.async false
set_option linter.all false
set_option maxRecDepth 100000
set_option maxHeartbeats 4000000
namespace Cal
open PySem L2 PyProof.Rows
open Evl (Ex sq_of st_of)
section
variable {p : Par} {ρ : Rho} {Q : D → Prop} {ta tb te tl th : TE} {tt tu : TT} {P : Post} {ts tv : TS} {g : TG}
/-- a, b = two new things -/
theorem ws_newPair {i j : Nat} (h : WF p ρ ta fun c1 => WF p ρ tb fun c2 => P.n ((ρ.set i (some c1)).set j (some c2))) :
    WS p ρ (tAsg (tTup (tCons ta (tCons tb tNil))) (gTup p.K 2 (gCons (gName i) (gCons (gName j) gNil)))) P := fun G σ H hh E kn kr kb kc => by
  refine h G σ H hh _ fun c1 a G1 H1 q ho1 s1 n1 x1 => q G1 σ H1 (hh.step s1) _ fun c2 b G2 H2 q2 ho2 s2 n2 x2 => ⟨sz (by show 2 ≤ 4000000; decide), fun t ht => ?_⟩
  have h1 := hh.setNew (i := i) s1 n1 x1
  have h2 := h1.setNew (i := j) s2 n2 x2
  have h3 := h2.step (h2.mem.growO (o := .tup [.ref a, .ref b]) ht)
  exact ⟨t, _, rfl, Evl.st_of upd_same, rfl, ⟨_, _, rfl, ⟨_, _, rfl, rfl, kn _ G2 _ _ q2 (ex_tr s1.ex s2.ex) h3⟩⟩⟩
/-- a, b, c = [], x, {}: the dict with tuples for keys -/
theorem ws_new3T {i j l r0 : Nat} {x : D} (e : ρ[r0]? = some (some (.d x))) (h : P.n (((ρ.set i (some (.ol []))).set j (some (.d x))).set l (some (.ot [])))) :
    WS p ρ (tPar3 i j l (tCons (tLst tNil) (tCons (tVar r0) (tCons tDNewT tNil)))) P := fun G σ H hh E kn kr kb kc => by
  obtain ⟨sv, h1, v, h2, h3⟩ := hh.slot r0 _ e
  subst h2
  refine ⟨sz (Nat.zero_le _), fun a ha => ⟨v, h1, fun c hc => ?_⟩⟩
  have s1 := hh.mem.growO (o := .lst []) ha
  have h1 := hh.setNew (i := i) (c := .ol []) s1 (Nil.no ha) ⟨a, [], rfl, hh.mem.fresh ha, upd_same, .nil⟩
  have h2 := h1.setD (i := j) h3
  have s5 := h2.mem.growO (o := .dT []) hc
  have h6 := h2.setNew (i := l) (c := .ot []) s5 (Nil.no hc) ⟨c, [], rfl, h2.mem.fresh hc, upd_same, .nil⟩
  exact ⟨_, _, _, rfl, kn _ G _ _ h Ex.rfl' h6⟩
theorem RpL.last {K : PySem.W.Frag} {h : Hnd} {G : Hp} {vs : List V} {xs : List D} {x : D} (r : RpL K h G vs (xs ++ [x])) : ∃ v, vs[vs.length - 1]? = some v ∧ Rp K h G v x ∧ RpL K h G vs.dropLast xs := by
  have hl := r.length
  rw [List.length_append, List.length_singleton] at hl
  obtain ⟨v, h1, h2⟩ := r.get (i := xs.length) (d := x) (by rw [List.getElem?_append_right (Nat.le_refl _), Nat.sub_self]; rfl)
  refine ⟨v, by rw [hl, Nat.add_sub_cancel]; exact h1, h2, ?_⟩
  have h3 := r.take xs.length
  rw [List.take_append_of_le_length (Nat.le_refl _), List.take_length] at h3
  rw [List.dropLast_eq_take, hl, Nat.add_sub_cancel]
  exact h3
/-- b = [a.pop()] + .. -/
theorem ws_popcat {i j : Nat} {xs : List D} {x : D} (e : ρ[i]? = some (some (.ol (xs ++ [x])))) (h : WE p (ρ.set i (some (.ol xs))) tb fun y => ∃ ys, y = .lst ys ∧ ys.length < 4000000 ∧ P.n ((ρ.set i (some (.ol xs))).set j (some (.d (.lst (x :: ys)))))) :
    WS p ρ (tAsg (tOp rCat (tLst (tCons (tBM0 p.K "list" rPop (tVar i)) tNil)) tb) (gName j)) P := fun G σ H hh E kn kr kb kc => by
  obtain ⟨sv, h1, a, vs, h2, ow, h4, h5⟩ := hh.slot i _ e
  subst h2
  obtain ⟨v, hv, rv, rd⟩ := h5.last
  refine ⟨.ref a, h1, .inl ⟨rfl, vs, sq_of h4⟩, a, vs, v, rfl, rfl, h4, hv, sz (by show 1 ≤ 4000000; decide), fun b hb => ?_⟩
  have hh1 : Hold p (ρ.set i (some (.ol xs))) G σ (upd H a (.lst vs.dropLast)) := hh.write e rfl h1 ow ⟨a, _, rfl, ow, upd_same, rd⟩
  have g1 := hh1.mem.grow (o := .lst [v]) hb
  have hh2 := hh1.step g1
  refine h _ σ _ hh2 _ fun y w G3 H3 ⟨ys, ey, hz, hP⟩ s3 r3 => ?_
  subst ey
  obtain ⟨c, ws, ew, ht, hm⟩ := r3.lst_inv
  subst ew
  have hh3 := hh2.step s3
  have hb3 : H3 b = some (.lst [v]) := hh3.mem.sub _ _ (s3.ex _ _ upd_same)
  have hz2 := hm.length
  refine ⟨b, c, [v], ws, rfl, rfl, hb3, hh3.mem.sub _ _ ht, sz (by show 1 + ws.length ≤ 4000000; omega), fun q hq => ?_⟩
  have g4 := hh3.mem.grow (o := .lst ([v] ++ ws)) hq
  have hh4 := hh3.step g4
  have ex4 : Ex G (upd G3 q (.lst ([v] ++ ws))) := ex_tr (ex_tr g1.ex s3.ex) g4.ex
  exact kn _ _ _ _ hP ex4 (hh4.setD (.lst upd_same (.cons (rmono rv ex4) (lmono hm g4.ex))))
/-- <= of lists of ints -/
def rLeL (K : PySem.W.Frag) : R2 := fun x y H Q => ∃ (a b : Addr) (ns ms : List Int), x = .ref a ∧ y = .ref b ∧ SqL K H a (ns.map V.int) ∧ SqL K H b (ms.map V.int) ∧
  Q (.bl (SeqAt.firstLt (fun j => decide (ns.getD j 0 = ms.getD j 0)) (fun j => decide (ns.getD j 0 ≤ ms.getD j 0)) (decide (ns.length ≤ ms.length)) (List.range (min ns.length ms.length)))) H
/-- what stands in an array of ints -/
theorem arr_int {its : List Value} {ns : List Int} (r : IntsAre its ns) {j : Nat} (hj : j < its.toArray.size) : ∃ t, its.toArray[j] = .int (ns.getD j 0) t := IntsAre.int_at r _ _ (by
  rw [List.size_toArray] at hj
  simp [hj])
theorem eq_ints {A : Around} {s : Shared} (i j : Int) (t u : Tok) : SeqAt.EqAt A s (.int i t) (.int j u) (decide (i = j)) := by
  rw [show decide (i = j) = (i == j) by by_cases h : i = j <;> simp [h]]
  exact SeqAt.EqAt.int_int _ _ _ _
theorem op_leL {X : Cx} (hu : X.A.units < cLine) : OpR X (compareOp .LtE) (rLeL X.K) := by
  rintro pins s σ H x y v u Q I rx ry ⟨a, b, ns, ms, rfl, rfl, ha, hb, q⟩
  cases rx; cases ry
  rcases I.list ha with ⟨vs, rv, ⟨o, m, g1, g2, _, g4⟩, _⟩
  rcases I.list hb with ⟨ws, rw', ⟨o', m', k1, k2, _, k4⟩, _⟩
  have iv := Vals.ints rv
  have iw := Vals.ints rw'
  have lv : vs.toArray.size = ns.length := (List.size_toArray).trans iv.length
  have lw : ws.toArray.size = ms.length := (List.size_toArray).trans iw.length
  have le := SeqAt.RcOp.lists_le (e := fun j => decide (ns.getD j 0 = ms.getD j 0)) (r := fun j => decide (ns.getD j 0 ≤ ms.getD j 0)) ⟨o, g1, g2, m, g4⟩ ⟨o', k1, k2, m', k4⟩ hu
    (fun j h1 h2 => by
      rcases arr_int iv h1 with ⟨t, e1⟩
      rcases arr_int iw h2 with ⟨t', e2⟩
      rw [e1, e2]; exact eq_ints _ _ _ _)
    (fun j h1 h2 _ => by
      rcases arr_int iv h1 with ⟨t, e1⟩
      rcases arr_int iw h2 with ⟨t', e2⟩
      rw [e1, e2]; exact fun _ _ _ _ h => le_int h)
  rw [lv, lw] at le
  exact (le X.prog X.w X.xe (EP X pins σ Q) ⟨.bl _, H, I, rfl, q⟩ : wpAny (model X.prog X.w) X.A (compareOp .LtE (.ref a) (.ref b)) (EP X pins σ Q) X.xe s)
theorem roomU {A : Around} {k : Nat} (hr : Room k A) : A.units < cLine := by have := hr.un; omega
theorem op_leLK {X : Cx} {K0 : PySem.W.Frag} (hK : X.K = K0) (hu : X.A.units < cLine) : OpR X (compareOp .LtE) (rLeL K0) := hK ▸ op_leL hu
end
section
variable {p : Par} {ρ : Rho} {Q : D → Prop} {ta tb tc te tl th : TE} {tt tu : TT} {P : Post} {ts tv : TS} {g : TG}
def firstI (ns ms : List Int) : Bool := SeqAt.firstLt (fun j => decide (ns.getD j 0 = ms.getD j 0)) (fun j => decide (ns.getD j 0 ≤ ms.getD j 0)) (decide (ns.length ≤ ms.length)) (List.range (min ns.length ms.length))
/-- a <= b <= c of lists of ints -/
theorem we_chainL (h : WE p ρ ta fun x => ∃ ns : List Int, x = .lst (ns.map D.int) ∧ WE p ρ tb fun y => ∃ ms : List Int, y = .lst (ms.map D.int) ∧ (firstI ns ms = true → WE p ρ tc fun z => ∃ ks : List Int, z = .lst (ks.map D.int) ∧ Q (.bl (firstI ms ks))) ∧ (firstI ns ms = false → Q (.bl false))) :
    WE p ρ (tChain (rLeL p.K) (rLeL p.K) ta tb tc) Q := fun G σ H hh Qv k =>
  h G σ H hh _ fun x v G1 H1 ⟨ns, e1, h2⟩ s1 r1 => h2 G1 σ H1 (hh.step s1) _ fun y w G2 H2 ⟨ms, e2, q1, q2⟩ s2 r2 => by
    subst e1 e2
    obtain ⟨a, us, ev, hs, hl⟩ := r1.lst_inv
    obtain ⟨b, ws, ew, ht, hm⟩ := r2.lst_inv
    subst ev ew
    rw [hl.ints] at hs
    rw [hm.ints] at ht
    have hh2 := (hh.step s1).step s2
    refine ⟨a, b, ns, ms, rfl, rfl, lq hh2.mem.sub (s2.ex _ _ hs), lq hh2.mem.sub ht, firstI ns ms, rfl, ?_⟩
    cases hb : firstI ns ms with
    | false => rw [if_neg (by decide)]; exact k _ _ G2 H2 (q2 hb) (s1.trans s2) (.bl _)
    | true =>
      rw [if_pos rfl]
      refine q1 hb G2 σ H2 hh2 _ fun z u G3 H3 ⟨ks, e3, q⟩ s3 r3 => ?_
      subst e3
      obtain ⟨c, zs, ez, hu, hn⟩ := r3.lst_inv
      subst ez
      rw [hn.ints] at hu
      have hh3 := hh2.step s3
      exact ⟨b, c, ms, ks, rfl, rfl, lq hh3.mem.sub (s3.ex _ _ ht), lq hh3.mem.sub hu, k _ _ G3 H3 q ((s1.trans s2).trans s3) (.bl _)⟩
/-- a is not b, of flags -/
theorem we_isnotB (h : WE p ρ ta fun x => ∃ a, x = .bl a ∧ WE p ρ tb fun y => ∃ b, y = .bl b ∧ Q (.bl (!decide (a = b)))) : WE p ρ (tOp (fun x y H Q => ∃ a b, x = .bl a ∧ y = .bl b ∧ Q (.bl (!decide (a = b))) H) ta tb) Q :=
  we_op (h.imp fun x ⟨a, ex, h⟩ => h.imp fun y ⟨b, ey, q⟩ => fun G H v w m r1 r2 Qv k => by
    subst ex ey
    cases r1
    cases r2
    exact ⟨a, b, rfl, rfl, k _ _ G H q m.refl (.bl _)⟩)
end
end Cal
set_option Elab.async false
set_option linter.all false
set_option maxRecDepth 100000
set_option maxHeartbeats 4000000
namespace Cal
open PySem L2 PyProof.Rows
open Evl (Ex sq_of st_of)
/-! ### objects of a class of the program -/
def putD (f : Str) (y : D) : List (Str × D) → List (Str × D)
  | [] => [(f, y)]
  | (g, x) :: r => if g = f then (g, y) :: r else (g, x) :: putD f y r
section
variable {K : PySem.W.Frag} {h : Hnd} {G : Hp}
theorem RpF.length : ∀ {vs : List (Str × V)} {fs : List (Str × D)}, RpF K h G vs fs → vs.length = fs.length
  | [], [], _ => rfl
  | v :: vs, d :: ds, r => by cases r with | cons a b => rw [List.length_cons, List.length_cons, RpF.length b]
  | [], d :: ds, r => by cases r
  | v :: vs, [], r => by cases r
theorem RpF.lookup {f : Str} {y : D} : ∀ {vs : List (Str × V)} {fs : List (Str × D)}, RpF K h G vs fs → fs.lookup f = some y → ∃ v, vs.lookup f = some v ∧ Rp K h G v y
  | [], [], _, e => by cases e
  | v :: vs, d :: ds, r, e => by
    cases r with
    | @cons g v _ d _ a b =>
      rw [lookup_if] at e ⊢
      by_cases hg : f = g
      · rw [if_pos hg] at e ⊢
        cases e
        exact ⟨v, rfl, a⟩
      · rw [if_neg hg] at e ⊢
        exact RpF.lookup b e
  | [], d :: ds, r, _ => by cases r
  | v :: vs, [], r, _ => by cases r
theorem RpF.put {f : Str} {v : V} {y : D} (q : Rp K h G v y) : ∀ {vs : List (Str × V)} {fs : List (Str × D)}, RpF K h G vs fs → RpF K h G (putF f v vs) (putD f y fs)
  | [], [], _ => .cons q .nil
  | x :: vs, d :: ds, r => by
    cases r with
    | @cons g v' _ d' _ a b =>
      rw [putF, putD]
      by_cases hg : g = f
      · rw [if_pos hg, if_pos hg]; exact .cons q b
      · rw [if_neg hg, if_neg hg]; exact .cons a (RpF.put q b)
  | [], d :: ds, r => by cases r
  | v :: vs, [], r => by cases r
end
section
variable {p : Par} {ρ : Rho} {Q : D → Prop} {ta tb te tl th : TE} {tt tu : TT} {P : Post} {ts tv : TS} {g : TG}
theorem look_mem {f : Str} {y : D} : ∀ {fs : List (Str × D)}, fs.lookup f = some y → f ∈ fs.map (·.1)
  | [], e => by cases e
  | d :: ds, e => by
    rw [show d = (d.1, d.2) from rfl, lookup_if] at e
    by_cases h : f = d.1
    · rw [h]; exact List.mem_cons_self
    · rw [if_neg h] at e
      exact List.mem_cons_of_mem _ (look_mem e)
theorem putD_mem {f g : Str} {y : D} : ∀ {fs : List (Str × D)}, g ∈ (putD f y fs).map (·.1) → g = f ∨ g ∈ fs.map (·.1)
  | [], h => by
    rw [putD] at h
    exact .inl (List.mem_singleton.mp h)
  | d :: ds, h => by
    rw [show d = (d.1, d.2) from rfl, putD] at h
    by_cases hd : d.1 = f
    · rw [if_pos hd] at h
      exact .inr h
    · rw [if_neg hd] at h
      rcases List.mem_cons.mp h with h | h
      · exact .inr (by rw [h]; exact List.mem_cons_self)
      · rcases putD_mem h with h | h
        · exact .inl h
        · exact .inr (List.mem_cons_of_mem _ h)
/-- e.f -/
theorem we_fld {f : Str} (h : WE p ρ te fun x => ∃ C fs y, x = .ins C fs ∧ fs.lookup f = some y ∧ Q y) : WE p ρ (tFld p.K te f) Q := fun G σ H hh Qv k =>
  h G σ H hh _ fun x v G1 H1 ⟨C, fs, y, e, hl, q⟩ s1 r1 => by
    subst e
    cases r1 with
    | @ins a _ dx vf _ ha hr hk =>
      obtain ⟨w, w1, w2⟩ := hr.lookup hl
      exact ⟨a, C, dx, vf, w, rfl, s1.sub _ _ ha, hk.1, hk.2 f (look_mem hl), w1, k y w G1 H1 q s1 w2⟩
/-- self.f = e, of the object that is being made -/
theorem ws_sfld {i : Nat} {b C : Addr} {fs : List (Str × D)} {f : Str} (e : ρ[i]? = some (some (.oi b C fs))) (hc : Cls p.K C) (hn : NoAttr p.K C f) (hl : fs.length < 1000) (h : WE p ρ te fun y => P.n (ρ.set i (some (.oi b C (putD f y fs))))) :
    WS p ρ (sFld p.K (tVar i) te f) P := fun G σ H hh E kn kr kb kc =>
  h G σ H hh _ fun y v G1 H1 hP s1 r1 => by
    have hh1 := hh.step s1
    obtain ⟨sv, h1, a, dx, vs, h2, ow, h4, h5, h6⟩ := hh1.slot i _ e
    subst h2
    have hz := h5.length
    refine ⟨.ref a, h1, a, C, dx, vs, rfl, h4, hc, hn, by omega, kn _ G1 σ _ hP s1.ex ?_⟩
    exact hh1.write e rfl h1 ow ⟨a, dx, _, rfl, ow, upd_same, h5.put r1, h6.1, h6.2.1, fun g hg => by
      rcases putD_mem hg with z | z
      · rw [z]; exact hn
      · exact h6.2.2 g z⟩
end
/-- the promise of __init__: the arguments behind self, what the object is then, or an error -/
def spMk (K : PySem.W.Frag) (mg : Str → Option Value) (C : Addr) (S : Addr → List D → (Out → Prop) → Prop) : Sp := fun vs H Q E => ∃ h G H1 x dx us ds R, vs = .ref x :: us ∧ H = upd (upd H1 dx (.own x)) x (.ins C dx []) ∧ H1 x = none ∧ H1 dx = none ∧ dx ≠ x ∧
  RpL K h G us ds ∧ Mem ⟨K, h, H1, G⟩ G H1 ∧ S C ds R ∧ (∀ fs G' H', R (.ok (.ins C fs)) → Mem ⟨K, h, H1, G⟩ G' H' → Slot ⟨K, h, H1, G⟩ G' H' (some (.ref x)) (.oi x C fs) → Q .non H') ∧
  ∀ y fs C' d G' H', R (.ex y fs) → mg y = some (.ref C') → Mem ⟨K, h, H1, G⟩ G' H' → XR K h G' d fs → E (.ref C') d H'
structure MakX (P : Program) (w : World) (K : PySem.W.Frag) (mg : Str → Option Value) (base : Heap) (k : Nat) (x : Str) (C : Addr) (ps : List Str) (S : Addr → List D → (Out → Prop) → Prop) : Prop where
  ex : ∃ f fd, mg x = some (.ref C) ∧ Mk K C f ∧ FnOk P w K mg base (L2.CX P w) k f fd ps (spMk K mg C S) ∧ Binds K fd ps []
section
variable {X : Cx} {x : Str} {p pos : Pos} {e : Expr} {es : List Expr} {t : TA} {k : Nat} {ps : List Str} {C : Addr} {S : Addr → List D → (Out → Prop) → Prop}
/-- what raises nothing when it is made so -/
theorem pe_mk0 (F : MakX X.prog X.w X.K X.mg X.base k x C ps S) (hr : Room (k + 1) X.A) (ha : PA X (e :: es) t) (hg : Gl X x := by rfl) (hdb : (x == ("__debug__" : Str)) = false := by decide)
    (he : starEach (e :: es) X.env = (false, eval e X.env) :: starEach es X.env := by rfl) (hpl : (backTo pos (starEach es X.env)).any (·.1) = false := by rfl) : PE X (.Call (.Name x p) (e :: es) [] pos) (tMake C (spMk X.K X.mg C S) [] (fun _ _ _ => False) t) := by
  obtain ⟨f, fd, h1, h2, h3, h4⟩ := F.ex
  exact pe_make h2 h3 hr hg h1 h4 .nil (passes_call takes0 fun _ _ _ _ z => z) ha hdb he hpl
end
section
variable {p : Par} {ρ : Rho} {Q : D → Prop} {ta tb te tl th : TE} {tt tu : TT} {P : Post} {ts tv : TS} {g : TG} {mg : Str → Option Value}
theorem we_mk {C : Addr} {S : Addr → List D → (Out → Prop) → Prop} {ta : TA} (h : WA p ρ ta fun ds => S C ds (Out.cas Q fun _ _ => False)) : WE p ρ (tMake C (spMk p.K mg C S) [] (fun _ _ _ => False) ta) Q := fun G σ H hh Qv k =>
  h G σ H hh _ fun ds vs G1 H1 q s1 r1 x dx hx hdx hne => by
    have hh1 := hh.step s1
    refine ⟨p.h, G1, H1, x, dx, vs, ds, _, by rw [List.append_nil], rfl, hx, hdx, hne, r1, hh1.mem.refl, q, fun fs G' H' z m sl => ?_, fun y fs C' d G' H' z _ _ _ => z.elim⟩
    obtain ⟨x', n⟩ := sl.up hh1.mem rfl
    obtain ⟨o, e4, ow, r⟩ := x'.toD rfl
    obtain ⟨o2, e5, ow2, _⟩ := sl.toD rfl
    have m2 := Mem.know (p := ⟨p.K, p.h, H1, G1⟩) m ow2 e4 (x'.nt rfl e4).tbl
    exact ⟨rfl, k _ _ _ _ z (s1.trans m2.1) r⟩
end
section
variable {P : Program} {w : World} {K : PySem.W.Frag} {mg : Str → Option Value} {base : Heap}
/-- the first state of __init__: the object, and the arguments -/
theorem hold_self {N : List Str} {h : Hnd} {G H1 : Hp} {x dx C : Addr} {us : List V} {ds : List D} (hc : Cls K C) (hx : H1 x = none) (hdx : H1 dx = none) (hne : dx ≠ x) (m : Mem ⟨K, h, H1, G⟩ G H1) (r : RpL K h G us ds) (hN : us.length + 1 ≤ N.length) :
    Hold ⟨K, h, H1, G⟩ ((rho0 N (.non :: ds)).set 0 (some (.oi x C []))) G (L2.start N (.ref x :: us)) (upd (upd H1 dx (.own x)) x (.ins C dx [])) := by
  have m1 := m.growO (o := .own x) hdx
  have hx1 : upd H1 dx (HO.own x) x = none := by rw [upd_ne (Ne.symm hne)]; exact hx
  have hb : Hold ⟨K, h, H1, G⟩ (rho0 N (.non :: ds)) G (L2.start N (.non :: us)) H1 := hold0 m (.cons .non r)
  have hb1 := hb.step m1
  have s2 := hb1.mem.growO (o := .ins C dx []) hx1
  have h3 := hb1.setNew (i := 0) (c := .oi x C []) s2 (Nil.no hx1) ⟨x, dx, [], rfl, hb1.mem.fresh hx1, upd_same, .nil, rfl, hc, fun g hg => by cases hg⟩
  have e : (L2.start N (.non :: us)).set 0 (some (.ref x)) = L2.start N (.ref x :: us) := rfl
  rw [e] at h3
  exact h3
/-- a class with its __init__, and the names that its objects have for attributes -/
structure CSrc (K : PySem.W.Frag) (mg : Str → Option Value) (x : Str) (fl : List Str) (st : Stmt) (q : Str) : Prop where
  ex : ∃ C f fd, mg x = some (.ref C) ∧ Mk K C f ∧ Cls K C ∧ Fun K "__init__" q st f fd ∧ ∀ g, g ∈ fl → NoAttr K C g
theorem mkC {x q : Str} {fl : List Str} {st : Stmt} {N ps : List Str} {k : Nat} {S : Addr → List D → (Out → Prop) → Prop} (F : CSrc K mg x fl st q) (sc : FnScope N ps (defScope st))
    (hb : ∀ (kV doc pm : Value) (an : Option Addr) (cdv ct : Value) (us : List Value), us.length = ps.length → bindArgs (PySem.W.fnOf "__init__" q (defArgs st) (defBody st) (defScope st) .none kV doc pm an cdv ct) ⟨us, []⟩ = pure (ps.zip us))
    (len : ∀ C ds R, S C ds R → ds.length + 1 = ps.length) (hN : ps.length ≤ N.length)
    (body : ∀ (C b f : Addr) (cdv : Value) (A : Around) (outer : List Env) (s : Shared) (H : Hp) (E : XK), Cls K C → (∀ g, g ∈ fl → NoAttr K C g) → Room k (A.deeper (envOfC q (defScope st) s.heap.objs.size f cdv)) →
      ∃ t, PSs (cxOf (L2.CX P w) P w K mg base N q (defScope st) f cdv A outer s H E) (defBody st) t ∧ ∀ (h : Hnd) (H0 G0 : Hp) ds R, S C ds R → XW mg ⟨K, h, H0, G0⟩ (fun _ x fs => R (.ex x fs)) (fun cls d _ H => E cls d H) →
        WS ⟨K, h, H0, G0⟩ ((rho0 N (.non :: ds)).set 0 (some (.oi b C []))) t ⟨fun ρ => ∃ fs, ρ[0]? = some (some (.oi b C fs)) ∧ R (.ok (.ins C fs)), fun _ => False, fun _ => False, fun _ => False⟩) :
    ∃ C, mg x = some (.ref C) ∧ Cls K C ∧ (∀ g, g ∈ fl → NoAttr K C g) ∧ MakX P w K mg base (k + 1) x C ps S := by
  obtain ⟨C, f, fd, hm, hk, hc, F, hn⟩ := F.ex
  refine ⟨C, hm, hc, hn, f, fd, hm, hk, F.okX sc (fun vs H Q E z => ?_) (fun cdv A outer s H vs Q E hr z => ?_), F.binds hb⟩
  · obtain ⟨h, G, H1, a, dx, us, ds, R, rfl, _, _, _, _, r, _, hs, _⟩ := z
    rw [List.length_cons, r.length]
    exact len C ds R hs
  · obtain ⟨h, G, H1, a, dx, us, ds, R, rfl, rfl, hx, hdx, hne, r, m, hs, q, qx⟩ := z
    have hl := len C ds R hs
    have hz := r.length
    obtain ⟨t, ht, hw⟩ := body C a f cdv A outer s _ E hc hn hr
    refine ⟨t, ht, hw h H1 G ds R hs (fun ρ G' σ H' x fs C' d z hm' hh xr => qx x fs C' d G' H' z hm' hh.mem xr) G _ _ (hold_self hc hx hdx hne m r (by omega)) _ (fun ρ' G' σ' H' z e hh => ?_) (fun _ _ _ _ z => z.elim) (fun _ _ _ _ z => z.elim) fun _ _ _ _ z => z.elim⟩
    obtain ⟨fs, e0, hR⟩ := z
    obtain ⟨sv, e1, sl⟩ := hh.slot 0 _ e0
    obtain ⟨a', dx', vs', h2, ow, h4, h5, h6, h7⟩ := sl
    subst h6 h2
    exact q fs G' H' hR hh.mem ⟨a', dx', vs', rfl, ow, h4, h5, rfl, h7⟩
end
end Cal
set_option Elab.async false
set_option linter.all false
set_option maxRecDepth 100000
set_option maxHeartbeats 4000000
namespace PySem
open Sem (wp)
open AutoSeq1
/-- a list grows by what a tuple has, whatever else hangs on the tuple's object -/
theorem extTup {l b : Addr} {as bs : Array Value} {n m : Nat} {dd : Option Addr} {sl : Array (Option Value)} (h1 : ¬(!as.isEmpty && Builtin.List.listTooLong (as.size + bs.size)) = true) (h2 : as.size + bs.size ≤ sizeLine) :
    Meets (Builtin.«list.extend» ⟨[.ref l, .ref b], []⟩) (fun _ R s => s.heap.get? l = some { cls := .type "list", dict := none, data := .seq as n, slots := #[] } ∧ s.heap.get? b = some { cls := .type "tuple", dict := dd, data := .seq bs m, slots := sl } ∧
      R (.ok (.ret Value.none)) { s with heap := s.heap.update l (Obj.mapSeq fun x => x ++ bs), toks := s.toks }) :=
  .of_wp fun prog w A R ⟨hp, g, d, tk, os⟩ ⟨e1, e2, q⟩ => by
    have f2 := sub_tuple_tuple
    have f4 := sub_tuple_list
    have f3 := sub_list_list
    have f5 := sub_list_tuple
    have f1 := idx_int
    have hz : (as ++ bs).size ≤ sizeLine + 1 := by rw [Array.size_append]; omega
    have ha : as.size ≤ sizeLine := by omega
    wp_walk using (wpAny_updateSeq e1 rfl (hz := ha) (_hz' := hz)), wpAny_loadPart' e1, wpAny_loadPart' e2
    exact ⟨_, rfl, q⟩
theorem enNew {v : Value} {o : Obj} {J : Heap → Prop} (B : Begins v o J) :
    Meets (Builtin.«enumerate.__new__» ⟨[.type "enumerate", v], []⟩) (fun _ R s => J s.heap ∧
      R (.ok (.ret (.ref (s.heap.push o).objs.size))) { s with heap := (s.heap.push o).push { cls := .type "enumerate", data := .fields #[.none, .bool false, .ref s.heap.objs.size, rawInt 0, .none, .none] } }) :=
  .of_wp fun prog w A R ⟨hp, g, d, tk, os⟩ ⟨e1, q⟩ => by
    have hs := sub_enumerate
    have hi : ∀ {A' : Around} {E : Value → Shared → Prop} {Q : Value → Shared → Prop}, Q (.ref hp.objs.size) ⟨hp.push o, g, d, tk, os⟩ → wpAny (model prog w) A' (pyIter v) Q E ⟨hp, g, d, tk, os⟩ :=
      fun z => B.iter prog w _ _ ⟨hp, g, d, tk, os⟩ _ e1 z
    wp_walk using hi
    refine wpAny_stack_any fun st => wpAny_pure ?_
    split
    · rename_i c _ _ _ _ _
      cases (c == Value.type "enumerate") <;> (wp_walk using hi; exact ⟨_, rfl, q⟩)
    · wp_walk using hi
      exact ⟨_, rfl, q⟩
section
variable {prog : Program} {w : World} {A : Around} {E : Value → Shared → Prop} {s : Shared}
/-- enumerate(v): two new objects -/
theorem enBegin {v : Value} {o : Obj} {J : Heap → Prop} {Q : Value → Shared → Prop} (B : Begins v o J) (h1 : J s.heap)
    (h : ∀ h', IsEnum h' (s.heap.objs.size + 1) s.heap.objs.size 0 .none → h'.get? s.heap.objs.size = some o → (∀ b ob, s.heap.get? b = some ob → h'.get? b = some ob) → Q (.ref (s.heap.objs.size + 1)) { s with heap := h' }) :
    wpAny (model prog w) A (call (.type "enumerate") [v]) Q E s := by
  refine callType_new F.called_enumerate (by decide) (F.typeCall_enumerate_1 _) (F.newCall_enumerate_1 _) (fun obj => F.args_object_init_2 obj _) F.entry_enumerate_new (enNew B) ⟨h1, ?_⟩
  have hz : (s.heap.push o).objs.size = s.heap.objs.size + 1 := Heap.size_push ..
  have z := Heap.get?_push_size (s.heap.push o) (o := { cls := .type "enumerate", data := .fields #[.none, .bool false, .ref s.heap.objs.size, rawInt 0, .none, .none] }) rfl
  show _ ∧ _
  rw [hz] at z ⊢
  exact ⟨⟨_, z, rfl⟩, h _ z (Heap.get?_push_of_some _ (Heap.get?_push_size _ B.free)) fun b ob x => Heap.get?_push_of_some _ (Heap.get?_push_of_some _ x)⟩
end
end PySem
namespace Cal
open PySem L2 PyProof.Rows
open Evl (Ex sq_of st_of)
/-! ### xs.extend(t), t a tuple -/
def rExtT (K : PySem.W.Frag) : V → List V → Hp → VK → Prop := fun x us H Q => ∃ l b xs ys, x = .ref l ∧ us = [.ref b] ∧ H l = some (.lst xs) ∧ SqT K H b ys ∧ xs.length + ys.length ≤ sizeLine ∧ Q .non (upd H l (.lst (xs ++ ys)))
theorem mt_extT {X : Cx} {K0 : PySem.W.Frag} (hK : X.K = K0) : MtM X "list.extend" (rExtT K0) := by
  subst hK
  rintro pins s σ H x us v ws Q I rx rv ⟨l, b, xs, ys, rfl, rfl, hl, hb, hz, q⟩
  cases rx
  obtain ⟨u, rfl, ru⟩ := rv.one
  cases ru
  obtain ⟨_, as, n, ra, la, ea⟩ := I.lstM hl
  obtain ⟨bs, rb, ⟨⟨cl, dd, dt, sl⟩, eb, hc, m, hd⟩, _⟩ := I.tuple hb
  dsimp only at hc hd
  subst hc hd
  have n1 := ra.length
  have n2 := rb.length
  have hs : as.toArray.size + bs.toArray.size ≤ sizeLine := by rw [List.size_toArray, List.size_toArray]; omega
  refine call_meets F.slot_list_extend ⟨_, ea, rfl⟩ F.entry_list_extend (F.args_list_extend_2 _ _) (extTup (by rw [notLongL hs, Bool.and_false]; exact Bool.false_ne_true) hs) ⟨ea, eb, .non, _, I.lset (its' := as ++ bs) hl ea (by simp) (ra.append rb) ?_, rfl, q⟩
  rw [List.length_append]
  exact hz
section
variable {p : Par} {ρ : Rho} {Q : D → Prop} {ta tb te tl th : TE} {tt tu : TT} {P : Post} {ts tv : TS} {g : TG}
/-- xs.extend(t), xs slot i's own -/
theorem ws_extendT {i : Nat} {xs : List D} (e : ρ[i]? = some (some (.ol xs))) (h : WE p ρ te fun x => ∃ ys, x = .tup ys ∧ xs.length + ys.length ≤ 4000000 ∧ P.n (ρ.set i (some (.ol (xs ++ ys))))) :
    WS p ρ (tDrop (tBM p.K "list" (rExtT p.K) (tVar i) (tCons te tNil))) P := fun G σ H hh E kn kr kb kc => by
  obtain ⟨sv, h1, a, vs, h2, ow, h4, h5⟩ := hh.slot i _ e
  subst h2
  refine ⟨.ref a, h1, Or.inl ⟨rfl, vs, sq_of h4⟩, h G σ H hh _ fun d w G' H' ⟨ys, ey, hl, z⟩ s r => ?_⟩
  subst ey
  obtain ⟨b, ws, ew, hb, hlr⟩ := r.tup_inv
  subst ew
  have hh' := hh.step s
  obtain ⟨sv', h1', a', vs', h2', ow', h4', h5'⟩ := hh'.slot i _ e
  subst h2'
  rw [h1] at h1'
  cases h1'
  have n1 := h5'.length
  have n2 := hlr.length
  exact ⟨a, b, vs', ws, rfl, rfl, h4', tq hh'.mem.sub hb, by rw [sizeLine_eq]; omega, kn _ G' σ _ z s.ex (hh'.write e rfl h1 ow' ⟨a, _, rfl, ow', upd_same, h5'.append hlr⟩)⟩
end
end Cal
set_option Elab.async false
set_option linter.all false
set_option maxRecDepth 100000
set_option maxHeartbeats 4000000
namespace Cal
open PySem L2 PyProof.Rows
open Evl (Ex sq_of st_of)
/-! ### enumerate of a tuple -/
/-- the tuple at a, each item behind its number in a new pair -/
def IteT (K : PySem.W.Frag) (a : Addr) : It :=
  ⟨fun i H => ∃ (xs : List V) (x : V), SqT K H a xs ∧ xs[i]? = some x, fun i H v H' => ∃ T x, v = .ref T ∧ H T = none ∧ H' = upd H T (.tup [.int (i : Nat), x]) ∧ ∀ xs, SqT K H a xs → xs[i]? = some x,
    fun i H => ∃ xs : List V, SqT K H a xs ∧ xs.length = i⟩
/-- a tuple's object is no other kind of object -/
theorem tup_apart {h : Heap} {a b : Addr} {xs : Array Value} {o : Obj} (ht : IsTup h a xs) (ho : h.get? b = some o) (hc : o.cls ≠ .type "tuple") : a ≠ b := fun z => by
  obtain ⟨o', e, c, _⟩ := ht
  rw [z, ho] at e
  cases e
  exact hc c
theorem turn_enT {P : Program} {w : World} {K : PySem.W.Frag} {elts : List Expr} {kk : Nat} {tpos : Pos} (a e it : Addr) :
    Turn P w K (.Tuple elts kk tpos) (IteT K a) [e, it] e fun i h => (∃ old, IsEnum h e it ((i : Nat) : Int) old) ∧ h.IsTupleIter it a i ∧ e ≠ it := by
  have two : ∀ {b : Addr}, b ∈ [e, it] → b = e ∨ b = it := fun hb => by simpa using hb
  have draws : ∀ {X : Cx} {pins : List (Addr × Obj)} {σ : L2.St} {H : Hp} {s : Shared} {i : Nat} {old : Value} {its : List Value}, Inv X pins σ H s → X.calm = true → IsEnum s.heap e it (i : Int) old → s.heap.IsTupleIter it a i → e ≠ it → IsTup s.heap a its.toArray →
      Draws X.prog X.w X.A.in1 it [it, a] its.toArray.size (fun i v => its.toArray[i]? = some v) (fun i h => h.IsTupleIter it a i ∧ h.IsTuple a its.toArray) ∧ e ∉ [it, a] := fun {X pins σ H s i old its} I hc he hi hne ht => by
    obtain ⟨o, ho, hcl, _⟩ := id hi
    have n1 : a ≠ it := tup_apart ht ho (by rw [hcl]; decide)
    have n2 : a ≠ e := tup_apart ht he (by show Value.type "enumerate" ≠ _; decide)
    refine ⟨Draws.tuple (A := X.A.in1) (show X.A.in1.handled = none from I.ok.hd hc) it a n1 its.toArray, fun hm => ?_⟩
    rcases List.mem_cons.mp hm with z | z
    · exact hne z
    · exact n2 (List.mem_singleton.mp z).symm
  refine ⟨List.mem_cons_self, ?_, ?_, ?_, ?_, ?_⟩
  · rintro i h ⟨⟨old, he⟩, ⟨o, ho, _, hd⟩, _⟩ b hb
    rcases two hb with z | z
    · rw [z]; exact ⟨_, he, fun v q => nomatch q⟩
    · rw [z]; exact ⟨o, ho, fun v q => by rw [hd] at q; cases q⟩
  · rintro i h h' ⟨⟨old, he⟩, hi, hne⟩ k
    exact ⟨⟨old, k e List.mem_cons_self _ he⟩, hi.at fun o q => k it (by simp) o q, hne⟩
  · rintro X rfl rfl rfl hc i pins s σ H E I hf ⟨⟨old, he⟩, hi, hne⟩ ⟨xs, x, hq, hx⟩
    obtain ⟨its, rv, ht, hz⟩ := I.tuple hq
    obtain ⟨u, hu, ru⟩ := rv.get hx
    obtain ⟨D, hef⟩ := draws I hc he hi hne ht
    have hlt : i < its.toArray.size := by rw [List.size_toArray]; exact (List.getElem?_eq_some_iff.mp hu).1
    have lte : e < s.heap.objs.size := Heap.lt_size he
    have lti : it < s.heap.objs.size := by obtain ⟨_, q, _⟩ := hi; exact Heap.lt_size q
    refine wpAny_pyNext_enum_itemD D he ⟨hi, ht⟩ hlt hne hef fun v h' tk hP ho hs hT _ hk => ?_
    have hv : v = u := by
      have z : its[i]? = some v := by simpa using hP
      rw [hu] at z; cases z; rfl
    subst hv
    refine ⟨_, rfl, wpAny_letOwnedTupleGo_enum (s := { s with heap := h', toks := tk + 1 }) ho fun h2 he2 sb => ?_⟩
    have hT2 : h2.get? s.heap.objs.size = some { cls := .type "tuple", data := .seq #[.int i tk, v] } := (sb.2 _ (Nat.ne_of_gt lte)).trans hT
    have new : ObjOk X.prog X.w (upd H s.heap.objs.size (.tup [.int (i : Nat), x])) h2 s.heap.objs.size (.tup [.int (i : Nat), x]) :=
      ⟨by show 2 ≤ sizeLine; decide, [.int i tk, v], .cons ⟨_, rfl⟩ (.cons ru .nil), ⟨_, hT2, rfl, _, rfl⟩⟩
    have I1 : Inv X pins σ (upd H s.heap.objs.size (.tup [.int (i : Nat), x])) { s with heap := h2, toks := tk + 1 } :=
      I.turnedNew (ch := [e, it]) (fun b ob hb q => (sb.2 b fun z => hb (by simp [z])).trans (hk b ob (fun z => hb (by simp [z])) (fun z => hb (by simp [z])) q)) hf (Nat.le_refl _) new
    have e1 : ((i + 1 : Nat) : Int) = (i : Int) + 1 := by omega
    refine ⟨.ref s.heap.objs.size, _, I1, rfl, ⟨_, x, rfl, I.hok.fresh (Nat.le_refl _), rfl, fun ys hy => by rw [I.tuple_inj hy hq]; exact hx⟩, ⟨⟨v, by rw [e1]; exact he2⟩, hs.1.at fun o q => (sb.2 it (Ne.symm hne)).trans q, hne⟩, fun b hb => ?_⟩
    have hb' : b < s.heap.objs.size := by
      rcases two hb with z | z
      · rw [z]; exact lte
      · rw [z]; exact lti
    rw [upd_ne (Nat.ne_of_lt hb')]
    exact (hf b hb).1
  · rintro X rfl rfl rfl hc i pins s σ H E I hf ⟨⟨old, he⟩, hi, hne⟩ ⟨xs, hq, hx⟩
    obtain ⟨its, rv, ht, hz⟩ := I.tuple hq
    obtain ⟨D, hef⟩ := draws I hc he hi hne ht
    have hl : its.toArray.size = i := by rw [List.size_toArray, ← rv.length]; exact hx
    obtain ⟨f0, f1, f2, f3, f4, f5⟩ := hf it (by simp)
    exact wpAny_pyNext_enum_endD D he ⟨hl ▸ hi, ht⟩ fun h' eb => ⟨rfl, I.turned (t' := s.toks) (fun b o hb q => eb b o hb q) f0 f1 f3 f4 f5⟩
  · rintro A i s Q E ⟨⟨_, he⟩, _⟩ h
    exact wpAny_pyIter_enum he h
def iEnumT (K : PySem.W.Frag) (ta : TA) : TI := fun σ H R => ta σ H fun vs H1 => ∃ a xs, vs = [.ref a] ∧ SqT K H1 a xs ∧ R (IteT K a) H1
theorem pi_enT {X : Cx} {K0 : PySem.W.Frag} {e : Expr} {ta : TA} {p pos tpos : Pos} {elts : List Expr} {kk : Nat} (hK : X.K = K0) (hg : Gl X "enumerate") (hm : X.mg "enumerate" = none) (ha : PA X [e] ta) (hs : starEach [e] X.env = [(false, eval e X.env)] := by rfl) :
    PI X (.Tuple elts kk tpos) (.Call (.Name "enumerate" p) [e] [] pos) (iEnumT K0 ta) := by
  subst hK
  refine ⟨fun pins s σ H R I h => Call_ (ld_blt I hg hm boot_enumerate (PyProof.Rows.callWith_type1 (thn (ha.run pos pins s σ H _ I h) fun us s1 ⟨vs, H1, I1, r1, a, xs, ex, hq, q⟩ => ?_) hs rfl))⟩
  subst ex
  obtain ⟨u, rfl, ru⟩ := r1.one
  cases ru
  obtain ⟨its, rv, ht, hz⟩ := I1.tuple hq
  refine enBegin (begins_tuple a its.toArray) ht fun h' he hi hk => wpAny_pyIter_enum he ?_
  refine ⟨s1.heap.objs.size + 1, [s1.heap.objs.size + 1, s1.heap.objs.size], _, _, H1, rfl, I1.kept (t' := s1.toks) hk, turn_enT a _ s1.heap.objs.size, ⟨⟨.none, he⟩, ⟨_, hi, rfl, rfl⟩, Nat.succ_ne_self _⟩, fun b hb => ?_, q⟩
  have hle : s1.heap.objs.size ≤ b := by
    rcases List.mem_cons.mp hb with z | z
    · rw [z]; exact Nat.le_add_right _ _
    · exact Nat.le_of_eq (List.mem_singleton.mp z).symm
  exact I1.fpOk hle (I1.hok.fresh hle)
end Cal
set_option Elab.async false
set_option linter.all false
set_option maxRecDepth 100000
set_option maxHeartbeats 4000000
namespace Cal
open PySem L2 PyProof.Rows
open Evl (Ex sq_of st_of)
/-! ### a list or a tuple, gone through; enumerate of a tuple -/
def iSeq (K : PySem.W.Frag) (tl : TE) : TI := fun σ H R => tl σ H fun x H1 => ∃ a, x = .ref a ∧ (((∃ xs, SqL K H1 a xs) ∧ R (Itl K a) H1) ∨ ((∃ xs, SqT K H1 a xs) ∧ R (Itt K a) H1))
theorem pi_seqK {X : Cx} {K0 : PySem.W.Frag} {tg l : Expr} {tl : TE} (hK : X.K = K0) (hl : PE X l tl) : PI X tg l (iSeq K0 tl) := by
  subst hK
  refine ⟨fun pins s σ H R I h => thn (hl.run pins s σ H _ I h) fun v s1 ⟨x, H1, I1, r1, a, e, q⟩ => ?_⟩
  subst e
  cases r1
  rcases q with ⟨⟨xs, hq⟩, q⟩ | ⟨⟨xs, hq⟩, q⟩
  · obtain ⟨its, rv, p, hz⟩ := I1.list hq
    exact wpAny_pyIter_list p.isList (pi_one (tk := s1.toks) I1 _ (turn_list a _) ⟨_, Heap.get?_push_size _ rfl, rfl, rfl⟩ q)
  · obtain ⟨its, rv, p, hz⟩ := I1.tuple hq
    exact wpAny_pyIter_tuple (show s1.heap.IsTuple a its.toArray from p) (pi_one (tk := s1.toks) I1 _ (turn_tuple a _) ⟨_, Heap.get?_push_size _ rfl, rfl, rfl⟩ q)
section
variable {p : Par} {ρ : Rho} {Q : D → Prop} {ta tb te tl th : TE} {tt tu : TT} {P : Post} {ts tv : TS} {g : TG}
theorem ws_forS {g : TG} (h : WE p ρ te fun x => ∃ xs, (x = .lst xs ∨ x = .tup xs) ∧ ∃ I : Nat → Rho → Prop, I 0 ρ ∧
    (∀ k x ρ', xs[k]? = some x → I k ρ' → WG p ρ' g x fun ρ2 => WS p ρ2 ts ⟨I (k + 1), P.r, P.n, I (k + 1)⟩) ∧ ∀ ρ', I xs.length ρ' → P.n ρ') : WS p ρ (tFor (iSeq p.K te) g ts) P := fun G σ H hh E kn kr kb kc =>
  h G σ H hh _ fun x v G0 H0 ⟨xs, e, I, h0, hs, hd⟩ s r => by
    have hh0 := hh.step s
    have turn : ∀ {vs : List V}, RpL p.K p.h G0 vs xs → ∀ k y σ' H', vs[k]? = some y → (∃ ρ' G', I k ρ' ∧ Ex G0 G' ∧ Hold p ρ' G' σ' H') →
        g y σ' H' fun σ2 H2 => ts { E with nx := fun σ3 H3 => ∃ ρ' G', I (k + 1) ρ' ∧ Ex G0 G' ∧ Hold p ρ' G' σ3 H3, ct := fun σ3 H3 => ∃ ρ' G', I (k + 1) ρ' ∧ Ex G0 G' ∧ Hold p ρ' G' σ3 H3, bk := E.nx } σ2 H2 := fun hl k y σ' H' hk ⟨ρ', G', hi, e, hh'⟩ => by
      obtain ⟨d, hd1, hd2⟩ := hl.get' hk
      exact hs k d ρ' hd1 hi G' σ' H' _ hh' (rmono hd2 e) _ fun ρ2 G2 σ2 H2 z e2 hh2 => z G2 σ2 H2 hh2 _ (fun ρ3 G3 σ3 H3 z3 e3 hh3 => ⟨ρ3, G3, z3, ex_tr (ex_tr e e2) e3, hh3⟩) kr (fun ρ3 G3 σ3 H3 z3 e3 hh3 => kn ρ3 G3 σ3 H3 z3 (ex_tr s.ex (ex_tr (ex_tr e e2) e3)) hh3)
        (fun ρ3 G3 σ3 H3 z3 e3 hh3 => ⟨ρ3, G3, z3, ex_tr (ex_tr e e2) e3, hh3⟩)
    rcases e with e | e
    · subst e
      obtain ⟨a, vs, ev, hq, hl⟩ := r.lst_inv
      exact ⟨a, ev, .inl ⟨⟨vs, lq hh0.mem.sub hq⟩, for_list (xs := vs) (fun k σ' H' => ∃ ρ' G', I k ρ' ∧ Ex G0 G' ∧ Hold p ρ' G' σ' H') ⟨ρ, G0, h0, Ex.rfl', hh0⟩ (fun k σ' H' _ ⟨ρ', G', hi, e, hh'⟩ => lq hh'.mem.sub (e _ _ hq)) (fun k x σ' H' hk hp => turn hl k x σ' H' hk hp)
        fun σ' H' ⟨ρ', G', hi, e, hh'⟩ => kn ρ' G' σ' H' (hd ρ' (by rw [← hl.length]; exact hi)) (ex_tr s.ex e) hh'⟩⟩
    · subst e
      obtain ⟨a, vs, ev, hq, hl⟩ := r.tup_inv
      exact ⟨a, ev, .inr ⟨⟨vs, tq hh0.mem.sub hq⟩, for_tup (xs := vs) (fun k σ' H' => ∃ ρ' G', I k ρ' ∧ Ex G0 G' ∧ Hold p ρ' G' σ' H') ⟨ρ, G0, h0, Ex.rfl', hh0⟩ (fun k σ' H' _ ⟨ρ', G', hi, e, hh'⟩ => tq hh'.mem.sub (e _ _ hq)) (fun k x σ' H' hk hp => turn hl k x σ' H' hk hp)
        fun σ' H' ⟨ρ', G', hi, e, hh'⟩ => kn ρ' G' σ' H' (hd ρ' (by rw [← hl.length]; exact hi)) (ex_tr s.ex e) hh'⟩⟩
theorem wf_lcS {tl : TE} {vs : List Nat} {Q : Cell → Prop} (h : WE p ρ tl fun x => ∃ xs, (x = .lst xs ∨ x = .tup xs) ∧ xs.length ≤ 4000000 ∧ ∃ I : Nat → List D → Prop, I 0 [] ∧
    (∀ k x acc, xs[k]? = some x → I k acc → acc.length ≤ k → WGp p vs (wipeR ρ vs) g x fun ρ2 => WT p ρ2 tt fun b => if b = true then WE p ρ2 te fun y => I (k + 1) (acc ++ [y]) else I (k + 1) acc) ∧ ∀ acc, I xs.length acc → Q (.ol acc)) :
    WF p ρ (tLc (iSeq p.K tl) g tt te vs) Q := fun G σ H hh Qv kk =>
  h G σ H hh _ fun x v G1 H1 ⟨xs, e, hz, I, h0, hs, hd⟩ s1 r1 => by
    have hh1 := hh.step s1
    rcases e with e | e
    · subst e
      obtain ⟨a, us, ev, hq, hl⟩ := r1.lst_inv
      refine ⟨a, ev, .inl ⟨⟨us, lq hh1.mem.sub hq⟩, fun Dl hn => lc_list (xs := us) (Lc p G1 H1 Dl I) (lc_start hh1 hn h0) (fun k H' _ L => ?_) (fun k y H' hk L => ?_) fun H' L => ?_⟩⟩
      · obtain ⟨acc, av, G', _, _, s, _⟩ := L
        exact lq s.sub (s.ex _ _ hq)
      · obtain ⟨d, hd1, hd2⟩ := hl.get' hk
        have hk' : k < us.length := (List.getElem?_eq_some_iff.mp hk).1
        exact lc_turn hh1 hn (by have := hl.length; omega) L (fun G' s => ⟨G', (hh1.step s).mem.refl, rmono hd2 s.ex⟩) fun acc hi hle => hs k d acc hd1 hi hle
      · obtain ⟨acc, av, G', hi, _, s, e, ow, r⟩ := L
        rw [hl.length] at hi
        exact kk _ Dl G' H' (hd acc hi) rfl (s1.trans s) (hh.mem.back s1 hn) ⟨Dl, av, rfl, ow, e, r⟩
    · subst e
      obtain ⟨a, us, ev, hq, hl⟩ := r1.tup_inv
      refine ⟨a, ev, .inr ⟨⟨us, tq hh1.mem.sub hq⟩, fun Dl hn => lc_tup (xs := us) (Lc p G1 H1 Dl I) (lc_start hh1 hn h0) (fun k H' _ L => ?_) (fun k y H' hk L => ?_) fun H' L => ?_⟩⟩
      · obtain ⟨acc, av, G', _, _, s, _⟩ := L
        exact tq s.sub (s.ex _ _ hq)
      · obtain ⟨d, hd1, hd2⟩ := hl.get' hk
        have hk' : k < us.length := (List.getElem?_eq_some_iff.mp hk).1
        exact lc_turn hh1 hn (by have := hl.length; omega) L (fun G' s => ⟨G', (hh1.step s).mem.refl, rmono hd2 s.ex⟩) fun acc hi hle => hs k d acc hd1 hi hle
      · obtain ⟨acc, av, G', hi, _, s, e, ow, r⟩ := L
        rw [hl.length] at hi
        exact kk _ Dl G' H' (hd acc hi) rfl (s1.trans s) (hh.mem.back s1 hn) ⟨Dl, av, rfl, ow, e, r⟩
theorem ws_forEnumT {g : TG} {ta : TA} (h : WA p ρ ta fun ds => ∃ xs, ds = [.tup xs] ∧ ∃ I : Nat → Rho → Prop, I 0 ρ ∧
    (∀ k x ρ', xs[k]? = some x → I k ρ' → WG p ρ' g (.tup [.int (k : Int), x]) fun ρ2 => WS p ρ2 ts ⟨I (k + 1), P.r, P.n, I (k + 1)⟩) ∧ ∀ ρ', I xs.length ρ' → P.n ρ') : WS p ρ (tFor (iEnumT p.K ta) g ts) P := fun G σ H hh E kn kr kb kc =>
  h G σ H hh _ fun ds vs0 G0 H0 ⟨xs, e, I, h0, hs, hd⟩ s r => by
    subst e
    cases r with
    | cons r rn =>
    cases rn
    obtain ⟨a, vs, ev, hq, hl⟩ := r.tup_inv
    subst ev
    have hh0 := hh.step s
    have hn := hl.length
    have sq : ∀ {G' H'}, Ex G0 G' → Ex G' H' → SqT p.K H' a vs := fun e1 e2 => tq e2 (e1 _ _ hq)
    refine ⟨a, vs, rfl, tq hh0.mem.sub hq, for_any (n := vs.length) (fun k σ' H' => ∃ ρ' G', I k ρ' ∧ Ex G0 G' ∧ Hold p ρ' G' σ' H') ⟨ρ, G0, h0, Ex.rfl', hh0⟩ (fun k σ' H' hk ⟨ρ', G', hi, e, hh'⟩ => ?_) (fun σ' H' ⟨ρ', G', hi, e, hh'⟩ => ⟨vs, sq e hh'.mem.sub, rfl⟩) (fun k x σ' H' H2 hk ⟨ρ', G', hi, e, hh'⟩ hy => ?_) fun σ' H' ⟨ρ', G', hi, e, hh'⟩ => kn ρ' G' σ' H' (hd ρ' (by rw [← hn]; exact hi)) (ex_tr s.ex e) hh'⟩
    · exact ⟨vs, vs[k], sq e hh'.mem.sub, List.getElem?_eq_getElem hk⟩
    · obtain ⟨T, x', e1, hT, e2, hx⟩ := hy
      subst e1 e2
      have hx' := hx vs (sq e hh'.mem.sub)
      obtain ⟨d, hd1, hd2⟩ := hl.get' hx'
      have gr := hh'.mem.grow (o := .tup [.int (k : Int), x']) hT
      have e4 := ex_tr e gr.ex
      refine hs k d ρ' hd1 hi _ σ' _ _ (hh'.step gr) (.tup upd_same (.cons (.int _) (.cons (rmono hd2 e4) .nil))) _ fun ρ2 G2 σ2 H2 z e2 hh2 => z G2 σ2 H2 hh2 _ (fun ρ3 G3 σ3 H3 z3 e3 hh3 => ⟨ρ3, G3, z3, ex_tr (ex_tr e4 e2) e3, hh3⟩) kr
        (fun ρ3 G3 σ3 H3 z3 e3 hh3 => kn ρ3 G3 σ3 H3 z3 (ex_tr s.ex (ex_tr (ex_tr e4 e2) e3)) hh3) (fun ρ3 G3 σ3 H3 z3 e3 hh3 => ⟨ρ3, G3, z3, ex_tr (ex_tr e4 e2) e3, hh3⟩)
end
end Cal
set_option Elab.async false
set_option linter.all false
set_option maxRecDepth 100000
set_option maxHeartbeats 4000000
namespace Cal
open PySem L2 PyProof.Rows
open Evl (Ex sq_of st_of)
section
variable {p : Par} {ρ : Rho} {Q : D → Prop} {ta tb te tl th : TE} {tt tu : TT} {P : Post} {ts tv : TS} {g : TG}
/-- a, b = two new things, neither of them captured -/
theorem ws_newPar {i j : Nat} (h : WF p ρ ta fun c1 => WF p ρ tb fun c2 => P.n ((ρ.set i (some c1)).set j (some c2))) :
    WS p ρ (tPar i j (tCons ta (tCons tb tNil))) P := fun G σ H hh E kn kr kb kc => by
  refine h G σ H hh _ fun c1 a G1 H1 q ho1 s1 n1 x1 => q G1 σ H1 (hh.step s1) _ fun c2 b G2 H2 q2 ho2 s2 n2 x2 => ?_
  exact ⟨_, _, rfl, kn _ G2 _ _ q2 (ex_tr s1.ex s2.ex) ((hh.setNew (i := i) s1 n1 x1).setNew (i := j) s2 n2 x2)⟩
end
end Cal
set_option Elab.async false
set_option linter.all false
set_option maxRecDepth 100000
set_option maxHeartbeats 4000000
namespace Cal
open PySem L2 PyProof.Rows HT
open Evl (Ex sq_of st_of)
/-! ### t[::-1], t a tuple -/
theorem filterMap_all {α β : Type} {f : α → Option β} {g : α → β} : ∀ {l : List α}, (∀ x ∈ l, f x = some (g x)) → l.filterMap f = l.map g
  | [], _ => rfl
  | x :: r, h => by
    rw [List.filterMap_cons, h x List.mem_cons_self, List.map_cons, filterMap_all fun y hy => h y (List.mem_cons_of_mem _ hy)]
theorem pickBack (xs : Array Value) : ((List.range xs.size).filterMap fun (k : Nat) => xs[(((xs.size : Int) - 1) + (k : Int) * (-1)).toNat]?) = xs.toList.reverse := by
  refine List.ext_getElem? fun i => ?_
  have e : ((List.range xs.size).filterMap fun (k : Nat) => xs[(((xs.size : Int) - 1) + (k : Int) * (-1)).toNat]?) = (List.range xs.size).map fun k => xs.toList.reverse.getD k .none := by
    refine filterMap_all fun k hk => ?_
    have hk := List.mem_range.mp hk
    have e1 : (((xs.size : Int) - 1) + (k : Int) * (-1)).toNat = xs.size - 1 - k := by omega
    rw [e1]
    show xs[xs.size - 1 - k]? = some (xs.toList.reverse.getD k .none)
    rw [List.getD_eq_getElem?_getD, List.getElem?_reverse (by rw [Array.length_toList]; exact hk), Array.length_toList, Array.getElem?_toList, Array.getElem?_eq_getElem (by omega)]
    rfl
  rw [e, List.getElem?_map]
  by_cases h : i < xs.size
  · rw [List.getElem?_range h]
    show some (xs.toList.reverse.getD i .none) = _
    rw [List.getD_eq_getElem?_getD, List.getElem?_eq_getElem (by rw [List.length_reverse, Array.length_toList]; exact h)]
    rfl
  · rw [List.getElem?_eq_none (by rw [List.length_range]; omega), List.getElem?_eq_none (by rw [List.length_reverse, Array.length_toList]; omega)]
    rfl
section
variable {prog : Program} {w : World} {A : Around} {E : Value → Shared → Prop} {s : Shared}
theorem slBack {sl : Addr} {vl vu vs : Value} {n : Nat} {Q : Int × Int × Nat → Shared → Prop} (hs : s.heap.IsSliceOf sl vl vu vs) (pl : IsPart vl none) (pu : IsPart vu none) (ps : IsPart vs (some (-1)))
    (h : Q ((n : Int) - 1, -1, n) s) : wpAny (model prog w) A (Builtin.Slice.sliceApplied (.ref sl) (pure (n : Int))) Q E s := by
  obtain ⟨o, ho, hc, hd⟩ := id hs
  unfold Builtin.Slice.sliceApplied Builtin.Slice.sliceFields
  refine wpAny_bind (wpAny_bind (wpAny_field ho hd (x := vl) rfl (wpAny_bind (wpAny_field ho hd (x := vu) rfl (wpAny_bind (wpAny_field ho hd (x := vs) rfl (wpAny_pure ?_)))))))
  refine wpAny_bind (slicePart_ ps ?_)
  show wpAny _ _ (if ((-1 : Int) == 0) = true then _ else _) _ _ s
  rw [if_neg (by decide)]
  refine wpAny_bind (slicePart_ pl (wpAny_bind (slicePart_ pu (wpAny_bind (wpAny_pure ?_)))))
  have e : Builtin.Slice.sliceAdjust none none (-1) (n : Int) = ((n : Int) - 1, -1) := by
    unfold Builtin.Slice.sliceAdjust
    simp
  show wpAny _ _ (match Builtin.Slice.sliceAdjust none none (-1) (n : Int) with | (lo, hi) => pure (lo, (-1 : Int), Builtin.Slice.slicePlaces lo hi (-1))) _ _ s
  rw [e]
  have e2 : Builtin.Slice.slicePlaces ((n : Int) - 1) (-1) (-1) = n := by
    unfold Builtin.Slice.slicePlaces
    simp
    try omega
  show wpAny _ _ (pure ((n : Int) - 1, (-1 : Int), Builtin.Slice.slicePlaces ((n : Int) - 1) (-1) (-1))) _ _ s
  rw [e2]
  exact wpAny_pure h
theorem getBack {t sl : Addr} {items : Array Value} {vl vu vs : Value} {Q : Value → Shared → Prop} (ht : IsTup s.heap t items) (hs : s.heap.IsSliceOf sl vl vu vs) (pl : IsPart vl none) (pu : IsPart vu none) (ps : IsPart vs (some (-1)))
    (h : Q (.ref s.heap.objs.size) { s with heap := s.heap.push { cls := .type "tuple", data := .seq items.toList.reverse.toArray } }) (hz : items.size ≤ sizeLine) : wpAny (model prog w) A (getItem (.ref t) (.ref sl)) Q E s := by
  have ok : sizeOk (.seq items.toList.reverse.toArray) := by
    show items.toList.reverse.toArray.size ≤ sizeLine
    rw [List.size_toArray, List.length_reverse, Array.length_toList]
    exact hz
  obtain ⟨o, ho, hc, hd⟩ := id hs
  have hT : s.TypeIs (.ref sl) "slice" := ⟨o, ho, hc⟩
  unfold getItem
  try with_reducible refine wpAny_holding ?_
  first | refine wpAny_bind (wpAny_pure ?_) | skip
  refine wpAny_bind (wpAny_sequenceKey ht.typeIs (by decide) ?_)
  refine wpAny_bind (wpAny_callSpecial?_slot (name := Str.ofString "__getitem__") ht.typeIs PyProof.Rows.slot_tuple_getitem (wpAny_call_entry PyProof.Rows.slot_tuple_getitem ht.typeIs entry_tuple_getitem ?_ (args_tuple_getitem _ _)))
  show wpAny _ _ (Builtin.Tuple.tupleItemsOf (.ref t) >>= _) _ _ s
  refine wpAny_bind (tupleItemsOf_ ht (wpAny_bind (wpAny_typeOf hT ?_)))
  rw [if_pos (by decide)]
  refine wpAny_bind (slBack hs pl pu ps ?_)
  have no : ¬ ((((items.size : Int) - 1) == 0 && (-1 : Int) == 1 && items.size == items.size) = true) := by
    rw [show ((-1 : Int) == 1) = false by decide, Bool.and_false, Bool.false_and]
    exact Bool.false_ne_true
  show wpAny _ _ (if (((items.size : Int) - 1) == 0 && (-1 : Int) == 1 && items.size == items.size) = true then _ else _) _ _ s
  rw [if_neg no, pickBack]
  first
    | exact wpAny_bind (m := Builtin.Tuple.tupleExact _) (wpAny_newObj_type (wpAny_pure ⟨_, rfl, wpAny_pure h⟩) ok)
    | exact wpAny_bind (m := Builtin.Tuple.tupleExact _) (wpAny_newObj_type (wpAny_bind (wpAny_pure (wpAny_pure ⟨_, rfl, wpAny_pure h⟩))) ok)
    | exact wpAny_bind (wpAny_bind (m := Builtin.Tuple.tupleExact _) (wpAny_newObj_type (wpAny_pure (wpAny_pure ⟨_, rfl, wpAny_pure h⟩)) ok))
    | exact wpAny_bind (wpAny_bind (m := Builtin.Tuple.tupleExact _) (wpAny_newObj_type (wpAny_pure ⟨_, rfl, wpAny_pure h⟩) ok))
end
/-- t[::-1], t a tuple -/
def tRevT (K : PySem.W.Frag) (te : TE) : TE := fun σ H Q => te σ H fun x H1 => ∃ a xs, x = .ref a ∧ SqT K H1 a xs ∧ ∀ p, H1 p = none → Q (.ref p) (upd H1 p (.tup xs.reverse))
theorem pe_revT {X : Cx} {K0 : PySem.W.Frag} {e : Expr} {te : TE} {k : Nat} {p1 p2 p3 pos : Pos} (hK : X.K = K0) (he : PE X e te) : PE X (.Subscript e (.Slice none none (some (.UnaryOp .USub (.Constant (.int 1) k p1) p2)) p3) pos) (tRevT K0 te) := by
  subst hK
  refine ⟨fun pins s σ H Q I h => Subscript_ (thn (he.run pins s σ H _ I h) fun v s1 ⟨x, H1, I1, r1, a, xs, ex, hx, q⟩ => ?_)⟩
  subst ex
  cases r1
  have hst : PO X (some (.UnaryOp .USub (.Constant (.int 1) k p1) p2)) (tPart (tUn (rU fun i => .int (-i)) (tC (.int 1)))) := po_some (pe_un un_neg pe_int)
  refine wpAny_Slice (thn (po_none.run pins s1 σ H1 (fun o H2 => o = none ∧ H2 = H1) I1 ⟨rfl, rfl⟩) fun vl s2 ⟨l, H2, I2, pl, el, e2⟩ => ?_)
  subst el e2
  refine thn (po_none.run pins s2 σ H2 (fun o H3 => o = none ∧ H3 = H2) I2 ⟨rfl, rfl⟩) fun vu s3 ⟨u, H3, I3, pu, eu, e3⟩ => ?_
  subst eu e3
  refine thn (hst.run pins s3 σ H3 (fun o H4 => o = some (-1) ∧ H4 = H3) I3 ⟨1, rfl, -1, rfl, rfl, rfl⟩) fun vs s4 ⟨o, H4, I4, ps, eo, e4⟩ => ?_
  subst eo e4
  have I5 : Inv X pins σ H4 { s4 with heap := s4.heap.push { cls := .type "slice", data := .fields #[vl, vu, vs] } } := I4.kept (t' := s4.toks) fun b ob q => Heap.get?_push_of_some _ q
  obtain ⟨its, r, ht, hz⟩ := I5.tuple hx
  have hlen := r.length
  show wpAny (model X.prog X.w) X.A (subscriptTail e (.Slice none none (some (.UnaryOp .USub (.Constant (.int 1) k p1) p2)) p3) (.ref a) (.ref s4.heap.objs.size)) (EP X pins σ Q) X.xe { s4 with heap := s4.heap.push { cls := .type "slice", data := .fields #[vl, vu, vs] } }
  refine tail_any (ops := [.ref a, .ref s4.heap.objs.size]) ht.typeIs (PyProof.Rows.slot_tuple_getitem.lookup) ?_ (by with_unfolding_all rfl)
  refine getBack ht (Heap.IsSliceOf.new _ vl vu vs) pl pu ps ?_ (by rw [List.size_toArray]; omega)
  refine ⟨.ref _, _, I5.laid (t' := s4.toks) (o := .tup xs.reverse) (fun b ob q => Heap.get?_push_of_some _ q) (Nat.le_refl _) ?_, rfl, q _ (I5.hok.fresh (Nat.le_refl _))⟩
  exact ⟨by rw [List.length_reverse]; exact hz, _, r.reverse, IsTup.new _ _⟩
section
variable {p : Par} {ρ : Rho} {Q : D → Prop} {ta tb te tl th : TE} {tt tu : TT} {P : Post} {ts tv : TS} {g : TG}
theorem RpL.rev {K : PySem.W.Frag} {h : Hnd} {G : Hp} : ∀ {us : List V} {es : List D}, RpL K h G us es → RpL K h G us.reverse es.reverse
  | [], [], _ => .nil
  | u :: us, e :: es, r => by
    cases r with
    | cons a b => rw [List.reverse_cons, List.reverse_cons]; exact (RpL.rev b).append (.cons a .nil)
  | [], e :: es, r => by cases r
  | u :: us, [], r => by cases r
theorem we_revT (h : WE p ρ te fun x => ∃ xs, x = .tup xs ∧ Q (.tup xs.reverse)) : WE p ρ (tRevT p.K te) Q := fun G σ H hh Qv k =>
  h G σ H hh _ fun x v G1 H1 ⟨xs, e, q⟩ s1 r1 => by
    subst e
    obtain ⟨a, vs, ev, hq, hl⟩ := r1.tup_inv
    have m1 := (hh.step s1).mem
    refine ⟨a, vs, ev, tq m1.sub hq, fun b hb => ?_⟩
    have gr := m1.grow (o := .tup vs.reverse) hb
    exact k _ _ _ _ q (s1.trans gr) (.tup upd_same (lmono (RpL.rev hl) gr.ex))
end
end Cal
set_option Elab.async false
set_option linter.all false
set_option maxRecDepth 100000
set_option maxHeartbeats 4000000
namespace Cal
open PySem L2 PyProof.Rows
open Evl (Ex sq_of st_of)
section
variable {p : Par} {ρ : Rho} {Q : D → Prop} {ta tb te tl th : TE} {tt tu : TT} {P : Post} {ts tv : TS} {g : TG}
/-- i, j = a new thing, something -/
theorem ws_newParD {i j : Nat} (h : WF p ρ ta fun c1 => WE p ρ tb fun x => P.n ((ρ.set i (some c1)).set j (some (.d x)))) :
    WS p ρ (tPar i j (tCons ta (tCons tb tNil))) P := fun G σ H hh E kn kr kb kc => by
  refine h G σ H hh _ fun c1 a G1 H1 q ho1 s1 n1 x1 => q G1 σ H1 (hh.step s1) _ fun x v G2 H2 q2 s2 r2 => ?_
  exact ⟨_, _, rfl, kn _ G2 _ _ q2 (ex_tr s1.ex s2.ex) (((hh.setNew (i := i) s1 n1 x1).step s2).setD r2)⟩
end
/-! lists and tuples of ints as data of ==  -/
theorem py_intsC : ∀ xs : List Int, PyData.canLayAll0 (toPyL (xs.map D.int)) = true ∧ PyData.depthAll (toPyL (xs.map D.int)) = 0
  | [] => ⟨rfl, rfl⟩
  | x :: xs => by
    obtain ⟨h1, h2⟩ := py_intsC xs
    rw [List.map_cons, toPyL, toPy, PyData.canLayAll0, PyData.depthAll, PyData.canLay0, PyData.depth, h1, h2]
    exact ⟨rfl, rfl⟩
theorem lst_cmp (c : List Int) : Cmp (.lst (c.map D.int)) := .lst fun x hx => by
  obtain ⟨i, _, rfl⟩ := List.mem_map.mp hx
  exact .int i
theorem lst_shaped (c : List Int) : SeqAt.shaped (toPy (.lst (c.map D.int))) = true := by
  obtain ⟨h1, h2⟩ := py_intsC c
  unfold SeqAt.shaped
  rw [toPy, PyData.canLay0, h1, PyData.depth, h2]
  rfl
theorem eqv_self {x : D} (h : SeqAt.shaped (toPy x) = true) : PyData.eqv (toPy x) (toPy x) = true := SeqAt.eqv_refl _ (SeqAt.canLay_of_shaped h)
theorem tup2_shaped (c : List Int) (i : Int) : SeqAt.shaped (toPy (.tup [.tup (c.map D.int), .int i])) = true := by
  obtain ⟨h1, h2⟩ := py_intsC c
  unfold SeqAt.shaped
  rw [toPy, toPyL, toPyL, toPyL, toPy, toPy, PyData.canLay0, PyData.canLayAll0, PyData.canLayAll0, PyData.canLayAll0, PyData.canLay0, PyData.canLay0, h1, PyData.depth, PyData.depthAll, PyData.depthAll, PyData.depthAll, PyData.depth, PyData.depth, h2]
  rfl
theorem tup2_cmp (c : List Int) (i : Int) : Cmp (.tup [.tup (c.map D.int), .int i]) := .tup fun x hx => by
  simp only [List.mem_cons, List.not_mem_nil, or_false] at hx
  rcases hx with rfl | rfl
  · exact .tup fun x hx => by
      obtain ⟨i, _, rfl⟩ := List.mem_map.mp hx
      exact .int i
  · exact .int i
end Cal
set_option Elab.async false
set_option linter.all false
set_option maxRecDepth 100000
set_option maxHeartbeats 4000000
namespace Cal
open PySem L2 PyProof.Rows LamX
open Evl (Ex sq_of st_of)
/-! ### clauses and classes -/
/-- what a clause that names y, or isinstance with y, says of an error of x -/
structure XM (K : PySem.W.Frag) (mg : Str → Option Value) (x y : Str) (b : Bool) : Prop where
  m : ∀ C1 C2, mg x = some (.ref C1) → mg y = some (.ref C2) → PySem.W.exmOne K (.ref C1) (.ref C2) = some b ∧ PySem.W.kitOne K (.ref C1) (.ref C2) = some b
theorem xm_mk {K : PySem.W.Frag} {mg : Str → Option Value} {x y : Str} {b : Bool} {C1 C2 : Addr} (g1 : mg x = some (.ref C1)) (g2 : mg y = some (.ref C2)) (h1 : PySem.W.subIn K (.ref C2) (.type "BaseException") = some true) (h2 : PySem.W.isClsIn K C2 = true)
    (h3 : PySem.W.typeIn K (.ref C2) = some (.type "type")) (h4 : PySem.W.subIn K (.ref C1) (.ref C2) = some b) (h5 : b = true ∨ C1 ≠ C2) : XM K mg x y b := ⟨fun D1 D2 e1 e2 => by
  rw [g1] at e1
  rw [g2] at e2
  cases e1
  cases e2
  have q1 : (PySem.W.clsIn K C2).isSome = true := h2
  have q2 : ((PySem.W.clsIn K C2).isSome && PySem.W.typeIn K (.ref C2) == some (.type "type")) = true := by rw [q1, h3]; rfl
  have kc : PySem.W.kitCls K (.ref C1) (.ref C2) = some b := by
    refine Eq.trans (b := if ((PySem.W.clsIn K C2).isSome && PySem.W.typeIn K (.ref C2) == some (.type "type")) = true then PySem.W.subIn K (.ref C1) (.ref C2) else none) rfl ?_
    rw [if_pos q2, h4]
  refine ⟨?_, ?_⟩
  · unfold PySem.W.exmOne
    rw [if_pos (by rw [h1]; rfl)]
    exact kc
  · unfold PySem.W.kitOne
    by_cases hb : b = true
    · subst hb
      split
      · rfl
      · exact kc
    · rcases h5 with h5 | h5
      · exact (hb h5).elim
      · rw [if_neg (fun z => by
          have z' : Value.ref C1 = Value.ref C2 := by simpa using z
          cases z'
          exact h5 rfl)]
        exact kc⟩
/-! ### a def that calls what it is handed and says a word -/
/-- the word for each class of errors, and where nothing is raised -/
def TTw (mg : Str → Option Value) (wd : Str → Option Str) (ret : Str) : (XK → Hp → VK → Prop) → Hp → VK → Prop := fun tl H Q =>
  tl (fun cls _ H' => ∃ y C s, cls = .ref C ∧ mg y = some (.ref C) ∧ wd y = some s ∧ Q (.str s) H') H fun _ H' => Q (.str ret) H'
/-- the clauses lead an error of the class cls to the word s -/
def Leads (K : PySem.W.Frag) (cls : Value) (s : Str) : List (Addr × Str) → Prop
  | [] => False
  | (C, w) :: r => ∃ b, PySem.W.exmOne K cls (.ref C) = some b ∧ (b = true → s = w) ∧ (b = false → Leads K cls s r)
theorem leads_many {K : PySem.W.Frag} {Wout : WX} {D : Ends} {cls : Value} {d : Option Addr} {s : Str} {σ : L2.St} {H : Hp} (h : D.rt (.str s) H) : ∀ {cl : List (Addr × Str)}, Leads K cls s cl →
    wMany K Wout D (cl.map fun z => (Value.ref z.1, fun _ _ _ => tRet (tC (.str z.2)))) cls d σ H
  | [], l => l.elim
  | (C, w) :: r, ⟨b, e, l1, l2⟩ => ⟨b, e, fun hb a _ => by rw [← l1 hb]; exact h, fun hb => leads_many h (l2 hb)⟩
section
variable {X : Cx}
theorem words_give {Ng : List Str} {x a q ret : Str} {sg : Scope} {g : Addr} {cdg : Value} {h₀ : ExceptHandler} {hds : List ExceptHandler} {wd : Str → Option Str} {cl : List (Addr × Str)} {j : Nat} {p1 p2 p3 p5 p6 p8 : Pos}
    (hh : ∀ (s : Shared) (H : Hp), HdsOk (cxOf C8.CX0 X.prog X.w X.K X.mg X.base Ng x sg g cdg X.A X.stack s H C8.E0).nox (h₀ :: hds) (cl.map fun z => (Value.ref z.1, fun _ _ _ => tRet (tC (.str z.2)))))
    (hw : ∀ (y : Str) (C : Addr) (s : Str), X.mg y = some (.ref C) → wd y = some s → Leads X.K (.ref C) s cl) :
    GivesTo X Ng x sg g cdg [.Try [.Expr (.Call (.Name a p1) [] [] p2) p3] (h₀ :: hds) [] [] p8, .Return (some (.Constant (.str ret) j p5)) p6] a q (TTw X.mg wd ret) := by
  intro f c' s H Q tl act hc h
  refine ⟨_, pss_cons (ps_try_many (X := (cxOf C8.CX0 X.prog X.w X.K X.mg X.base Ng x sg g cdg X.A X.stack s H C8.E0).nox) (Wout := fun _ _ _ _ => False)
      (tb := fun W D σ H => ∃ Ech : XK, (∀ cls d σ' H', Ech cls d H' → W cls d σ' H') ∧ σ[0]? = some (some (.ref f)) ∧ H c' = some (CodeO c' q) ∧ tl Ech H fun _ H1 => D.nx σ H1)
      rfl rfl LamX.takes0 (fun W pn xe tk _ => ?_) (hh s H)) (pss_one (ps_ret pe_str)), ?_⟩
  · refine ⟨fun pins s' σ H' D I h' => ?_⟩
    obtain ⟨Ech, hW, h1, h2, h3⟩ := h'
    have hq := pss_one (ps_expr (pos := p3) (act W pn xe Ech p1 p2 tk hW))
    exact hq.run pins s' σ H' D I ⟨h1, h2, h3⟩
  · exact ⟨fun cls _ H' => ∃ y C s, cls = .ref C ∧ X.mg y = some (.ref C) ∧ wd y = some s ∧ Q (.str s) H', fun cls d σ' H' ⟨y, C, s, e1, e2, e3, e4⟩ => by
      subst e1
      exact leads_many (D := _) e4 (hw y C s e2 e3), rfl, hc, h⟩
/-- x(lambda: body), x a def of the text -/
theorem pe_lam {T : List (Addr × Str)} {TT : (XK → Hp → VK → Prop) → Hp → VK → Prop} {x a : Str} {st : Stmt} {c P : Addr} {k : Nat} {Ng : List Str} {params : Arguments} {body : Expr} {scope : Scope} {t : XK → TE} {p lpos pos : Pos} (F : Src X.K X.mg x st)
    (sc : FnScope Ng [a] (defScope st)) (hb : ∀ (kV doc pm : Value) (an : Option Addr) (cdv ct : Value) (us : List Value), us.length = ([a] : List Str).length → bindArgs (PySem.W.fnOf x x (defArgs st) (defBody st) (defScope st) .none kV doc pm an cdv ct) ⟨us, []⟩ = pure (([a] : List Str).zip us))
    (hNg : Ng[0]? = some a) (hva : Vis (defScope st) a) (hG : ∀ (g : Addr) (cdg : Value), GivesTo X Ng x (defScope st) g cdg (defBody st) a (X.env.qual ++ "<lambda>") TT) (TB : TabB X.base X.mg c P) (hcode : X.env.code = .ref c) (hT : T = [(P, X.env.qual ++ "<lambda>")]) (hr : Room (k + 2) X.A) (L : LamS X.env.scope scope)
    (hdef : defaultsOf params X.env = ([], [])) (hbind : ∀ (q : Str) (cl : List (Str × Addr)) (pm cv ctv : Value), bindArgs (PySem.W.kla_fn "<lambda>" q params body scope cl pm cv ctv) ⟨[], []⟩ = pure [])
    (hbody : ∀ (A : Around) (outer : List Env) (s : Shared) (H : Hp) (E : XK) (f c' : Addr), Room k (A.deeper (lamEnv X scope s.heap.objs.size f c')) → PE (lamCx X A outer s H E scope f c') body (t E))
    (hg : Gl X x := by rfl) (hdb : (x == ("__debug__" : Str)) = false := by decide) (hd : (a == ("__debug__" : Str)) = false := by decide) (hcd : (a == ("__classdict__" : Str)) = false := by decide) :
    PE X (.Call (.Name x p) [.Lambda params body scope lpos] [] pos) (tLam T TT t) := by
  obtain ⟨f, fd, hm, Fn⟩ := F.ex
  have hbf := Fn.binds hb
  obtain ⟨oc, od, kV, doc, pm, an, cdv, ct, osl, rfl, lk, hcf⟩ := Fn.ex
  subst hT
  exact pe_lamcall hg hm Fn.kp lk hcf hbf sc hNg hva (hG f cdv) TB hcode (.head _) (fun z hz _ => by cases List.mem_singleton.mp hz; rfl) hr L hdef hbind hbody hdb hd hcd
end
/-! ### read -/
section
variable {p : Par} {ρ : Rho} {Q : D → Prop} {mg : Str → Option Value}
/-- the word that is said of what a call gives -/
def wordOf (Q : D → Prop) (wd : Str → Option Str) (ret : Str) : Out → Prop
  | .ok _ => Q (.str ret)
  | .new _ => Q (.str ret)
  | .ex y _ => ∃ s, wd y = some s ∧ Q (.str s)
theorem we_lam {T : List (Addr × Str)} {wd : Str → Option Str} {ret : Str} {S : List D → (Out → Prop) → Prop} {ta : TA} (hT : p.h.T = T) (h : WA p ρ ta fun ds => S ds (wordOf Q wd ret)) :
    WE p ρ (tLam T (TTw mg wd ret) fun E => tCallS (spX p.K mg S) (L2.WE fun cls d _ H => E cls d H) ta) Q := fun G σ H hh Qv k => by
  subst hT
  refine ⟨hh.mem.tab, fun H1 eN T1 => ?_⟩
  -- the tables alone have grown
  have s0 : Stp p G H G H1 := ⟨fun a o e => eN a o (hh.mem.sub a o e) fun ps z => hh.mem.gt a ps (by rw [e, z]), hh.mem.gh, fun a o _ t e => eN a o e t, fun _ _ e => e, fun _ _ e => .inl e, by
    obtain ⟨xs, hx⟩ := hh.mem.hand.some
    exact hh.mem.hand.mono (fun _ _ e => e) (by rw [hx]; exact eN _ _ hx fun ps z => by cases z), hh.mem.gt, T1⟩
  have hh0 := hh.step s0
  refine h G σ H1 hh0 _ fun ds vs G2 H2 q s1 r1 => ?_
  have hh1 := hh0.step s1
  have all := s0.trans s1
  refine ⟨p.h, G2, ds, _, r1, hh1.mem.refl, q, fun d v G' H' z m r => k (.str ret) (.str ret) G' H' z (all.trans m) (.str ret), fun c a G' H' z ho m x => k (.str ret) (.str ret) G' H' z (all.trans m) (.str ret), fun y fs C d G' H' z hm m xr => ?_⟩
  obtain ⟨s, e1, e2⟩ := z
  exact ⟨y, C, s, rfl, hm, e1, k (.str s) (.str s) G' H' e2 (all.trans m) (.str s)⟩
end
end Cal
set_option Elab.async false
set_option linter.all false
set_option maxRecDepth 100000
set_option maxHeartbeats 4000000
namespace Cal
open PySem PySem.Spec L2 PyProof.Rows LamX
open Evl (Ex sq_of st_of)
/-! ### a law that makes lambdas -/
/-- a def of the text whose code object is at c -/
structure FunC (K : PySem.W.Frag) (x qual : Str) (st : Stmt) (f c : Addr) (fd : FuncData) : Prop where
  ex : ∃ (oc : Value) (od : Option Addr) (kV doc pm : Value) (an : Option Addr) (ct : Value) (osl : Array (Option Value)),
    fd = PySem.W.fnOf x qual (defArgs st) (defBody st) (defScope st) .none kV doc pm an (.ref c) ct ∧ K.lookup f = some ⟨oc, od, .func fd, osl⟩ ∧ PySem.W.codeIn K (.ref c) qual = true
theorem funC_mk {K : PySem.W.Frag} {x qual : Str} {st : Stmt} {f c : Addr} {oc : Value} {od an : Option Addr} {osl : Array (Option Value)} {kV doc pm cdv ct : Value} (l : K.lookup f = some ⟨oc, od, .func (PySem.W.fnOf x qual (defArgs st) (defBody st) (defScope st) .none kV doc pm an cdv ct), osl⟩)
    (hc : PySem.W.codeIn K cdv qual = true) (e : cdv = .ref c) : FunC K x qual st f c (PySem.W.fnOf x qual (defArgs st) (defBody st) (defScope st) .none kV doc pm an cdv ct) := by
  subst e
  exact ⟨⟨oc, od, kV, doc, pm, an, ct, osl, rfl, l, hc⟩⟩
section
variable {P : Program} {w : World} {K : PySem.W.Frag} {mg : Str → Option Value} {base : Heap}
theorem FunC.ok {x qual : Str} {st : Stmt} {f c : Addr} {fd : FuncData} {N ps : List Str} {k : Nat} {sp : Sp} (F : FunC K x qual st f c fd) (S : FnScope N ps (defScope st)) (len : ∀ vs H Q E, sp vs H Q E → vs.length = ps.length)
    (body : ∀ (A : Around) (outer : List Env) (s : Shared) (H : Hp) (vs : List V) (Q : VK) (E : XK), Room k (A.deeper (envOfC qual (defScope st) s.heap.objs.size f (.ref c))) → sp vs H Q E →
      ∃ t, PSs (cxOf CX0 P w K mg base N qual (defScope st) f (.ref c) A outer s H E).nox (defBody st) t ∧ t { nx := fun _ H' => Q .non H', rt := Q } (start N vs) H) : FnOk P w K mg base CX0 (k + 1) f fd ps sp := by
  obtain ⟨oc, od, kV, doc, pm, an, ct, osl, e, look, cd⟩ := F.ex
  subst e
  refine fn_of look cd S len fun A outer s H vs Q E room prom => ?_
  obtain ⟨t, reads, goal⟩ := body A outer s H vs Q E room prom
  exact ⟨t, reads.nox, goal⟩
end
/-- the law's promise, with its table -/
def spLawT (K : PySem.W.Frag) (T : List (Addr × Str)) : Sp := fun vs H Q _ => ∃ (a : Addr) (ns : List Int), vs = [.ref a] ∧ SqL K H a (ns.map V.int) ∧ ns.length ≤ 63 ∧ Tabs T H ∧ ∀ H', Q (.bl true) H'
theorem noTab {K : PySem.W.Frag} {h : Heap} {P : Addr} (X : K.In h) (hK : PySem.W.noTabs K = true) (e : h.get? P = some { cls := .none, data := .fields #[] }) : K.lookup P = none := by
  cases z : K.lookup P with
  | none => rfl
  | some o =>
    have e2 := X P o z
    rw [e] at e2
    cases e2
    have h2 := List.all_eq_true.mp hK (P, _) (PySem.W.mem_of_lookupK z)
    cases h2
/-- the walk of a law that makes lambdas itself -/
theorem walkT {l : PySem.W.OpenLaw} {q : Program} {loose : List Str} {XP : (Str → Option Value) → Heap → Prop} {YP : World → Heap → Prop} {d : DefRec} {K : Params → PySem.W.Frag} {k : Nat} {qual : Str} (hn : l.most = some 63) (hdf : d.params.defaults = []) (room : Room k callerA)
    (hY : ∀ (w : World) (h : Heap), YP w h → (K w.params).In h) (hK : ∀ w : World, PySem.W.noTabs (K w.params) = true) (hr : ((recsOf q).find? (fun z => z.name == d.name)).isSome = true)
    (F : ∀ (w : World) (mg : Str → Option Value) (fa c : Addr) (h : Heap), (K w.params).In h → h.Ns mainGlobals mg → mg d.name = some (.ref fa) → (∀ o fd, h.get? fa = some o → o.data = .func fd → fd.code = .ref c) →
      ∃ fd : FuncData, (∀ (s : Shared) (u : Value), BindsTo s fd ⟨[u], []⟩ [("script", u)]) ∧ ∀ (base : Heap) (P : Addr), (K w.params).In base → base.Ns mainGlobals mg → TabB base mg c P → FnOk l.prog w (K w.params) mg base CX0 k fa fd ["script"] (spLawT (K w.params) [(P, qual)])) :
    PySem.W.WalkO q loose XP YP l.row.toRowW d [] (fun f vs => PySem.call f vs) := by
  refine Att.attach_callB hn hdf fun w s₀ s₁ mg mb fa o pm cd doc a vs ns ground Y ho hod hcd hmg hobj hints hlen hbits hgens => ?_
  have KX := hY w _ Y
  have top := ground.T
  obtain ⟨r, hr⟩ := Option.isSome_iff_exists.mp hr
  have er : r.name = d.name := beq_iff_eq.mp (List.find?_some (p := fun z : DefRec => z.name == d.name) hr)
  obtain ⟨a2, o2, fd2, c, P, t1, t2, t3, t4, t5, t6⟩ := top.tab r (List.mem_of_find?_eq_some hr)
  rw [er, hmg] at t1
  cases t1
  have hcode : ∀ o' fd', s₁.heap.get? fa = some o' → o'.data = .func fd' → fd'.code = .ref c := fun o' fd' e1 e2 => by
    rw [t2] at e1
    cases e1
    rw [t3] at e2
    cases e2
    exact t4
  obtain ⟨_, tabAt⟩ := id t6
  obtain ⟨fd, hb, hF⟩ := F w mg fa c _ KX top.g hmg hcode
  have one : ∀ {z : Addr × Addr}, z ∈ [(c, P)] → z = (c, P) := fun {z} hz => List.mem_singleton.mp hz
  exact law_callTs (cs := [(c, P)]) (sp := spLawT (K w.params) [(P, qual)]) KX top.g top.b top.builtins top.nolimit hgens (fun z hz => by rw [one hz]; exact tabAt) (fun z hz => by rw [one hz]; exact noTab KX (hK w) tabAt)
    (fun z hz => by rw [one hz]; exact PySem.W.CodeHd.of t5 t6) top.bmain hobj hints (Nat.le_trans hlen (by decide)) room (fun base hi hns hTB => hF base P hi hns (hTB (c, P) (.head _))) hb
    (fun H hH hS => ⟨a, ns, rfl, hS, hlen, fun z hz => by
      rw [List.mem_singleton.mp hz]
      exact TabS.nil (hH (c, P) (.head _)), fun _ => rfl⟩) fun _ _ _ z => z
end Cal
set_option Elab.async false
set_option linter.all false
set_option maxRecDepth 100000
set_option maxHeartbeats 4000000
namespace Cal
open PySem L2 PyProof.Rows
open Evl (Ex sq_of st_of)
section
variable {p : Par} {ρ : Rho} {Q : D → Prop} {ta tb te ti : TE} {P : Post} {N : Rho → Prop}
/-- xs * n, a new list of its own -/
theorem wf_repL {Q : Cell → Prop} (h : WE p ρ ta fun x => ∃ xs, x = .lst xs ∧ WE p ρ tb fun y => ∃ n : Int, y = .int n ∧ -(2 ^ 63) ≤ n ∧ n < 2 ^ 63 ∧ xs.length * n.toNat ≤ 4000000 ∧ Q (.ol (List.replicate n.toNat xs).flatten)) : WF p ρ (tOp rRep ta tb) Q := fun G σ H hh Qv k =>
  h G σ H hh _ fun x v G1 H1 ⟨xs, ex, h1⟩ s1 r1 => h1 G1 σ H1 (hh.step s1) _ fun y w G2 H2 ⟨n, ey, n1, n2, n3, q⟩ s2 r2 => by
    subst ex ey
    obtain ⟨a, vs, ev, hs, hl⟩ := r1.lst_inv
    subst ev
    have hz := hl.length
    have hh2 := (hh.step s1).step s2
    have s := s1.trans s2
    refine ⟨a, n, vs, rfl, rp_int r2, hh2.mem.sub _ _ (s2.ex _ _ hs), n1, n2, by rw [hz, sizeLine_eq]; omega, fun b hb => ?_⟩
    exact k _ b _ _ q rfl (s.trans (hh2.mem.growO hb)) (hh.mem.back s hb) ⟨b, _, rfl, hh2.mem.fresh hb, upd_same, lmono (rep_rp hl _) s2.ex⟩
theorem ixN_nat {len n : Nat} (h : n < len) : ixN len (n : Int) = some n := by
  unfold ixN
  rw [if_pos (by omega), if_pos (by omega)]
  congr 1
/-- the target xs[i], xs a slot's own -/
theorem wg_setO {i : Nat} {xs : List D} {x : D} (e : ρ[i]? = some (some (.ol xs))) (h : WE p ρ ti fun y => ∃ n : Nat, y = .int (n : Int) ∧ n < xs.length ∧ N (ρ.set i (some (.ol (xs.set n x))))) : WG p ρ (gSub (tVar i) ti rSetL) x N := fun G σ H v hh r Qs k => by
  obtain ⟨sv, h1, a, vs, h2, ow, h4, h5⟩ := hh.slot i _ e
  subst h2
  refine ⟨.ref a, h1, h G σ H hh _ fun y w G1 H1 ⟨n, ey, hn, q⟩ s1 r1 => ?_⟩
  subst ey
  rw [rp_int r1]
  have hh1 := hh.step s1
  obtain ⟨ow1, e1⟩ := Own.step NT.lst ow h4 s1
  have hl1 := lmono h5 s1.ex
  refine ⟨a, vs, (n : Int), n, rfl, rfl, e1, ixN_nat (by rw [hl1.length]; exact hn), ?_⟩
  exact k _ G1 σ _ q s1.ex (hh1.write e rfl h1 ow1 ⟨a, _, rfl, ow1, upd_same, hl1.set (rmono r s1.ex) n⟩)
/-- i, j, l = [], something, {} -/
theorem ws_new3K {i j l r0 : Nat} {x : D} (e : ρ[r0]? = some (some (.d x))) (h : P.n (((ρ.set i (some (.ol []))).set j (some (.d x))).set l (some (.ok [])))) :
    WS p ρ (tPar3 i j l (tCons (tLst tNil) (tCons (tVar r0) (tCons tDNewK tNil)))) P := fun G σ H hh E kn kr kb kc => by
  obtain ⟨sv, g1, v, g2, g3⟩ := hh.slot r0 _ e
  subst g2
  refine ⟨sz (Nat.zero_le _), fun a ha => ⟨v, g1, fun c hc => ?_⟩⟩
  have s1 := hh.mem.growO (o := .lst []) ha
  have k1 := hh.setNew (i := i) (c := .ol []) s1 (Nil.no ha) ⟨a, [], rfl, hh.mem.fresh ha, upd_same, .nil⟩
  have k2 := k1.setD (i := j) g3
  have s5 := k2.mem.growO (o := .dK []) hc
  have k6 := k2.setNew (i := l) (c := .ok []) s5 (Nil.no hc) ⟨c, [], rfl, k2.mem.fresh hc, upd_same, .nil⟩
  exact ⟨_, _, _, rfl, kn _ G _ _ h Ex.rfl' k6⟩
/-! ### an owned list of integers lent to a call that gives fractions -/
def frC (x : Int × Int) : D := .tup [.int x.1, .int x.2]
theorem lentI {G G' H H' : Hp} {σ : L2.St} {a : Addr} {vs : List V} (hh : Hold p ρ G σ H) (ow : Own p G a) (s : Stp p (upd G a (.lst vs)) H G' H') : Stp p G H (fun b => if b = a then none else G' b) H' := by
  have ne : ∀ {b : Addr} {o : HO}, (if b = a then none else G' b) = some o → b ≠ a ∧ G' b = some o := fun {b o} z => by
    by_cases hb : b = a
    · rw [if_pos hb] at z; cases z
    · rw [if_neg hb] at z; exact ⟨hb, z⟩
  refine ⟨fun b o z => s.sub b o (ne z).2, ?_, s.base, fun b o z => ?_, fun b o z => ?_, ?_, fun b ps z => s.gt b ps (ne z).2, s.tab⟩
  · show (if p.h.a = a then none else G' p.h.a) = none
    rw [if_neg (Ne.symm ow.2.2)]
    exact s.gh
  · have hb : b ≠ a := ne_of_none z ow.1
    show (if b = a then none else G' b) = some o
    rw [if_neg hb]
    exact s.g0 b o ((upd_ne hb).trans z)
  · obtain ⟨hb, z2⟩ := ne z
    rcases s.new b o z2 with q | q
    · exact .inl ((upd_ne hb).symm.trans q)
    · exact .inr q
  · obtain ⟨ns, i, r, n, h1, h2, h3⟩ := s.hand
    have hc : p.h.c ≠ a := fun e => by
      obtain ⟨ns2, _, _, _, _, g2, _⟩ := hh.mem.hand
      rw [e, ow.1] at g2
      cases g2
    exact ⟨ns, i, r, n, h1, by show (if p.h.c = a then none else G' p.h.c) = _; rw [if_neg hc]; exact h2, h3⟩
theorem rp_frs {K : PySem.W.Frag} {h : Hnd} {G' : Hp} {a : Addr} {ns : List Int} {v : V} {fs : List (Int × Int)} (ha : G' a = some (.lst (ns.map V.int))) (hne : fs ≠ []) (r : Rp K h G' v (.lst (fs.map frC))) : Rp K h (fun b => if b = a then none else G' b) v (.lst (fs.map frC)) := by
  obtain ⟨b, ws, ev, hb, hl⟩ := r.lst_inv
  subst ev
  have hba : b ≠ a := fun z => by
    rw [z, ha] at hb
    cases hb
    cases fs with
    | nil => exact hne rfl
    | cons f fs =>
      cases ns with
      | nil => cases hl
      | cons n ns =>
        cases hl with
        | cons r1 _ => cases r1
  have items : ∀ (fs : List (Int × Int)) (ws : List V), RpL K h G' ws (fs.map frC) → RpL K h (fun b => if b = a then none else G' b) ws (fs.map frC) := by
    intro fs
    induction fs with
    | nil => intro ws hl; cases hl; exact .nil
    | cons f fs ih =>
      intro ws hl
      cases hl with
      | cons r1 r2 =>
        refine .cons ?_ (ih _ r2)
        obtain ⟨t, us, et, ht, hu⟩ := r1.tup_inv
        subst et
        have hta : t ≠ a := fun z => by
          rw [z, ha] at ht
          cases ht
        refine .tup (by show (if t = a then none else G' t) = _; rw [if_neg hta]; exact ht) ?_
        cases hu with
        | cons u1 u2 =>
          cases u2 with
          | cons u2 u3 =>
            cases u3
            cases u1
            cases u2
            exact .cons (.int _) (.cons (.int _) .nil)
  exact .lst (by show (if b = a then none else G' b) = _; rw [if_neg hba]; exact hb) (items fs ws hl)
theorem we_lendF (i : Nat) {ns : List Int} (e : ρ[i]? = some (some (.ol (ns.map D.int)))) (h : WE p (ρ.set i (some (.d (.lst (ns.map D.int))))) te fun d => ∃ fs : List (Int × Int), d = .lst (fs.map frC) ∧ fs ≠ [] ∧ Q d) : WE p ρ te Q := fun G σ H hh Qv k => by
  obtain ⟨sv, h1, a, vs, h2, ow, h4, h5⟩ := hh.slot i _ e
  subst h2
  obtain rfl := h5.ints
  obtain ⟨hh', ex⟩ := hh.freeze e rfl h1 ow h4 (x := .lst (ns.map D.int)) (.lst upd_same (lmono h5 fun b u z => by rw [upd_ne (ne_of_none z ow.1)]; exact z))
  refine h _ σ H hh' Qv fun d v G' H' ⟨fs, ed, hne, q⟩ s r => ?_
  subst ed
  exact k _ _ _ H' q (lentI hh ow s) (rp_frs (s.ex _ _ upd_same) hne r)
/-- a test that is itself `a if c else b` -/
def tIfT (t ta tb : TT) : TT := fun σ H Q => t σ H fun c H1 => if c = true then ta σ H1 Q else tb σ H1 Q
theorem pt_ifE {X : Cx} {c a b : Expr} {pos : Pos} {tA tB1 tB2 : TT} (hc : PT X c tA) (ha : PT X a tB1) (hb : PT X b tB2) : PT X (.IfExp c a b pos) (tIfT tA tB1 tB2) := by
  refine ⟨fun pins s σ H Q I h => ?_⟩
  refine isTrue_IfExp (thn (hc.run pins s σ H _ I h) fun d s1 ⟨H1, I1, q1⟩ => ?_)
  cases d with
  | true => exact ha.run pins s1 σ H1 Q I1 q1
  | false => exact hb.run pins s1 σ H1 Q I1 q1
theorem wt_ifE {R : Bool → Prop} {tt tu tv : TT} (h : WT p ρ tt fun b => if b = true then WT p ρ tu R else WT p ρ tv R) : WT p ρ (tIfT tt tu tv) R := fun G σ H hh Qv k =>
  h G σ H hh _ fun b G1 H1 q s1 => by
    cases b with
    | true => rw [if_pos rfl] at q ⊢; exact q G1 σ H1 (hh.step s1) Qv fun d G2 H2 q s2 => k d G2 H2 q (s1.trans s2)
    | false => rw [if_neg (by decide)] at q ⊢; exact q G1 σ H1 (hh.step s1) Qv fun d G2 H2 q s2 => k d G2 H2 q (s1.trans s2)
end
end Cal
set_option Elab.async false
set_option linter.all false
set_option maxRecDepth 100000
set_option maxHeartbeats 4000000
namespace Cal
open PySem L2 PyProof.Rows
open Evl (Ex sq_of st_of)
/-! ### the sum of flags -/
/-- how many are true -/
def trues (bs : List Bool) : Int := (bs.map fun b => if b = true then (1 : Int) else 0).sum
theorem trues_pre (bs : List Bool) : ∀ n, n ≤ bs.length → preSum (fun i => if bs.getD i false = true then 1 else 0) n = trues (bs.take n)
  | 0, _ => by rw [List.take_zero]; rfl
  | n + 1, h => by
    have hn : n < bs.length := by omega
    have e : bs.take (n + 1) = bs.take n ++ [bs[n]] := by rw [List.take_succ, List.getElem?_eq_getElem hn]; rfl
    show preSum _ n + _ = _
    rw [trues_pre bs n (by omega), e]
    unfold trues
    rw [List.map_append, List.sum_append]
    have e2 : bs.getD n false = bs[n] := by rw [List.getD_eq_getElem?_getD, List.getElem?_eq_getElem hn] <;> rfl
    show _ + (if bs.getD n false = true then (1 : Int) else 0) = _
    rw [e2]
    simp
def rSumB (K : PySem.W.Frag) : List V → Hp → VK → Prop := fun vs H Q => ∃ (a : Addr) (bs : List Bool), vs = [V.ref a] ∧ SqL K H a (bs.map V.bl) ∧ Q (.int (trues bs)) H
theorem cr_sumB {X : Cx} (hc : X.calm = true) : CallR X (.builtin "sum") (rSumB X.K) := by
  intro pins s σ H vs us Q I r h
  obtain ⟨a, bs, rfl, hs, q⟩ := h
  obtain ⟨its, rv, hl, _⟩ := I.list hs
  rw [Vals.ref1 r]
  have hL := hl.isList
  have lt : a < s.heap.objs.size := by obtain ⟨o, ho, _⟩ := hL; exact Heap.lt_size ho
  have hlen : its.length = bs.length := by have := rv.length; rw [List.length_map] at this; exact this.symm
  refine call_sum_walkAnyB (wpAny_pyIter_list hL ?_)
  refine ⟨_, _, _, _, _, _, _, fun i => if bs.getD i false = true then 1 else 0, rfl, (Walks.list (A := X.A.in1) (I.ok.hd hc) s.heap.objs.size a (Nat.ne_of_lt lt) its.toArray).toS, ⟨⟨_, Heap.get?_push_size _ rfl, rfl, rfl⟩, hL.push _⟩, fun b hb => ?_, fun i v hv => ?_, fun s' t' hm => ?_⟩
  · show b < (s.heap.push _).objs.size
    rw [Heap.size_push]
    rcases List.mem_cons.mp hb with rfl | hb
    · exact Nat.lt_succ_self _
    · rw [List.mem_singleton.mp hb]; exact Nat.lt_succ_of_lt lt
  · have hv' : its[i]? = some v := by simpa using hv
    have hi : i < bs.length := by have := (List.getElem?_eq_some_iff.mp hv').1; omega
    obtain ⟨u, h1, h2⟩ := rv.get (i := i) (x := .bl bs[i]) (by rw [List.getElem?_map, List.getElem?_eq_getElem hi]; rfl)
    rw [hv'] at h1
    cases h1
    cases h2
    refine .inr ⟨_, rfl, ?_⟩
    show (if bs.getD i false = true then (1 : Int) else 0) = _
    rw [List.getD_eq_getElem?_getD, List.getElem?_eq_getElem hi] <;> rfl
  · rw [Moved.eq_with hm]
    have e : preSum (fun i => if bs.getD i false = true then 1 else 0) its.toArray.size = trues bs := by
      rw [List.size_toArray, hlen, trues_pre bs _ (Nat.le_refl _), List.take_length]
    rw [e]
    exact ⟨.int _, H, I.kept fun b o z => hm.heap b o (fun hmem => Nat.ne_of_lt (Heap.lt_size z) (List.mem_singleton.mp hmem)) (Heap.get?_push_of_some _ z), ⟨_, rfl⟩, q⟩
end Cal
set_option Elab.async false
set_option linter.all false
set_option maxRecDepth 100000
set_option maxHeartbeats 4000000
namespace Cal
open PySem L2 PyProof.Rows
open Evl (Ex sq_of st_of)
/-! ### what may raise when it is made -/
section
variable {X : Cx} {x : Str} {p pos : Pos} {e : Expr} {es : List Expr} {t : TA} {k n : Nat} {ps : List Str} {C : Addr} {S : Addr → List D → (Out → Prop) → Prop} {W : WX}
theorem pe_mkX (F : MakX X.prog X.w X.K X.mg X.base k x C ps S) (hr : Room (k + 1) X.A) (tk : Takes X W) (hN : X.N.length = n) (ha : PA X (e :: es) t) (hg : Gl X x := by rfl) (hdb : (x == ("__debug__" : Str)) = false := by decide)
    (he : starEach (e :: es) X.env = (false, eval e X.env) :: starEach es X.env := by rfl) (hpl : (backTo pos (starEach es X.env)).any (·.1) = false := by rfl) :
    PE X (.Call (.Name x p) (e :: es) [] pos) (tMake C (spMk X.K X.mg C S) [] (fun cls d H' => ∀ σ' : L2.St, σ'.length = n → W cls d σ' H') t) := by
  obtain ⟨f, fd, h1, h2, h3, h4⟩ := F.ex
  exact pe_make h2 h3 hr hg h1 h4 .nil (fun pins σ H s e s' I c => tk e s' (XE.of_call I (fun cls d H' h => h σ (I.len.trans hN)) c)) ha hdb he hpl
end
section
variable {p : Par} {ρ : Rho} {Q : D → Prop} {ta tb te ti : TE} {P : Post} {N : Rho → Prop} {mg : Str → Option Value} {Xp : Rho → Str → List (Str × D) → Prop} {W : WX}
theorem we_mkX {n : Nat} {C : Addr} {S : Addr → List D → (Out → Prop) → Prop} {ta : TA} (hW : XW mg p Xp W) (h : WA p ρ ta fun ds => S C ds (Out.cas Q (Xp (List.replicate n none)))) :
    WE p ρ (tMake C (spMk p.K mg C S) [] (fun cls d H' => ∀ σ' : L2.St, σ'.length = n → W cls d σ' H') ta) Q := fun G σ H hh Qv k =>
  h G σ H hh _ fun ds vs G1 H1 q s1 r1 x dx hx hdx hne => by
    have hh1 := hh.step s1
    have none_at : ∀ (i : Nat) (c : Cell), (List.replicate n (none : Option Cell))[i]? ≠ some (some c) := fun i c e => by
      rw [List.getElem?_replicate] at e
      split at e <;> cases e
    refine ⟨p.h, G1, H1, x, dx, vs, ds, _, by rw [List.append_nil], rfl, hx, hdx, hne, r1, hh1.mem.refl, q, fun fs G' H' z m sl => ?_, fun y fs C' d G' H' z hm m xr σ' hl => ?_⟩
    · obtain ⟨x', n⟩ := sl.up hh1.mem rfl
      obtain ⟨o, e4, ow, r⟩ := x'.toD rfl
      obtain ⟨o2, e5, ow2, _⟩ := sl.toD rfl
      have m2 := Mem.know (p := ⟨p.K, p.h, H1, G1⟩) m ow2 e4 (x'.nt rfl e4).tbl
      exact ⟨rfl, k _ _ _ _ z (s1.trans m2.1) r⟩
    · exact hW (List.replicate n none) G' σ' H' y fs C' d z hm ⟨(hh1.step m).mem, by rw [hl, List.length_replicate], fun i c e => (none_at i c e).elim, fun i j c c' a e => (none_at i c e).elim⟩ xr
/-- return (e.f,) -/
theorem wsg_retf1 {G1 : Hp} {R : D → Prop} {a C : Addr} {d : Option Addr} {f : Str} {i : Nat} {fs : List (Str × D)} {y : D} (e : ρ[i]? = some (some (.d (.raw (.ref a))))) (xr : XR p.K p.h G1 d fs) (hf : fs.lookup f = some y) (hR : R (.tup [y])) :
    WSg p G1 ρ (tRet (tTup (tCons (tXf a (.ref C) d C f (tVar i)) tNil))) (outP R) := fun G σ H ex hh E kn kr kb kc => by
  obtain ⟨sv, h1, v, h2, h3⟩ := hh.slot i _ e
  subst h2
  have hv : v = .ref a := by cases h3; rfl
  subst hv
  rcases xr.mono ex with ⟨rfl, _⟩ | ⟨dd, vfs, q1, q2, q3, q4⟩
  · cases hf
  · obtain ⟨v, l1, l2⟩ := lookup_of q3 q4.1 hf
    refine ⟨_, h1, rfl, rfl, dd, vfs, v, q1, hh.mem.sub _ _ q2, l1, sz (Nat.le_of_ble_eq_true rfl), fun b hb => ?_⟩
    have s := hh.mem.grow (o := .tup [v]) hb
    exact kr _ _ _ _ hR (hh.step s).mem (.tup upd_same (.cons (rmono l2 s.ex) .nil))
end
/-! ### == of an own class, whatever it gives -/
def rOwnEq (K : PySem.W.Frag) (C : Addr) (sp : Sp) : R2 := fun x y H Q => ∃ a dx fs tb, x = .ref a ∧ H a = some (.ins C dx fs) ∧ TyX K H y tb ∧ PySem.W.notFirst K C tb = true ∧ sp [x, y] H Q (fun _ _ _ => False)
theorem op_own {X : Cx} {CX : CXT} {k : Nat} {C f : Addr} {fd : FuncData} {ps : List Str} {sp : Sp} (F : FnOk X.prog X.w X.K X.mg X.base CX k f fd ps sp) (hr : Room k X.A)
    (hs : PySem.W.findIn X.K (.ref C) "__eq__" = some (some (.ref f))) (hf : PySem.W.isFn X.K (.ref f) = true) (hb : Binds X.K fd ps []) (hx : Passes CX X (fun _ _ _ => False)) : OpR X (compareOp .Eq) (rOwnEq X.K C sp) := by
  intro pins s σ H x y v u Q I rx ry h
  obtain ⟨a, dx, fs, tb, rfl, ha, hty, hnf, q⟩ := h
  cases rx
  obtain ⟨mA, J, _⟩ := ins_get I.hok ha
  obtain ⟨od, J, _⟩ := J.look
  obtain ⟨m, hF⟩ := I.fr
  obtain ⟨P, kit, hP, _⟩ := kit_of I ry hty
  show wpAny (model X.prog X.w) X.A (richCompare .Eq (.ref a) u) (EP X pins σ Q) X.xe s
  refine PySem.W.cmp_K (op := .Eq) (tb := tb) hr.units0 hF I.ok.mod.kin J (kit.ty _ _ I.kIn hP) hnf hs hf ?_
  refine thn (run_fn (us := [.ref a, u]) (vs := [.ref a, y]) (dvs := []) (ds := []) F hr hb .nil hx I (.cons rfl (.cons ry .nil)) q) fun v' s' hq => ?_
  obtain ⟨z, H', I', rz, q'⟩ := id hq
  cases z <;> first
    | (cases rz; exact hq)
    | (obtain ⟨t, rfl⟩ := rz; exact hq)
/-! ### objects and their kinds -/
/-- what is to be known of a class whose objects are asked after and compared -/
structure EqF (K : PySem.W.Frag) (C : Addr) : Prop where
  cls : Cls K C
  ha : PySem.W.findIn K (.ref C) "__class__" = some (some (.builtin "object.__class__"))
  hn : PySem.W.specialIn K (.builtin "object.__class__") "__get__" = some (some (.builtin "getset_descriptor.__get__"))
  ht : PySem.W.takesIn K (.builtin "object.__class__") = some true
  hm : PySem.W.mroIn K C (.type "object") = some true
  nf : ∀ t, t ∈ (["NoneType", "bool", "int", "str", "tuple", "list", "dict"] : List String) → PySem.W.notFirst K C (.type t) = true
  kc : ∀ t, t ∈ (["NoneType", "bool", "int", "str", "tuple", "list", "dict"] : List String) → PySem.W.kitOne K (.type t) (.ref C) = some false
  kb : ∀ t, t ∈ (["NoneType", "bool", "int", "str", "tuple", "list", "dict"] : List String) → PySem.W.kitOne K (.ref C) (.type t) = some false
  kk : PySem.W.kitOne K (.ref C) (.ref C) = some true
/-- the kind of a thing: a built-in one, or the class C -/
def TyW (C : Addr) (x : D) (t : Value) : Prop := (∃ s, tyD x = some s ∧ t = .type s) ∨ ∃ fs, x = .ins C fs ∧ t = .ref C
theorem tyD_in : ∀ {x : D} {s : String}, tyD x = some s → s ∈ (["NoneType", "bool", "int", "str", "tuple", "list", "dict"] : List String)
  | .non, _, h => by cases h; decide
  | .bl _, _, h => by cases h; decide
  | .int _, _, h => by cases h; decide
  | .str _, _, h => by cases h; decide
  | .tup _, _, h => by cases h; decide
  | .lst _, _, h => by cases h; decide
  | .dK _, _, h => by cases h; decide
  | .hand, _, h => by cases h
  | .dT _, _, h => by cases h
  | .raw _, _, h => by cases h
  | .ins _ _, _, h => by cases h
section
variable {p : Par} {ρ : Rho} {Q : D → Prop} {ta tb te : TE} {C : Addr}
theorem tyW_x (F : EqF p.K C) {G H : Hp} {v : V} {x : D} {t : Value} (e : Ex G H) (r : Rp p.K p.h G v x) (ty : TyW C x t) : TyX p.K H v t := by
  rcases ty with ⟨s, h, rfl⟩ | ⟨fs, rfl, rfl⟩
  · exact tyD_x (p := p) e r h
  · cases r with
    | ins q l c => exact .base (.ins (e _ _ q) F.cls F.ha F.hn F.ht F.hm)
/-- isinstance(e, T), e what it may -/
theorem we_isiW {T : String} (F : EqF p.K C) (h : WE p ρ te fun x => ∃ t b, TyW C x t ∧ PySem.W.kitOne p.K t (.type T) = some b ∧ Q (.bl b)) : WE p ρ (tCB (rIsi p.K) (tCons te (tCons (tC (.ty T)) tNil))) Q := fun G σ H hh Qv k =>
  h G σ H hh _ fun x v G1 H1 ⟨t, b, e1, e2, q⟩ s r => ⟨v, .ty T, t, .type T, b, rfl, .ty T, tyW_x F s.sub r e1, e2, k _ _ G1 H1 q s (.bl _)⟩
/-- isinstance(e, C), C the own class -/
theorem we_isiC (F : EqF p.K C) (h : WE p ρ te fun x => ∃ t b, TyW C x t ∧ PySem.W.kitOne p.K t (.ref C) = some b ∧ Q (.bl b)) : WE p ρ (tCB (rIsi p.K) (tCons te (tCons (tC (.ref C)) tNil))) Q := fun G σ H hh Qv k =>
  h G σ H hh _ fun x v G1 H1 ⟨t, b, e1, e2, q⟩ s r => ⟨v, .ref C, t, .ref C, b, rfl, .own C, tyW_x F s.sub r e1, e2, k _ _ G1 H1 q s (.bl _)⟩
/-- is it an object of a class -/
def isIns : D → Bool | .ins _ _ => true | _ => false
theorem kit_own (F : EqF p.K C) {x : D} {t : Value} (ty : TyW C x t) : PySem.W.kitOne p.K t (.ref C) = some (isIns x) := by
  rcases ty with ⟨s, h, rfl⟩ | ⟨fs, rfl, rfl⟩
  · rw [F.kc s (tyD_in h)]
    cases x <;> first | rfl | cases h
  · exact F.kk
theorem kit_bltn (F : EqF p.K C) {x : D} {t : Value} {T : String} {b : Bool} (ty : TyW C x t) (hT : T ∈ (["NoneType", "bool", "int", "str", "tuple", "list", "dict"] : List String)) (hb : ∀ s, tyD x = some s → kitB s T = some b) (hi : isIns x = true → b = false) : PySem.W.kitOne p.K t (.type T) = some b := by
  rcases ty with ⟨s, h, rfl⟩ | ⟨fs, rfl, rfl⟩
  · exact kit_ty (hb s h)
  · rw [hi rfl]; exact F.kb T hT
/-- == of an own class -/
theorem we_own {S : List D → (D → Prop) → Prop} (F : EqF p.K C) (h : WE p ρ ta fun x => ∃ fs, x = .ins C fs ∧ WE p ρ tb fun y => ∃ t, TyW C y t ∧ S [.ins C fs, y] Q) : WE p ρ (tOp (rOwnEq p.K C (spD p.K S)) ta tb) Q :=
  we_op (h.imp fun x ⟨fs, ex, h⟩ => h.imp fun y ⟨t, ty, q⟩ => fun G H v w m r1 r2 Qv k => by
    subst ex
    have nf : PySem.W.notFirst p.K C t = true := by
      rcases ty with ⟨s, h, rfl⟩ | ⟨_, _, rfl⟩
      · exact F.nf s (tyD_in h)
      · simp [PySem.W.notFirst]
    cases id r1 with
    | ins q1 l c => exact ⟨_, _, _, t, rfl, m.sub _ _ q1, tyW_x F m.sub r2 ty, nf, p.h, G, _, Q, .cons r1 (.cons r2 .nil), m.refl, q, fun d v G' H' z mm rr => k d v G' H' z mm rr⟩)
end
end Cal
set_option Elab.async false
set_option linter.all false
set_option maxRecDepth 100000
set_option maxHeartbeats 4000000
namespace Cal
open PySem L2 PyProof.Rows
open Evl (Ex sq_of st_of)
/-! ### != of a class that has only == -/
/-- the class as it stands: its == is f, it has no != of its own -/
structure NeF (K : PySem.W.Frag) (C f : Addr) : Prop where
  ex : ∃ (nm q : Str) (N : Addr) (bs : List Value) (hdct : Bool) (sn : List Str) (sub : List Value) (ab : Bool) (col : Option Bool) (dd : Option Addr) (k0 k1 k2 k3 k5 : Option Value) (newId : String) (oc : Value) (od : Option Addr) (es : Array DictEntry) (ep : Nat) (sl : Array (Option Value)),
    K.lookup C = some (excClassObj nm q C N bs [.type "object"] hdct sn sub ab col dd k0 k1 k2 k3 k5 newId) ∧ K.lookup N = some ⟨oc, od, .dict es ep, sl⟩ ∧ es.toList.all (fun e => match e.key with | .str _ _ => true | _ => false) = true ∧
    nsFind es "__eq__" = some (.ref f) ∧ nsFind es "__ne__" = none
theorem NeF.own {K : PySem.W.Frag} {C f : Addr} (F : NeF K C f) {h : Heap} {x : Addr} {o of : Obj} (X : K.In h) (hx : h.get? x = some o) (hc : o.cls = .ref C) (hf : h.get? f = some of) (hfc : of.cls = .type "function") : h.OwnEqNoNe x C f "object" [.type "object"] := by
  obtain ⟨nm, q, N, bs, hdct, sn, sub, ab, col, dd, k0, k1, k2, k3, k5, newId, oc, od, es, ep, sl, l1, l2, l3, l4, l5⟩ := F.ex
  refine ⟨o, of, nm, q, N, bs, hdct, sn, sub, ab, col, dd, k0, k1, k2, k3, k5, newId, nsFind es, _, hx, hc, X _ _ l1, ⟨_, es, ep, X _ _ l2, rfl, fun e he => ?_, fun _ => rfl⟩, l4, hf, hfc, rfl, rfl, l5⟩
  have := List.all_eq_true.mp l3 e (by simpa using he)
  cases z : e.key <;> rw [z] at this <;> first | exact ⟨_, _, rfl⟩ | cases this
/-- a != b of two objects of the class -/
def rOwnNe (C : Addr) (sp : Sp) : R2 := fun x y H Q => ∃ a dx fs b dy gs, x = .ref a ∧ y = .ref b ∧ H a = some (.ins C dx fs) ∧ H b = some (.ins C dy gs) ∧ sp [x, y] H (fun v H' => ∃ r, v = .bl r ∧ Q (.bl (!r)) H') (fun _ _ _ => False)
theorem op_ownNe {X : Cx} {k : Nat} {C f : Addr} {fd : FuncData} {ps : List Str} {sp : Sp} (N : NeF X.K C f) (F : FnOk X.prog X.w X.K X.mg X.base CX0 k f fd ps sp) (hf : ∃ of, X.K.lookup f = some of ∧ of.cls = .type "function") (hr : Room (k + 1) X.A) (hb : Binds X.K fd ps []) : OpR X (compareOp .NotEq) (rOwnNe C sp) := by
  intro pins s σ H x y v u Q I rx ry h
  obtain ⟨a, dx, fs, b, dy, gs, rfl, rfl, ha, hb', q⟩ := h
  cases rx
  cases ry
  obtain ⟨mA, J, _⟩ := ins_get I.hok ha
  obtain ⟨mB, J', _⟩ := ins_get I.hok hb'
  obtain ⟨of, lf, fc⟩ := hf
  have own := N.own I.kIn J.obj rfl (I.kIn _ _ lf) fc
  have hl := F.len _ _ _ _ q
  have hu : X.A.units + 1 < cLine := by have := hr.un; omega
  have bd : BindsTo s fd ⟨[.ref a, .ref b], []⟩ (ps.zip [.ref a, .ref b]) := by
    have := hb s [.ref a, .ref b] I.kIn (by simpa using hl)
    simpa using this
  have r2 : Vals [V.ref a, V.ref b] [Value.ref a, Value.ref b] := .cons rfl (.cons rfl .nil)
  refine compareOp_ne_ownEq PySem.F.cmp_object own J'.obj rfl hu ?_
  refine wpAny_call (codeAny_mono (F.run X.A.in1 X.stack s H ⟨[.ref a, .ref b], []⟩ _ _ _ _ hr.in1 I.env0.in1 bd r2 q) fun r s' hq => ?_)
  cases r with
  | error e => exact False.elim hq
  | ok fl =>
    cases fl with
    | ret w =>
      obtain ⟨z, H', I', rz, r', ez, q'⟩ := I.after hq
      subst ez
      cases rz
      exact ⟨r', rfl, .bl (!r'), H', I', rfl, q'⟩
    | next => exact False.elim hq
    | brk => exact False.elim hq
    | cont => exact False.elim hq
/-! ### methods that an operator calls -/
/-- the method m of the class x of the text -/
structure MSrc (K : PySem.W.Frag) (mg : Str → Option Value) (x m : Str) (st : Stmt) (q : Str) : Prop where
  ex : ∃ C f fd, mg x = some (.ref C) ∧ EqF K C ∧ Fun K m q st f fd ∧ PySem.W.findIn K (.ref C) m = some (some (.ref f)) ∧ PySem.W.isFn K (.ref f) = true ∧ (∃ of, K.lookup f = some of ∧ of.cls = .type "function") ∧ (m = "__eq__" → NeF K C f)
/-- a method that keeps the promise S -/
structure MDfn (P : Program) (w : World) (K : PySem.W.Frag) (mg : Str → Option Value) (base : Heap) (k : Nat) (C : Addr) (m : Str) (ps : List Str) (S : List D → (D → Prop) → Prop) : Prop where
  ex : ∃ f fd, PySem.W.findIn K (.ref C) m = some (some (.ref f)) ∧ PySem.W.isFn K (.ref f) = true ∧ (∃ of, K.lookup f = some of ∧ of.cls = .type "function") ∧ (m = "__eq__" → NeF K C f) ∧ FnOk P w K mg base CX0 k f fd ps (spD K S) ∧ Binds K fd ps []
section
variable {P : Program} {w : World} {K : PySem.W.Frag} {mg : Str → Option Value} {base : Heap}
theorem mkM {x m q : Str} {st : Stmt} {N ps : List Str} {k : Nat} {S : Addr → List D → (D → Prop) → Prop} (F : MSrc K mg x m st q) (sc : FnScope N ps (defScope st))
    (hb : ∀ (kV doc pm : Value) (an : Option Addr) (cdv ct : Value) (us : List Value), us.length = ps.length → bindArgs (PySem.W.fnOf m q (defArgs st) (defBody st) (defScope st) .none kV doc pm an cdv ct) ⟨us, []⟩ = pure (ps.zip us))
    (len : ∀ C ds R, S C ds R → ds.length = ps.length)
    (body : ∀ (C f : Addr) (cdv : Value) (A : Around) (outer : List Env) (s : Shared) (H : Hp) (E : XK), mg x = some (.ref C) → EqF K C → Room k (A.deeper (envOfC q (defScope st) s.heap.objs.size f cdv)) →
      ∃ t, PSs (cxOf CX0 P w K mg base N q (defScope st) f cdv A outer s H E).nox (defBody st) t ∧ ∀ (h : Hnd) (H0 G0 : Hp) ds R, S C ds R → WS ⟨K, h, H0, G0⟩ (rho0 N ds) t (retP R)) :
    ∃ C, mg x = some (.ref C) ∧ EqF K C ∧ MDfn P w K mg base (k + 1) C m ps (S C) := by
  obtain ⟨C, f, fd, hm, hE, F, hs, hf, ht, hne⟩ := F.ex
  refine ⟨C, hm, hE, f, fd, hs, hf, ht, hne, F.ok sc (fun vs H Q E h => ?_) (fun cdv A outer s H vs Q E hr h => ?_), F.binds hb⟩
  · obtain ⟨hd, G, ds, R, r, m, hs, q⟩ := h
    rw [r.length]
    exact len C ds R hs
  · obtain ⟨hd, G, ds, R, r, m, hs, q⟩ := h
    obtain ⟨t, ht, hw⟩ := body C f cdv A outer s H E hm hE hr
    exact ⟨t, ht, hw hd H G ds R hs G _ H (hold0 m r) _ (fun ρ' G' σ' H' z e hh => q .non .non G' H' z hh.mem .non) (fun d v G' H' z m' r' => q d v G' H' z m' r') (fun _ _ _ _ z => z.elim) fun _ _ _ _ z => z.elim⟩
end
section
variable {X : Cx} {k : Nat} {C : Addr} {ps : List Str} {S : List D → (D → Prop) → Prop} {a b : Expr} {ta tb : TE} {pos : Pos}
theorem opr_own (F : MDfn X.prog X.w X.K X.mg X.base k C "__eq__" ps S) (hr : Room k X.A) : OpR X (compareOp .Eq) (rOwnEq X.K C (spD X.K S)) := by
  obtain ⟨f, fd, hs, hf, _, _, h3, h4⟩ := F.ex
  exact op_own h3 hr hs hf h4 (fun _ _ _ _ _ _ _ z => z.elim)
theorem opr_ownNe (F : MDfn X.prog X.w X.K X.mg X.base k C "__eq__" ps S) (hr : Room (k + 1) X.A) : OpR X (compareOp .NotEq) (rOwnNe C (spD X.K S)) := by
  obtain ⟨f, fd, hs, hf, ht, hne, h3, h4⟩ := F.ex
  exact op_ownNe (hne rfl) h3 ht hr h4
end
section
variable {p : Par} {ρ : Rho} {Q : D → Prop} {ta tb : TE} {C : Addr}
theorem we_ownNe {S : List D → (D → Prop) → Prop} (h : WE p ρ ta fun x => ∃ fs, x = .ins C fs ∧ WE p ρ tb fun y => ∃ gs, y = .ins C gs ∧ S [.ins C fs, y] fun d => ∃ b, d = .bl b ∧ Q (.bl (!b))) : WE p ρ (tOp (rOwnNe C (spD p.K S)) ta tb) Q :=
  we_op (h.imp fun x ⟨fs, ex, h⟩ => h.imp fun y ⟨gs, ey, q⟩ => fun G H v w m r1 r2 Qv k => by
    subst ex ey
    cases id r1 with
    | ins q1 l1 c1 =>
      cases id r2 with
      | ins q2 l2 c2 =>
        exact ⟨_, _, _, _, _, _, rfl, rfl, m.sub _ _ q1, m.sub _ _ q2, p.h, G, _, _, .cons r1 (.cons r2 .nil), m.refl, q, fun d v G' H' ⟨b, eb, z⟩ mm rr => by
          subst eb
          exact ⟨b, rp_bl rr, k _ _ G' H' z mm (.bl _)⟩⟩)
end
section
variable {p : Par} {ρ : Rho} {Q : D → Prop} {ta tb : TE}
theorem rp_str' {K : PySem.W.Frag} {h : Hnd} {G : Hp} {v : V} {i : Str} (r : Rp K h G v (.str i)) : v = .str i := by cases r; rfl
/-- == of texts -/
theorem we_eqS (h : WE p ρ ta fun x => ∃ i : Str, x = .str i ∧ WE p ρ tb fun y => ∃ j : Str, y = .str j ∧ Q (.bl (decide (i = j)))) : WE p ρ (tOp rEq ta tb) Q :=
  we_op (h.imp fun x ⟨i, e, h⟩ => h.imp fun y ⟨j, e2, q⟩ => fun G H v w m r1 r2 Qv k => by
    subst e e2
    rw [rp_str' r1, rp_str' r2]
    refine ⟨rfl, ?_⟩
    have z : decide (V.str i = V.str j) = decide (i = j) := by
      by_cases e : i = j
      · subst e; simp
      · rw [decide_eq_false e, decide_eq_false fun q => e (V.str.inj q)]
    rw [z]
    exact k _ _ G H q m.refl (.bl _))
end
section
variable {p : Par} {ρ : Rho}
/-- a, b, .. = a list of so many -/
theorem wg_lst {n : Nat} {gs : TGs} {x : D} {N : Rho → Prop} (h : ∃ xs, x = .lst xs ∧ xs.length = n ∧ WGs p ρ gs xs N) : WG p ρ (gLst p.K n gs) x N := fun G σ H v hh r Qs k => by
  obtain ⟨xs, e, hl, h⟩ := h
  subst e
  obtain ⟨a, vs, ev, hs, hr⟩ := r.lst_inv
  exact ⟨a, vs, ev, lq hh.mem.sub hs, by rw [hr.length]; exact hl, h G σ H vs hh hr Qs k⟩
end
section
variable {X : Cx} {K0 : PySem.W.Frag} {k : Nat} {C : Addr} {ps : List Str} {S : List D → (D → Prop) → Prop}
theorem opr_ownK (hK : X.K = K0) (F : MDfn X.prog X.w K0 X.mg X.base k C "__eq__" ps S) (hr : Room k X.A) : OpR X (compareOp .Eq) (rOwnEq K0 C (spD K0 S)) := by
  subst hK
  exact opr_own F hr
theorem opr_ownNeK (hK : X.K = K0) (F : MDfn X.prog X.w K0 X.mg X.base k C "__eq__" ps S) (hr : Room (k + 1) X.A) : OpR X (compareOp .NotEq) (rOwnNe C (spD K0 S)) := by
  subst hK
  exact opr_ownNe F hr
end
end Cal
set_option Elab.async false
set_option linter.all false
set_option maxRecDepth 100000
set_option maxHeartbeats 4000000
namespace Cal
open PySem PySem.Spec L2 PyProof.Rows
open Evl (Ex sq_of st_of)
/-! ### tuple * int, once too -/
theorem tuple_mulW1 (l : Addr) (items : Array Value) (n : Nat) (dd : Option Addr) (sl : Array (Option Value)) (u : Tok) :
    Meets (Builtin.«tuple.__mul__» ⟨[.ref l, .int 1 u], []⟩) (fun _ R s => s.heap.get? l = some { cls := .type "tuple", dict := dd, data := .seq items n, slots := sl } ∧ R (.ok (.ret (Value.ref l))) s) :=
  .of_wp fun prog w A R s h => by
    obtain ⟨hp, g, d, tk, os⟩ := s
    obtain ⟨hl, h⟩ := h
    have f1 := AutoSeq1.idx_int
    have c0 : (decide ((1 : Int) < -(2 ^ 63)) || decide ((1 : Int) ≥ 2 ^ 63)) = false := by decide
    have c1 : (items.isEmpty || (1 : Int) == 1) = true := by rw [Bool.or_eq_true]; exact .inr rfl
    wp_walk using wpAny_loadPart' hl
    repeat (first
      | (refine wpAny_ite_false (decide_eq_false (by rw [c0]; exact Bool.false_ne_true)) ?_; wp_walk using wpAny_loadPart' hl)
      | (refine wpAny_ite_true (decide_eq_true (by rw [c1])) ?_; wp_walk using wpAny_loadPart' hl))
    exact ⟨_, rfl, h⟩
def rRepT1 (K : PySem.W.Frag) : R2 := fun x y H Q => ∃ l k xs, x = .ref l ∧ y = .int k ∧ SqT K H l xs ∧ xs ≠ [] ∧ 1 ≤ k ∧ k ≤ 1000 ∧ xs.length ≤ 1000 ∧ (k = 1 → Q (.ref l) H) ∧ (2 ≤ k → ∀ p, H p = none → Q (.ref p) (upd H p (.tup (List.replicate k.toNat xs).flatten)))
theorem op_repT1 {X : Cx} : OpR X (binaryOp .Mult) (rRepT1 X.K) := by
  intro pins s σ H x y v u Q I rx ry h
  obtain ⟨l, k, xs, rfl, rfl, hT, hne, h1, h2, hz, q1, q2⟩ := h
  by_cases hk : 2 ≤ k
  · exact op_repT pins s σ H _ _ v u Q I rx ry ⟨l, k, xs, rfl, rfl, hT, hne, hk, h2, hz, q2 hk⟩
  have e1 : k = 1 := by omega
  subst e1
  cases rx
  obtain ⟨t, rfl⟩ := ry
  obtain ⟨its, r, ⟨⟨cls, dd, data, sl⟩, ho, hc, n, hd⟩, hs⟩ := I.tuple hT
  simp only at hc hd
  subst hc hd
  exact wpAny_binaryOp_repeat_ref (T := "tuple") (U := "int") (by decide) ⟨_, ho, rfl⟩ (fun s' => typeIs_int s' 1 t) noFill_tuple_mul F.fills_int_mul F.slot_int_rmul repeat_tuple F.slot_int_index.lookup
    (call_meets F.slot_int_rmul (typeIs_int s 1 t) F.entry_int_rmul (F.args_int_rmul_2 _ _) (int_rmul_tuple 1 t l its.toArray n dd sl)
      ⟨ho, rfl, ⟨_, ho, rfl⟩, call_meets F.slot_tuple_mul ⟨_, ho, rfl⟩ F.entry_tuple_mul (F.args_tuple_mul_2 _ _) (tuple_mulW1 l its.toArray n dd sl t) ⟨ho, ⟨.ref l, H, I, rfl, q1 rfl⟩⟩⟩)
theorem op_repT1K {X : Cx} {K0 : PySem.W.Frag} (hK : X.K = K0) : OpR X (binaryOp .Mult) (rRepT1 K0) := hK ▸ op_repT1
section
variable {p : Par} {ρ : Rho} {Q : D → Prop} {ta tb te : TE}
theorem we_repT1 (h : WE p ρ ta fun x => ∃ xs, x = .tup xs ∧ xs ≠ [] ∧ xs.length ≤ 1000 ∧ WE p ρ tb fun y => ∃ n : Int, y = .int n ∧ 1 ≤ n ∧ n ≤ 1000 ∧ Q (.tup (List.replicate n.toNat xs).flatten)) : WE p ρ (tOp (rRepT1 p.K) ta tb) Q :=
  we_op (h.imp fun x ⟨xs, ex, hne, hxl, h⟩ => h.imp fun y ⟨n, ey, n1, n2, q⟩ => fun G H v w m r1 r2 Qv k => by
    subst ex ey
    have r1' := r1
    obtain ⟨a, vs, ev, hs, hl⟩ := r1.tup_inv
    subst ev
    have hz := hl.length
    refine ⟨a, n, vs, rfl, rp_int r2, tq m.sub hs, fun z => hne ?_, n1, n2, by omega, fun e1 => ?_, fun _ b hb => ?_⟩
    · rw [z] at hz
      exact List.length_eq_zero_iff.mp hz.symm
    · subst e1
      have e : (List.replicate (1 : Int).toNat xs).flatten = xs := by
        show (List.replicate 1 xs).flatten = xs
        simp
      rw [e] at q
      exact k _ _ G H q m.refl r1'
    · have g := m.grow (o := .tup (List.replicate n.toNat vs).flatten) hb
      exact k _ _ _ _ q g (.tup upd_same (lmono (rep_rp hl _) g.ex)))
/-- is it None -/
def isNo : D → Option Bool | .non => some true | .raw _ => none | _ => some false
theorem isNo_rp {K : PySem.W.Frag} {h : Hnd} {G : Hp} {v : V} : ∀ {x : D} {b : Bool}, isNo x = some b → Rp K h G v x → decide (v = .non) = b
  | .non, _, e, r => by cases e; cases r; rfl
  | .bl _, _, e, r => by cases e; cases r; rfl
  | .int _, _, e, r => by cases e; cases r; rfl
  | .str _, _, e, r => by cases e; cases r; rfl
  | .tup _, _, e, r => by cases e; cases r; rfl
  | .lst _, _, e, r => by cases e; cases r; rfl
  | .dK _, _, e, r => by cases e; cases r; rfl
  | .dT _, _, e, r => by cases e; cases r; rfl
  | .hand, _, e, r => by cases e; cases r; rfl
  | .raw _, _, e, r => by cases e
  | .ins _ _, _, e, r => by cases e; cases r; rfl
theorem we_isN (h : WE p ρ ta fun x => ∃ b, isNo x = some b ∧ WE p ρ tb fun y => y = .non ∧ Q (.bl b)) : WE p ρ (tOp (fun x y H Q => y = .non ∧ Q (.bl (decide (x = .non))) H) ta tb) Q :=
  we_op (h.imp fun x ⟨b, e, h⟩ => h.imp fun y ⟨ey, q⟩ => fun G H v w m r1 r2 Qv k => by
    subst ey
    cases r2
    refine ⟨rfl, ?_⟩
    rw [isNo_rp e r1]
    exact k _ _ G H q m.refl (.bl _))
theorem we_notN (h : WE p ρ ta fun x => ∃ b, isNo x = some b ∧ WE p ρ tb fun y => y = .non ∧ Q (.bl (!b))) : WE p ρ (tOp (fun x y H Q => y = .non ∧ Q (.bl (!decide (x = .non))) H) ta tb) Q :=
  we_op (h.imp fun x ⟨b, e, h⟩ => h.imp fun y ⟨ey, q⟩ => fun G H v w m r1 r2 Qv k => by
    subst ey
    cases r2
    refine ⟨rfl, ?_⟩
    rw [isNo_rp e r1]
    exact k _ _ G H q m.refl (.bl _))
end
/-! ### EqF from facts that are found -/
abbrev sevenT : List String := ["NoneType", "bool", "int", "str", "tuple", "list", "dict"]
theorem sub_ref (K : PySem.W.Frag) (C : Addr) : ∀ t, t ∈ sevenT → PySem.W.subIn K (.type t) (.ref C) = some false := fun t h => by
  simp only [List.mem_cons, List.not_mem_nil, or_false] at h
  rcases h with rfl | rfl | rfl | rfl | rfl | rfl | rfl <;> rfl
theorem eqf_mk {K : PySem.W.Frag} {C : Addr} (cls : Cls K C) (ha : PySem.W.findIn K (.ref C) "__class__" = some (some (.builtin "object.__class__")))
    (hn : PySem.W.specialIn K (.builtin "object.__class__") "__get__" = some (some (.builtin "getset_descriptor.__get__"))) (ht : PySem.W.takesIn K (.builtin "object.__class__") = some true) (hm : PySem.W.mroIn K C (.type "object") = some true)
    (ic : PySem.W.isClsIn K C = true) (tc : PySem.W.typeIn K (.ref C) = some (.type "type"))
    (s0 : PySem.W.subIn K (.ref C) (.type "NoneType") = some false) (s1 : PySem.W.subIn K (.ref C) (.type "bool") = some false) (s2 : PySem.W.subIn K (.ref C) (.type "int") = some false) (s3 : PySem.W.subIn K (.ref C) (.type "str") = some false)
    (s4 : PySem.W.subIn K (.ref C) (.type "tuple") = some false) (s5 : PySem.W.subIn K (.ref C) (.type "list") = some false) (s6 : PySem.W.subIn K (.ref C) (.type "dict") = some false) : EqF K C := by
  have q1 : (PySem.W.clsIn K C).isSome = true := ic
  have q2 : ((PySem.W.clsIn K C).isSome && PySem.W.typeIn K (.ref C) == some (.type "type")) = true := by rw [q1, tc]; rfl
  refine ⟨cls, ha, hn, ht, hm, fun t h => ?_, fun t h => ?_, fun t h => ?_, ?_⟩
  · unfold PySem.W.notFirst
    rw [sub_ref K C t h]
    simp
  · have kc : PySem.W.kitCls K (.type t) (.ref C) = some false := by
      refine Eq.trans (b := if ((PySem.W.clsIn K C).isSome && PySem.W.typeIn K (.ref C) == some (.type "type")) = true then PySem.W.subIn K (.type t) (.ref C) else none) rfl ?_
      rw [if_pos q2, sub_ref K C t h]
    unfold PySem.W.kitOne
    rw [if_neg (by simp), kc]
  · have sb : PySem.W.subIn K (.ref C) (.type t) = some false := by
      simp only [List.mem_cons, List.not_mem_nil, or_false] at h
      rcases h with rfl | rfl | rfl | rfl | rfl | rfl | rfl <;> assumption
    have km : PySem.W.kitMeta t = true := by
      simp only [List.mem_cons, List.not_mem_nil, or_false] at h
      rcases h with rfl | rfl | rfl | rfl | rfl | rfl | rfl <;> decide +kernel
    have kc : PySem.W.kitCls K (.ref C) (.type t) = some false := by
      refine Eq.trans (b := if PySem.W.kitMeta t = true then PySem.W.subIn K (.ref C) (.type t) else none) rfl ?_
      rw [if_pos km, sb]
    unfold PySem.W.kitOne
    rw [if_neg (by simp), kc]
  · unfold PySem.W.kitOne
    rw [if_pos (by simp)]
end Cal
set_option Elab.async false
set_option linter.all false
set_option maxRecDepth 100000
set_option maxHeartbeats 4000000
namespace Cal
open PySem L2 PyProof.Rows LamX
open Evl (Ex sq_of st_of)
/-! ### a def that gives what it is handed gives, or says a word -/
def TTr (mg : Str → Option Value) (wd : Str → Option Str) : (XK → Hp → VK → Prop) → Hp → VK → Prop := fun tl H Q =>
  tl (fun cls _ H' => ∃ y C s, cls = .ref C ∧ mg y = some (.ref C) ∧ wd y = some s ∧ Q (.str s) H') H Q
theorem words_give2 {X : Cx} {Ng : List Str} {x a q : Str} {sg : Scope} {g : Addr} {cdg : Value} {h₀ : ExceptHandler} {hds : List ExceptHandler} {wd : Str → Option Str} {cl : List (Addr × Str)} {p1 p2 p3 p8 : Pos}
    (hh : ∀ (s : Shared) (H : Hp), HdsOk (cxOf C8.CX0 X.prog X.w X.K X.mg X.base Ng x sg g cdg X.A X.stack s H C8.E0).nox (h₀ :: hds) (cl.map fun z => (Value.ref z.1, fun _ _ _ => tRet (tC (.str z.2)))))
    (hw : ∀ (y : Str) (C : Addr) (s : Str), X.mg y = some (.ref C) → wd y = some s → Leads X.K (.ref C) s cl) :
    GivesTo X Ng x sg g cdg [.Try [.Return (some (.Call (.Name a p1) [] [] p2)) p3] (h₀ :: hds) [] [] p8] a q (TTr X.mg wd) := by
  intro f c' s H Q tl act hc h
  refine ⟨_, pss_one (ps_try_many (X := (cxOf C8.CX0 X.prog X.w X.K X.mg X.base Ng x sg g cdg X.A X.stack s H C8.E0).nox) (Wout := fun _ _ _ _ => False)
      (tb := fun W D σ H => ∃ Ech : XK, (∀ cls d σ' H', Ech cls d H' → W cls d σ' H') ∧ σ[0]? = some (some (.ref f)) ∧ H c' = some (CodeO c' q) ∧ tl Ech H fun v H1 => D.rt v H1)
      rfl rfl LamX.takes0 (fun W pn xe tk _ => ?_) (hh s H)), ?_⟩
  · refine ⟨fun pins s' σ H' D I h' => ?_⟩
    obtain ⟨Ech, hW, h1, h2, h3⟩ := h'
    have hq := pss_one (ps_ret (pos := p3) (act W pn xe Ech p1 p2 tk hW))
    exact hq.run pins s' σ H' D I ⟨h1, h2, h3⟩
  · exact ⟨fun cls _ H' => ∃ y C s, cls = .ref C ∧ X.mg y = some (.ref C) ∧ wd y = some s ∧ Q (.str s) H', fun cls d σ' H' ⟨y, C, s, e1, e2, e3, e4⟩ => by
      subst e1
      exact leads_many (D := _) e4 (hw y C s e2 e3), rfl, hc, h⟩
section
variable {p : Par} {ρ : Rho} {Q : D → Prop} {mg : Str → Option Value} {ta tb : TE}
def giveOf (Q : D → Prop) (wd : Str → Option Str) : Out → Prop
  | .ok d => Q d
  | .new _ => False
  | .ex y _ => ∃ s, wd y = some s ∧ Q (.str s)
theorem we_lam2 {T : List (Addr × Str)} {wd : Str → Option Str} {S : List D → (Out → Prop) → Prop} {ta : TA} (hT : p.h.T = T) (h : WA p ρ ta fun ds => S ds (giveOf Q wd)) :
    WE p ρ (tLam T (TTr mg wd) fun E => tCallS (spX p.K mg S) (L2.WE fun cls d _ H => E cls d H) ta) Q := fun G σ H hh Qv k => by
  subst hT
  refine ⟨hh.mem.tab, fun H1 eN T1 => ?_⟩
  have s0 : Stp p G H G H1 := ⟨fun a o e => eN a o (hh.mem.sub a o e) fun ps z => hh.mem.gt a ps (by rw [e, z]), hh.mem.gh, fun a o _ t e => eN a o e t, fun _ _ e => e, fun _ _ e => .inl e, by
    obtain ⟨xs, hx⟩ := hh.mem.hand.some
    exact hh.mem.hand.mono (fun _ _ e => e) (by rw [hx]; exact eN _ _ hx fun ps z => by cases z), hh.mem.gt, T1⟩
  have hh0 := hh.step s0
  refine h G σ H1 hh0 _ fun ds vs G2 H2 q s1 r1 => ?_
  have hh1 := hh0.step s1
  have all := s0.trans s1
  refine ⟨p.h, G2, ds, _, r1, hh1.mem.refl, q, fun d v G' H' z m r => k d v G' H' z (all.trans m) r, fun c a G' H' z ho m x => z.elim, fun y fs C d G' H' z hm m xr => ?_⟩
  obtain ⟨s, e1, e2⟩ := z
  exact ⟨y, C, s, rfl, hm, e1, k (.str s) (.str s) G' H' e2 (all.trans m) (.str s)⟩
/-- != of texts -/
theorem we_neS (h : WE p ρ ta fun x => ∃ i : Str, x = .str i ∧ WE p ρ tb fun y => ∃ j : Str, y = .str j ∧ Q (.bl (!decide (i = j)))) : WE p ρ (tOp rNe ta tb) Q :=
  we_op (h.imp fun x ⟨i, e, h⟩ => h.imp fun y ⟨j, e2, q⟩ => fun G H v w m r1 r2 Qv k => by
    subst e e2
    rw [rp_str' r1, rp_str' r2]
    refine ⟨rfl, ?_⟩
    have z : decide (V.str i = V.str j) = decide (i = j) := by
      by_cases e : i = j
      · subst e; simp
      · rw [decide_eq_false e, decide_eq_false fun q => e (V.str.inj q)]
    rw [z]
    exact k _ _ G H q m.refl (.bl _))
/-- is, of flags -/
theorem we_isB (h : WE p ρ ta fun x => ∃ a, x = .bl a ∧ WE p ρ tb fun y => ∃ b, y = .bl b ∧ Q (.bl (decide (a = b)))) : WE p ρ (tOp (fun x y H Q => ∃ a b, x = .bl a ∧ y = .bl b ∧ Q (.bl (decide (a = b))) H) ta tb) Q :=
  we_op (h.imp fun x ⟨a, e, h⟩ => h.imp fun y ⟨b, e2, q⟩ => fun G H v w m r1 r2 Qv k => by
    subst e e2
    exact ⟨a, b, rp_bl r1, rp_bl r2, k _ _ G H q m.refl (.bl _)⟩)
end
section
variable {p : Par} {ρ : Rho} {P : Post}
theorem ws_par3 {i j l : Nat} {ta : TA} (h : WA p ρ ta fun ds => ∃ x y z, ds = [x, y, z] ∧ P.n (((ρ.set i (some (.d x))).set j (some (.d y))).set l (some (.d z)))) : WS p ρ (tPar3 i j l ta) P := fun G σ H hh E kn kr kb kc =>
  h G σ H hh _ fun ds vs G' H' ⟨x, y, z, e, q⟩ s r => by
    subst e
    cases r with
    | @cons v _ _ _ r1 rn => cases rn with | @cons w _ _ _ r2 rn => cases rn with | @cons u _ _ _ r3 rn => cases rn; exact ⟨v, w, u, rfl, kn _ G' _ H' q s.ex ((((hh.step s).setD r1).setD r2).setD r3)⟩
end
section
variable {X : Cx} {x : Str} {p pos : Pos} {e : Expr} {es : List Expr} {t : TA} {k : Nat} {ps : List Str} {S : List D → (Out → Prop) → Prop} {W : WX} {K0 : PySem.W.Frag} {mg0 : Str → Option Value}
theorem pe_callXK (hK : X.K = K0) (hm : X.mg = mg0) (F : DfnX X.prog X.w K0 mg0 X.base k x ps S) (hr : Room k X.A) (tk : Takes X W) (ha : PA X (e :: es) t) (hg : Gl X x := by rfl) (hdb : (x == ("__debug__" : Str)) = false := by decide)
    (he : starEach (e :: es) X.env = (false, eval e X.env) :: starEach es X.env := by rfl) (hpl : (backTo pos (starEach es X.env)).any (·.1) = false := by rfl) : PE X (.Call (.Name x p) (e :: es) [] pos) (tCallS (spX K0 mg0 S) (L2.WE W) t) := by
  subst hK hm
  exact pe_callX F hr tk ha hg hdb he hpl
end
end Cal
set_option Elab.async false
set_option linter.all false
set_option maxRecDepth 100000
set_option maxHeartbeats 4000000
namespace Cal
open PySem PySem.Spec L2 PyProof.Rows
open Evl (Ex sq_of st_of)
/-! ### a list gone through to its end while an error is handled -/
section
variable {prog : Program} {w : World} {A : Around} {E : Value → Shared → Prop} {s : Shared}
theorem list_end_hot {i0 l x1 : Addr} {n : Nat} {its : Array Value} {Q : Option Value → Shared → Prop} (hot : HotX.HotAt A x1 s.heap) (hx1 : x1 ≠ i0) (hi : s.heap.IsListIter i0 l n) (hl : s.heap.IsList l its) (hn : its[n]? = none)
    (hQ : ∀ h', Heap.ExtBut i0 s.heap h' → Q none { s with heap := h' }) : wpAny (model prog w) A (pyNext (.ref i0)) Q E s := by
  obtain ⟨hh, o1, v1, g1, d1, c1⟩ := hot
  obtain ⟨oi, gi, _, di⟩ := id hi
  obtain ⟨ol, gl, _, nl, dl⟩ := id hl
  unfold pyNext
  have args0 := args_listiter_next (.ref i0)
  refine wpAny_bind (wpAny_attempt (wpAny_callSpecial?_slot (name := Str.ofString "__next__") hi.typeIs slot_listiter_next (wpAny_call_entry slot_listiter_next hi.typeIs entry_listiter_next ?_ args0)))
  change wpAny _ _ (field (.ref i0) 0 >>= _) _ _ s
  refine wpAny_bind (wpAny_field gi di (x := .ref l) rfl ?_)
  change wpAny _ _ (if (Value.ref l == Value.none) = true then _ else _) _ _ s
  have nn : ¬ ((Value.ref l == Value.none) = true) := fun z => Bool.noConfusion z
  rw [if_neg nn]
  change wpAny _ _ (field (.ref i0) 1 >>= _) _ _ s
  refine wpAny_bind (wpAny_field gi di (x := .int n 0) rfl ?_)
  change wpAny _ _ (seqItems? (.ref l) >>= _) _ _ s
  refine wpAny_bind (wpAny_seqItems gl dl ?_)
  simp only [Int.toNat_natCast, hn]
  refine wpAny_bind (wpAny_rule (wpAny_bind (wpAny_setField gi di (by simp) (wpAny_bind ?_))))
  change wpAny _ _ (newExc (.type "StopIteration") [] >>= _) _ _ _
  refine wpAny_bind ?_
  simp only [newExc, newTuple]
  refine wpAny_bind (wpAny_newObj_type ?_ (by size_fits))
  refine wpAny_bind (m := firstArgMember _ _) (wpAny_of_eq (a := Value.none) (by first | rfl | (simp only [firstArgMember]; rfl)) (wpAny_newObj_type ?_ (by size_fits)))
  have u1 : (s.heap.update i0 (Obj.mapFields (·.setIfInBounds 0 Value.none))).get? x1 = some o1 := (Heap.get?_update_other _ _ (Ne.symm hx1)).trans g1
  have p1 := fun oa ob => Heap.get?_push_of_some (h := (s.heap.update i0 (Obj.mapFields (·.setIfInBounds 0 Value.none))).push oa) ob (Heap.get?_push_of_some oa u1)
  refine wpAny_pure (HotX.raiseNew_hot ⟨hh, o1, v1, p1 _ _, d1, c1⟩ (Nat.ne_of_lt (Heap.lt_size (Heap.get?_push_of_some _ u1))) (Heap.get?_push_size _ rfl) rfl (by first | (simp; done) | (simp; omega)) ?_)
  refine wpAny_bind (wpAny_isInstance (T := "StopIteration") (b := true) ⟨_, Heap.get?_update_self _ (Heap.get?_push_size _ rfl) rfl, rfl⟩ isSubtype_stop (wpAny_pure (hQ _ fun b o hb e => ?_)))
  have e1 : (s.heap.update i0 (Obj.mapFields (·.setIfInBounds 0 Value.none))).get? b = some o := (Heap.get?_update_other _ _ (Ne.symm hb)).trans e
  have e2 := fun oa => Heap.get?_push_of_some oa e1
  exact (Heap.get?_update_other _ _ (Nat.ne_of_gt (Heap.lt_size (e2 _)))).trans (Heap.get?_push_of_some _ (e2 _))
end
/-- a list walked to its end, an error being handled -/
theorem walks_hot {prog : Program} {w : World} {A : Around} {x1 : Addr} (hh : A.handled = some (.ref x1)) (it l : Addr) (hne : l ≠ it) (hx1 : x1 ≠ it) (vs : Array Value) :
    Walks prog w A it [it, l, x1] [it] vs.size (fun i v => vs[i]? = some v) (fun i h => (h.IsListIter it l i ∧ h.IsList l vs) ∧ ∃ (o : Obj) (fs : Array Value), h.get? x1 = some o ∧ o.data = .fields fs ∧ fs[2]? = some .none) := by
  have keepX : ∀ {h h' : Heap}, (∀ b o, b ∉ [it] → h.get? b = some o → h'.get? b = some o) → (∃ (o : Obj) (fs : Array Value), h.get? x1 = some o ∧ o.data = .fields fs ∧ fs[2]? = some .none) → ∃ (o : Obj) (fs : Array Value), h'.get? x1 = some o ∧ o.data = .fields fs ∧ fs[2]? = some .none := fun hk ⟨o, fs, e, d⟩ => ⟨o, fs, hk x1 o (fun z => hx1 (List.mem_singleton.mp z)) e, d⟩
  have out : ∀ {b : Addr}, b ∉ [it] → b ≠ it := fun h z => h (List.mem_singleton.mpr z)
  constructor
  · intro b hb
    rw [List.mem_singleton.mp hb]
    exact List.mem_cons_self
  · rintro i h h' ⟨⟨h1, h2⟩, o, fs, e, d⟩ hk
    exact ⟨⟨h1.at fun o e => hk it (by simp) o e, h2.at fun o e => hk l (by simp) o e⟩, o, fs, hk x1 (by simp) o e, d⟩
  · rintro i s Q E hi ⟨⟨h1, h2⟩, hx⟩ hQ
    have get : vs[i]? = some vs[i] := Array.getElem?_eq_getElem hi
    refine wpAny_pyNext_list_item h1 h2 get fun h' h3 same => hQ _ h' s.toks get ⟨⟨h3, h2.extBut same.extBut hne⟩, keepX (fun b o hb e => same.extBut b o (out hb) e) hx⟩ fun b o hb e => same.extBut b o (out hb) e
  · rintro s Q E ⟨⟨h1, h2⟩, o, fs, e, d1, d2⟩ hQ
    exact list_end_hot ⟨hh, o, fs, e, d1, d2⟩ hx1 h1 h2 (by simp) fun h' he => hQ h' s.toks fun b o hb e => he b o (out hb) e
  · rintro i s Q E ⟨⟨h1, _⟩, _⟩ hQ
    exact wpAny_pyIter_listiter h1 hQ
/-- sum of flags, an error being handled -/
theorem cr_sumH {X : Cx} (hc : L2H.HotC X) : CallR X (.builtin "sum") (rSumB X.K) := by
  intro pins s σ H vs us Q I r h
  obtain ⟨a, bs, rfl, hs, q⟩ := h
  obtain ⟨its, rv, hl, _⟩ := I.list hs
  rw [Vals.ref1 r]
  obtain ⟨x1, hh, o1, f1, g1, d1, c1⟩ := hc.at I
  have hL := hl.isList
  have lt : a < s.heap.objs.size := by obtain ⟨o, ho, _⟩ := hL; exact Heap.lt_size ho
  have lt1 : x1 < s.heap.objs.size := Heap.lt_size g1
  have hlen : its.length = bs.length := by have := rv.length; rw [List.length_map] at this; exact this.symm
  refine call_sum_walkAnyB (wpAny_pyIter_list hL ?_)
  refine ⟨_, _, _, _, _, _, _, fun i => if bs.getD i false = true then 1 else 0, rfl, (walks_hot (A := X.A.in1) (x1 := x1) hh s.heap.objs.size a (Nat.ne_of_lt lt) (Nat.ne_of_lt lt1) its.toArray).toS,
    ⟨⟨⟨_, Heap.get?_push_size _ rfl, rfl, rfl⟩, hL.push _⟩, o1, f1, Heap.get?_push_of_some _ g1, d1, c1⟩, fun b hb => ?_, fun i v hv => ?_, fun s' t' hm => ?_⟩
  · show b < (s.heap.push _).objs.size
    rw [Heap.size_push]
    simp only [List.mem_cons, List.not_mem_nil, or_false] at hb
    rcases hb with rfl | rfl | rfl
    · exact Nat.lt_succ_self _
    · exact Nat.lt_succ_of_lt lt
    · exact Nat.lt_succ_of_lt lt1
  · have hv' : its[i]? = some v := by simpa using hv
    have hi : i < bs.length := by have := (List.getElem?_eq_some_iff.mp hv').1; omega
    obtain ⟨u, h1, h2⟩ := rv.get (i := i) (x := .bl bs[i]) (by rw [List.getElem?_map, List.getElem?_eq_getElem hi]; rfl)
    rw [hv'] at h1
    cases h1
    cases h2
    refine .inr ⟨_, rfl, ?_⟩
    show (if bs.getD i false = true then (1 : Int) else 0) = _
    rw [List.getD_eq_getElem?_getD, List.getElem?_eq_getElem hi] <;> rfl
  · rw [Moved.eq_with hm]
    have e : preSum (fun i => if bs.getD i false = true then 1 else 0) its.toArray.size = trues bs := by
      rw [List.size_toArray, hlen, trues_pre bs _ (Nat.le_refl _), List.take_length]
    rw [e]
    exact ⟨.int _, H, I.kept fun b o z => hm.heap b o (fun hmem => Nat.ne_of_lt (Heap.lt_size z) (List.mem_singleton.mp hmem)) (Heap.get?_push_of_some _ z), ⟨_, rfl⟩, q⟩
end Cal
set_option Elab.async false
set_option linter.all false
set_option maxRecDepth 100000
set_option maxHeartbeats 4000000
namespace Cal
open PySem L2 PyProof.Rows
open Evl (Ex)
/-! ### errors whose context is known to be None -/
section
variable {X : Cx} {x : Str} {C : Addr} {e : Expr} {es : List Expr} {ta : TA} {te : TE} {p p1 p2 pos : Pos}
/-- behind C(): the exception, that has no dict, is let go -/
theorem mk_endNN {X : Cx} {pins : List (Addr × Obj)} {σ : L2.St} {H1 H2 : Hp} {Q : XK} {hp hp2 h2 : Heap} {g1 g2 : Array GenState} {d1 d2 : Drawn} {t1 t2 : Nat} {os1 os2 : OsState} {a C : Addr} (T : Raises X (.ref C)) (I1 : Inv X pins σ H1 ⟨hp, g1, d1, t1, os1⟩)
    (ha : hp.objs.size ≤ a) (k : ∀ b o, hp.get? b = some o → hp2.get? b = some o) (un : Un (frs X.stack) [] (upd H1 a (exo a C none)) H2 hp2 h2) (hok : HOk X.prog X.w H2 h2) (ho : os2 = os1) (hb : AllBare g2) (ea : H2 a = some (exo a C none)) (q : Q (.ref C) none (del H2 a)) :
    L2N.MkP X pins σ Q (.ref a) ⟨h2, g2, d2, t2, os2⟩ := by
  obtain ⟨t0, hoe⟩ := exo_at hok ea
  have hn : H1 a = none := I1.hok.fresh ha
  obtain ⟨G, gk0, ge0⟩ := restrict h2 fun b => decide (b ≠ a)
  have gk : ∀ b, b ≠ a → G.get? b = h2.get? b := fun b hb' => gk0 b (decide_eq_true hb')
  have ge : G.get? a = none := ge0 a (by simp)
  have nha : ∀ {b : Addr} {o : Obj}, hp.get? b = some o → b ≠ a := fun {b o} z => Nat.ne_of_lt (Nat.lt_of_lt_of_le (Heap.lt_size z) ha)
  have up : ∀ {b : Addr}, b ≠ a → H1 b = none → upd H1 a (exo a C none) b = none := fun {b} hb' n => (upd_ne hb').trans n
  have U : Un (frs X.stack) [] H1 (del H2 a) hp G := by
    constructor
    · intro b o z n hf hx; rw [gk b (nha z)]; exact un.keep b o (k b o z) (up (nha z) n) hf hx
    · intro b o z n hf hx; rw [gk b (nha z)]; exact un.slot b o (k b o z) (up (nha z) n) hf hx
    · intro b o z n hx; rw [del_ne (nha z)]; exact un.free b o (k b o z) (up (nha z) n) hx
    · intro b o z hx; rw [gk b (nha z)]; exact un.there b o (k b o z) hx
    · intro b xs z; rw [del_ne (ne_of_none z hn)]; exact un.tups b xs ((upd_ne (ne_of_none z hn)).trans z)
    · intro b o v z; rw [del_ne (ne_of_none z hn)]; exact un.frzs b o v ((upd_ne (ne_of_none z hn)).trans z)
    · intro b ps z; rw [del_ne (ne_of_none z hn)]; exact un.tbls b ps ((upd_ne (ne_of_none z hn)).trans z)
  have hok3 : HOk X.prog X.w (del H2 a) G := by
    intro b o z
    have hba : b ≠ a := fun e' => by rw [e', del_same] at z; cases z
    rw [del_ne hba] at z
    have noa : ∀ {c : Addr}, H2 c = some (.own b) → c ≠ a := fun {c} hc => at_ne ea hc exo_own
    refine (hok b o z).stay (fun c v hc y => ?_) (fun c hc => (del_ne (noa hc)).trans hc) fun c xs hc => (del_ne (at_ne ea hc exo_tup)).trans hc
    have hca : c ≠ a := by rcases hc with rfl | hc <;> first | exact hba | exact noa hc
    rw [gk c hca]; exact y
  have J : Inv X pins σ (del H2 a) ⟨G, g2, d2, t2, os2⟩ := I1.call' (ch := []) ho U hok3 hb fun b z => absurd z (by simp)
  refine ⟨a, _, _, ⟨G, g2, d2, t2, os2⟩, _, .ref C, none, rfl, J, fun b o z => ?_, ge, hoe, ⟨rfl, rfl, fun vs e => (by cases e; rfl)⟩, rfl, rfl, del_same, rfl, hb, T, q⟩
  by_cases hba : b = a
  · rw [hba, ge] at z; cases z
  · exact (gk b hba).symm.trans z
theorem pmk_oe0N {CX : CXT} {fI : Addr} {k : Nat} {fd : FuncData} {ps : List Str} {sp : Sp} (T : OexC X.K C) (iC : PySem.W.findIn X.K (.ref C) "__init__" = some (some (.ref fI))) (tI : PySem.W.typeIn X.K (.ref fI) = some (.type "function"))
    (F1 : FnOk X.prog X.w X.K X.mg X.base CX k fI fd ps sp) (hr : Room (k + 1) X.A) (hb : Binds X.K fd ps []) (hx : Passes CX X E0) (hm : X.mg x = some (.ref C)) (hg : Gl X x := by rfl) (hdb : (x == ("__debug__" : Str)) = false := by decide) :
    L2N.PMk X (.Call (.Name x p) [] [] pos) (tMk0 C sp) := by
  intro pins s σ H Q I h
  obtain ⟨nm, q, N, bs, bm, sn, sub, ab, col, dd, k0, k1, k2, k3, k5, hC, hbm⟩ := T.cls
  refine wpAny_Call_Name_kw (ld_glob I hg hm ?_ hdb)
  refine PySem.W.callWith_K0 I.kIn T.kC ?_
  show wpAny _ _ (call (.ref C) []) _ _ _
  obtain ⟨hp, g, dr, tk, os⟩ := s
  have hsz : hp.objs.size ≤ hp.objs.size + 1 := Nat.le_succ _
  have hq := h (hp.objs.size + 1) (I.hok.fresh hsz)
  have kk : ∀ b o, hp.get? b = some o → ((hp.push (PySem.W.kdv_tup [])).push (PySem.HandSPX.excO C hp.objs.size)).get? b = some o := fun b o e' => Heap.get?_push_of_some _ (Heap.get?_push_of_some _ e')
  have hget : ((hp.push (PySem.W.kdv_tup [])).push (PySem.HandSPX.excO C hp.objs.size)).get? (hp.objs.size + 1) = some (PySem.HandSPX.excO C hp.objs.size) := by heap_get
  have I2 : Inv X pins σ (upd H (hp.objs.size + 1) (exo (hp.objs.size + 1) C none)) ⟨(hp.push (PySem.W.kdv_tup [])).push (PySem.HandSPX.excO C hp.objs.size), g, dr, tk, os⟩ := I.laid (t' := tk) kk hsz (exo_ok hget)
  have r2 : Vals [V.ref (hp.objs.size + 1)] [Value.ref (hp.objs.size + 1)] := .cons rfl .nil
  have hl : ([Value.ref (hp.objs.size + 1)] ++ []).length = ps.length := (F1.len _ _ _ _ hq)
  refine wpAny_call (PySem.HandSPX.call_own F.excBase_ValueError (fun Y => PySem.HandSPX.refsVE_contains Y bm hbm) (I.kIn _ _ hC) (PySem.W.looks_findIn I.kIn iC) (fun self => PySem.W.bind_fn I.kIn self tI) (Nat.zero_le _)
    (codeAny_mono (F1.run _ X.stack _ _ ⟨[Value.ref (hp.objs.size + 1)], []⟩ [Value.ref (hp.objs.size + 1)] _ _ E0 (hr.make C [] []) (I2.env0.make C [] []) (hb _ [Value.ref (hp.objs.size + 1)] I2.kIn hl) r2 hq) fun r s' hq' => ?_))
  cases r with
  | error er => exact hx pins σ _ _ er s' I2 hq'
  | ok fl =>
    cases fl with
    | ret u =>
      obtain ⟨v, H2, os2, bare2, un2, hok2, rv, ev, ea, q2⟩ := hq'
      subst ev
      obtain ⟨h2, g2, d2, t2, os'⟩ := s'
      exact ⟨rv, mk_endNN (raises_own T.exC T.tyC) I hsz kk un2 hok2 os2 bare2 ea q2⟩
    | next => exact False.elim hq'
    | brk => exact False.elim hq'
    | cont => exact False.elim hq'
end
theorem takes0N {X : Cx} : L2N.Takes X (fun _ _ _ _ => False) := fun _ _ z => by
  obtain ⟨_, _, _, _, _, _, _, _, _, _, _, _, _, _, _, _, f⟩ := z
  exact f.elim
section
variable {X : Cx} {x : Str} {C : Addr} {fl : List Str} {f : Str} {k : Nat} {W : WX} {p pos pos' : Pos}
/-- raise C() -/
theorem ps_rz0N (D : XDef X.prog X.w X.K X.mg X.base k x fl (fun C => spI0 C) C) (hr : Room (k + 1) X.A) (tk : L2N.Takes X W) (hc : X.calm = true := by rfl) (hg : Gl X x := by rfl) (hdb : (x == ("__debug__" : Str)) = false := by decide) :
    PS X (.Raise (some (.Call (.Name x p) [] [] pos)) none pos') (fun _ σ H => tMk0 C (spI0 C) σ H fun cls d H' => W cls d σ H') := by
  obtain ⟨fI, fd, ps, h1, h2, h3, h4⟩ := D.ini
  exact L2N.ps_raise hc tk (pmk_oe0N D.ox h1 h2 h3 hr h4 pass0 D.gC hg hdb)
end
/-! ### defs that may raise -/
structure DfnN (P : Program) (w : World) (K : PySem.W.Frag) (mg : Str → Option Value) (base : Heap) (k : Nat) (x : Str) (ps : List Str) (S : List D → (Out → Prop) → Prop) : Prop where
  ex : ∃ f fd, mg x = some (.ref f) ∧ PySem.W.keepIn K (.ref f) = true ∧ FnOk P w K mg base (L2N.CX P w) k f fd ps (spX K mg S) ∧ Binds K fd ps []
section
variable {P : Program} {w : World} {K : PySem.W.Frag} {mg : Str → Option Value} {base : Heap}
theorem DfnN.mono {j k : Nat} {x : Str} {ps : List Str} {S : List D → (Out → Prop) → Prop} (F : DfnN P w K mg base j x ps S) (h : j ≤ k) : DfnN P w K mg base k x ps S := by
  obtain ⟨f, fd, h1, h2, h3, h4⟩ := F.ex
  exact ⟨f, fd, h1, h2, h3.mono h, h4⟩
theorem fun_okN {x qual : Str} {st : Stmt} {f : Addr} {fd : FuncData} {N ps : List Str} {k : Nat} {sp : Sp} (F : Fun K x qual st f fd) (S : FnScope N ps (defScope st)) (len : ∀ vs H Q E, sp vs H Q E → vs.length = ps.length)
    (body : ∀ (cdv : Value) (A : Around) (outer : List Env) (s : Shared) (H : Hp) (vs : List V) (Q : VK) (E : XK), Room k (A.deeper (envOfC qual (defScope st) s.heap.objs.size f cdv)) → sp vs H Q E →
      ∃ t, PSs (cxOf (L2N.CX P w) P w K mg base N qual (defScope st) f cdv A outer s H E) (defBody st) t ∧ t { nx := fun _ H' => Q .non H', rt := Q } (start N vs) H) : FnOk P w K mg base (L2N.CX P w) (k + 1) f fd ps sp := by
  obtain ⟨oc, od, kV, doc, pm, an, cdv, ct, osl, e, look, cd⟩ := F.ex
  subst e
  exact fn_of look cd S len fun A outer s H vs Q E room prom => body cdv A outer s H vs Q E room prom
theorem mkN {x : Str} {st : Stmt} {N ps : List Str} {k : Nat} {S : List D → (Out → Prop) → Prop} (F : Src K mg x st) (sc : FnScope N ps (defScope st))
    (hb : ∀ (kV doc pm : Value) (an : Option Addr) (cdv ct : Value) (us : List Value), us.length = ps.length → bindArgs (PySem.W.fnOf x x (defArgs st) (defBody st) (defScope st) .none kV doc pm an cdv ct) ⟨us, []⟩ = pure (ps.zip us))
    (len : ∀ ds R, S ds R → ds.length = ps.length)
    (body : ∀ (f : Addr) (cdv : Value) (A : Around) (outer : List Env) (s : Shared) (H : Hp) (E : XK), Room k (A.deeper (envOfC x (defScope st) s.heap.objs.size f cdv)) →
      ∃ t, PSs (cxOf (L2N.CX P w) P w K mg base N x (defScope st) f cdv A outer s H E) (defBody st) t ∧ ∀ (h : Hnd) (H0 G0 : Hp) ds R, S ds R → XW mg ⟨K, h, H0, G0⟩ (fun _ x fs => R (.ex x fs)) (fun cls d _ H => E cls d H) → WSO ⟨K, h, H0, G0⟩ (rho0 N ds) t (retP fun d => R (.ok d)) fun c => R (.new c)) :
    DfnN P w K mg base (k + 1) x ps S := by
  obtain ⟨f, fd, hm, F⟩ := F.ex
  refine ⟨f, fd, hm, F.kp, fun_okN F sc (fun vs H Q E h => ?_) (fun cdv A outer s H vs Q E hr h => ?_), F.binds hb⟩
  · obtain ⟨hd, G, ds, R, r, m, hs, q⟩ := h
    rw [r.length]; exact len ds R hs
  · obtain ⟨hd, G, ds, R, r, m, hs, q, qo, qx⟩ := h
    obtain ⟨t, ht, hw⟩ := body f cdv A outer s H E hr
    exact ⟨t, ht, hw hd H G ds R hs (fun ρ G' σ H' x fs C d z hm hh xr => qx x fs C d G' H' z hm hh.mem xr) G _ H (hold0 m r) _ (fun ρ' G' σ' H' z e hh => q .non .non G' H' z hh.mem .non) (fun d v G' H' z m' r' => q d v G' H' z m' r') (fun _ _ _ _ z => z.elim) (fun _ _ _ _ z => z.elim) fun c a G' H' z ho m' x => qo c a G' H' z ho m' x⟩
/-- a def that raises nothing, among those that may -/
theorem Dfn.toN {k : Nat} {x : Str} {ps : List Str} {S : List D → (D → Prop) → Prop} (F : Dfn P w K mg base k x ps S) : DfnN P w K mg base k x ps fun ds R => S ds fun d => R (.ok d) := by
  obtain ⟨f, fd, h1, h2, h3, h4⟩ := F.ex
  refine ⟨f, fd, h1, h2, ⟨fun vs H Q E ⟨hd, G, ds, R, a, b, c, d, eo, e⟩ => h3.len vs H Q E ⟨hd, G, ds, _, a, b, c, d⟩, fun A outer s H args us vs Q E hr he hb hv ⟨hd, G, ds, R, a, b, c, d, eo, e⟩ => ?_⟩, h4⟩
  refine codeAny_mono (h3.run A outer s H args us vs Q E hr he hb hv ⟨hd, G, ds, _, a, b, c, d⟩) fun r s' q => ?_
  cases r with
  | error z => exact (show False from q).elim
  | ok fl =>
    cases fl with
    | ret u => exact q
    | next => exact (show False from q).elim
    | brk => exact (show False from q).elim
    | cont => exact (show False from q).elim
end
section
variable {X : Cx} {x : Str} {p pos : Pos} {e : Expr} {es : List Expr} {t : TA} {k : Nat} {ps : List Str} {S : List D → (Out → Prop) → Prop} {W : WX}
theorem pe_callN (F : DfnN X.prog X.w X.K X.mg X.base k x ps S) (hr : Room k X.A) (tk : L2N.Takes X W) (ha : PA X (e :: es) t) (hg : Gl X x := by rfl) (hdb : (x == ("__debug__" : Str)) = false := by decide)
    (he : starEach (e :: es) X.env = (false, eval e X.env) :: starEach es X.env := by rfl) (hpl : (backTo pos (starEach es X.env)).any (·.1) = false := by rfl) : PE X (.Call (.Name x p) (e :: es) [] pos) (tCallS (spX X.K X.mg S) (L2.WE W) t) := by
  obtain ⟨f, fd, h1, h2, h3, h4⟩ := F.ex
  exact pe_callS h3 hr hg h1 h2 h4 (fun σ => L2N.passAt tk σ) ha hdb he hpl
theorem pe_callNK {K0 : PySem.W.Frag} {mg0 : Str → Option Value} (hK : X.K = K0) (hm : X.mg = mg0) (F : DfnN X.prog X.w K0 mg0 X.base k x ps S) (hr : Room k X.A) (tk : L2N.Takes X W) (ha : PA X (e :: es) t) (hg : Gl X x := by rfl) (hdb : (x == ("__debug__" : Str)) = false := by decide)
    (he : starEach (e :: es) X.env = (false, eval e X.env) :: starEach es X.env := by rfl) (hpl : (backTo pos (starEach es X.env)).any (·.1) = false := by rfl) : PE X (.Call (.Name x p) (e :: es) [] pos) (tCallS (spX K0 mg0 S) (L2.WE W) t) := by
  subst hK hm
  exact pe_callN F hr tk ha hg hdb he hpl
end
end Cal
set_option Elab.async false
set_option linter.all false
set_option maxRecDepth 100000
set_option maxHeartbeats 4000000
namespace Cal
open PySem PySem.Spec L2 PyProof.Rows LamX
open Evl (Ex sq_of st_of)
/-! ### lambdas that let out errors whose context is known -/
/-- within the lambda that was made in X -/
def lamN (X : Cx) (A : Around) (outer : List Env) (s : Shared) (H : Hp) (E : XK) (scope : Scope) (f c' : Addr) : Cx :=
  (lamCx X A outer s H E scope f c').tr [] fun e s1 => wpAny (model X.prog X.w) (A.deeper (lamEnv X scope s.heap.objs.size f c')) (leaving (lamEnv X scope s.heap.objs.size f c') e)
    (fun _ s2 => L2N.CX X.prog X.w outer H s E e s2) (fun e2 s2 => L2N.CX X.prog X.w outer H s E e2 s2) s1
/-- the context in which a def g of the text runs that was called at s of X -/
abbrev inG (X : Cx) (Ng : List Str) (x : Str) (sg : Scope) (g : Addr) (cdg : Value) (s : Shared) (H : Hp) : Cx := cxOf C8.CX0 X.prog X.w X.K X.mg X.base Ng x sg g cdg X.A X.stack s H C8.E0
section
variable {X : Cx} {pins : List (Addr × Obj)} {σ : L2.St} {H : Hp} {s : Shared}
theorem call_lamN {Ng : List Str} {x q : Str} {sg : Scope} {g f c' : Addr} {cdg pm ctv : Value} {prs : Arguments} {b : Expr} {sc : Scope} {k : Nat} {a : Str} {pn : List (Addr × Obj)} {xe : Value → Shared → Prop} {W : WX} {E : XK} {tb : TE} {p1 p2 : Pos}
    (I : Inv X pins σ H s) (L : LamS X.env.scope sc) (hq : X.env.qual ++ "<lambda>" = q) (hf : s.heap.get? f = some (PySem.W.kla_obj "<lambda>" q prs b sc (cloFrom X.env.cells sc.names []) pm c' ctv)) (hfn : H f = none) (hfr : f ∉ frs X.stack)
    (hbind : bindArgs (PySem.W.kla_fn "<lambda>" q prs b sc (cloFrom X.env.cells sc.names []) pm (.ref c') ctv) ⟨[], []⟩ = pure [])
    (tk : L2N.Takes ((inG X Ng x sg g cdg s H).tr pn xe) W) (hW : ∀ cls d σ1 H1, σ1.length = Ng.length → E cls d H1 → W cls d σ1 H1) (hr : Room (k + 1) (X.A.deeper (envOfC x sg s.heap.objs.size g cdg)))
    (hbody : ∀ (A : Around) (outer : List Env) (s : Shared) (H : Hp), Room k (A.deeper (lamEnv X sc s.heap.objs.size f c')) → PE (lamN X A outer s H E sc f c') b tb)
    (hN : Ng[0]? = some a) (hv : Vis sg a) (hd : (a == ("__debug__" : Str)) = false) (hcd : (a == ("__classdict__" : Str)) = false) :
    PE ((inG X Ng x sg g cdg s H).tr pn xe) (.Call (.Name a p1) [] [] p2) fun σ2 H2 Q => σ2[0]? = some (some (.ref f)) ∧ H2 c' = some (CodeO c' q) ∧ tb σ H2 Q := by
  subst hq
  refine ⟨fun pins2 s2 σ2 H2 Q I2 ⟨hs, hc, ht⟩ => ?_⟩
  have name := (pe_var (X := (inG X Ng x sg g cdg s H).tr pn xe) (pos := p1) (i := 0) hN hv hd hcd).run pins2 s2 σ2 H2 (fun v H3 => v = .ref f ∧ H3 = H2) I2 ⟨.ref f, hs, rfl, rfl⟩
  refine wpAny_Call_Name_kw (thn name fun u s3 ⟨v, H3, I3, r3, q3⟩ => ?_)
  obtain ⟨rfl, rfl⟩ := q3
  cases r3
  have obj := I3.base.keep f _ hf hfn hfr (fun z => nomatch (show f ∈ ([] : List Addr) from z))
  refine PySem.W.callWith_F0 ⟨_, _, _, _, obj⟩ ?_
  have un : Un (frs X.stack) [] H H3 s.heap s3.heap := I3.base
  obtain ⟨⟨oc, vs, t, g1, g2, g3⟩, _, _⟩ := I3.hok c' _ hc
  have runs : codeAny (model X.prog X.w) (X.A.deeper (envOfC x sg s.heap.objs.size g cdg)) (.call (.ref f) ⟨[], []⟩) (CR (L2N.CX X.prog X.w) (envOfC x sg s.heap.objs.size g cdg :: X.stack) X.prog X.w H3 s3 Q E) s3 := by
    refine PySem.W.kla_callFunE hr.depth obj rfl L.co L.gen rfl ⟨c', oc, vs, t, rfl, g1, g2, g3⟩ ?_
    rw [hbind]
    refine wpAny_pure (wpAny_newFunctionEnv (fun y hy => (L.own y hy).2) (fun y hy => absurd hy (by simp)) (fun hp hns hsb => ⟨I3.nolimit.fresh _ hsb, ?_⟩) L.kind)
    change codeAny _ _ (.expr b (lamEnv X sc s3.heap.objs.size f c')) _ _
    have kp : ∀ n o, s3.heap.get? n = some o → hp.get? n = some o := fun n o e => hsb.extBut n o (Nat.ne_of_lt (Heap.lt_size e)) (Heap.get?_push_of_some _ e)
    have J0 := lam_start2 (E := E) (f := f) (c' := c') (tk := s3.toks + ([] : List (Str × Value)).length) I L I3.env0 hr.hd un hns kp
    have J : Inv (lamN X (X.A.deeper (envOfC x sg s.heap.objs.size g cdg)) (envOfC x sg s.heap.objs.size g cdg :: X.stack) s3 H3 E sc f c') [] σ H3 { s3 with heap := hp, toks := s3.toks + ([] : List (Str × Value)).length } := J0.toTry _
    refine PySem.W.kla_codeExpr (wpAny_mono ((hbody _ _ s3 H3 (hr.deeper _)).run [] _ _ H3 Q J ht) (fun v s4 ⟨w, H4, J4, r4, q4⟩ => ⟨w, H4, J4.os, J4.bare, J4.base, J4.hok, r4, q4⟩) fun e s4 z => z)
  refine wpAny_call (codeAny_mono runs fun r s4 z => ?_)
  cases r with
  | error e => exact tk e s4 (L2N.XE.of_call I3 (fun cls d H4 h => hW cls d σ2 H4 I3.len h) z)
  | ok fl =>
    cases fl with
    | ret u => exact I3.after z
    | next => exact False.elim z
    | brk => exact False.elim z
    | cont => exact False.elim z
/-- what a def makes of what it is handed to call -/
def GivesN (X : Cx) (Ng : List Str) (x : Str) (sg : Scope) (g : Addr) (cdg : Value) (bg : List Stmt) (a q : Str) (TT : (XK → Hp → VK → Prop) → Hp → VK → Prop) : Prop := ∀ (f c' : Addr) (s : Shared) (H : Hp) (Q : VK) (tl : XK → Hp → VK → Prop),
  (∀ (W : WX) (pn : List (Addr × Obj)) (xe : Value → Shared → Prop) (E : XK) (p1 p2 : Pos), L2N.Takes ((inG X Ng x sg g cdg s H).tr pn xe) W → (∀ cls d σ1 H1, σ1.length = Ng.length → E cls d H1 → W cls d σ1 H1) →
    PE ((inG X Ng x sg g cdg s H).tr pn xe) (.Call (.Name a p1) [] [] p2) fun σ2 H2 Q => σ2[0]? = some (some (.ref f)) ∧ H2 c' = some (CodeO c' q) ∧ tl E H2 Q) →
  H c' = some (CodeO c' q) → TT tl H Q → ∃ t, PSs (inG X Ng x sg g cdg s H).nox bg t ∧ t { nx := fun _ H1 => Q .non H1, rt := Q } (L2.start Ng [.ref f]) H
theorem pe_lamN {T : List (Addr × Str)} {TT : (XK → Hp → VK → Prop) → Hp → VK → Prop} {x a : Str} {st : Stmt} {c P : Addr} {k : Nat} {Ng : List Str} {prs : Arguments} {b : Expr} {sc : Scope} {t : XK → TE} {p lpos pos : Pos} (F : Src X.K X.mg x st)
    (Sg : FnScope Ng [a] (defScope st)) (hb : ∀ (kV doc pm : Value) (an : Option Addr) (cdv ct : Value) (us : List Value), us.length = ([a] : List Str).length → bindArgs (PySem.W.fnOf x x (defArgs st) (defBody st) (defScope st) .none kV doc pm an cdv ct) ⟨us, []⟩ = pure (([a] : List Str).zip us))
    (hNg : Ng[0]? = some a) (hva : Vis (defScope st) a) (hG : ∀ (g : Addr) (cdg : Value), GivesN X Ng x (defScope st) g cdg (defBody st) a (X.env.qual ++ "<lambda>") TT) (TB : TabB X.base X.mg c P) (hcode : X.env.code = .ref c) (hT : T = [(P, X.env.qual ++ "<lambda>")]) (hr : Room (k + 2) X.A) (L : LamS X.env.scope sc)
    (hdef : defaultsOf prs X.env = ([], [])) (hbind : ∀ (q : Str) (cl : List (Str × Addr)) (pm cv ctv : Value), bindArgs (PySem.W.kla_fn "<lambda>" q prs b sc cl pm cv ctv) ⟨[], []⟩ = pure [])
    (hbody : ∀ (A : Around) (outer : List Env) (s : Shared) (H : Hp) (E : XK) (f c' : Addr), Room k (A.deeper (lamEnv X sc s.heap.objs.size f c')) → PE (lamN X A outer s H E sc f c') b (t E))
    (hg : Gl X x := by rfl) (hdb : (x == ("__debug__" : Str)) = false := by decide) (hd : (a == ("__debug__" : Str)) = false := by decide) (hcd : (a == ("__classdict__" : Str)) = false := by decide) :
    PE X (.Call (.Name x p) [.Lambda prs b sc lpos] [] pos) (tLam T TT t) := by
  obtain ⟨g, fd, hm, Fn⟩ := F.ex
  have bd := Fn.binds hb
  obtain ⟨oc, od, kV, doc, pm, an, cdv, ct, osl, e, look, code⟩ := Fn.ex
  subst e hT
  refine ⟨fun pins s σ H Q I ⟨hT, h⟩ => ?_⟩
  refine wpAny_Call_Name_kw (ld_glob I hg hm (PySem.W.callWith_K (h₀ := X.base) I.ok.mod.kin Fn.kp ?_ (by rfl) (by rfl)) hdb)
  change wpAny _ _ (spliced ((false, eval (.Lambda prs b sc lpos) X.env) :: backTo pos (starEach [] X.env))) _ _ s
  refine Calls.spliced_cons (lam_make2 I TB hcode (.head _) (fun z hz _ => by cases List.mem_singleton.mp hz; rfl) hT hdef (L.has I.ok) fun f c' pm' ctv H1 s1 I1 eN T1 hf hfn hfr hco => Calls.spliced_nil ⟨I1.kIn, ?_⟩)
  have runs : codeAny (model X.prog X.w) X.A (.call (.ref g) ⟨[.ref f], []⟩) (CR C8.CX0 X.stack X.prog X.w H1 s1 Q C8.E0) s1 := by
    refine run_ofS (N := Ng) (ps := [a]) (us := [.ref f]) (vs := [.ref f]) look code Sg hr I1.env0 (bd s1 [.ref f] I1.kIn rfl) (.cons rfl .nil) rfl fun room => ?_
    obtain ⟨t1, reads, goal⟩ := hG g cdv f c' s1 H1 Q (fun E H2 Q2 => t E σ H2 Q2) (fun W pn xe E p1 p2 tk hW => call_lamN I1 L rfl hf hfn hfr (hbind _ _ _ _ _) tk hW room (fun A outer s H r2 => hbody A outer s H E f c' r2) hNg hva hd hcd) hco (h H1 eN T1)
    exact ⟨t1, reads.nox, goal⟩
  refine wpAny_call (codeAny_mono runs fun r s2 z => ?_)
  cases r with
  | error e => exact (show False from z).elim
  | ok fl =>
    cases fl with
    | ret u => exact I1.after z
    | next => exact False.elim z
    | brk => exact False.elim z
    | cont => exact False.elim z
end
end Cal
set_option Elab.async false
set_option linter.all false
set_option maxRecDepth 100000
set_option maxHeartbeats 4000000
namespace Cal
open PySem PySem.Spec L2 PyProof.Rows LamX
open Evl (Ex sq_of st_of)
/-! ### of which of three classes an error is -/
/-- an error class of the text, with what isinstance asks of it -/
structure ExK (K : PySem.W.Frag) (mg : Str → Option Value) (y : Str) : Prop where
  ex : ∃ C, mg y = some (.ref C) ∧ ExcC K C
def rIsEg (K : PySem.W.Frag) (cls : Value) (d : Option Addr) (a : Addr) : List V → Hp → VK → Prop := fun xs H Q => ∃ D, cls = .ref D ∧ d = none ∧ ExcC K D ∧ rIsE K D a xs H Q
theorem cr_isEg {X : Cx} {cls : Value} {d : Option Addr} {a : Addr} {oe : Obj} {pn : List (Addr × Obj)} (hz : Zc cls d oe) (hf : ∃ vs, oe.data = .fields vs) : CallR (X.suite a ((a, oe) :: pn)) (.builtin "isinstance") (rIsEg X.K cls d a) := by
  intro pins s σ H xs us Q I r ⟨D, e1, e2, C, q⟩
  subst e1 e2
  exact call_isE C hz hf pins s σ H xs us Q I r q
theorem hot_suite {X : Cx} {cls : Value} {d : Option Addr} {a : Addr} {oe : Obj} {pn : List (Addr × Obj)} (hz : L2N.Zn cls d oe) (hf : ∃ vs, oe.data = .fields vs) : L2H.HotC (X.suite a ((a, oe) :: pn)) := by
  obtain ⟨vs, hv⟩ := hf
  exact ⟨(a, oe), ⟨rfl, vs, hv, hz.2.2 vs hv⟩, List.mem_cons_self⟩
/-- isinstance(e, C) -/
def tIsE (K : PySem.W.Frag) (cls : Value) (d : Option Addr) (a C : Addr) : TE := tCB (rIsEg K cls d a) (tCons (tVar 1) (tCons (tC (.ref C)) tNil))
/-- the suite: kinds = [..]; return [w1, w2, w3][kinds.index(True)] if sum(kinds) == 1 else other -/
def tKinds (K : PySem.W.Frag) (cls : Value) (d : Option Addr) (a C1 C2 C3 : Addr) (w1 w2 w3 w4 : Str) : TS :=
  tSeq (tAsg (tLst (tCons (tIsE K cls d a C1) (tCons (tIsE K cls d a C2) (tCons (tIsE K cls d a C3) tNil)))) (gName 2))
    (tRet (tIf (tTest (tOp rEq (tCB (rSumB K) (tCons (tVar 2) tNil)) (tC (.int 1)))) (tOp (rIxL K) (tLst (tCons (tC (.str w1)) (tCons (tC (.str w2)) (tCons (tC (.str w3)) tNil)))) (tBM K "list" (rIndex K) (tVar 2) (tCons (tC (.bl true)) tNil))) (tC (.str w4))))
/-- the lists that were made on the way -/
def Two (Q : Hp → Prop) (H : Hp) : Prop := ∀ p1 l1 p2 l2, H p1 = none → upd H p1 (.lst l1) p2 = none → Q (upd (upd H p1 (.lst l1)) p2 (.lst l2))
/-- just one of the three flags is true, and the word is its -/
def Just (b1 b2 b3 : Bool) (w1 w2 w3 w : Str) : Prop := (b1 = true ∧ b2 = false ∧ b3 = false ∧ w = w1) ∨ (b1 = false ∧ b2 = true ∧ b3 = false ∧ w = w2) ∨ (b1 = false ∧ b2 = false ∧ b3 = true ∧ w = w3)
theorem kinds_say {K : PySem.W.Frag} {D a C1 C2 C3 : Addr} {w1 w2 w3 w4 w : Str} {b1 b2 b3 : Bool} {σ : L2.St} {H : Hp} {E : Ends} (ex : ExcC K D) (k1 : PySem.W.kitOne K (.ref D) (.ref C1) = some b1) (k2 : PySem.W.kitOne K (.ref D) (.ref C2) = some b2) (k3 : PySem.W.kitOne K (.ref D) (.ref C3) = some b3)
    (j : Just b1 b2 b3 w1 w2 w3 w) (h1 : σ[1]? = some (some (.ref a))) (hl : 2 < σ.length) (hQ : Two (fun H' => E.rt (.str w) H') H) : tKinds K (.ref D) none a C1 C2 C3 w1 w2 w3 w4 E σ H := by
  have is : ∀ {C : Addr} {b : Bool} {Q : VK}, PySem.W.kitOne K (.ref D) (.ref C) = some b → Q (.bl b) H → tIsE K (.ref D) none a C σ H Q := fun {C b Q} k q => ⟨.ref a, h1, D, rfl, rfl, ex, .ref C, .ref C, b, rfl, fun u r => (by cases r; rfl), k, q⟩
  refine is k1 (is k2 (is k3 ⟨by rw [sizeLine_eq]; exact Nat.le_of_ble_eq_true rfl, fun p hp => ?_⟩))
  have g2 : (σ.set 2 (some (V.ref p)))[2]? = some (some (V.ref p)) := by rw [List.getElem?_set_self hl]
  have sq : SqL K (upd H p (.lst [.bl b1, .bl b2, .bl b3])) p [.bl b1, .bl b2, .bl b3] := .inl (.inl upd_same)
  have one : trues [b1, b2, b3] = 1 := by rcases j with ⟨rfl, rfl, rfl, _⟩ | ⟨rfl, rfl, rfl, _⟩ | ⟨rfl, rfl, rfl, _⟩ <;> rfl
  refine ⟨.ref p, g2, p, [b1, b2, b3], rfl, sq, rfl, decide (V.int (trues [b1, b2, b3]) = V.int 1), rfl, ?_⟩
  rw [one, decide_eq_true rfl]
  dsimp only
  rw [if_pos rfl]
  refine ⟨by rw [sizeLine_eq]; exact Nat.le_of_ble_eq_true rfl, fun p2 hp2 => ?_⟩
  have sq1 : SqL K (upd (upd H p (.lst [.bl b1, .bl b2, .bl b3])) p2 (.lst [.str w1, .str w2, .str w3])) p [.bl b1, .bl b2, .bl b3] := .inl (.inl (by rw [upd_ne (fun e => by rw [e, upd_same] at hp2; cases hp2) , upd_same]))
  have sq2 : SqL K (upd (upd H p (.lst [.bl b1, .bl b2, .bl b3])) p2 (.lst [.str w1, .str w2, .str w3])) p2 [.str w1, .str w2, .str w3] := .inl (.inl upd_same)
  refine ⟨.ref p, g2, .inl ⟨rfl, _, sq1⟩, ?_⟩
  rcases j with ⟨rfl, rfl, rfl, rfl⟩ | ⟨rfl, rfl, rfl, rfl⟩ | ⟨rfl, rfl, rfl, rfl⟩
  · exact ⟨p, [.bl true, .bl false, .bl false], .bl true, 0, .bl true, rfl, rfl, sq1, rfl, rfl, rfl, rfl, fun m z hm => absurd hm (Nat.not_lt_zero m), p2, [.str w, .str w2, .str w3], 0, .str w, rfl, rfl, sq2, rfl, hQ _ _ _ _ hp hp2⟩
  · refine ⟨p, [.bl false, .bl true, .bl false], .bl true, 1, .bl true, rfl, rfl, sq1, rfl, rfl, rfl, rfl, fun m z hm hz => ?_, p2, [.str w1, .str w, .str w3], 1, .str w, rfl, rfl, sq2, rfl, hQ _ _ _ _ hp hp2⟩
    have : m = 0 := by omega
    subst this
    cases hz
    rfl
  · refine ⟨p, [.bl false, .bl false, .bl true], .bl true, 2, .bl true, rfl, rfl, sq1, rfl, rfl, rfl, rfl, fun m z hm hz => ?_, p2, [.str w1, .str w2, .str w], 2, .str w, rfl, rfl, sq2, rfl, hQ _ _ _ _ hp hp2⟩
    match m, hm, hz with
    | 0, _, hz => cases hz; rfl
    | 1, _, hz => cases hz; rfl
/-- the word for each class of errors, by its kinds, and where nothing is raised -/
def TTk (mg : Str → Option Value) (wd : Str → Option Str) (ret : Str) : (XK → Hp → VK → Prop) → Hp → VK → Prop := fun tl H Q =>
  tl (fun cls d H1 => ∃ y C s, cls = .ref C ∧ d = none ∧ mg y = some (.ref C) ∧ wd y = some s ∧ Two (fun H2 => Q (.str s) H2) H1) H fun _ H1 => Q (.str ret) H1
theorem words_kinds {X : Cx} {Ng : List Str} {x a n q ret : Str} {sg : Scope} {g C1 C2 C3 : Addr} {cdg : Value} {h : Str} {cw : Value} {b0 : Stmt} {suite : List Stmt} {wd : Str → Option Str} {w1 w2 w3 w4 : Str} {j : Nat} {p1 p2 p3 p5 p6 p7 p8 np : Pos}
    (hN : Ng.Nodup) (hi : Ng[1]? = some n) (hl : 2 < Ng.length) (hln : ∀ (s : Shared), (envOfC x sg s.heap.objs.size g cdg).kindOf n = some .local) (hc : ∀ (s : Shared) (H : Hp), Names (inG X Ng x sg g cdg s H).nox h cw)
    (hs : ∀ (s : Shared) (H : Hp) (a : Addr) (oe : Obj) (cls : Value) (d : Option Addr) (pn : List (Addr × Obj)), L2N.Zn cls d oe → (∃ vs, oe.data = .fields vs) → PSs ((inG X Ng x sg g cdg s H).nox.suite a ((a, oe) :: pn)) (b0 :: suite) (tKinds X.K cls d a C1 C2 C3 w1 w2 w3 w4))
    (hw : ∀ (y : Str) (C : Addr) (s : Str), X.mg y = some (.ref C) → wd y = some s → PySem.W.exmOne X.K (.ref C) cw = some true ∧ ExcC X.K C ∧ ∃ b1 b2 b3, PySem.W.kitOne X.K (.ref C) (.ref C1) = some b1 ∧ PySem.W.kitOne X.K (.ref C) (.ref C2) = some b2 ∧ PySem.W.kitOne X.K (.ref C) (.ref C3) = some b3 ∧ Just b1 b2 b3 w1 w2 w3 s) :
    GivesN X Ng x sg g cdg [.Try [.Expr (.Call (.Name a p1) [] [] p2) p3] [.ExceptHandler (some (.Name h np)) (some n) (b0 :: suite) p7] [] [] p8, .Return (some (.Constant (.str ret) j p5)) p6] a q (TTk X.mg wd ret) := by
  intro f c' s H Q tl act hc' hh
  refine ⟨_, pss_cons (L2N.ps_try_as (X := (inG X Ng x sg g cdg s H).nox) (Wout := fun _ _ _ _ => False) (i := 1)
      (tb := fun W D σ H => ∃ Ech : XK, (∀ cls d σ1 H1, σ1.length = Ng.length → Ech cls d H1 → W cls d σ1 H1) ∧ σ[0]? = some (some (.ref f)) ∧ H c' = some (CodeO c' q) ∧ tl Ech H fun _ H1 => D.nx σ H1)
      rfl rfl hN hi (hln s) (hc s H) takes0N (fun W pn xe tk _ => ?_) (fun b oe cls d pn hz hf => hs s H b oe cls d pn hz hf)) (pss_one (ps_ret pe_str)), ?_⟩
  · refine ⟨fun pins s1 σ H1 D I ⟨Ech, hW, h1, h2, h3⟩ => ?_⟩
    have step := pss_one (ps_expr (pos := p3) (act W pn xe Ech p1 p2 tk hW))
    exact step.run pins s1 σ H1 D I ⟨h1, h2, h3⟩
  · refine ⟨fun cls d H1 => ∃ y C s, cls = .ref C ∧ d = none ∧ X.mg y = some (.ref C) ∧ wd y = some s ∧ Two (fun H2 => Q (.str s) H2) H1, fun cls d σ1 H1 hlen ⟨y, C, w, e1, e2, e3, e4, two⟩ => ?_, rfl, hc', hh⟩
    subst e1 e2
    obtain ⟨m, ex, b1, b2, b3, k1, k2, k3, ju⟩ := hw y C w e3 e4
    refine ⟨true, m, fun _ b hb => ?_, fun z => Bool.noConfusion z⟩
    refine kinds_say ex k1 k2 k3 ju (List.getElem?_set_self (by omega)) (by rw [List.length_set]; omega) two
section
variable {p : Par} {ρ : Rho} {Q : D → Prop} {mg : Str → Option Value}
/-- the word of what a call lets out; errors without fields alone -/
def kindOf (Q : D → Prop) (wd : Str → Option Str) (ret : Str) : Out → Prop
  | .ok _ => Q (.str ret)
  | .new _ => Q (.str ret)
  | .ex y fs => fs = [] ∧ ∃ s, wd y = some s ∧ Q (.str s)
theorem we_lamK {T : List (Addr × Str)} {wd : Str → Option Str} {ret : Str} {S : List D → (Out → Prop) → Prop} {ta : TA} (hT : p.h.T = T) (h : WA p ρ ta fun ds => S ds (kindOf Q wd ret)) :
    WE p ρ (tLam T (TTk mg wd ret) fun E => tCallS (spX p.K mg S) (L2.WE fun cls d _ H => E cls d H) ta) Q := fun G σ H hh Qv k => by
  subst hT
  refine ⟨hh.mem.tab, fun H1 eN T1 => ?_⟩
  have s0 : Stp p G H G H1 := ⟨fun a o e => eN a o (hh.mem.sub a o e) fun ps z => hh.mem.gt a ps (by rw [e, z]), hh.mem.gh, fun a o _ t e => eN a o e t, fun _ _ e => e, fun _ _ e => .inl e, by
    obtain ⟨xs, hx⟩ := hh.mem.hand.some
    exact hh.mem.hand.mono (fun _ _ e => e) (by rw [hx]; exact eN _ _ hx fun ps z => by cases z), hh.mem.gt, T1⟩
  have hh0 := hh.step s0
  refine h G σ H1 hh0 _ fun ds vs G2 H2 q s1 r1 => ?_
  have hh1 := hh0.step s1
  have all := s0.trans s1
  refine ⟨p.h, G2, ds, _, r1, hh1.mem.refl, q, fun d v G' H' z m r => k (.str ret) (.str ret) G' H' z (all.trans m) (.str ret), fun c a G' H' z ho m x => k (.str ret) (.str ret) G' H' z (all.trans m) (.str ret), fun y fs C d G' H' z hm m xr => ?_⟩
  obtain ⟨ef, s, e1, e2⟩ := z
  subst ef
  have hd : d = none := by
    rcases xr with ⟨_, e⟩ | ⟨dd, vfs, e, h2, h3, h4⟩
    · exact e
    · exact absurd rfl h4.2
  subst hd
  refine ⟨y, C, s, rfl, rfl, hm, e1, fun p1 l1 p2 l2 h1 h2 => ?_⟩
  have m1 := (hh1.step m).mem.grow (o := .lst l1) h1
  have m2 := ((hh1.step m).step m1).mem.grow (o := .lst l2) h2
  exact k (.str s) (.str s) _ _ e2 (((all.trans m).trans m1).trans m2) (.str s)
end
end Cal
set_option Elab.async false
set_option linter.all false
set_option maxRecDepth 100000
set_option maxHeartbeats 4000000
namespace Cal
open PySem L2 PyProof.Rows
open Evl (Ex sq_of st_of)
section
variable {p : Par} {ρ : Rho} {Q : D → Prop} {ta tb : TE}
theorem flat_ints : ∀ ns : List Int, (ns.map V.int).all flatV = true
  | [] => rfl
  | n :: ns => by rw [List.map_cons, List.all_cons, flat_ints ns]; rfl
/-- i in a tuple of integers, whether it is or not -/
theorem we_inAny (h : WE p ρ ta fun x => ∃ i : Int, x = .int i ∧ WE p ρ tb fun y => ∃ ns : List Int, y = .tup (ns.map D.int) ∧ ∀ b, Q (.bl b)) : WE p ρ (tOp (rIn p.K false) ta tb) Q :=
  we_op (h.imp fun x ⟨i, e, h⟩ => h.imp fun y ⟨ns, ey, q⟩ => fun G H v w m r1 r2 Qv k => by
    subst e ey
    obtain ⟨a, vs, ev, hs, hl⟩ := r2.tup_inv
    subst ev
    rw [hl.ints] at hs
    cases r1
    exact ⟨a, ns.map V.int, rfl, .inr (tq m.sub hs), rfl, flat_ints ns, k _ _ G H (q _) m.refl (.bl _)⟩)
end
end Cal
set_option Elab.async false
set_option linter.all false
set_option maxRecDepth 100000
set_option maxHeartbeats 4000000
namespace Cal
open PySem PySem.Spec L2 PyProof.Rows LamX
open Evl (Ex sq_of st_of)
/-! ### defs that make lambdas themselves: their promise knows of the tables -/
def spDT (K : PySem.W.Frag) (T : List (Addr × Str)) (S : List D → (D → Prop) → Prop) : Sp := fun vs H Q _ => ∃ h G ds R, h.T = T ∧ RpL K h G vs ds ∧ Mem ⟨K, h, H, G⟩ G H ∧ S ds R ∧ ∀ d v G' H', R d → Mem ⟨K, h, H, G⟩ G' H' → Rp K h G' v d → Q v H'
structure SrcC (K : PySem.W.Frag) (mg : Str → Option Value) (x : Str) (st : Stmt) (c : Addr) : Prop where
  ex : ∃ f fd, mg x = some (.ref f) ∧ PySem.W.keepIn K (.ref f) = true ∧ FunC K x x st f c fd
structure DfnT (P : Program) (w : World) (K : PySem.W.Frag) (mg : Str → Option Value) (base : Heap) (k : Nat) (x : Str) (ps : List Str) (T : List (Addr × Str)) (S : List D → (D → Prop) → Prop) : Prop where
  ex : ∃ f fd, mg x = some (.ref f) ∧ PySem.W.keepIn K (.ref f) = true ∧ FnOk P w K mg base CX0 k f fd ps (spDT K T S) ∧ Binds K fd ps []
theorem FunC.binds {K : PySem.W.Frag} {x qual : Str} {st : Stmt} {f c : Addr} {fd : FuncData} {ps : List Str} (F : FunC K x qual st f c fd)
    (h : ∀ (kV doc pm : Value) (an : Option Addr) (cdv ct : Value) (us : List Value), us.length = ps.length → bindArgs (PySem.W.fnOf x qual (defArgs st) (defBody st) (defScope st) .none kV doc pm an cdv ct) ⟨us, []⟩ = pure (ps.zip us)) : Binds K fd ps [] := by
  obtain ⟨oc, od, kV, doc, pm, an, ct, osl, rfl, lk, hcd⟩ := F.ex
  exact .all (h kV doc pm an (.ref c) ct)
section
variable {P : Program} {w : World} {K : PySem.W.Frag} {mg : Str → Option Value} {base : Heap}
theorem mkDT {x : Str} {st : Stmt} {c : Addr} {N ps : List Str} {k : Nat} {T : List (Addr × Str)} {S : List D → (D → Prop) → Prop} (F : SrcC K mg x st c) (sc : FnScope N ps (defScope st))
    (hb : ∀ (kV doc pm : Value) (an : Option Addr) (cdv ct : Value) (us : List Value), us.length = ps.length → bindArgs (PySem.W.fnOf x x (defArgs st) (defBody st) (defScope st) .none kV doc pm an cdv ct) ⟨us, []⟩ = pure (ps.zip us))
    (len : ∀ ds R, S ds R → ds.length = ps.length)
    (body : ∀ (f : Addr) (A : Around) (outer : List Env) (s : Shared) (H : Hp) (E : XK), Room k (A.deeper (envOfC x (defScope st) s.heap.objs.size f (.ref c))) →
      ∃ t, PSs (cxOf CX0 P w K mg base N x (defScope st) f (.ref c) A outer s H E).nox (defBody st) t ∧ ∀ (h : Hnd) (H0 G0 : Hp) ds R, h.T = T → S ds R → WS ⟨K, h, H0, G0⟩ (rho0 N ds) t (retP R)) : DfnT P w K mg base (k + 1) x ps T S := by
  obtain ⟨f, fd, hm, kp, F⟩ := F.ex
  refine ⟨f, fd, hm, kp, F.ok sc (fun vs H Q E h => ?_) (fun A outer s H vs Q E hr h => ?_), F.binds hb⟩
  · obtain ⟨hd, G, ds, R, hT, r, m, hs, q⟩ := h
    rw [r.length]
    exact len ds R hs
  · obtain ⟨hd, G, ds, R, hT, r, m, hs, q⟩ := h
    obtain ⟨t, ht, hw⟩ := body f A outer s H E hr
    refine ⟨t, ht, hw hd H G ds R hT hs G _ H (hold0 m r) _ (fun ρ' G' σ' H' z e hh => q .non .non G' H' z hh.mem .non) (fun d v G' H' z m' r' => q d v G' H' z m' r') (fun _ _ _ _ z => z.elim) fun _ _ _ _ z => z.elim⟩
end
section
variable {X : Cx} {x : Str} {p pos : Pos} {e : Expr} {es : List Expr} {t : TA} {k : Nat} {ps : List Str} {S : List D → (D → Prop) → Prop} {K0 : PySem.W.Frag} {T : List (Addr × Str)}
theorem pe_callT0 (hK : X.K = K0) (F : DfnT X.prog X.w K0 X.mg X.base k x ps T S) (hr : Room k X.A) (ha : PA X (e :: es) t) (hg : Gl X x := by rfl) (hdb : (x == ("__debug__" : Str)) = false := by decide)
    (he : starEach (e :: es) X.env = (false, eval e X.env) :: starEach es X.env := by rfl) (hpl : (backTo pos (starEach es X.env)).any (·.1) = false := by rfl) : PE X (.Call (.Name x p) (e :: es) [] pos) (tCall (spDT K0 T S) [] E0 t) := by
  subst hK
  obtain ⟨f, fd, h1, h2, h3, h4⟩ := F.ex
  exact pe_call h3 hr hg h1 h2 h4 .nil pass0 ha hdb he hpl
end
section
variable {p : Par} {ρ : Rho} {Q : D → Prop}
theorem we_callT {T : List (Addr × Str)} {S : List D → (D → Prop) → Prop} {ta : TA} {E : XK} (hT : p.h.T = T) (h : WA p ρ ta fun ds => S ds Q) : WE p ρ (tCall (spDT p.K T S) [] E ta) Q := fun G σ H hh Qv k =>
  h G σ H hh _ fun ds vs G1 H1 q s1 r1 => by
    rw [List.append_nil]
    have hh1 := hh.step s1
    exact ⟨p.h, G1, ds, Q, hT, r1, hh1.mem.refl, q, fun d v G' H' z m r => k d v G' H' z (s1.trans m) r⟩
end
/-- x(lambda: body), one of several tables -/
theorem pe_lamNT {X : Cx} {T : List (Addr × Str)} {TT : (XK → Hp → VK → Prop) → Hp → VK → Prop} {x a : Str} {st : Stmt} {c P : Addr} {k : Nat} {Ng : List Str} {prs : Arguments} {b : Expr} {sc : Scope} {t : XK → TE} {p lpos pos : Pos} (F : Src X.K X.mg x st)
    (Sg : FnScope Ng [a] (defScope st)) (hb : ∀ (kV doc pm : Value) (an : Option Addr) (cdv ct : Value) (us : List Value), us.length = ([a] : List Str).length → bindArgs (PySem.W.fnOf x x (defArgs st) (defBody st) (defScope st) .none kV doc pm an cdv ct) ⟨us, []⟩ = pure (([a] : List Str).zip us))
    (hNg : Ng[0]? = some a) (hva : Vis (defScope st) a) (hG : ∀ (g : Addr) (cdg : Value), GivesN X Ng x (defScope st) g cdg (defBody st) a (X.env.qual ++ "<lambda>") TT) (TB : TabB X.base X.mg c P) (hcode : X.env.code = .ref c) (hmT : (P, X.env.qual ++ "<lambda>") ∈ T) (hu : ∀ p ∈ T, p.1 = P → p.2 = X.env.qual ++ "<lambda>") (hr : Room (k + 2) X.A) (L : LamS X.env.scope sc)
    (hdef : defaultsOf prs X.env = ([], [])) (hbind : ∀ (q : Str) (cl : List (Str × Addr)) (pm cv ctv : Value), bindArgs (PySem.W.kla_fn "<lambda>" q prs b sc cl pm cv ctv) ⟨[], []⟩ = pure [])
    (hbody : ∀ (A : Around) (outer : List Env) (s : Shared) (H : Hp) (E : XK) (f c' : Addr), Room k (A.deeper (lamEnv X sc s.heap.objs.size f c')) → PE (lamN X A outer s H E sc f c') b (t E))
    (hg : Gl X x := by rfl) (hdb : (x == ("__debug__" : Str)) = false := by decide) (hd : (a == ("__debug__" : Str)) = false := by decide) (hcd : (a == ("__classdict__" : Str)) = false := by decide) :
    PE X (.Call (.Name x p) [.Lambda prs b sc lpos] [] pos) (tLam T TT t) := by
  obtain ⟨g, fd, hm, Fn⟩ := F.ex
  have bd := Fn.binds hb
  obtain ⟨oc, od, kV, doc, pm, an, cdv, ct, osl, e, look, code⟩ := Fn.ex
  subst e
  refine ⟨fun pins s σ H Q I ⟨hT, h⟩ => ?_⟩
  refine wpAny_Call_Name_kw (ld_glob I hg hm (PySem.W.callWith_K (h₀ := X.base) I.ok.mod.kin Fn.kp ?_ (by rfl) (by rfl)) hdb)
  change wpAny _ _ (spliced ((false, eval (.Lambda prs b sc lpos) X.env) :: backTo pos (starEach [] X.env))) _ _ s
  refine Calls.spliced_cons (lam_make2 I TB hcode hmT hu hT hdef (L.has I.ok) fun f c' pm' ctv H1 s1 I1 eN T1 hf hfn hfr hco => Calls.spliced_nil ⟨I1.kIn, ?_⟩)
  have runs : codeAny (model X.prog X.w) X.A (.call (.ref g) ⟨[.ref f], []⟩) (CR C8.CX0 X.stack X.prog X.w H1 s1 Q C8.E0) s1 := by
    refine run_ofS (N := Ng) (ps := [a]) (us := [.ref f]) (vs := [.ref f]) look code Sg hr I1.env0 (bd s1 [.ref f] I1.kIn rfl) (.cons rfl .nil) rfl fun room => ?_
    obtain ⟨t1, reads, goal⟩ := hG g cdv f c' s1 H1 Q (fun E H2 Q2 => t E σ H2 Q2) (fun W pn xe E p1 p2 tk hW => call_lamN I1 L rfl hf hfn hfr (hbind _ _ _ _ _) tk hW room (fun A outer s H r2 => hbody A outer s H E f c' r2) hNg hva hd hcd) hco (h H1 eN T1)
    exact ⟨t1, reads.nox, goal⟩
  refine wpAny_call (codeAny_mono runs fun r s2 z => ?_)
  cases r with
  | error e => exact (show False from z).elim
  | ok fl =>
    cases fl with
    | ret u => exact I1.after z
    | next => exact False.elim z
    | brk => exact False.elim z
    | cont => exact False.elim z
/-! ### the end with two tables -/
theorem in_two {P1 P2 : Addr} {q1 q2 : Str} (ne : P1 ≠ P2) : (∀ p ∈ ([(P1, q1), (P2, q2)] : List (Addr × Str)), p.1 = P1 → p.2 = q1) ∧ ∀ p ∈ ([(P1, q1), (P2, q2)] : List (Addr × Str)), p.1 = P2 → p.2 = q2 := by
  refine ⟨fun p hp e => ?_, fun p hp e => ?_⟩ <;> simp only [List.mem_cons, List.not_mem_nil, or_false] at hp <;> rcases hp with rfl | rfl
  · rfl
  · exact (ne e.symm).elim
  · exact (ne e).elim
  · rfl
/-- two code objects of which K tells that their tables are two -/
theorem tabs_ne {K : PySem.W.Frag} {h : Heap} {c1 c2 P1 P2 Q1 Q2 : Addr} {o1 o2 : Obj} {v1 v2 : Array Value} (X : K.In h) (l1 : K.lookup c1 = some o1) (d1 : o1.data = .fields v1) (e1 : v1[11]? = some (.ref Q1)) (l2 : K.lookup c2 = some o2) (d2 : o2.data = .fields v2) (e2 : v2[11]? = some (.ref Q2)) (ne : Q1 ≠ Q2)
    (C1 : PySem.W.CodeHd h c1 P1) (C2 : PySem.W.CodeHd h c2 P2) : P1 ≠ P2 := by
  obtain ⟨o, vs, _, _, _, _, _, _, _, a1, _, a2, a3, _⟩ := C1
  obtain ⟨o', vs', _, _, _, _, _, _, _, b1, _, b2, b3, _⟩ := C2
  rw [X _ _ l1] at a1
  cases a1
  rw [d1] at a2
  cases a2
  rw [e1] at a3
  cases a3
  rw [X _ _ l2] at b1
  cases b1
  rw [d2] at b2
  cases b2
  rw [e2] at b3
  cases b3
  exact ne
theorem walkT2 {l : PySem.W.OpenLaw} {q : Program} {loose : List Str} {XP : (Str → Option Value) → Heap → Prop} {YP : World → Heap → Prop} {d : DefRec} {K : Params → PySem.W.Frag} {k : Nat} {q1 q2 y : Str} (hn : l.most = some 63) (hdf : d.params.defaults = []) (room : Room k callerA)
    (hY : ∀ (w : World) (h : Heap), YP w h → (K w.params).In h) (hK : ∀ w : World, PySem.W.noTabs (K w.params) = true) (hr : ((recsOf q).find? (fun z => z.name == d.name)).isSome = true) (hr2 : ((recsOf q).find? (fun z => z.name == y)).isSome = true)
    (F : ∀ (w : World) (mg : Str → Option Value) (fa fb c1 c2 : Addr) (h : Heap), (K w.params).In h → h.Ns mainGlobals mg → mg d.name = some (.ref fa) → mg y = some (.ref fb) → (∀ o fd, h.get? fa = some o → o.data = .func fd → fd.code = .ref c1) → (∀ o fd, h.get? fb = some o → o.data = .func fd → fd.code = .ref c2) →
      ∃ fd : FuncData, (∀ (s : Shared) (u : Value), BindsTo s fd ⟨[u], []⟩ [("script", u)]) ∧ (∀ P1 P2, PySem.W.CodeHd h c1 P1 → PySem.W.CodeHd h c2 P2 → P1 ≠ P2) ∧ ∀ (base : Heap) (P1 P2 : Addr), P1 ≠ P2 → (K w.params).In base → base.Ns mainGlobals mg → TabB base mg c1 P1 → TabB base mg c2 P2 → FnOk l.prog w (K w.params) mg base CX0 k fa fd ["script"] (spLawT (K w.params) [(P1, q1), (P2, q2)])) :
    PySem.W.WalkO q loose XP YP l.row.toRowW d [] (fun f vs => PySem.call f vs) := by
  refine Att.attach_callB hn hdf fun w s₀ s₁ mg mb fa o pm cd doc a vs ns ground Y ho hod hcd hmg hobj hints hlen hbits hgens => ?_
  have KX := hY w _ Y
  have top := ground.T
  obtain ⟨r, hr⟩ := Option.isSome_iff_exists.mp hr
  obtain ⟨r2, hr2⟩ := Option.isSome_iff_exists.mp hr2
  have er : r.name = d.name := beq_iff_eq.mp (List.find?_some (p := fun z : DefRec => z.name == d.name) hr)
  have er2 : r2.name = y := beq_iff_eq.mp (List.find?_some (p := fun z : DefRec => z.name == y) hr2)
  obtain ⟨a1, o1, fd1, c1, P1, t1, t2, t3, t4, t5, t6⟩ := top.tab r (List.mem_of_find?_eq_some hr)
  obtain ⟨a2, o2, fd2, c2, P2, u1, u2, u3, u4, u5, u6⟩ := top.tab r2 (List.mem_of_find?_eq_some hr2)
  rw [er, hmg] at t1
  cases t1
  rw [er2] at u1
  have hcode : ∀ o' fd', s₁.heap.get? fa = some o' → o'.data = .func fd' → fd'.code = .ref c1 := fun o' fd' e1 e2 => by
    rw [t2] at e1
    cases e1
    rw [t3] at e2
    cases e2
    exact t4
  have hcode2 : ∀ o' fd', s₁.heap.get? a2 = some o' → o'.data = .func fd' → fd'.code = .ref c2 := fun o' fd' e1 e2 => by
    rw [u2] at e1
    cases e1
    rw [u3] at e2
    cases e2
    exact u4
  obtain ⟨_, tabAt⟩ := id t6
  obtain ⟨_, tabAt2⟩ := id u6
  obtain ⟨fd, hb, hne, hF⟩ := F w mg fa a2 c1 c2 _ KX top.g hmg u1 hcode hcode2
  have ne := hne P1 P2 (PySem.W.CodeHd.of t5 t6) (PySem.W.CodeHd.of u5 u6)
  have two : ∀ {z : Addr × Addr}, z ∈ [(c1, P1), (c2, P2)] → z = (c1, P1) ∨ z = (c2, P2) := fun {z} hz => by simpa using hz
  exact law_callTs (cs := [(c1, P1), (c2, P2)]) (sp := spLawT (K w.params) [(P1, q1), (P2, q2)]) KX top.g top.b top.builtins top.nolimit hgens (fun z hz => by rcases two hz with rfl | rfl; exact tabAt; exact tabAt2) (fun z hz => by rcases two hz with rfl | rfl; exact noTab KX (hK w) tabAt; exact noTab KX (hK w) tabAt2)
    (fun z hz => by rcases two hz with rfl | rfl; exact PySem.W.CodeHd.of t5 t6; exact PySem.W.CodeHd.of u5 u6) top.bmain hobj hints (Nat.le_trans hlen (by decide)) room (fun base hi hns hTB => hF base P1 P2 ne hi hns (hTB (c1, P1) (.head _)) (hTB (c2, P2) (.tail _ (.head _)))) hb
    (fun H hH hS => ⟨a, ns, rfl, hS, hlen, fun z hz => by
      simp only [List.mem_cons, List.not_mem_nil, or_false] at hz
      rcases hz with rfl | rfl
      · exact TabS.nil (hH (c1, P1) (.head _))
      · exact TabS.nil (hH (c2, P2) (.tail _ (.head _))), fun _ => rfl⟩) fun _ _ _ z => z
end Cal
set_option Elab.async false
set_option linter.all false
set_option maxRecDepth 100000
set_option maxHeartbeats 4000000
namespace Cal
open PySem PySem.Spec L2 PyProof.Rows LamX
open Evl (Ex sq_of st_of)
section
variable {p : Par} {ρ : Rho} {Q : D → Prop} {te : TE} {C : Addr}
/-- isinstance(e, (A, B)) where e may be an object of an own class -/
theorem we_isiTW {A B : String} (F : EqF p.K C) (h : WE p ρ te fun x => ∃ t a b, TyW C x t ∧ PySem.W.kitOne p.K t (.type A) = some a ∧ PySem.W.kitOne p.K t (.type B) = some b ∧ Q (.bl (a || b))) : WE p ρ (tCB (rIsiT p.K) (tCons te (tCons (tTup (tCons (tC (.ty A)) (tCons (tC (.ty B)) tNil))) tNil))) Q := fun G σ H hh Qv k =>
  h G σ H hh _ fun x v G1 H1 ⟨t, a, b, e1, e2, e3, q⟩ s r => ⟨by rw [sizeLine_eq]; exact Nat.le_of_ble_eq_true rfl, fun tp hp => by
    have s2 := (hh.step s).mem.grow (o := .tup [.ty A, .ty B]) hp
    refine ⟨v, tp, [.ty A, .ty B], t, [.type A, .type B], a || b, rfl, upd_same, .cons (.ty A) (.cons (.ty B) .nil), tyW_x F s2.sub (rmono r s2.ex) e1, ?_, k _ _ _ _ q (s.trans s2) (.bl _)⟩
    refine kitAny_cons e2 (fun ha => ?_) (fun ha => by rw [ha]; rfl)
    rw [ha]
    refine kitAny_cons e3 (fun hb => ?_) (fun hb => by rw [hb]; rfl)
    rw [hb]
    exact kitAny_nil⟩
end
end Cal
set_option Elab.async false
set_option linter.all false
set_option maxRecDepth 100000
set_option maxHeartbeats 4000000
namespace Cal
open PySem PySem.Spec L2 PyProof.Rows LamX
open Evl (Ex sq_of st_of)
section
variable {p : Par} {ρ : Rho} {Q : D → Prop} {te : TE}
/-- int(e), e a flag -/
theorem we_intB (h : WE p ρ te fun x => ∃ b : Bool, x = .bl b ∧ Q (.int (if b then 1 else 0))) : WE p ρ (tCB (fun xs H Q => (∃ i, xs = [V.int i] ∧ Q (.int i) H) ∨ ∃ k, xs = [V.bl k] ∧ Q (.int (if k then 1 else 0)) H) (tCons te tNil)) Q :=
  we_cb (wa_cons (h.imp fun x ⟨b, e, q⟩ => wa_nil fun G H vs m r Qv k => by
    subst e
    cases r with
    | cons r rn => cases rn; cases r; exact .inr ⟨b, rfl, k _ _ G H q m.refl (.int _)⟩))
end
end Cal
set_option Elab.async false
set_option linter.all false
set_option maxRecDepth 100000
set_option maxHeartbeats 4000000
namespace Lk09
open PySem L2 PyProof.Rows Cal
open Evl (Ex)
def inClass : Stmt → Nat → Stmt
  | .ClassDef _ _ _ b _ _ _ _ _ _ _, i => b.getD i (.Pass ⟨0, 0, 0, 0⟩)
  | _, _ => .Pass ⟨0, 0, 0, 0⟩
def top (i : Nat) : Stmt := PySem.Challenge.pw_anywriting_k09_reading_refused.main.body.getD i (.Pass ⟨0, 0, 0, 0⟩)
abbrev s_reduced : Stmt := top 2
abbrev N_reduced : List Str := ["top", "bottom", "common"]
theorem sc_reduced : FnScope N_reduced ["top", "bottom"] (defScope s_reduced) := ⟨rfl, rfl, rfl, by decide +kernel, rfl, by decide +kernel, by decide +kernel⟩
abbrev s_plus : Stmt := top 3
abbrev N_plus : List Str := ["one", "other"]
theorem sc_plus : FnScope N_plus ["one", "other"] (defScope s_plus) := ⟨rfl, rfl, rfl, by decide +kernel, rfl, by decide +kernel, by decide +kernel⟩
abbrev s_whole : Stmt := top 4
abbrev N_whole : List Str := ["base", "digits", "parts", "weight", "k"]
theorem sc_whole : FnScope N_whole ["base", "digits"] (defScope s_whole) := ⟨rfl, rfl, rfl, by decide +kernel, rfl, by decide +kernel, by decide +kernel⟩
abbrev s_power : Stmt := top 5
abbrev N_power : List Str := ["base", "many", "result", "square", "left"]
theorem sc_power : FnScope N_power ["base", "many"] (defScope s_power) := ⟨rfl, rfl, rfl, by decide +kernel, rfl, by decide +kernel, by decide +kernel⟩
abbrev s_worth_of : Stmt := top 6
abbrev N_worth_of : List Str := ["base", "ahead", "again", "turn", "top"]
theorem sc_worth_of : FnScope N_worth_of ["base", "ahead", "again"] (defScope s_worth_of) := ⟨rfl, rfl, rfl, by decide +kernel, rfl, by decide +kernel, by decide +kernel⟩
abbrev s_is_integer : Stmt := top 14
abbrev N_is_integer : List Str := ["thing"]
theorem sc_is_integer : FnScope N_is_integer ["thing"] (defScope s_is_integer) := ⟨rfl, rfl, rfl, by decide +kernel, rfl, by decide +kernel, by decide +kernel⟩
abbrev s_is_integer_within : Stmt := top 15
abbrev N_is_integer_within : List Str := ["thing", "low", "high"]
theorem sc_is_integer_within : FnScope N_is_integer_within ["thing", "low", "high"] (defScope s_is_integer_within) := ⟨rfl, rfl, rfl, by decide +kernel, rfl, by decide +kernel, by decide +kernel⟩
abbrev s_is_base : Stmt := top 16
abbrev N_is_base : List Str := ["thing"]
theorem sc_is_base : FnScope N_is_base ["thing"] (defScope s_is_base) := ⟨rfl, rfl, rfl, by decide +kernel, rfl, by decide +kernel, by decide +kernel⟩
abbrev s_is_digit : Stmt := top 17
abbrev N_is_digit : List Str := ["base", "thing"]
theorem sc_is_digit : FnScope N_is_digit ["base", "thing"] (defScope s_is_digit) := ⟨rfl, rfl, rfl, by decide +kernel, rfl, by decide +kernel, by decide +kernel⟩
abbrev s_is_tuple_of : Stmt := top 18
abbrev N_is_tuple_of : List Str := ["thing", "many"]
theorem sc_is_tuple_of : FnScope N_is_tuple_of ["thing", "many"] (defScope s_is_tuple_of) := ⟨rfl, rfl, rfl, by decide +kernel, rfl, by decide +kernel, by decide +kernel⟩
abbrev s_are_integers : Stmt := top 19
abbrev N_are_integers : List Str := ["thing", "item"]
theorem sc_are_integers : FnScope N_are_integers ["thing"] (defScope s_are_integers) := ⟨rfl, rfl, rfl, by decide +kernel, rfl, by decide +kernel, by decide +kernel⟩
abbrev s_are_digits : Stmt := top 20
abbrev N_are_digits : List Str := ["base", "thing", "item"]
theorem sc_are_digits : FnScope N_are_digits ["base", "thing"] (defScope s_are_digits) := ⟨rfl, rfl, rfl, by decide +kernel, rfl, by decide +kernel, by decide +kernel⟩
abbrev s_is_row : Stmt := top 22
abbrev N_is_row : List Str := ["thing"]
theorem sc_is_row : FnScope N_is_row ["thing"] (defScope s_is_row) := ⟨rfl, rfl, rfl, by decide +kernel, rfl, by decide +kernel, by decide +kernel⟩
abbrev s_is_row_of_digits : Stmt := top 23
abbrev N_is_row_of_digits : List Str := ["base", "thing"]
theorem sc_is_row_of_digits : FnScope N_is_row_of_digits ["base", "thing"] (defScope s_is_row_of_digits) := ⟨rfl, rfl, rfl, by decide +kernel, rfl, by decide +kernel, by decide +kernel⟩
abbrev s_shortest : Stmt := top 24
abbrev N_shortest : List Str := ["ahead", "again", "spare", "cut"]
theorem sc_shortest : FnScope N_shortest ["ahead", "again"] (defScope s_shortest) := ⟨rfl, rfl, rfl, by decide +kernel, rfl, by decide +kernel, by decide +kernel⟩
abbrev s_shortest_turn : Stmt := top 25
abbrev N_shortest_turn : List Str := ["again", "many", "length"]
theorem sc_shortest_turn : FnScope N_shortest_turn ["again"] (defScope s_shortest_turn) := ⟨rfl, rfl, rfl, by decide +kernel, rfl, by decide +kernel, by decide +kernel⟩
abbrev s_Machine : Stmt := inClass (top 27) 0
abbrev N_Machine : List Str := ["self", "base", "first", "rows", "state", "row"]
theorem sc_Machine : FnScope N_Machine ["self", "base", "first", "rows"] (defScope s_Machine) := ⟨rfl, rfl, rfl, by decide +kernel, rfl, by decide +kernel, by decide +kernel⟩
abbrev s_Machine_eq : Stmt := inClass (top 27) 1
abbrev N_Machine_eq : List Str := ["self", "other"]
theorem sc_Machine_eq : FnScope N_Machine_eq ["self", "other"] (defScope s_Machine_eq) := ⟨rfl, rfl, rfl, by decide +kernel, rfl, by decide +kernel, by decide +kernel⟩
abbrev s_is_row_of_pairs : Stmt := top 28
abbrev N_is_row_of_pairs : List Str := ["base", "many", "thing", "pair"]
theorem sc_is_row_of_pairs : FnScope N_is_row_of_pairs ["base", "many", "thing"] (defScope s_is_row_of_pairs) := ⟨rfl, rfl, rfl, by decide +kernel, rfl, by decide +kernel, by decide +kernel⟩
abbrev s_is_pair_of_state : Stmt := top 29
abbrev N_is_pair_of_state : List Str := ["many", "thing"]
theorem sc_is_pair_of_state : FnScope N_is_pair_of_state ["many", "thing"] (defScope s_is_pair_of_state) := ⟨rfl, rfl, rfl, by decide +kernel, rfl, by decide +kernel, by decide +kernel⟩
abbrev s_is_index : Stmt := top 30
abbrev N_is_index : List Str := ["many", "thing"]
theorem sc_is_index : FnScope N_is_index ["many", "thing"] (defScope s_is_index) := ⟨rfl, rfl, rfl, by decide +kernel, rfl, by decide +kernel, by decide +kernel⟩
abbrev s_is_state : Stmt := top 31
abbrev N_is_state : List Str := ["machine", "thing"]
theorem sc_is_state : FnScope N_is_state ["machine", "thing"] (defScope s_is_state) := ⟨rfl, rfl, rfl, by decide +kernel, rfl, by decide +kernel, by decide +kernel⟩
abbrev s_check_state : Stmt := top 32
abbrev N_check_state : List Str := ["machine", "thing"]
theorem sc_check_state : FnScope N_check_state ["machine", "thing"] (defScope s_check_state) := ⟨rfl, rfl, rfl, by decide +kernel, rfl, by decide +kernel, by decide +kernel⟩
abbrev s_check_digits : Stmt := top 33
abbrev N_check_digits : List Str := ["machine", "thing"]
theorem sc_check_digits : FnScope N_check_digits ["machine", "thing"] (defScope s_check_digits) := ⟨rfl, rfl, rfl, by decide +kernel, rfl, by decide +kernel, by decide +kernel⟩
abbrev s_check_writing : Stmt := top 34
abbrev N_check_writing : List Str := ["machine", "thing"]
theorem sc_check_writing : FnScope N_check_writing ["machine", "thing"] (defScope s_check_writing) := ⟨rfl, rfl, rfl, by decide +kernel, rfl, by decide +kernel, by decide +kernel⟩
abbrev s_read : Stmt := top 35
abbrev N_read : List Str := ["machine", "state", "digits"]
theorem sc_read : FnScope N_read ["machine", "state", "digits"] (defScope s_read) := ⟨rfl, rfl, rfl, by decide +kernel, rfl, by decide +kernel, by decide +kernel⟩
abbrev s_follow : Stmt := top 36
abbrev N_follow : List Str := ["machine", "state", "digits", "at", "said", "digit", "item"]
theorem sc_follow : FnScope N_follow ["machine", "state", "digits"] (defScope s_follow) := ⟨rfl, rfl, rfl, by decide +kernel, rfl, by decide +kernel, by decide +kernel⟩
abbrev s_told : Stmt := top 37
abbrev N_told : List Str := ["machine", "state", "writing", "ahead", "again"]
theorem sc_told : FnScope N_told ["machine", "state", "writing"] (defScope s_told) := ⟨rfl, rfl, rfl, by decide +kernel, rfl, by decide +kernel, by decide +kernel⟩
abbrev s_row_told : Stmt := top 38
abbrev N_row_told : List Str := ["machine", "state", "writing", "ahead", "at", "starts", "said", "part", "cut"]
theorem sc_row_told : FnScope N_row_told ["machine", "state", "writing"] (defScope s_row_told) := ⟨rfl, rfl, rfl, by decide +kernel, rfl, by decide +kernel, by decide +kernel⟩
abbrev s_makes : Stmt := top 39
abbrev N_makes : List Str := ["machine", "state", "writing"]
theorem sc_makes : FnScope N_makes ["machine", "state", "writing"] (defScope s_makes) := ⟨rfl, rfl, rfl, by decide +kernel, rfl, by decide +kernel, by decide +kernel⟩
abbrev s_made_by_state : Stmt := top 40
abbrev N_made_by_state : List Str := ["machine", "state", "writing", "ahead", "again"]
theorem sc_made_by_state : FnScope N_made_by_state ["machine", "state", "writing"] (defScope s_made_by_state) := ⟨rfl, rfl, rfl, by decide +kernel, rfl, by decide +kernel, by decide +kernel⟩
abbrev s_made : Stmt := top 41
abbrev N_made : List Str := ["machine", "writing"]
theorem sc_made : FnScope N_made ["machine", "writing"] (defScope s_made) := ⟨rfl, rfl, rfl, by decide +kernel, rfl, by decide +kernel, by decide +kernel⟩
abbrev s_made_by_machine : Stmt := top 42
abbrev N_made_by_machine : List Str := ["machine", "writing"]
theorem sc_made_by_machine : FnScope N_made_by_machine ["machine", "writing"] (defScope s_made_by_machine) := ⟨rfl, rfl, rfl, by decide +kernel, rfl, by decide +kernel, by decide +kernel⟩
abbrev s_law_hand : Stmt := top 44
abbrev N_law_hand : List Str := ["script", "cell"]
theorem sc_law_hand : FnScope N_law_hand ["script"] (defScope s_law_hand) := ⟨rfl, rfl, rfl, by decide +kernel, rfl, by decide +kernel, by decide +kernel⟩
abbrev s_law_mixed : Stmt := top 45
abbrev N_law_mixed : List Str := ["cell", "turn", "number"]
theorem sc_law_mixed : FnScope N_law_mixed ["cell", "turn"] (defScope s_law_mixed) := ⟨rfl, rfl, rfl, by decide +kernel, rfl, by decide +kernel, by decide +kernel⟩
abbrev s_law_draw : Stmt := top 46
abbrev N_law_draw : List Str := ["hand", "many", "found", "cells", "at", "cell"]
theorem sc_law_draw : FnScope N_law_draw ["hand", "many"] (defScope s_law_draw) := ⟨rfl, rfl, rfl, by decide +kernel, rfl, by decide +kernel, by decide +kernel⟩
abbrev s_law_any : Stmt := top 47
abbrev N_law_any : List Str := ["hand", "some"]
theorem sc_law_any : FnScope N_law_any ["hand", "some"] (defScope s_law_any) := ⟨rfl, rfl, rfl, by decide +kernel, rfl, by decide +kernel, by decide +kernel⟩
abbrev s_law_low : Stmt := top 48
abbrev N_law_low : List Str := ["top", "bottom", "one", "other"]
theorem sc_law_low : FnScope N_law_low ["top", "bottom"] (defScope s_law_low) := ⟨rfl, rfl, rfl, by decide +kernel, rfl, by decide +kernel, by decide +kernel⟩
abbrev s_law_minus : Stmt := top 49
abbrev N_law_minus : List Str := ["one", "other"]
theorem sc_law_minus : FnScope N_law_minus ["one", "other"] (defScope s_law_minus) := ⟨rfl, rfl, rfl, by decide +kernel, rfl, by decide +kernel, by decide +kernel⟩
abbrev s_law_times : Stmt := top 50
abbrev N_law_times : List Str := ["one", "other"]
theorem sc_law_times : FnScope N_law_times ["one", "other"] (defScope s_law_times) := ⟨rfl, rfl, rfl, by decide +kernel, rfl, by decide +kernel, by decide +kernel⟩
abbrev s_law_goes : Stmt := top 51
abbrev N_law_goes : List Str := ["base", "rest", "found", "digit", "later"]
theorem sc_law_goes : FnScope N_law_goes ["base", "rest"] (defScope s_law_goes) := ⟨rfl, rfl, rfl, by decide +kernel, rfl, by decide +kernel, by decide +kernel⟩
abbrev s_law_writing : Stmt := top 52
abbrev N_law_writing : List Str := ["hand", "base", "x", "digits", "rest", "firm", "places", "turn", "digit"]
theorem sc_law_writing : FnScope N_law_writing ["hand", "base", "x"] (defScope s_law_writing) := ⟨rfl, rfl, rfl, by decide +kernel, rfl, by decide +kernel, by decide +kernel⟩
abbrev s_law_number : Stmt := top 53
abbrev N_law_number : List Str := ["hand", "bottom"]
theorem sc_law_number : FnScope N_law_number ["hand"] (defScope s_law_number) := ⟨rfl, rfl, rfl, by decide +kernel, rfl, by decide +kernel, by decide +kernel⟩
abbrev s_law_is_int : Stmt := top 54
abbrev N_law_is_int : List Str := ["thing"]
theorem sc_law_is_int : FnScope N_law_is_int ["thing"] (defScope s_law_is_int) := ⟨rfl, rfl, rfl, by decide +kernel, rfl, by decide +kernel, by decide +kernel⟩
abbrev s_law_word : Stmt := top 55
abbrev N_law_word : List Str := ["call", "e", "kinds"]
theorem sc_law_word : FnScope N_law_word ["call"] (defScope s_law_word) := ⟨rfl, rfl, rfl, by decide +kernel, rfl, by decide +kernel, by decide +kernel⟩
abbrev s_law_are_digits : Stmt := top 56
abbrev N_law_are_digits : List Str := ["base", "thing", "digit"]
theorem sc_law_are_digits : FnScope N_law_are_digits ["base", "thing"] (defScope s_law_are_digits) := ⟨rfl, rfl, rfl, by decide +kernel, rfl, by decide +kernel, by decide +kernel⟩
abbrev s_law_is_writing : Stmt := top 57
abbrev N_law_is_writing : List Str := ["base", "thing", "part"]
theorem sc_law_is_writing : FnScope N_law_is_writing ["base", "thing"] (defScope s_law_is_writing) := ⟨rfl, rfl, rfl, by decide +kernel, rfl, by decide +kernel, by decide +kernel⟩
abbrev s_law_odd : Stmt := top 58
abbrev N_law_odd : List Str := ["hand", "base", "things"]
theorem sc_law_odd : FnScope N_law_odd ["hand", "base"] (defScope s_law_odd) := ⟨rfl, rfl, rfl, by decide +kernel, rfl, by decide +kernel, by decide +kernel⟩
abbrev s_law_are_near_refused : Stmt := top 59
abbrev N_law_are_near_refused : List Str := ["machine", "base", "many", "odd", "words"]
theorem sc_law_are_near_refused : FnScope N_law_are_near_refused ["machine"] (defScope s_law_are_near_refused) := ⟨rfl, rfl, rfl, by decide +kernel, rfl, by decide +kernel, by decide +kernel⟩
abbrev s_law : Stmt := top 60
abbrev N_law : List Str := ["script", "hand", "turn", "base", "many", "rows", "state", "machine", "right", "digits", "thing", "due", "row", "bent", "is_right", "words"]
theorem sc_law : FnScope N_law ["script"] (defScope s_law) := ⟨rfl, rfl, rfl, by decide +kernel, rfl, by decide +kernel, by decide +kernel⟩
abbrev si_BadMachine : Stmt := inClass (top 9) 0
theorem sci_BadMachine : FnScope ["self", "part"] ["self", "part"] (defScope si_BadMachine) := ⟨rfl, rfl, rfl, by decide +kernel, rfl, by decide +kernel, by decide +kernel⟩
abbrev si_NoState : Stmt := inClass (top 10) 0
theorem sci_NoState : FnScope ["self"] ["self"] (defScope si_NoState) := ⟨rfl, rfl, rfl, by decide +kernel, rfl, by decide +kernel, by decide +kernel⟩
abbrev si_NoDigits : Stmt := inClass (top 11) 0
theorem sci_NoDigits : FnScope ["self"] ["self"] (defScope si_NoDigits) := ⟨rfl, rfl, rfl, by decide +kernel, rfl, by decide +kernel, by decide +kernel⟩
abbrev si_NoWriting : Stmt := inClass (top 12) 0
theorem sci_NoWriting : FnScope ["self"] ["self"] (defScope si_NoWriting) := ⟨rfl, rfl, rfl, by decide +kernel, rfl, by decide +kernel, by decide +kernel⟩
structure Txt (K : PySem.W.Frag) (mg : Str → Option Value) : Prop where
  w_WritingError : XBase K mg "WritingError"
  x_BadMachine : XSrc K mg "BadMachine" ["part"] si_BadMachine "BadMachine.__init__"
  x_NoState : XSrc K mg "NoState" [] si_NoState "NoState.__init__"
  x_NoDigits : XSrc K mg "NoDigits" [] si_NoDigits "NoDigits.__init__"
  x_NoWriting : XSrc K mg "NoWriting" [] si_NoWriting "NoWriting.__init__"
  s_reduced : Src K mg "reduced" s_reduced
  s_plus : Src K mg "plus" s_plus
  s_whole : Src K mg "whole" s_whole
  s_power : Src K mg "power" s_power
  s_worth_of : Src K mg "worth_of" s_worth_of
  s_is_integer : Src K mg "is_integer" s_is_integer
  s_is_integer_within : Src K mg "is_integer_within" s_is_integer_within
  s_is_base : Src K mg "is_base" s_is_base
  s_is_digit : Src K mg "is_digit" s_is_digit
  s_is_tuple_of : Src K mg "is_tuple_of" s_is_tuple_of
  s_are_integers : Src K mg "are_integers" s_are_integers
  s_are_digits : Src K mg "are_digits" s_are_digits
  s_is_row : Src K mg "is_row" s_is_row
  s_is_row_of_digits : Src K mg "is_row_of_digits" s_is_row_of_digits
  s_shortest : Src K mg "shortest" s_shortest
  s_shortest_turn : Src K mg "shortest_turn" s_shortest_turn
  s_Machine : CSrc K mg "Machine" ["base", "first", "rows"] s_Machine "Machine.__init__"
  s_Machine_eq : MSrc K mg "Machine" "__eq__" s_Machine_eq "Machine.__eq__"
  s_is_row_of_pairs : Src K mg "is_row_of_pairs" s_is_row_of_pairs
  s_is_pair_of_state : Src K mg "is_pair_of_state" s_is_pair_of_state
  s_is_index : Src K mg "is_index" s_is_index
  s_is_state : Src K mg "is_state" s_is_state
  s_check_state : Src K mg "check_state" s_check_state
  s_check_digits : Src K mg "check_digits" s_check_digits
  s_check_writing : Src K mg "check_writing" s_check_writing
  s_read : Src K mg "read" s_read
  s_follow : Src K mg "follow" s_follow
  s_told : Src K mg "told" s_told
  s_row_told : Src K mg "row_told" s_row_told
  s_makes : Src K mg "makes" s_makes
  s_made_by_state : Src K mg "made_by_state" s_made_by_state
  s_made : Src K mg "made" s_made
  s_made_by_machine : Src K mg "made_by_machine" s_made_by_machine
  s_law_hand : Src K mg "_law_hand" s_law_hand
  s_law_mixed : Src K mg "_law_mixed" s_law_mixed
  s_law_draw : Src K mg "_law_draw" s_law_draw
  s_law_any : Src K mg "_law_any" s_law_any
  s_law_low : Src K mg "_law_low" s_law_low
  s_law_minus : Src K mg "_law_minus" s_law_minus
  s_law_times : Src K mg "_law_times" s_law_times
  s_law_goes : Src K mg "_law_goes" s_law_goes
  s_law_writing : Src K mg "_law_writing" s_law_writing
  s_law_number : Src K mg "_law_number" s_law_number
  s_law_is_int : Src K mg "_law_is_int" s_law_is_int
  s_law_word : Src K mg "_law_word" s_law_word
  s_law_are_digits : Src K mg "_law_are_digits" s_law_are_digits
  s_law_is_writing : Src K mg "_law_is_writing" s_law_is_writing
  s_law_odd : Src K mg "_law_odd" s_law_odd
  s_law_are_near_refused : Src K mg "_law_are_near_refused" s_law_are_near_refused
  s_law : Src K mg "law" s_law
  m_NoState_WritingError : XM K mg "NoState" "WritingError" true
  m_NoDigits_WritingError : XM K mg "NoDigits" "WritingError" true
  m_NoWriting_WritingError : XM K mg "NoWriting" "WritingError" true
  m_NoState_NoDigits : XM K mg "NoState" "NoDigits" false
  m_NoState_NoWriting : XM K mg "NoState" "NoWriting" false
  m_NoDigits_NoState : XM K mg "NoDigits" "NoState" false
  m_NoDigits_NoWriting : XM K mg "NoDigits" "NoWriting" false
  m_NoWriting_NoState : XM K mg "NoWriting" "NoState" false
  m_NoWriting_NoDigits : XM K mg "NoWriting" "NoDigits" false
  k_NoState : ExK K mg "NoState"
  k_NoDigits : ExK K mg "NoDigits"
  k_NoWriting : ExK K mg "NoWriting"
  n_ValueError : mg "ValueError" = none
  n_abs : mg "abs" = none
  n_all : mg "all" = none
  n_bool : mg "bool" = none
  n_enumerate : mg "enumerate" = none
  n_int : mg "int" = none
  n_isinstance : mg "isinstance" = none
  n_len : mg "len" = none
  n_list : mg "list" = none
  n_range : mg "range" = none
  n_sum : mg "sum" = none
  n_tuple : mg "tuple" = none
  g_gcd : mg "gcd" = some (.builtin "math.gcd")
section
variable {P : Program} {w : World} {K : PySem.W.Frag} {mg : Str → Option Value} {bs : Heap}
theorem x_BadMachine (T : Txt K mg) : ∃ C, XDef P w K mg bs 1 "BadMachine" ["part"] (fun C => spI1 C "part") C := xdef1 T.x_BadMachine T.w_WritingError sci_BadMachine (fun _ _ _ _ _ _ us hl => match us, hl with | [_, _], _ => rfl)
  (fun C f' cdv A outer s H E b1 b2 b3 b4 => by exact pss_cons (ps_expr (pe_cinit b1 b2 b3 b4 (pa_cons (pv 0) (pa_cons pe_str pa_nil)))) (pss_one (ps_ost (pv 0) (pv 1))))
theorem x_NoState (T : Txt K mg) : ∃ C, XDef P w K mg bs 1 "NoState" [] (fun C => spI0 C) C := xdef0 T.x_NoState T.w_WritingError sci_NoState (fun _ _ _ _ _ _ us hl => match us, hl with | [_], _ => rfl)
  (fun C f' cdv A outer s H E b1 b2 b3 b4 => by exact pss_one (ps_expr (pe_cinit b1 b2 b3 b4 (pa_cons (pv 0) (pa_cons pe_str pa_nil)))))
theorem x_NoDigits (T : Txt K mg) : ∃ C, XDef P w K mg bs 1 "NoDigits" [] (fun C => spI0 C) C := xdef0 T.x_NoDigits T.w_WritingError sci_NoDigits (fun _ _ _ _ _ _ us hl => match us, hl with | [_], _ => rfl)
  (fun C f' cdv A outer s H E b1 b2 b3 b4 => by exact pss_one (ps_expr (pe_cinit b1 b2 b3 b4 (pa_cons (pv 0) (pa_cons pe_str pa_nil)))))
theorem x_NoWriting (T : Txt K mg) : ∃ C, XDef P w K mg bs 1 "NoWriting" [] (fun C => spI0 C) C := xdef0 T.x_NoWriting T.w_WritingError sci_NoWriting (fun _ _ _ _ _ _ us hl => match us, hl with | [_], _ => rfl)
  (fun C f' cdv A outer s H E b1 b2 b3 b4 => by exact pss_one (ps_expr (pe_cinit b1 b2 b3 b4 (pa_cons (pv 0) (pa_cons pe_str pa_nil)))))
end
section
variable {P : Program} {w : World} {K : PySem.W.Frag} {mg : Str → Option Value} {bs : Heap}
local macro_rules | `(tactic| walk_at "arith") => `(tactic| first
  | decide | omega | assumption
  | (refine Or.inl ⟨?_, ?_⟩ <;> first | decide | omega) | (refine Or.inr (Or.inl ⟨?_, ?_⟩) <;> first | decide | omega)
  | (refine ⟨?_, Or.inl ?_⟩ <;> first | decide | omega))
/-- one step of a reading -/
local macro_rules | `(tactic| walk_at "st") => `(tactic| first
  | refine we_var rfl ?_ | refine we_int ?_ | refine we_bl ?_ | refine we_str ?_ | refine we_non ?_ | refine we_I0 ?_ | refine we_I ?_ | refine we_U ?_ | refine we_eqI ?_ | refine we_neI ?_
  | refine ⟨_, rfl, ?_⟩ | refine ⟨by walk_at "arith", ?_⟩ | refine we_int1 ?_ | refine we_abs ?_ | refine we_max2 ?_ | refine we_min2 ?_ | refine we_gcd ?_ | refine we_ixT ?_ | refine we_ixL ?_ | refine wa_cons ?_ | refine wa_nil ?_
  | refine we_call ?_ | refine we_tup ?_ | refine we_lst ?_ | refine we_len ?_ | refine we_isi ?_ | refine wt_T ?_ | refine wt_B ?_ | refine wt_not ?_ | refine wt_yes ?_
  | refine ws_seq ?_ | refine ws_ret ?_ | refine ws_if ?_ | refine ws_drop ?_ | refine ws_par ?_ | refine ws_next ?_ | refine ws_asg ?_ | refine ws_asgG ?_ | refine we_notV ?_
  | refine wg_name ?_ | refine wg_tup ?_ | refine wgs_cons ?_ | refine wgs_nil ?_)
/-! ### the drawing -/
def S_law_mixed : List D → (D → Prop) → Prop := fun ds R => ∃ c t : Int, ds = [.int c, .int t] ∧ ∀ k : Int, R (.int k)
theorem l_law_mixed : ∀ ds R, S_law_mixed ds R → ds.length = 2 := fun ds R ⟨_, _, e, _⟩ => by rw [e]; rfl
theorem d_law_mixed (T : Txt K mg) : Dfn P w K mg bs 1 "_law_mixed" ["cell", "turn"] S_law_mixed := by
  refine mkD (k := 0) T.s_law_mixed sc_law_mixed (fun _ _ _ _ _ _ us hl => match us, hl with | [_, _], _ => rfl) l_law_mixed fun f cdv A outer s H E hr => ?_
  have hu := hu_of hr
  refine ⟨_, (pss_cons (ps_set (i := 2) sc_law_mixed.nd rfl (Or.inl rfl) (pe_op op_mod (pe_callTy call_int1 (by rfl) T.n_int (by decide +kernel) (pa_cons (pe_op op_mulA (pe_op op_add (pe_op op_add (pe_op op_mod (pe_callTy call_int1 (by rfl) T.n_int (by decide +kernel) (pa_cons (pv 0) pa_nil)) pe_int) (pe_op op_mulA pe_int (pv 1))) pe_int) pe_int) pa_nil)) pe_int))
      (pss_cons (ps_set (i := 2) sc_law_mixed.nd rfl (Or.inl rfl) (pe_op op_mod (pe_callTy call_int1 (by rfl) T.n_int (by decide +kernel) (pa_cons (pe_op op_mulA (pv 2) (pe_op op_add (pe_op op_divA (pv 2) pe_int) pe_int)) pa_nil)) pe_int))
      (pss_one (ps_ret (pe_op op_divA (pe_op op_mod (pe_callTy call_int1 (by rfl) T.n_int (by decide +kernel) (pa_cons (pe_op op_mulA (pv 2) (pe_op op_add (pe_op op_divA (pv 2) pe_int) pe_int)) pa_nil)) pe_int) pe_int))))), fun h H0 G0 ds R hS => ?_⟩
  obtain ⟨c, t, rfl, hR⟩ := hS
  repeat walk_at "st"
  exact hR _
def S_law_draw : List D → (D → Prop) → Prop := fun ds R => ∃ m : Int, ds = [.hand, .int m] ∧ 0 < m ∧ m < 18446744073709551616 ∧ ∀ k : Int, 0 ≤ k → k < m → R (.int k)
theorem l_law_draw : ∀ ds R, S_law_draw ds R → ds.length = 2 := fun ds R ⟨_, e, _⟩ => by rw [e]; rfl
theorem d_law_draw (T : Txt K mg) : Dfn P w K mg bs 2 "_law_draw" ["hand", "many"] S_law_draw := by
  have D_law_mixed := d_law_mixed (P := P) (w := w) (bs := bs) T
  refine mkD (k := 1) T.s_law_draw sc_law_draw (fun _ _ _ _ _ _ us hl => match us, hl with | [_, _], _ => rfl) l_law_draw fun f cdv A outer s H E hr => ?_
  have hu := hu_of hr
  refine ⟨_, (pss_cons (ps_asg (pe_op op_add (pe_ix (ix_listK (K0 := K) (by rfl)) (pv 0) pe_int (fun _ _ => rfl)) pe_int) (pg_sub (pv 0) pe_int set_list))
      (pss_cons (ps_if (pt_cmpR op_gt (pe_ix (ix_listK (K0 := K) (by rfl)) (pv 0) pe_int (fun _ _ => rfl)) pe_int (nomark _)) (pss_cons (ps_set (i := 2) sc_law_draw.nd rfl (Or.inl rfl) (pe_op op_mod (pe_callTy call_int1 (by rfl) T.n_int (by decide +kernel) (pa_cons (pe_ix (ix_listK (K0 := K) (by rfl)) (pv 0) pe_int (fun _ _ => rfl)) pa_nil)) (pv 1)))
      (pss_cons (ps_asg (pe_op op_divA (pe_ix (ix_listK (K0 := K) (by rfl)) (pv 0) pe_int (fun _ _ => rfl)) (pv 1)) (pg_sub (pv 0) pe_int set_list))
      (pss_one (ps_ret (pv 2))))) pss_nil)
      (pss_cons (ps_par (i := 3) (j := 4) (by rfl) sc_law_draw.nd rfl rfl (by decide) rfl rfl (pa_cons (pe_ix (ix_listK (K0 := K) (by rfl)) (pv 0) pe_int (fun _ _ => rfl)) (pa_cons (pe_ix (ix_listK (K0 := K) (by rfl)) (pv 0) pe_int (fun _ _ => rfl)) pa_nil)) (by rfl))
      (pss_cons (ps_asg (pe_op op_add (pv 4) pe_int) (pg_sub (pv 0) pe_int set_list))
      (pss_cons (ps_if (pt_cmpR op_eq (pe_callB (call_lenK (K0 := K) (by rfl)) (by rfl) T.n_len (by decide +kernel) (pa_cons (pv 3) pa_nil)) pe_int (nomark _)) (pss_one (ps_ret (pe_op op_mod (pe_callTy call_int1 (by rfl) T.n_int (by decide +kernel) (pa_cons (pe_callK0 (K0 := K) (by rfl) D_law_mixed (hr.mono (by decide)) (pa_cons pe_int (pa_cons (pe_ix (ix_listK (K0 := K) (by rfl)) (pv 0) pe_int (fun _ _ => rfl)) pa_nil))) pa_nil)) (pv 1)))) pss_nil)
      (pss_cons (ps_set (i := 5) sc_law_draw.nd rfl (Or.inl rfl) (pe_ix (ix_listK (K0 := K) (by rfl)) (pv 3) (pe_op op_mod (pe_callTy call_int1 (by rfl) T.n_int (by decide +kernel) (pa_cons (pv 4) pa_nil)) (pe_callB (call_lenK (K0 := K) (by rfl)) (by rfl) T.n_len (by decide +kernel) (pa_cons (pv 3) pa_nil))) (fun _ _ => rfl)))
      (pss_cons (ps_if (PW.pt (pw_and (pt_cmpR op_lt (pv 4) (pe_callB (call_lenK (K0 := K) (by rfl)) (by rfl) T.n_len (by decide +kernel) (pa_cons (pv 3) pa_nil)) (nomark _)) (pw_and1 (pt_cmpR op_ge (pe_callB call_abs (by rfl) T.n_abs (by decide +kernel) (pa_cons (pv 5) pa_nil)) (pe_op op_pow pe_int pe_int) (nomark _))))) (pss_cons (ps_asg (pe_op op_divA (pe_callB call_abs (by rfl) T.n_abs (by decide +kernel) (pa_cons (pv 5) pa_nil)) (pv 1)) (pg_sub (pv 0) pe_int set_list))
      (pss_one (ps_ret (pe_op op_mod (pe_callTy call_int1 (by rfl) T.n_int (by decide +kernel) (pa_cons (pe_callB call_abs (by rfl) T.n_abs (by decide +kernel) (pa_cons (pv 5) pa_nil)) pa_nil)) (pv 1))))) pss_nil)
      (pss_one (ps_ret (pe_op op_mod (pe_callTy call_int1 (by rfl) T.n_int (by decide +kernel) (pa_cons (pe_callK0 (K0 := K) (by rfl) D_law_mixed (hr.mono (by decide)) (pa_cons (pv 5) (pa_cons (pe_ix (ix_listK (K0 := K) (by rfl)) (pv 0) pe_int (fun _ _ => rfl)) pa_nil))) pa_nil)) (pv 1))))))))))), fun h H0 G0 ds R hS => ?_⟩
  obtain ⟨m, rfl, hm, hm2, hR⟩ := hS
  have fin : ∀ k : Int, R (.int (k % m)) := fun k => hR _ (Int.emod_nonneg _ (by omega)) (Int.emod_lt_of_pos _ hm)
  have hmd : ∀ i, CDivA i m := fun i => ⟨hm, .inl hm2⟩
  -- hand[3] = hand[3] + 1
  refine ws_seq (ws_handN (.inr (.inr rfl)) (we_I0 (we_handN (.inr (.inr rfl)) (we_var rfl ⟨rfl, fun n hn => ⟨_, rfl, we_int ⟨_, rfl, _, rfl, by omega, we_var rfl ⟨rfl, ?_⟩⟩⟩⟩))))
  -- if hand[2] > 0
  refine ws_seq (ws_if (wt_T (we_I0 (we_handN (.inr (.inl rfl)) (we_var rfl ⟨rfl, fun r hr' => ⟨_, rfl, we_int ⟨_, rfl, _, rfl, ?_⟩⟩⟩)))))
  refine ite2 (fun hb => ?_) (fun hb => ?_)
  · refine ws_seq (ws_asg (we_I (we_int1 (we_handN (.inr (.inl rfl)) (we_var rfl ⟨rfl, fun r2 hr2 => ⟨_, rfl, _, rfl, we_var rfl ⟨_, rfl, hm, ?_⟩⟩⟩)))))
    refine ws_seq (ws_handN (.inr (.inl rfl)) (we_I (we_handN (.inr (.inl rfl)) (we_var rfl ⟨rfl, fun r3 hr3 => ⟨_, rfl, we_var rfl ⟨_, rfl, hmd _, _, rfl, Int.ediv_nonneg hr3 (by omega), we_var rfl ⟨rfl, ?_⟩⟩⟩⟩))))
    exact ws_ret (we_var rfl (fin _))
  · refine ws_next ?_
    refine ws_seq (ws_par (wa_cons (we_hand0 (we_var rfl ⟨rfl, fun ns hns => wa_cons (we_handN (.inl rfl) (we_var rfl ⟨rfl, fun i hi => wa_nil ⟨_, _, rfl, ?_⟩⟩))⟩))))
    refine ws_seq (ws_handN (.inl rfl) (we_I0 (we_var rfl ⟨_, rfl, we_int ⟨_, rfl, _, rfl, by omega, we_var rfl ⟨rfl, ?_⟩⟩⟩)))
    refine ws_seq (ws_if (wt_T (we_eqI (we_len (we_var rfl ⟨_, .inl rfl, _, rfl, we_int ⟨_, rfl, _, rfl, ?_⟩⟩)))))
    refine ite2 (fun hb => ?_) (fun hne => ?_)
    · refine ws_ret (we_I (we_int1 (we_call (wa_cons ?_))))
      refine we_int (wa_cons (we_handN (.inr (.inr rfl)) (we_var rfl ⟨rfl, fun n2 hn2 => wa_nil ?_⟩)))
      exact ⟨_, _, rfl, fun k => ⟨_, rfl, _, rfl, we_var rfl ⟨_, rfl, hm, fin _⟩⟩⟩
    · rw [List.length_map] at hne
      have hlen : 0 < (ns.length : Int) := by
        have : ¬ ((ns.length : Int) = 0) := by simpa using hne
        omega
      refine ws_next ?_
      have hi0 := Int.emod_nonneg i (b := (ns.length : Int)) (by omega)
      have hi1 := Int.emod_lt_of_pos i hlen
      obtain ⟨x, hx1, hx2⟩ := atI_of (xs := ns.map D.int) hi0 (by rw [List.length_map]; exact hi1)
      obtain ⟨c, rfl⟩ : ∃ c, x = D.int c := by
        rw [List.getElem?_map] at hx2
        obtain ⟨c, _, e⟩ := Option.map_eq_some_iff.mp hx2
        exact ⟨c, e.symm⟩
      refine ws_seq (ws_asg (we_ixL (we_var rfl ⟨_, rfl, we_I (we_int1 (we_var rfl ⟨_, rfl, _, rfl, we_len (we_var rfl ⟨_, .inl rfl, _, rfl, by rw [List.length_map]; exact hlen, _, D.int c, rfl, by rw [List.length_map]; exact hx1, ?_⟩)⟩))⟩)))
      refine ws_seq (ws_if (wt_and (wt_T (we_I0 (we_var rfl ⟨_, rfl, we_len (we_var rfl ⟨_, .inl rfl, _, rfl, _, rfl, fun _ => ?_, fun hb => ?_⟩)⟩)))))
      · refine wt_T (we_I0 (we_abs (we_var rfl ⟨_, rfl, _, rfl, we_I (we_int ⟨_, rfl, we_int ⟨_, rfl, by refine ⟨by decide, by decide, ?_⟩; decide, _, rfl, _, rfl, ?_⟩⟩)⟩)))
        refine ite2 (fun hb => ?_) (fun hb => ?_)
        · refine ws_seq (ws_handN (.inr (.inl rfl)) (we_I (we_abs (we_var rfl ⟨_, rfl, _, rfl, we_var rfl ⟨_, rfl, hmd _, _, rfl, Int.ediv_nonneg (absI_nn c) (by omega), we_var rfl ⟨rfl, ?_⟩⟩⟩))))
          exact ws_ret (we_I (we_int1 (we_abs (we_var rfl ⟨_, rfl, _, rfl, _, rfl, we_var rfl ⟨_, rfl, hm, fin _⟩⟩))))
        · refine ws_next ?_
          refine ws_ret (we_I (we_int1 (we_call (wa_cons ?_))))
          refine we_var rfl (wa_cons (we_handN (.inr (.inr rfl)) (we_var rfl ⟨rfl, fun n2 hn2 => wa_nil ?_⟩)))
          exact ⟨_, _, rfl, fun k => ⟨_, rfl, _, rfl, we_var rfl ⟨_, rfl, hm, fin _⟩⟩⟩
      · refine ws_next ?_
        refine ws_ret (we_I (we_int1 (we_call (wa_cons ?_))))
        refine we_var rfl (wa_cons (we_handN (.inr (.inr rfl)) (we_var rfl ⟨rfl, fun n2 hn2 => wa_nil ?_⟩)))
        exact ⟨_, _, rfl, fun k => ⟨_, rfl, _, rfl, we_var rfl ⟨_, rfl, hm, fin _⟩⟩⟩
def S_law_any : List D → (D → Prop) → Prop := fun ds R => ∃ xs : List D, ds = [.hand, .lst xs] ∧ xs ≠ [] ∧ xs.length < 4000000 ∧ ∀ x ∈ xs, R x
theorem l_law_any : ∀ ds R, S_law_any ds R → ds.length = 2 := fun ds R ⟨_, e, _⟩ => by rw [e]; rfl
theorem d_law_any (T : Txt K mg) : Dfn P w K mg bs 3 "_law_any" ["hand", "some"] S_law_any := by
  have D_law_draw := d_law_draw (P := P) (w := w) (bs := bs) T
  refine mkD (k := 2) T.s_law_any sc_law_any (fun _ _ _ _ _ _ us hl => match us, hl with | [_, _], _ => rfl) l_law_any fun f cdv A outer s H E hr => ?_
  have hu := hu_of hr
  refine ⟨_, (pss_one (ps_ret (pe_ix (ix_listK (K0 := K) (by rfl)) (pv 1) (pe_callK0 (K0 := K) (by rfl) D_law_draw (hr.mono (by decide)) (pa_cons (pv 0) (pa_cons (pe_callB (call_lenK (K0 := K) (by rfl)) (by rfl) T.n_len (by decide +kernel) (pa_cons (pv 1) pa_nil)) pa_nil))) (fun _ _ => rfl)))), fun h H0 G0 ds R hS => ?_⟩
  obtain ⟨xs, rfl, hne, hl, hR⟩ := hS
  have hpos : 0 < xs.length := List.length_pos_iff.mpr hne
  refine ws_ret (we_ixL (we_var rfl ⟨_, rfl, we_call (wa_cons (we_var rfl (wa_cons (we_len (we_var rfl ⟨_, .inl rfl, wa_nil ⟨_, rfl, by omega, by omega, fun k h0 h1 => ?_⟩⟩)))))⟩))
  obtain ⟨x, hx1, hx2⟩ := atI_of h0 h1
  exact ⟨k, x, rfl, hx1, hR x (List.mem_of_getElem? hx2)⟩
theorem l_law_hand : ∀ vs H Q E, spHand K vs H Q E → vs.length = 1 := fun vs H Q E ⟨_, _, e, _⟩ => by rw [e]; rfl
theorem d_law_hand (T : Txt K mg) : DfnR P w K mg bs 1 "_law_hand" ["script"] (spHand K) := by
  refine mkR (k := 0) T.s_law_hand sc_law_hand (fun _ _ _ _ _ _ us hl => match us, hl with | [_], _ => rfl) l_law_hand fun f cdv A outer s H E hr => ?_
  have hu := hu_of hr
  refine ⟨_, (pss_one (ps_ret (pe_lst (pa_cons (pe_lc (own := [("cell", 1)]) (g := (gName 1)) rfl sc_law_hand.nd (pi_listK (K0 := K) (by rfl) (pe_slice (sl_listK (K0 := K) (by rfl)) (pv 0) po_none (po_some pe_int))) (blkOk_by (N := N_law_hand) (sc := defScope s_law_hand) (by decide +kernel)) (fun _ _ _ _ _ => by exact (pg_name (i := 1) sc_law_hand.nd rfl (Or.inl rfl))) (fun _ _ _ _ _ => by exact pts_nil) (fun _ _ _ _ _ => by exact (pe_callTy call_int1 (by rfl) T.n_int (by decide +kernel) (pa_cons (pv 1) pa_nil)))) (pa_cons pe_int (pa_cons pe_int (pa_cons pe_int pa_nil))))))), fun vs Q hsp => ?_⟩
  obtain ⟨a, ns, rfl, hS, hl, hQ⟩ := hsp
  have hcut : cutV (ns.map V.int) none (some 63) = ns.map V.int := by
    unfold cutV
    have e1 : HT.sIx (ns.map V.int).length 0 none = 0 := rfl
    have e2 : HT.sIx (ns.map V.int).length (ns.map V.int).length (some 63) = (ns.map V.int).length := by
      exact (HT.sIx_nat _ _ 63).trans (by rw [List.length_map]; omega)
    rw [e1, e2, List.drop_zero, Nat.sub_zero, List.take_length]
  have key := Evl.el_lcNL (K := K) (σ := L2.start N_law_hand [.ref a]) (H := H) (xs := ns.map V.int) (j := 1) (vs := [1]) (t := tYes) (te := tCB (fun xs H Q => (∃ i, xs = [V.int i] ∧ Q (V.int i) H) ∨ ∃ k, xs = [V.bl k] ∧ Q (V.int (if k = true then 1 else 0)) H) (tCons (tVar 1) tNil))
    (tl := tSl (rSlL K) (tVar 0) tNoPart (tPart (tC (.int 63)))) (fun _ => true) (fun i => (ns.map V.int).getD i .non)
    (by
      have h2 := Evl.el_sl (K := K) (σ := L2.start N_law_hand [.ref a]) (H := H) (te := tVar 0) (tl := tNoPart) (th := tPart (tC (.int 63))) (Evl.ev_var rfl) Evl.eo_none (Evl.eo_some Evl.ev_c) hS
      rw [hcut] at h2
      exact h2) (by rw [List.length_map]; omega) (fun x => rfl) (fun i x H1 _ _ H2 _ Q q => q H2 (Evl.Ex.refl _)) (fun i x H1 _ hx _ => by
        have hi := hx
        rw [List.getElem?_map] at hi
        obtain ⟨z, hz, rfl⟩ := Option.map_eq_some_iff.mp hi
        have e : (ns.map V.int).getD i .non = .int z := by rw [List.getD_eq_getElem?_getD, hx] <;> rfl
        intro H2 _ Q q
        refine ⟨.int z, rfl, .inl ⟨z, rfl, ?_⟩⟩
        have q' := q H2 (Evl.Ex.refl _)
        rw [e] at q'
        exact q')
  have eg : Evl.given (ns.map V.int).length (fun _ => true) (fun i => (ns.map V.int).getD i .non) = ns.map V.int := by
    unfold Evl.given
    rw [List.filter_eq_self.mpr (fun _ _ => rfl)]
    refine List.ext_getElem? fun i => ?_
    rw [List.getElem?_map]
    by_cases hi : i < (ns.map V.int).length
    · rw [List.getElem?_range hi, List.getElem?_eq_getElem hi]
      show some ((ns.map V.int).getD i .non) = _
      rw [List.getD_eq_getElem?_getD, List.getElem?_eq_getElem hi] <;> rfl
    · rw [List.getElem?_eq_none (by rw [List.length_range]; omega), List.getElem?_eq_none (l := ns.map V.int) (by omega)] <;> rfl
  rw [eg] at key
  exact key H (Evl.Ex.refl _) (fun x H1 => tCons (tC (.int 0)) (tCons (tC (.int 0)) (tCons (tC (.int 0)) tNil)) (L2.start N_law_hand [.ref a]) H1 fun xs H2 => (x :: xs).length ≤ sizeLine ∧ ∀ p, H2 p = none → Q (.ref p) (upd H2 p (.lst (x :: xs)))) fun c H1 hc e1 h1 => ⟨sz (Nat.le_of_ble_eq_true rfl), fun h2 hn2 => by
    have hne : h2 ≠ c := fun z => by rw [z, h1] at hn2; cases hn2
    exact hQ h2 c _ (e1.trans (Evl.Ex.new hn2)) hne upd_same (by rw [upd_ne (Ne.symm hne)]; exact h1)⟩
/-! ### tables of counts -/
section
variable {α κ : Type} [DecidableEq α] [DecidableEq κ]
def aAdd : List (α × Int) → α → Int → List (α × Int)
  | [], k, c => [(k, c)]
  | x :: r, k, c => if x.1 = k then (x.1, x.2 + c) :: r else x :: aAdd r k c
def aGet : List (α × Int) → α → Int
  | [], _ => 0
  | x :: r, k => if x.1 = k then x.2 else aGet r k
def encA (e : α → κ) (L : List (α × Int)) : List (κ × D) := L.map fun x => (e x.1, .int x.2)
def aW (f : α → Int) : List (α × Int) → Int
  | [] => 0
  | x :: r => x.2 * f x.1 + aW f r
theorem aW_app (f : α → Int) : ∀ L M : List (α × Int), aW f (L ++ M) = aW f L + aW f M
  | [], M => by simp [aW]
  | x :: r, M => by
    show x.2 * f x.1 + aW f (r ++ M) = x.2 * f x.1 + aW f r + aW f M
    rw [aW_app f r M, Int.add_assoc]
theorem aW_add (f : α → Int) (k : α) (c : Int) : ∀ L : List (α × Int), aW f (aAdd L k c) = aW f L + c * f k
  | [] => by show c * f k + 0 = 0 + c * f k; omega
  | x :: r => by
    unfold aAdd
    by_cases h : x.1 = k
    · rw [if_pos h]
      show (x.2 + c) * f x.1 + aW f r = x.2 * f x.1 + aW f r + c * f k
      rw [h, Int.add_mul]
      omega
    · rw [if_neg h]
      show x.2 * f x.1 + aW f (aAdd r k c) = x.2 * f x.1 + aW f r + c * f k
      rw [aW_add f k c r]
      omega
theorem aW_one (L : List (α × Int)) : aW (fun _ => 1) L = (L.map (·.2)).sum := by
  induction L with
  | nil => rfl
  | cons x r ih =>
    show x.2 * 1 + aW (fun _ => 1) r = _
    rw [ih, List.map_cons, List.sum_cons, Int.mul_one]
theorem aW_congr {f g : α → Int} : ∀ {L : List (α × Int)}, (∀ x ∈ L, f x.1 = g x.1) → aW f L = aW g L
  | [], _ => rfl
  | x :: r, h => by
    show x.2 * f x.1 + aW f r = x.2 * g x.1 + aW g r
    rw [h x (by simp), aW_congr fun y hy => h y (List.mem_cons_of_mem _ hy)]
theorem keys_add (k : α) (c : Int) : ∀ L : List (α × Int), (aAdd L k c).map (·.1) = if k ∈ L.map (·.1) then L.map (·.1) else L.map (·.1) ++ [k]
  | [] => by simp [aAdd]
  | x :: r => by
    unfold aAdd
    by_cases h : x.1 = k
    · rw [if_pos h, if_pos (by simp [h])] <;> rfl
    · rw [if_neg h, List.map_cons, keys_add k c r]
      by_cases hm : k ∈ r.map (·.1)
      · rw [if_pos hm, if_pos (by simp only [List.map_cons, List.mem_cons]; exact .inr hm)] <;> rfl
      · rw [if_neg hm, if_neg (by simp only [List.map_cons, List.mem_cons]; rintro (e | e); exact h e.symm; exact hm e)] <;> rfl
theorem nodup_add {k : α} {c : Int} {L : List (α × Int)} (h : (L.map (·.1)).Nodup) : ((aAdd L k c).map (·.1)).Nodup := by
  rw [keys_add]
  split
  · exact h
  · rename_i hm
    rw [List.nodup_append]
    exact ⟨h, by simp, fun a ha b hb e => hm (by rw [List.mem_singleton] at hb; rw [← hb, ← e]; exact ha)⟩
theorem mem_add {k : α} {c : Int} {L : List (α × Int)} {x : α} (h : x ∈ (aAdd L k c).map (·.1)) : x ∈ L.map (·.1) ∨ x = k := by
  rw [keys_add] at h
  split at h
  · exact .inl h
  · rcases List.mem_append.mp h with h | h
    · exact .inl h
    · exact .inr (List.mem_singleton.mp h)
theorem enc_get {e : α → κ} (inj : ∀ a b, e a = e b → a = b) (k : α) : ∀ L : List (α × Int), (dGet (encA e L) (e k)).getD (.int 0) = .int (aGet L k)
  | [] => rfl
  | x :: r => by
    have ih := enc_get inj k r
    unfold aGet
    by_cases h : x.1 = k
    · rw [if_pos h]
      simp [dGet, encA, List.find?_cons, h]
    · rw [if_neg h, ← ih]
      have : e x.1 ≠ e k := fun z => h (inj _ _ z)
      simp [dGet, encA, List.find?_cons, this]
theorem enc_find {e : α → κ} (inj : ∀ a b, e a = e b → a = b) {k : α} {n : Int} : ∀ {L : List (α × Int)}, (L.map (·.1)).Nodup → (k, n) ∈ L → dGet (encA e L) (e k) = some (.int n)
  | [], _, h => by cases h
  | x :: r, nd, h => by
    rw [List.map_cons, List.nodup_cons] at nd
    rcases List.mem_cons.mp h with h | h
    · subst h
      simp [dGet, encA, List.find?_cons]
    · have hx : x.1 ≠ k := fun z => nd.1 (by rw [z]; exact List.mem_map.mpr ⟨_, h, rfl⟩)
      have : e x.1 ≠ e k := fun z => hx (inj _ _ z)
      have ih := enc_find inj nd.2 h
      rw [← ih]
      simp [dGet, encA, List.find?_cons, this]
theorem map_id_of {e : α → κ} {k : κ} {v : D} : ∀ {L : List (α × Int)}, (∀ x ∈ L, e x.1 ≠ k) → (encA e L).map (fun kv => if kv.1 = k then (kv.1, v) else kv) = encA e L
  | [], _ => rfl
  | x :: r, h => by
    show (if e x.1 = k then (e x.1, v) else (e x.1, D.int x.2)) :: _ = (e x.1, D.int x.2) :: _
    rw [if_neg (h x (by simp))]
    congr 1
    exact map_id_of fun y hy => h y (List.mem_cons_of_mem _ hy)
theorem enc_put {e : α → κ} (inj : ∀ a b, e a = e b → a = b) (k : α) (c : Int) : ∀ {L : List (α × Int)}, (L.map (·.1)).Nodup → dPut (encA e L) (e k) (.int (aGet L k + c)) = encA e (aAdd L k c)
  | [], _ => by
    show [(e k, D.int (0 + c))] = [(e k, D.int c)]
    rw [Int.zero_add]
  | x :: r, nd => by
    rw [List.map_cons, List.nodup_cons] at nd
    have ih := enc_put inj k c nd.2
    unfold aAdd aGet
    by_cases h : x.1 = k
    · rw [if_pos h, if_pos h]
      unfold dPut
      rw [if_pos (by show (decide (e x.1 = e k) || _) = true; rw [decide_eq_true (by rw [h])]; rfl)]
      show (if e x.1 = e k then (e x.1, D.int (x.2 + c)) else (e x.1, D.int x.2)) :: (encA e r).map _ = (e x.1, D.int (x.2 + c)) :: encA e r
      rw [if_pos (by rw [h]), map_id_of fun y hy z => nd.1 (by rw [h, ← inj _ _ z]; exact List.mem_map.mpr ⟨_, hy, rfl⟩)]
    · rw [if_neg h, if_neg h]
      have hx : e x.1 ≠ e k := fun z => h (inj _ _ z)
      show dPut ((e x.1, D.int x.2) :: encA e r) (e k) (.int (aGet r k + c)) = (e x.1, D.int x.2) :: encA e (aAdd r k c)
      rw [← ih]
      unfold dPut
      have ha : (((e x.1, D.int x.2) :: encA e r).any fun kv => decide (kv.1 = e k)) = ((encA e r).any fun kv => decide (kv.1 = e k)) := by
        rw [List.any_cons, decide_eq_false hx, Bool.false_or]
      rw [ha]
      split
      · rw [List.map_cons, if_neg hx]
      · rw [List.cons_append]
end
/-- no more ints than a stretch has -/
theorem len_range : ∀ (n : Nat) (a : Int) {L : List Int}, L.Nodup → (∀ x ∈ L, a ≤ x ∧ x < a + n) → L.length ≤ n
  | 0, a, L, _, h => by
    cases L with
    | nil => exact Nat.le_refl _
    | cons x r => have := h x (by simp); omega
  | n + 1, a, L, nd, h => by
    have nd2 : (L.filter fun x => decide (x ≠ a + (n : Int))).Nodup := nd.filter _
    have ih := len_range n a nd2 fun x hx => by
      obtain ⟨h1, h2⟩ := List.mem_filter.mp hx
      have h3 := h x h1
      have h4 : x ≠ a + (n : Int) := of_decide_eq_true h2
      omega
    have hc : L.length ≤ (L.filter fun x => decide (x ≠ a + (n : Int))).length + 1 := by
      clear ih nd2 h
      induction L with
      | nil => simp
      | cons x r ih =>
        rw [List.nodup_cons] at nd
        rw [List.filter_cons]
        by_cases hx : x = a + (n : Int)
        · have he : (r.filter fun x => decide (x ≠ a + (n : Int))) = r := List.filter_eq_self.mpr fun y hy => decide_eq_true fun z => nd.1 (by rw [hx, ← z]; exact hy)
          rw [if_neg (by simp [hx]), he, List.length_cons]
          exact Nat.le_refl _
        · rw [if_pos (by simp [hx]), List.length_cons, List.length_cons]
          have := ih nd.2
          omega
    omega
theorem eqv_int (x y : Int) : PyData.eqv (.int x) (.int y) = decide (x = y) := by
  rw [PyData.eqv]
  by_cases h : x = y
  · rw [decide_eq_true h, h]; simp
  · rw [decide_eq_false h]; simpa using h
theorem eqvL_ints : ∀ xs ys : List Int, PyData.eqvAll (toPyL (xs.map D.int)) (toPyL (ys.map D.int)) = decide (xs = ys)
  | [], [] => by rw [List.map_nil, toPyL, PyData.eqvAll]; rfl
  | [], y :: ys => by rw [List.map_nil, List.map_cons, toPyL, toPyL, PyData.eqvAll]; rfl
  | x :: xs, [] => by rw [List.map_nil, List.map_cons, toPyL, toPyL, PyData.eqvAll]; rfl
  | x :: xs, y :: ys => by
    rw [List.map_cons, List.map_cons, toPyL, toPyL, PyData.eqvAll, eqvL_ints xs ys, toPy, toPy, eqv_int]
    by_cases h : x = y
    · by_cases h2 : xs = ys
      · rw [decide_eq_true h, decide_eq_true h2, decide_eq_true (by rw [h, h2])]; rfl
      · rw [decide_eq_true h, decide_eq_false h2, decide_eq_false (fun z => h2 (List.cons.inj z).2)]; rfl
    · rw [decide_eq_false h, decide_eq_false (fun z => h (List.cons.inj z).1)]; rfl
theorem eqv_tup (xs ys : List Int) : PyData.eqv (toPy (.tup (xs.map D.int))) (toPy (.tup (ys.map D.int))) = decide (xs = ys) := by
  rw [toPy, toPy, PyData.eqv]
  exact eqvL_ints xs ys
theorem py_ints : ∀ xs : List Int, PyData.canLayAll0 (toPyL (xs.map D.int)) = true ∧ PyData.depthAll (toPyL (xs.map D.int)) = 0
  | [] => ⟨rfl, rfl⟩
  | x :: xs => by
    obtain ⟨h1, h2⟩ := py_ints xs
    rw [List.map_cons, toPyL, toPy]
    exact ⟨by rw [PyData.canLayAll0, h1]; rfl, by rw [PyData.depthAll, h2]; rfl⟩
theorem tup_cmp (c : List Int) : Cmp (.tup (c.map D.int)) := .tup fun x hx => by
  obtain ⟨i, _, rfl⟩ := List.mem_map.mp hx
  exact .int i
theorem tup_shaped (c : List Int) : SeqAt.shaped (toPy (.tup (c.map D.int))) = true := by
  obtain ⟨h1, h2⟩ := py_ints c
  unfold SeqAt.shaped
  rw [toPy, PyData.canLay0, h1, PyData.depth, h2]
  rfl
theorem cut_take {xs : List D} {k : Nat} : Cal.cutD xs none (some (k : Int)) = xs.take k := by
  unfold Cal.cutD
  rw [HT.sIx_nat]
  show (xs.drop 0).take (min k xs.length - 0) = _
  rw [List.drop_zero, Nat.sub_zero]
  by_cases h : k ≤ xs.length
  · rw [Nat.min_eq_left h]
  · rw [Nat.min_eq_right (by omega), List.take_length, List.take_of_length_le (by omega)]
theorem cut_drop {xs : List D} {k : Nat} : Cal.cutD xs (some (k : Int)) none = xs.drop k := by
  unfold Cal.cutD
  rw [HT.sIx_nat]
  show (xs.drop (min k xs.length)).take (xs.length - min k xs.length) = _
  rw [List.take_of_length_le (by rw [List.length_drop]; exact Nat.le_refl _)]
  by_cases h : k ≤ xs.length
  · rw [Nat.min_eq_left h]
  · rw [Nat.min_eq_right (by omega), List.drop_length, List.drop_of_length_le (by omega)]
/-! ### machines that are sound parts, and their == -/
def pairD (q : Int × Nat) : D := .tup [.int q.1, .int (q.2 : Int)]
def rowM (r : List (Int × Nat)) : D := .tup (r.map pairD)
def rowsM (rs : List (List (Int × Nat))) : D := .tup (rs.map rowM)
def machD (C : Addr) (base first : Int) (rs : List (List (Int × Nat))) : D := .ins C [("base", .int base), ("first", .int first), ("rows", rowsM rs)]
theorem lk_base {base first : Int} {rs : List (List (Int × Nat))} : List.lookup ("base" : Str) [(("base" : Str), D.int base), ("first", .int first), ("rows", rowsM rs)] = some (.int base) := by rfl
theorem lk_first {base first : Int} {rs : List (List (Int × Nat))} : List.lookup ("first" : Str) [(("base" : Str), D.int base), ("first", .int first), ("rows", rowsM rs)] = some (.int first) := by rfl
theorem lk_rows {base first : Int} {rs : List (List (Int × Nat))} : List.lookup ("rows" : Str) [(("base" : Str), D.int base), ("first", .int first), ("rows", rowsM rs)] = some (rowsM rs) := by rfl
theorem eqvL_map {α : Type} [DecidableEq α] {f : α → D} (h : ∀ a b, PyData.eqv (toPy (f a)) (toPy (f b)) = decide (a = b)) : ∀ xs ys : List α, PyData.eqvAll (toPyL (xs.map f)) (toPyL (ys.map f)) = decide (xs = ys)
  | [], [] => by rw [List.map_nil, toPyL, PyData.eqvAll]; rfl
  | [], y :: ys => by rw [List.map_nil, List.map_cons, toPyL, toPyL, PyData.eqvAll]; rfl
  | x :: xs, [] => by rw [List.map_nil, List.map_cons, toPyL, toPyL, PyData.eqvAll]; rfl
  | x :: xs, y :: ys => by
    rw [List.map_cons, List.map_cons, toPyL, toPyL, PyData.eqvAll, eqvL_map h xs ys, h]
    by_cases e : x = y
    · by_cases e2 : xs = ys
      · rw [decide_eq_true e, decide_eq_true e2, decide_eq_true (by rw [e, e2])]; rfl
      · rw [decide_eq_true e, decide_eq_false e2, decide_eq_false (fun z => e2 (List.cons.inj z).2)]; rfl
    · rw [decide_eq_false e, decide_eq_false (fun z => e (List.cons.inj z).1)]; rfl
theorem eqv_tupM {α : Type} [DecidableEq α] {f : α → D} (h : ∀ a b, PyData.eqv (toPy (f a)) (toPy (f b)) = decide (a = b)) (xs ys : List α) : PyData.eqv (toPy (.tup (xs.map f))) (toPy (.tup (ys.map f))) = decide (xs = ys) := by
  rw [toPy, toPy, PyData.eqv]
  exact eqvL_map h xs ys
theorem eqv_pairD (a b : Int × Nat) : PyData.eqv (toPy (pairD a)) (toPy (pairD b)) = decide (a = b) := by
  have e := eqv_tupM (f := D.int) (fun i j => by rw [toPy, toPy]; exact eqv_int i j) [a.1, (a.2 : Int)] [b.1, (b.2 : Int)]
  refine e.trans ?_
  by_cases h : a = b
  · rw [decide_eq_true h, decide_eq_true (by rw [h])]
  · rw [decide_eq_false h]
    refine decide_eq_false fun z => h (Prod.ext (List.cons.inj z).1 ?_)
    have := (List.cons.inj (List.cons.inj z).2).1
    omega
theorem eqv_rowsM (a b : List (List (Int × Nat))) : PyData.eqv (toPy (rowsM a)) (toPy (rowsM b)) = decide (a = b) := eqv_tupM (fun x y => eqv_tupM eqv_pairD x y) a b
theorem layL_map {α : Type} {f : α → D} {k : Nat} (h : ∀ a, PyData.canLay0 (toPy (f a)) = true ∧ PyData.depth (toPy (f a)) ≤ k) : ∀ xs : List α, PyData.canLayAll0 (toPyL (xs.map f)) = true ∧ PyData.depthAll (toPyL (xs.map f)) ≤ k
  | [] => ⟨by rw [List.map_nil, toPyL, PyData.canLayAll0], by rw [List.map_nil, toPyL, PyData.depthAll]; exact Nat.zero_le _⟩
  | x :: xs => by
    obtain ⟨h1, h2⟩ := layL_map h xs
    obtain ⟨h3, h4⟩ := h x
    rw [List.map_cons, toPyL]
    exact ⟨by rw [PyData.canLayAll0, h1, h3]; rfl, by rw [PyData.depthAll]; exact Nat.max_le.mpr ⟨h4, h2⟩⟩
theorem lay_tupM {α : Type} {f : α → D} {k : Nat} (h : ∀ a, PyData.canLay0 (toPy (f a)) = true ∧ PyData.depth (toPy (f a)) ≤ k) (xs : List α) : PyData.canLay0 (toPy (.tup (xs.map f))) = true ∧ PyData.depth (toPy (.tup (xs.map f))) ≤ k + 1 := by
  obtain ⟨h1, h2⟩ := layL_map h xs
  rw [toPy, PyData.canLay0, PyData.depth]
  exact ⟨h1, by omega⟩
theorem rows_shaped (rs : List (List (Int × Nat))) : SeqAt.shaped (toPy (rowsM rs)) = true := by
  have h := lay_tupM (k := 2) (fun r => lay_tupM (k := 1) (f := pairD) (fun q => lay_tupM (k := 0) (f := D.int) (fun i => ⟨by rw [toPy, PyData.canLay0], by rw [toPy, PyData.depth]; exact Nat.le_refl 0⟩) [q.1, (q.2 : Int)]) r) rs
  obtain ⟨h1, h2⟩ := h
  have e1 : PyData.canLay0 (toPy (rowsM rs)) = true := h1
  have e2 : PyData.depth (toPy (rowsM rs)) ≤ 2 + 1 := h2
  unfold SeqAt.shaped
  rw [e1, decide_eq_true (by omega)]
  rfl
theorem rows_cmp (rs : List (List (Int × Nat))) : Cmp (rowsM rs) := .tup fun x hx => by
  obtain ⟨r, _, rfl⟩ := List.mem_map.mp hx
  refine .tup fun y hy => ?_
  obtain ⟨q, _, rfl⟩ := List.mem_map.mp hy
  refine .tup fun z hz => ?_
  simp only [List.mem_cons, List.not_mem_nil, or_false] at hz
  rcases hz with rfl | rfl
  · exact .int _
  · exact .int _
def S_Machine_eq : Addr → List D → (D → Prop) → Prop := fun C ds R => ∃ (base first : Int) (rs : List (List (Int × Nat))) (y : D) (t : Value), ds = [machD C base first rs, y] ∧ TyW C y t ∧
  (isIns y = false → R (.bl false)) ∧ (isIns y = true → ∃ (b f : Int) (zs : List (List (Int × Nat))), y = machD C b f zs ∧ R (.bl (decide (base = b) && (decide (first = f) && decide (rs = zs)))))
theorem l_Machine_eq : ∀ C ds R, S_Machine_eq C ds R → ds.length = 2 := fun C ds R ⟨_, _, _, _, _, e, _⟩ => by rw [e]; rfl
theorem d_Machine_eq (T : Txt K mg) : ∃ C, mg "Machine" = some (.ref C) ∧ EqF K C ∧ MDfn P w K mg bs 1 C "__eq__" ["self", "other"] (S_Machine_eq C) := by
  refine mkM (k := 0) T.s_Machine_eq sc_Machine_eq (fun _ _ _ _ _ _ us hl => match us, hl with | [_, _], _ => rfl) l_Machine_eq fun C_Machine f cdv A outer s H E gC_Machine kE hr => ?_
  have hu := hu_of hr
  refine ⟨_, (pss_cons (ps_if (pt_not (pt_val (pe_callB (call_isiK0 (K0 := K) (by rfl)) (by rfl) T.n_isinstance (by decide +kernel) (pa_cons (pv 1) (pa_cons (pe_glob (v := .ref C_Machine) (by rfl) gC_Machine rfl) pa_nil))))) (pss_one (ps_ret pe_bl)) pss_nil)
      (pss_one (ps_ret (pe_and (pe_cmpR op_eq (pe_fld (pv 0) rfl) (pe_fld (pv 1) rfl) (nomark _)) (pe_and (pe_cmpR op_eq (pe_fld (pv 0) rfl) (pe_fld (pv 1) rfl) (nomark _)) (pe_one (pe_cmpR (op_eqK (K0 := K) (by rfl) hr.units) (pe_fld (pv 0) rfl) (pe_fld (pv 1) rfl) (nomark _)))))))), fun h H0 G0 ds R hS => ?_⟩
  obtain ⟨base, first, rs, y, t, rfl, ty, h0, h1⟩ := hS
  refine ws_seq (ws_if (wt_not (wt_B (we_isiC kE (we_var rfl ⟨t, _, ty, kit_own kE ty, _, rfl, ?_⟩)))))
  cases hb : isIns y with
  | false => exact ws_ret (we_bl (h0 hb))
  | true =>
    obtain ⟨b, f, zs, rfl, hR⟩ := h1 hb
    refine ws_next (ws_ret (we_andV (we_eqI (we_fld (we_var rfl ⟨_, _, _, rfl, lk_base, _, rfl, we_fld (we_var rfl ⟨_, _, _, rfl, lk_base, _, rfl, _, rfl, fun e1 => ?_, fun e1 => ?_⟩)⟩)))))
    · rw [e1, Bool.true_and] at hR
      refine we_andV (we_eqI (we_fld (we_var rfl ⟨_, _, _, rfl, lk_first, _, rfl, we_fld (we_var rfl ⟨_, _, _, rfl, lk_first, _, rfl, _, rfl, fun e2 => ?_, fun e2 => ?_⟩)⟩)))
      · rw [e2, Bool.true_and] at hR
        refine we_eqD (we_fld (we_var rfl ⟨_, _, _, rfl, lk_rows, rows_cmp rs, rows_shaped rs, we_fld (we_var rfl ⟨_, _, _, rfl, lk_rows, rows_cmp zs, rows_shaped zs, ?_⟩)⟩))
        rw [eqv_rowsM]
        exact hR
      · rw [e2, Bool.false_and] at hR
        exact hR
    · rw [e1, Bool.false_and] at hR
      exact hR
def Ty (x : D) : Prop := ∃ t, tyD x = some t
def rowD (ps qs : List Int) : D := .tup [.tup (ps.map D.int), .tup (qs.map D.int)]
/-! ### kinds -/
def S_is_integer (mg : Str → Option Value) : List D → (D → Prop) → Prop := fun ds R => (∃ x t, ds = [x] ∧ tyD x = some t ∧ R (.bl (isI x))) ∨ ∃ C fs, ds = [.ins C fs] ∧ mg "Machine" = some (.ref C) ∧ R (.bl false)
theorem l_is_integer (mg : Str → Option Value) : ∀ ds R, S_is_integer mg ds R → ds.length = 1 := fun ds R h => by rcases h with ⟨_, _, e, _⟩ | ⟨_, _, e, _⟩ <;> rw [e] <;> rfl
theorem d_is_integer (T : Txt K mg) : Dfn P w K mg bs 3 "is_integer" ["thing"] (S_is_integer mg) := by
  obtain ⟨CE_Machine, gE_Machine, kE_Machine, E_Machine⟩ := d_Machine_eq (P := P) (w := w) (bs := bs) T
  refine mkD (k := 2) T.s_is_integer sc_is_integer (fun _ _ _ _ _ _ us hl => match us, hl with | [_], _ => rfl) (l_is_integer mg) fun f cdv A outer s H E hr => ?_
  have hu := hu_of hr
  refine ⟨_, (pss_one (ps_ret (pe_and (pe_callB (call_isiK0 (K0 := K) (by rfl)) (by rfl) T.n_isinstance (by decide +kernel) (pa_cons (pv 0) (pa_cons (pe_bltn (v := .ty "int") (by rfl) T.n_int (by decide +kernel) rfl) pa_nil))) (pe_one (pe_not (pe_callB (call_isiK0 (K0 := K) (by rfl)) (by rfl) T.n_isinstance (by decide +kernel) (pa_cons (pv 0) (pa_cons (pe_bltn (v := .ty "bool") (by rfl) T.n_bool (by decide +kernel) rfl) pa_nil)))))))), fun h H0 G0 ds R hS => ?_⟩
  rcases hS with ⟨x, t, rfl, ht, hR⟩ | ⟨C, fs, rfl, hC, hR⟩
  · refine ws_ret (we_andV (we_isi (we_var rfl ⟨t, _, ht, kb_int ht, _, rfl, fun hb => ?_, fun hb => ?_⟩)))
    · refine we_notV (we_isi (we_var rfl ⟨t, _, ht, kb_bool ht, _, rfl, ?_⟩))
      have e : (!isBl x) = isI x := by cases x <;> first | rfl | cases hb
      rw [e]; exact hR
    · have e : isI x = false := by cases x <;> first | rfl | cases hb
      rw [e] at hR; exact hR
  · obtain rfl : CE_Machine = C := by rw [gE_Machine] at hC; cases hC; rfl
    exact ws_ret (we_andV (we_isiW kE_Machine (we_var rfl ⟨_, false, .inr ⟨_, rfl, rfl⟩, kE_Machine.kb "int" (by decide), _, rfl, fun hb => (by cases hb), fun _ => hR⟩)))
def within (lo hi : Int) : D → Bool | .int i => decide (lo ≤ i) && decide (i ≤ hi) | _ => false
/-- a thing of a kind that is known, or a machine -/
def TM (mg : Str → Option Value) (x : D) : Prop := Ty x ∨ ∃ C fs, x = .ins C fs ∧ mg "Machine" = some (.ref C)
theorem tm_int {mg : Str → Option Value} {y : D} {R : D → Prop} (h : TM mg y) (q : R (.bl (isI y))) : S_is_integer mg [y] R := by
  rcases h with ⟨t, ht⟩ | ⟨C, fs, rfl, hC⟩
  · exact .inl ⟨y, t, rfl, ht, q⟩
  · exact .inr ⟨C, fs, rfl, hC, q⟩
def S_is_integer_within (mg : Str → Option Value) : List D → (D → Prop) → Prop := fun ds R => ∃ x lo hi, ds = [x, .int lo, .int hi] ∧ TM mg x ∧ R (.bl (within lo hi x))
theorem l_is_integer_within (mg : Str → Option Value) : ∀ ds R, S_is_integer_within mg ds R → ds.length = 3 := fun ds R ⟨_, _, _, e, _⟩ => by rw [e]; rfl
theorem d_is_integer_within (T : Txt K mg) : Dfn P w K mg bs 4 "is_integer_within" ["thing", "low", "high"] (S_is_integer_within mg) := by
  have D_is_integer := d_is_integer (P := P) (w := w) (bs := bs) T
  refine mkD (k := 3) T.s_is_integer_within sc_is_integer_within (fun _ _ _ _ _ _ us hl => match us, hl with | [_, _, _], _ => rfl) (l_is_integer_within mg) fun f cdv A outer s H E hr => ?_
  have hu := hu_of hr
  refine ⟨_, (pss_one (ps_ret (pe_and (pe_callK0 (K0 := K) (by rfl) D_is_integer (hr.mono (by decide)) (pa_cons (pv 0) pa_nil)) (pe_one (pe_chain op_le op_le (pv 1) (pv 0) (pv 2)))))), fun h H0 G0 ds R hS => ?_⟩
  obtain ⟨x, lo, hi, rfl, hx, hR⟩ := hS
  refine ws_ret (we_andV (we_call (wa_cons (we_var rfl (wa_nil (tm_int hx ⟨_, rfl, fun hb => ?_, fun hb => ?_⟩))))))
  · obtain ⟨i, rfl⟩ : ∃ i, x = D.int i := by cases x <;> first | exact ⟨_, rfl⟩ | cases hb
    refine we_chain (we_var rfl ⟨_, rfl, we_var rfl ⟨_, rfl, fun h1 => we_var rfl ⟨_, rfl, ?_⟩, fun h1 => ?_⟩⟩)
    · have e : within lo hi (.int i) = decide (i ≤ hi) := by show (decide (lo ≤ i) && decide (i ≤ hi)) = _; rw [h1, Bool.true_and]
      rw [e] at hR; exact hR
    · have e : within lo hi (.int i) = false := by show (decide (lo ≤ i) && decide (i ≤ hi)) = _; rw [h1, Bool.false_and]
      rw [e] at hR; exact hR
  · have e : within lo hi x = false := by cases x <;> first | rfl | cases hb
    rw [e] at hR; exact hR
def S_is_base : List D → (D → Prop) → Prop := fun ds R => ∃ x t, ds = [x] ∧ tyD x = some t ∧ R (.bl (within 2 5 x))
theorem l_is_base : ∀ ds R, S_is_base ds R → ds.length = 1 := fun ds R ⟨_, _, e, _⟩ => by rw [e]; rfl
theorem d_is_base (T : Txt K mg) : Dfn P w K mg bs 5 "is_base" ["thing"] S_is_base := by
  have D_is_integer_within := d_is_integer_within (P := P) (w := w) (bs := bs) T
  refine mkD (k := 4) T.s_is_base sc_is_base (fun _ _ _ _ _ _ us hl => match us, hl with | [_], _ => rfl) l_is_base fun f cdv A outer s H E hr => ?_
  have hu := hu_of hr
  refine ⟨_, (pss_one (ps_ret (pe_callK0 (K0 := K) (by rfl) D_is_integer_within (hr.mono (by decide)) (pa_cons (pv 0) (pa_cons pe_int (pa_cons pe_int pa_nil)))))), fun h H0 G0 ds R hS => ?_⟩
  obtain ⟨x, t, rfl, ht, hR⟩ := hS
  exact ws_ret (we_call (wa_cons (we_var rfl (wa_cons (we_int (wa_cons (we_int (wa_nil ⟨x, _, _, rfl, .inl ⟨t, ht⟩, hR⟩))))))))
def tupOf (n : Int) : D → Bool | .tup xs => decide ((xs.length : Int) = n) | _ => false
def S_is_tuple_of (mg : Str → Option Value) : List D → (D → Prop) → Prop := fun ds R => (∃ x t n, ds = [x, .int n] ∧ tyD x = some t ∧ R (.bl (tupOf n x))) ∨ ∃ C fs n, ds = [.ins C fs, .int n] ∧ mg "Machine" = some (.ref C) ∧ R (.bl false)
theorem l_is_tuple_of (mg : Str → Option Value) : ∀ ds R, S_is_tuple_of mg ds R → ds.length = 2 := fun ds R h => by rcases h with ⟨_, _, _, e, _⟩ | ⟨_, _, _, e, _⟩ <;> rw [e] <;> rfl
theorem d_is_tuple_of (T : Txt K mg) : Dfn P w K mg bs 3 "is_tuple_of" ["thing", "many"] (S_is_tuple_of mg) := by
  obtain ⟨CE_Machine, gE_Machine, kE_Machine, E_Machine⟩ := d_Machine_eq (P := P) (w := w) (bs := bs) T
  refine mkD (k := 2) T.s_is_tuple_of sc_is_tuple_of (fun _ _ _ _ _ _ us hl => match us, hl with | [_, _], _ => rfl) (l_is_tuple_of mg) fun f cdv A outer s H E hr => ?_
  have hu := hu_of hr
  refine ⟨_, (pss_one (ps_ret (pe_and (pe_callB (call_isiK0 (K0 := K) (by rfl)) (by rfl) T.n_isinstance (by decide +kernel) (pa_cons (pv 0) (pa_cons (pe_bltn (v := .ty "tuple") (by rfl) T.n_tuple (by decide +kernel) rfl) pa_nil))) (pe_one (pe_cmpR op_eq (pe_callB (call_lenK (K0 := K) (by rfl)) (by rfl) T.n_len (by decide +kernel) (pa_cons (pv 0) pa_nil)) (pv 1) (nomark _)))))), fun h H0 G0 ds R hS => ?_⟩
  rcases hS with ⟨x, t, n, rfl, ht, hR⟩ | ⟨C, fs, n, rfl, hC, hR⟩
  · refine ws_ret (we_andV (we_isi (we_var rfl ⟨t, _, ht, kb_tuple ht, _, rfl, fun hb => ?_, fun hb => ?_⟩)))
    · obtain ⟨xs, rfl⟩ : ∃ xs, x = D.tup xs := by cases x <;> first | exact ⟨_, rfl⟩ | cases hb
      exact we_eqI (we_len (we_var rfl ⟨_, .inr rfl, _, rfl, we_var rfl ⟨_, rfl, hR⟩⟩))
    · have e : tupOf n x = false := by cases x <;> first | rfl | cases hb
      rw [e] at hR; exact hR
  · obtain rfl : CE_Machine = C := by rw [gE_Machine] at hC; cases hC; rfl
    exact ws_ret (we_andV (we_isiW kE_Machine (we_var rfl ⟨_, false, .inr ⟨_, rfl, rfl⟩, kE_Machine.kb "tuple" (by decide), _, rfl, fun hb => (by cases hb), fun _ => hR⟩)))
/-! ### machines, of parts that may be wrong -/
/-- the things in it, so deep, are of kinds that are known -/
def TyN : Nat → D → Prop
  | 0, x => Ty x
  | n + 1, x => Ty x ∧ ∀ xs, x = .tup xs → xs.length ≤ 4000000 ∧ ∀ y ∈ xs, TyN n y
theorem TyN.ty : ∀ {n : Nat} {x : D}, TyN n x → Ty x
  | 0, _, h => h
  | _ + 1, _, h => h.1
def S_is_index : List D → (D → Prop) → Prop := fun ds R => ∃ (many : Int) (x : D), ds = [.int many, x] ∧ Ty x ∧ R (.bl (within 0 (many - 1) x))
theorem l_is_index : ∀ ds R, S_is_index ds R → ds.length = 2 := fun ds R ⟨_, _, e, _⟩ => by rw [e]; rfl
theorem d_is_index (T : Txt K mg) : Dfn P w K mg bs 5 "is_index" ["many", "thing"] S_is_index := by
  have D_is_integer_within := d_is_integer_within (P := P) (w := w) (bs := bs) T
  refine mkD (k := 4) T.s_is_index sc_is_index (fun _ _ _ _ _ _ us hl => match us, hl with | [_, _], _ => rfl) l_is_index fun f cdv A outer s H E hr => ?_
  have hu := hu_of hr
  refine ⟨_, (pss_one (ps_ret (pe_callK0 (K0 := K) (by rfl) D_is_integer_within (hr.mono (by decide)) (pa_cons (pv 1) (pa_cons pe_int (pa_cons (pe_op op_sub (pv 0) pe_int) pa_nil)))))), fun h H0 G0 ds R hS => ?_⟩
  obtain ⟨many, x, rfl, ⟨t, ht⟩, hR⟩ := hS
  exact ws_ret (we_call (wa_cons (we_var rfl (wa_cons (we_int (wa_cons (we_I0 (we_var rfl ⟨_, rfl, we_int ⟨_, rfl, wa_nil ⟨x, _, _, rfl, .inl ⟨t, ht⟩, hR⟩⟩⟩))))))))
/-- right as a pair of an integer and a state -/
def pairOk (n : Nat) : D → Bool | .tup [a, b] => isI a && within 0 ((n : Int) - 1) b | _ => false
theorem pairOk_no {n : Nat} {x : D} (h : tupOf 2 x = false) : pairOk n x = false := by
  unfold pairOk
  split
  · exact Bool.noConfusion (show true = false from h)
  · rfl
def S_is_pair_of_state : List D → (D → Prop) → Prop := fun ds R => ∃ (n : Nat) (x : D), ds = [.int (n : Int), x] ∧ TyN 1 x ∧ R (.bl (pairOk n x))
theorem l_is_pair_of_state : ∀ ds R, S_is_pair_of_state ds R → ds.length = 2 := fun ds R ⟨_, _, e, _⟩ => by rw [e]; rfl
theorem d_is_pair_of_state (T : Txt K mg) : Dfn P w K mg bs 6 "is_pair_of_state" ["many", "thing"] S_is_pair_of_state := by
  have D_is_tuple_of := d_is_tuple_of (P := P) (w := w) (bs := bs) T
  have D_is_integer := d_is_integer (P := P) (w := w) (bs := bs) T
  have D_is_index := d_is_index (P := P) (w := w) (bs := bs) T
  refine mkD (k := 5) T.s_is_pair_of_state sc_is_pair_of_state (fun _ _ _ _ _ _ us hl => match us, hl with | [_, _], _ => rfl) l_is_pair_of_state fun f cdv A outer s H E hr => ?_
  have hu := hu_of hr
  refine ⟨_, (pss_one (ps_ret (pe_and (pe_callK0 (K0 := K) (by rfl) D_is_tuple_of (hr.mono (by decide)) (pa_cons (pv 1) (pa_cons pe_int pa_nil))) (pe_and (pe_callK0 (K0 := K) (by rfl) D_is_integer (hr.mono (by decide)) (pa_cons (pe_ix (ix_tupK (K0 := K) (by rfl)) (pv 1) pe_int (fun _ _ => rfl)) pa_nil)) (pe_one (pe_callK0 (K0 := K) (by rfl) D_is_index (hr.mono (by decide)) (pa_cons (pv 0) (pa_cons (pe_ix (ix_tupK (K0 := K) (by rfl)) (pv 1) pe_int (fun _ _ => rfl)) pa_nil)))))))), fun h H0 G0 ds R hS => ?_⟩
  obtain ⟨n, x, rfl, ⟨⟨t, ht⟩, hx⟩, hR⟩ := hS
  refine ws_ret (we_andV (we_call (wa_cons (we_var rfl (wa_cons (we_int (wa_nil (.inl ⟨x, t, 2, rfl, ht, _, rfl, fun hb => ?_, fun hb => ?_⟩))))))))
  · obtain ⟨a, b, rfl⟩ : ∃ a b, x = D.tup [a, b] := by
      cases x with
      | tup xs =>
        have hl : decide ((xs.length : Int) = 2) = true := hb
        have h2 := of_decide_eq_true hl
        match xs, h2 with
        | [a, b], _ => exact ⟨a, b, rfl⟩
        | [], h => exact absurd h (by decide)
        | [a], h => simp only [List.length_cons, List.length_nil] at h; omega
        | a :: b :: c :: r, h => simp only [List.length_cons] at h; omega
      | _ => cases hb
    have ha : Ty a := (hx _ rfl).2 a (by simp)
    have hb2 : Ty b := (hx _ rfl).2 b (by simp)
    obtain ⟨ta, hta⟩ := ha
    refine we_andV (we_call (wa_cons (we_ixT (we_var rfl ⟨_, rfl, we_int ⟨0, _, rfl, rfl, wa_nil (.inl ⟨a, ta, rfl, hta, _, rfl, fun h1 => ?_, fun h1 => ?_⟩)⟩⟩))))
    · refine we_call (wa_cons (we_var rfl (wa_cons (we_ixT (we_var rfl ⟨_, rfl, we_int ⟨1, _, rfl, rfl, wa_nil ⟨_, b, rfl, hb2, ?_⟩⟩⟩)))))
      have e : pairOk n (.tup [a, b]) = within 0 ((n : Int) - 1) b := by show (isI a && _) = _; rw [h1, Bool.true_and]
      rw [e] at hR; exact hR
    · have e : pairOk n (.tup [a, b]) = false := by show (isI a && _) = _; rw [h1, Bool.false_and]
      rw [e] at hR; exact hR
  · rw [pairOk_no hb] at hR; exact hR
/-- the items of a tuple -/
def tupL : D → List D | .tup xs => xs | _ => []
def rowOk (base : Int) (n : Nat) (x : D) : Bool := tupOf (2 * base - 1) x && (tupL x).all (pairOk n)
def S_is_row_of_pairs : List D → (D → Prop) → Prop := fun ds R => ∃ (base : Int) (n : Nat) (x : D), ds = [.int base, .int (n : Int), x] ∧ 0 ≤ base ∧ base ≤ 5 ∧ TyN 2 x ∧ R (.bl (rowOk base n x))
theorem l_is_row_of_pairs : ∀ ds R, S_is_row_of_pairs ds R → ds.length = 3 := fun ds R ⟨_, _, _, e, _⟩ => by rw [e]; rfl
theorem take_succ_map {α β : Type} {xs : List α} {k : Nat} {x : α} (f : α → β) (h : xs[k]? = some x) : (xs.take (k + 1)).map f = (xs.take k).map f ++ [f x] := by
  rw [List.take_succ, h, List.map_append]
  rfl
theorem d_is_row_of_pairs (T : Txt K mg) : Dfn P w K mg bs 7 "is_row_of_pairs" ["base", "many", "thing"] S_is_row_of_pairs := by
  have D_is_tuple_of := d_is_tuple_of (P := P) (w := w) (bs := bs) T
  have D_is_pair_of_state := d_is_pair_of_state (P := P) (w := w) (bs := bs) T
  refine mkD (k := 6) T.s_is_row_of_pairs sc_is_row_of_pairs (fun _ _ _ _ _ _ us hl => match us, hl with | [_, _, _], _ => rfl) l_is_row_of_pairs fun f cdv A outer s H E hr => ?_
  have hu := hu_of hr
  refine ⟨_, (pss_one (ps_ret (pe_and (pe_callK0 (K0 := K) (by rfl) D_is_tuple_of (hr.mono (by decide)) (pa_cons (pv 2) (pa_cons (pe_op op_sub (pe_op op_mulA pe_int (pv 0)) pe_int) pa_nil))) (pe_one (pe_callB (cr_all rfl) (by rfl) T.n_all (by decide +kernel) (pa_cons (pe_lc (own := [("pair", 3)]) (g := (gName 3)) rfl sc_is_row_of_pairs.nd (pi_tupK (K0 := K) (by rfl) (pv 2)) (blkOk_by (N := N_is_row_of_pairs) (sc := defScope s_is_row_of_pairs) (by decide +kernel)) (fun _ _ _ _ _ => by exact (pg_name (i := 3) sc_is_row_of_pairs.nd rfl (Or.inl rfl))) (fun _ _ _ _ _ => by exact pts_nil) (fun _ _ _ _ _ => by exact (pe_callK0 (K0 := K) (by rfl) D_is_pair_of_state (hr.mono (by decide)) (pa_cons (pv 1) (pa_cons (pv 3) pa_nil))))) pa_nil)))))), fun h H0 G0 ds R hS => ?_⟩
  obtain ⟨base, n, x, rfl, hb0, hb5, ⟨⟨t, ht⟩, hx⟩, hR⟩ := hS
  refine ws_ret (we_andV (we_call (wa_cons (we_var rfl (wa_cons (we_I0 (we_I (we_int ⟨_, rfl, we_var rfl ⟨_, rfl, .inl (by omega), _, rfl, we_int ⟨_, rfl, wa_nil (.inl ⟨x, t, _, rfl, ht, _, rfl, fun h => ?_, fun h => ?_⟩)⟩⟩⟩))))))))
  · obtain ⟨xs, rfl⟩ : ∃ xs, x = D.tup xs := by cases x <;> first | exact ⟨_, rfl⟩ | cases h
    obtain ⟨hl, hit⟩ := hx xs rfl
    refine we_all (we_F (wf_lcT (we_var rfl ⟨_, rfl, hl, fun k acc => acc = (xs.take k).map fun y => .bl (pairOk n y), rfl, ?_, ?_⟩)))
    · rintro k y acc hk rfl _
      refine wgp_name ?_ ?_
      · decide
      refine wt_yes ?_
      rw [if_pos rfl]
      refine we_call (wa_cons (we_var rfl (wa_cons (we_var rfl (wa_nil ⟨n, y, rfl, hit y (List.mem_of_getElem? hk), ?_⟩)))))
      exact (take_succ_map (fun y => D.bl (pairOk n y)) hk).symm
    · rintro acc rfl
      refine ⟨xs.map (pairOk n), by rw [List.take_length, List.map_map]; rfl, ?_⟩
      have e : (xs.map (pairOk n)).all id = rowOk base n (.tup xs) := by
        show _ = (tupOf (2 * base - 1) (.tup xs) && xs.all (pairOk n))
        rw [h, Bool.true_and, List.all_map]
        rfl
      rw [e]; exact hR
  · have e : rowOk base n x = false := by unfold rowOk; rw [h, Bool.false_and]
    rw [e] at hR; exact hR
theorem findIdx_at {p : D → Bool} : ∀ {xs : List D} {k : Nat} {y : D}, xs[k]? = some y → p y = true → (∀ z ∈ xs.take k, p z = false) → xs.findIdx? p = some k
  | x :: xs, 0, y, h, hp, _ => by
    cases h
    rw [List.findIdx?_cons, if_pos hp]
  | x :: xs, k + 1, y, h, hp, hz => by
    rw [List.findIdx?_cons, if_neg (by rw [hz x (by simp)]; decide), findIdx_at (k := k) (y := y) h hp fun z h => hz z (by rw [List.take_succ_cons]; exact List.mem_cons_of_mem _ h)]
    rfl
/-- what is wrong with the parts, if anything -/
def partsBad (b f r : D) : Option D :=
  if within 2 5 b = false then some (.str "base") else
  if isI f = false then some (.str "first") else
  match r, b with
  | .tup xs, .int base => if xs = [] then some (.str "rows") else (xs.findIdx? fun y => !rowOk base xs.length y).map fun (s : Nat) => D.int ((s : Nat) : Int)
  | _, _ => some (.str "rows")
def S_Machine : Addr → List D → (Out → Prop) → Prop := fun C ds R => ∃ (b f r : D), ds = [b, f, r] ∧ Ty b ∧ Ty f ∧ TyN 3 r ∧ (partsBad b f r = none → R (.ok (.ins C [("base", b), ("first", f), ("rows", r)]))) ∧ ∀ y, partsBad b f r = some y → R (.ex "BadMachine" [("part", y)])
theorem l_Machine : ∀ C ds R, S_Machine C ds R → ds.length + 1 = 4 := fun C ds R ⟨_, _, _, e, _⟩ => by rw [e]; rfl
theorem d_Machine (T : Txt K mg) : ∃ C, mg "Machine" = some (.ref C) ∧ Cls K C ∧ (∀ g, g ∈ (["base", "first", "rows"] : List Str) → NoAttr K C g) ∧ MakX P w K mg bs 8 "Machine" C ["self", "base", "first", "rows"] S_Machine := by
  have D_is_base := d_is_base (P := P) (w := w) (bs := bs) T
  have D_is_integer := d_is_integer (P := P) (w := w) (bs := bs) T
  have D_is_row_of_pairs := d_is_row_of_pairs (P := P) (w := w) (bs := bs) T
  obtain ⟨C_BadMachine, X_BadMachine⟩ := x_BadMachine (P := P) (w := w) (bs := bs) T
  refine mkC (k := 7) T.s_Machine sc_Machine (fun _ _ _ _ _ _ us hl => match us, hl with | [_, _, _, _], _ => rfl) l_Machine (by decide) fun C b f cdv A outer s H E hc hn hr => ?_
  have hu := hu_of hr
  refine ⟨_, (pss_cons (ps_if (pt_not (pt_val (pe_callK0 (K0 := K) (by rfl) D_is_base (hr.mono (by decide)) (pa_cons (pv 1) pa_nil)))) (pss_one (ps_rz1 X_BadMachine (hr.mono (by decide)) (L2.takes_of rfl rfl rfl rfl) pe_str)) pss_nil)
      (pss_cons (ps_if (pt_not (pt_val (pe_callK0 (K0 := K) (by rfl) D_is_integer (hr.mono (by decide)) (pa_cons (pv 2) pa_nil)))) (pss_one (ps_rz1 X_BadMachine (hr.mono (by decide)) (L2.takes_of rfl rfl rfl rfl) pe_str)) pss_nil)
      (pss_cons (ps_if (PW.pt (pw_or (pt_not (pt_val (pe_callB (call_isiK0 (K0 := K) (by rfl)) (by rfl) T.n_isinstance (by decide +kernel) (pa_cons (pv 3) (pa_cons (pe_bltn (v := .ty "tuple") (by rfl) T.n_tuple (by decide +kernel) rfl) pa_nil))))) (pw_or1 (pt_cmpR op_eq (pe_callB (call_lenK (K0 := K) (by rfl)) (by rfl) T.n_len (by decide +kernel) (pa_cons (pv 3) pa_nil)) pe_int (nomark _))))) (pss_one (ps_rz1 X_BadMachine (hr.mono (by decide)) (L2.takes_of rfl rfl rfl rfl) pe_str)) pss_nil)
      (pss_cons (ps_for (passes_of rfl) rfl (pi_enT (K0 := K) (by rfl) (by rfl) T.n_enumerate (pa_cons (pv 3) pa_nil)) (pg_tup rfl (pgs_cons (pg_name (i := 4) sc_Machine.nd rfl (Or.inl rfl)) (pgs_cons (pg_name (i := 5) sc_Machine.nd rfl (Or.inl rfl)) pgs_nil)))
      (pss_one (ps_if (pt_not (pt_val (pe_callK0 (K0 := K) (by rfl) D_is_row_of_pairs (hr.mono (by decide)) (pa_cons (pv 1) (pa_cons (pe_callB (call_lenK (K0 := K) (by rfl)) (by rfl) T.n_len (by decide +kernel) (pa_cons (pv 3) pa_nil)) (pa_cons (pv 5) pa_nil)))))) (pss_one (ps_rz1 X_BadMachine (hr.mono (by decide)) (L2.takes_of rfl rfl rfl rfl) (pv 4))) pss_nil)))
      (pss_cons (ps_fld (pv 0) (pv 1) rfl)
      (pss_cons (ps_fld (pv 0) (pv 2) rfl)
      (pss_one (ps_fld (pv 0) (pv 3) rfl)))))))), fun h H0 G0 ds R hS hW => ?_⟩
  obtain ⟨b0, f0, r0, rfl, ⟨tb, htb⟩, ⟨tf, htf⟩, hr0, hok, hbad⟩ := hS
  obtain ⟨⟨tr, htr⟩, hrows⟩ := id hr0
  refine ws_seq (ws_if (wt_not (wt_B (we_call (wa_cons (we_var rfl (wa_nil ⟨b0, tb, rfl, htb, _, rfl, ?_⟩)))))))
  cases hb : within 2 5 b0 with
  | false => exact ws_raise1 hW X_BadMachine.gC (we_str (hbad _ (by unfold partsBad; rw [if_pos hb])))
  | true =>
  obtain ⟨base, rfl, hb1, hb2⟩ : ∃ i : Int, b0 = .int i ∧ 2 ≤ i ∧ i ≤ 5 := by
    cases b0 with
    | int i =>
      have h : (decide (2 ≤ i) && decide (i ≤ 5)) = true := hb
      obtain ⟨h1, h2⟩ := (Bool.and_eq_true_iff).mp h
      exact ⟨i, rfl, of_decide_eq_true h1, of_decide_eq_true h2⟩
    | _ => cases hb
  refine ws_next (ws_seq (ws_if (wt_not (wt_B (we_call (wa_cons (we_var rfl (wa_nil (.inl ⟨f0, tf, rfl, htf, _, rfl, ?_⟩)))))))))
  cases hf : isI f0 with
  | false => exact ws_raise1 hW X_BadMachine.gC (we_str (hbad _ (by unfold partsBad; rw [if_neg (by rw [hb]; decide), if_pos hf])))
  | true =>
  have step : ∀ {r : D}, partsBad (.int base) f0 r = match r, D.int base with
    | .tup xs, .int base => if xs = [] then some (.str "rows") else (xs.findIdx? fun y => !rowOk base xs.length y).map fun (s : Nat) => D.int ((s : Nat) : Int)
    | _, _ => some (.str "rows") := fun {r} => by
    unfold partsBad
    rw [if_neg (by rw [hb]; decide), if_neg (by rw [hf]; decide)]
  refine ws_next (ws_seq (ws_if (wt_or (wt_not (wt_B (we_isi (we_var rfl ⟨tr, _, htr, kb_tuple htr, _, rfl, fun h => ?_, fun h => ?_⟩)))))))
  · obtain ⟨xs, rfl⟩ : ∃ xs, r0 = D.tup xs := by cases r0 <;> first | exact ⟨_, rfl⟩ | cases h
    obtain ⟨hl, hit⟩ := hrows xs rfl
    refine wt_T (we_eqI (we_len (we_var rfl ⟨_, .inr rfl, _, rfl, we_int ⟨_, rfl, _, rfl, ?_⟩⟩)))
    refine ite2 (fun hz => ?_) (fun hz => ?_)
    · have e : xs = [] := List.length_eq_zero_iff.mp (by have := of_decide_eq_true hz; omega)
      exact ws_raise1 hW X_BadMachine.gC (we_str (hbad _ (by rw [step]; dsimp only; rw [if_pos e])))
    · have hne : xs ≠ [] := fun e => hz (by rw [e]; rfl)
      refine ws_next ?_
      have due : partsBad (.int base) f0 (.tup xs) = (xs.findIdx? fun y => !rowOk base xs.length y).map fun (s : Nat) => D.int ((s : Nat) : Int) := by rw [step]; dsimp only; rw [if_neg hne]
      refine ws_seq (ws_to (fun ρ => (∀ y ∈ xs, rowOk base xs.length y = true) ∧ ∃ r4 r5 : Option Cell, ρ = [some (.oi b C []), some (.d (.int base)), some (.d f0), some (.d (.tup xs)), r4, r5]) (ws_forEnumT (wa_cons (we_var rfl (wa_nil ⟨_, rfl, fun k ρ => (∀ y ∈ xs.take k, rowOk base xs.length y = true) ∧ ∃ r4 r5 : Option Cell, ρ = [some (.oi b C []), some (.d (.int base)), some (.d f0), some (.d (.tup xs)), r4, r5], ⟨(fun y hy => by rw [List.take_zero] at hy; cases hy), _, _, rfl⟩, ?_, ?_⟩)))) ?_)
      · rintro k y ρ hk ⟨hgood, r4, r5, rfl⟩
        refine wg_tup ⟨_, rfl, rfl, wgs_cons ⟨_, _, rfl, wg_name (wgs_cons ⟨_, _, rfl, wg_name (wgs_nil ⟨rfl, ?_⟩)⟩)⟩⟩
        refine ws_if (wt_not (wt_B (we_call (wa_cons (we_var rfl (wa_cons (we_len (we_var rfl ⟨_, .inr rfl, wa_cons (we_var rfl (wa_nil ⟨base, xs.length, y, rfl, by omega, hb2, hit y (List.mem_of_getElem? hk), _, rfl, ?_⟩))⟩))))))))
        cases hro : rowOk base xs.length y with
        | false =>
          refine ws_raise1 hW X_BadMachine.gC (we_var rfl (hbad _ ?_))
          rw [due, findIdx_at hk (by rw [hro]; rfl) fun z hz => by rw [hgood z hz]; rfl]
          rfl
        | true =>
          refine ws_next ⟨fun z hz => ?_, _, _, rfl⟩
          rw [List.take_succ, hk] at hz
          rcases List.mem_append.mp hz with h | h
          · exact hgood z h
          · rw [List.mem_singleton.mp h]; exact hro
      · rintro ρ ⟨hgood, h⟩
        rw [List.take_length] at hgood
        exact ⟨hgood, h⟩
      rintro ρ ⟨hgood, r4, r5, rfl⟩
      have good : partsBad (.int base) f0 (.tup xs) = none := by
        rw [due, List.findIdx?_eq_none_iff.mpr fun z hz => by rw [hgood z hz]; rfl]
        rfl
      refine ws_seq (ws_sfld rfl hc (hn _ (by decide)) (Nat.le_of_ble_eq_true rfl) (we_var rfl ?_))
      refine ws_seq (ws_sfld rfl hc (hn _ (by decide)) (Nat.le_of_ble_eq_true rfl) (we_var rfl ?_))
      exact ws_sfld rfl hc (hn _ (by decide)) (Nat.le_of_ble_eq_true rfl) (we_var rfl ⟨_, rfl, hok good⟩)
  · have e : partsBad (.int base) f0 r0 = some (.str "rows") := by
      rw [step]
      cases r0 <;> first | rfl | cases h
    exact ws_raise1 hW X_BadMachine.gC (we_str (hbad _ e))
/-! ### fractions -/
/-- in lowest terms -/
@[irreducible] def low (t b : Int) : Int × Int := (t / (Int.gcd t b : Int), b / (Int.gcd t b : Int))
theorem low_fst (t b : Int) : (low t b).1 = t / (Int.gcd t b : Int) := by unfold low; rfl
theorem low_snd (t b : Int) : (low t b).2 = b / (Int.gcd t b : Int) := by unfold low; rfl
theorem low_is (t b : Int) : low t b = (t / (Int.gcd t b : Int), b / (Int.gcd t b : Int)) := by unfold low; rfl
def fr (x : Int × Int) : D := .tup [.int x.1, .int x.2]
theorem len2 {α : Type} {a b : α} : [a, b].length ≤ 4000000 := Nat.le_of_ble_eq_true rfl
theorem len3 {α : Type} {a b c : α} : [a, b, c].length ≤ 4000000 := Nat.le_of_ble_eq_true rfl
section
variable {p : Par} {ρ : Rho} {Q : D → Prop} {ta : TE}
theorem we_fr0 (h : WE p ρ ta fun x => ∃ y, x = fr y ∧ Q (.int y.1)) : WE p ρ (tOp (rIxT p.K) ta (tC (.int 0))) Q := we_ixT (h.imp fun x ⟨y, e, q⟩ => ⟨_, e, we_int ⟨_, _, rfl, rfl, q⟩⟩)
theorem we_fr1 (h : WE p ρ ta fun x => ∃ y, x = fr y ∧ Q (.int y.2)) : WE p ρ (tOp (rIxT p.K) ta (tC (.int 1))) Q := we_ixT (h.imp fun x ⟨y, e, q⟩ => ⟨_, e, we_int ⟨_, _, rfl, rfl, q⟩⟩)
end
theorem gcd_pos {t b : Int} (hb : 0 < b) : 0 < (Int.gcd t b : Int) := by
  have := Int.gcd_pos_of_ne_zero_right t (b := b) (by omega)
  omega
theorem gcd_le {t b : Int} (hb : 0 < b) : (Int.gcd t b : Int) ≤ b := Int.le_of_dvd hb (Int.gcd_dvd_right t b)
theorem low_cross {t b : Int} (hb : 0 < b) : (low t b).1 * b = t * (low t b).2 := by
  have hg := gcd_pos (t := t) hb
  obtain ⟨x, hx⟩ := Int.gcd_dvd_left t b
  obtain ⟨y, hy⟩ := Int.gcd_dvd_right t b
  have e1 : t / (Int.gcd t b : Int) = x := Int.ediv_eq_of_eq_mul_right (by omega) hx
  have e2 : b / (Int.gcd t b : Int) = y := Int.ediv_eq_of_eq_mul_right (by omega) hy
  rw [low_fst, low_snd]
  rw [e1, e2]
  generalize (Int.gcd t b : Int) = g at hx hy
  rw [hx, hy, Int.mul_comm g x, Int.mul_assoc]
theorem low_pos {t b : Int} (hb : 0 < b) : 0 < (low t b).2 := by
  have hg := gcd_pos (t := t) hb
  obtain ⟨y, hy⟩ := Int.gcd_dvd_right t b
  have e2 : b / (Int.gcd t b : Int) = y := Int.ediv_eq_of_eq_mul_right (by omega) hy
  rw [low_snd]
  rw [e2]
  generalize (Int.gcd t b : Int) = g at hy hg
  by_cases h : 0 < y
  · exact h
  · have : g * y ≤ 0 := Int.mul_nonpos_of_nonneg_of_nonpos (by omega) (by omega)
    omega
theorem low_le {t b : Int} (hb : 0 < b) : (low t b).2 ≤ b := by rw [low_snd]; exact Int.ediv_le_self _ (by omega)
theorem low_top {t b : Int} (hb : 0 < b) : (low t b).1.natAbs ≤ t.natAbs := by
  have hg := gcd_pos (t := t) hb
  obtain ⟨x, hx⟩ := Int.gcd_dvd_left t b
  have e1 : t / (Int.gcd t b : Int) = x := Int.ediv_eq_of_eq_mul_right (by omega) hx
  rw [low_fst]
  rw [e1]
  generalize (Int.gcd t b : Int) = g at hx hg
  rw [hx, Int.natAbs_mul]
  exact Nat.le_mul_of_pos_left _ (by omega)
theorem gcd_step {x y : Int} (hx : 0 ≤ x) (hy : 0 ≤ y) : Int.gcd y (x % y) = Int.gcd x y := by
  obtain ⟨n, rfl⟩ := Int.eq_ofNat_of_zero_le hx
  obtain ⟨m, rfl⟩ := Int.eq_ofNat_of_zero_le hy
  rw [← Int.natCast_emod]
  show Nat.gcd (m : Int).natAbs ((n % m : Nat) : Int).natAbs = Nat.gcd (n : Int).natAbs (m : Int).natAbs
  rw [Int.natAbs_natCast, Int.natAbs_natCast, Int.natAbs_natCast, Nat.gcd_comm n m, Nat.gcd_rec m n, Nat.gcd_comm]
/-- a number of at most so many bits -/
abbrev Bd (k : Nat) (x : Int) : Prop := x.natAbs < 2 ^ k
theorem Bd.mul {a b : Nat} {x y : Int} (h : Bd a x) (h2 : Bd b y) : Bd (a + b) (x * y) := wide_lt h h2
theorem Bd.mono {a b : Nat} {x : Int} (h : Bd a x) (hl : a ≤ b) : Bd b x := Nat.lt_of_lt_of_le h (Nat.pow_le_pow_right (by decide) hl)
theorem Bd.sub {a : Nat} {x y : Int} (h : Bd a x) (h2 : Bd a y) : Bd (a + 1) (x - y) := by
  have e : (2 : Nat) ^ (a + 1) = 2 ^ a + 2 ^ a := by rw [Nat.pow_succ]; omega
  show (x - y).natAbs < _
  have h' : x.natAbs < 2 ^ a := h
  have h2' : y.natAbs < 2 ^ a := h2
  generalize (2 : Nat) ^ a = q at *
  omega
theorem Bd.add {a : Nat} {x y : Int} (h : Bd a x) (h2 : Bd a y) : Bd (a + 1) (x + y) := by
  have e : (2 : Nat) ^ (a + 1) = 2 ^ a + 2 ^ a := by rw [Nat.pow_succ]; omega
  show (x + y).natAbs < _
  have h' : x.natAbs < 2 ^ a := h
  have h2' : y.natAbs < 2 ^ a := h2
  generalize (2 : Nat) ^ a = q at *
  omega
theorem Bd.small {k : Nat} {x : Int} (h : x.natAbs < 18446744073709551616) (hk : 64 ≤ k := by decide) : Bd k x := big h hk
theorem Bd.cm {a b : Nat} {x y : Int} (h : Bd a x) (h2 : Bd b y) (ha : 0 < a := by decide) (hb : 0 < b := by decide) (hl : a + b ≤ 1000000 := by decide) : CMulA x y := .inr (.inr (wide_mul h h2 ha hb hl))
theorem Bd.cd {a : Nat} {x y : Int} (hp : 0 < y) (h : Bd a y) (ha : 0 < a := by decide) (hl : a ≤ 9000 := by decide) : CDivA x y := ⟨hp, .inr (wide_div (i := x) hp h ha hl).2⟩
def S_law_low : List D → (D → Prop) → Prop := fun ds R => ∃ t b : Int, ds = [.int t, .int b] ∧ 0 < b ∧ Bd 8999 b ∧ R (fr (low t b))
theorem l_law_low : ∀ ds R, S_law_low ds R → ds.length = 2 := fun ds R ⟨_, _, e, _⟩ => by rw [e]; rfl
theorem d_law_low (T : Txt K mg) : Dfn P w K mg bs 1 "_law_low" ["top", "bottom"] S_law_low := by
  refine mkD (k := 0) T.s_law_low sc_law_low (fun _ _ _ _ _ _ us hl => match us, hl with | [_, _], _ => rfl) l_law_low fun f cdv A outer s H E hr => ?_
  have hu := hu_of hr
  refine ⟨_, (pss_cons (ps_par (i := 2) (j := 3) (by rfl) sc_law_low.nd rfl rfl (by decide) rfl rfl (pa_cons (pe_callB call_abs (by rfl) T.n_abs (by decide +kernel) (pa_cons (pv 0) pa_nil)) (pa_cons (pe_callB call_abs (by rfl) T.n_abs (by decide +kernel) (pa_cons (pv 1) pa_nil)) pa_nil)) (by rfl))
      (pss_cons (ps_while PassesOwn.never (pt_cmpR op_gt (pv 3) pe_int (nomark _)) (pss_one (ps_par (i := 2) (j := 3) (by rfl) sc_law_low.nd rfl rfl (by decide) rfl rfl (pa_cons (pv 3) (pa_cons (pe_op op_mod (pe_callTy call_int1 (by rfl) T.n_int (by decide +kernel) (pa_cons (pv 2) pa_nil)) (pv 3)) pa_nil)) (by rfl))))
      (pss_cons (ps_set (i := 2) sc_law_low.nd rfl (Or.inl rfl) (pe_ifExp (pt_cmpR op_gt (pv 1) pe_int (nomark _)) (pv 2) (pe_op op_sub pe_int (pv 2))))
      (pss_one (ps_ret (pe_tup (pa_cons (pe_op op_divA (pe_callTy call_int1 (by rfl) T.n_int (by decide +kernel) (pa_cons (pv 0) pa_nil)) (pv 2)) (pa_cons (pe_op op_divA (pe_callTy call_int1 (by rfl) T.n_int (by decide +kernel) (pa_cons (pv 1) pa_nil)) (pv 2)) pa_nil)))))))), fun h H0 G0 ds R hS => ?_⟩
  obtain ⟨t, b, rfl, hb, hbd, hR⟩ := hS
  rw [low_is] at hR
  have hg := gcd_pos (t := t) hb
  refine ws_seq (ws_par ?_)
  refine wa_cons (we_abs (we_var rfl ⟨_, rfl, wa_cons (we_abs (we_var rfl ⟨_, rfl, wa_nil ⟨_, _, rfl, ?_⟩⟩))⟩))
  refine ws_seq (ws_while (fun m ρ => ∃ x y : Int, 0 ≤ x ∧ 0 ≤ y ∧ Int.gcd x y = Int.gcd t b ∧ m = y.toNat ∧ ρ = [some (.d (.int t)), some (.d (.int b)), some (.d (.int x)), some (.d (.int y))]) (absI b).toNat ⟨absI t, absI b, absI_nn t, absI_nn b, ?_, rfl, rfl⟩ ?_)
  · rw [absI_eq, absI_eq]
    simp [Int.gcd]
  · rintro m ρ ⟨x, y, hx, hy, e, rfl, rfl⟩
    refine wt_T (we_I0 (we_var rfl ⟨_, rfl, we_int ⟨_, rfl, _, rfl, ?_⟩⟩))
    refine ite2 (fun hpos => ?_) (fun hpos => ?_)
    · have hpos : 0 < y := of_decide_eq_true hpos
      refine ws_par (wa_cons (we_var rfl (wa_cons (we_I (we_int1 (we_var rfl ⟨_, rfl, _, rfl, we_var rfl ⟨_, rfl, hpos, wa_nil ⟨_, _, rfl, ?_⟩⟩⟩))))))
      have h1 := Int.emod_nonneg x (b := y) (by omega)
      have h2 := Int.emod_lt_of_pos x hpos
      refine ⟨(x % y).toNat, by omega, y, x % y, hy, h1, ?_, rfl, rfl⟩
      rw [← e, gcd_step hx hy]
    · have h0 : y = 0 := by
        have : ¬ 0 < y := fun z => hpos (decide_eq_true z)
        omega
      subst h0
      have ex : x = (Int.gcd t b : Int) := by
        rw [← e, Int.gcd_zero_right]
        omega
      subst ex
      -- one = one if bottom > 0 else 0 - one
      refine ws_seq (ws_asg (we_if (wt_T (we_I0 (we_var rfl ⟨_, rfl, we_int ⟨_, rfl, _, rfl, ?_⟩⟩)))))
      have hpos' : (decide ((0 : Int) < b)) = true := decide_eq_true hb
      rw [hpos', if_pos rfl]
      refine we_var rfl ?_
      have hbg : Bd 8999 (Int.gcd t b : Int) := by
        have := gcd_le (t := t) hb
        exact Nat.lt_of_le_of_lt (by omega) hbd
      exact ws_ret (we_tup (wa_cons (we_I (we_int1 (we_var rfl ⟨_, rfl, _, rfl, we_var rfl ⟨_, rfl, Bd.cd hg hbg, wa_cons (we_I (we_int1 (we_var rfl ⟨_, rfl, _, rfl, we_var rfl ⟨_, rfl, Bd.cd hg hbg, wa_nil ⟨by show 2 ≤ 4000000; decide, hR⟩⟩⟩)))⟩⟩)))))
def S_law_minus : List D → (D → Prop) → Prop := fun ds R => ∃ a b c d : Int, ds = [fr (a, b), fr (c, d)] ∧ 0 < b ∧ 0 < d ∧ Bd 4000 a ∧ Bd 4000 b ∧ Bd 4000 c ∧ Bd 4000 d ∧ R (fr (low (a * d - c * b) (b * d)))
theorem l_law_minus : ∀ ds R, S_law_minus ds R → ds.length = 2 := fun ds R ⟨_, _, _, _, e, _⟩ => by rw [e]; rfl
theorem d_law_minus (T : Txt K mg) : Dfn P w K mg bs 2 "_law_minus" ["one", "other"] S_law_minus := by
  have D_law_low := d_law_low (P := P) (w := w) (bs := bs) T
  refine mkD (k := 1) T.s_law_minus sc_law_minus (fun _ _ _ _ _ _ us hl => match us, hl with | [_, _], _ => rfl) l_law_minus fun f cdv A outer s H E hr => ?_
  have hu := hu_of hr
  refine ⟨_, (pss_one (ps_ret (pe_callK0 (K0 := K) (by rfl) D_law_low (hr.mono (by decide)) (pa_cons (pe_op op_sub (pe_op op_mulA (pe_ix (ix_tupK (K0 := K) (by rfl)) (pv 0) pe_int (fun _ _ => rfl)) (pe_ix (ix_tupK (K0 := K) (by rfl)) (pv 1) pe_int (fun _ _ => rfl))) (pe_op op_mulA (pe_ix (ix_tupK (K0 := K) (by rfl)) (pv 1) pe_int (fun _ _ => rfl)) (pe_ix (ix_tupK (K0 := K) (by rfl)) (pv 0) pe_int (fun _ _ => rfl)))) (pa_cons (pe_op op_mulA (pe_ix (ix_tupK (K0 := K) (by rfl)) (pv 0) pe_int (fun _ _ => rfl)) (pe_ix (ix_tupK (K0 := K) (by rfl)) (pv 1) pe_int (fun _ _ => rfl))) pa_nil))))), fun h H0 G0 ds R hS => ?_⟩
  obtain ⟨a, b, c, d, rfl, hb, hd, b1, b2, b3, b4, hR⟩ := hS
  refine ws_ret (we_call (wa_cons (we_I0 ?_)))
  refine we_I (we_ixT (we_var rfl ⟨_, rfl, we_int ⟨_, _, rfl, rfl, _, rfl, we_ixT (we_var rfl ⟨_, rfl, we_int ⟨_, _, rfl, rfl, _, rfl, b1.cm b4, _, rfl, ?_⟩⟩)⟩⟩))
  refine we_I (we_ixT (we_var rfl ⟨_, rfl, we_int ⟨_, _, rfl, rfl, _, rfl, we_ixT (we_var rfl ⟨_, rfl, we_int ⟨_, _, rfl, rfl, _, rfl, b3.cm b2, _, rfl, ?_⟩⟩)⟩⟩))
  refine wa_cons (we_I (we_ixT (we_var rfl ⟨_, rfl, we_int ⟨_, _, rfl, rfl, _, rfl, we_ixT (we_var rfl ⟨_, rfl, we_int ⟨_, _, rfl, rfl, _, rfl, b2.cm b4, ?_⟩⟩)⟩⟩)))
  exact wa_nil ⟨_, _, rfl, Int.mul_pos hb hd, (b2.mul b4).mono (by decide), hR⟩
def S_law_times : List D → (D → Prop) → Prop := fun ds R => ∃ a b c d : Int, ds = [fr (a, b), fr (c, d)] ∧ 0 < b ∧ 0 < d ∧ Bd 4000 a ∧ Bd 4000 b ∧ Bd 4000 c ∧ Bd 4000 d ∧ R (fr (low (a * c) (b * d)))
theorem l_law_times : ∀ ds R, S_law_times ds R → ds.length = 2 := fun ds R ⟨_, _, _, _, e, _⟩ => by rw [e]; rfl
theorem d_law_times (T : Txt K mg) : Dfn P w K mg bs 2 "_law_times" ["one", "other"] S_law_times := by
  have D_law_low := d_law_low (P := P) (w := w) (bs := bs) T
  refine mkD (k := 1) T.s_law_times sc_law_times (fun _ _ _ _ _ _ us hl => match us, hl with | [_, _], _ => rfl) l_law_times fun f cdv A outer s H E hr => ?_
  have hu := hu_of hr
  refine ⟨_, (pss_one (ps_ret (pe_callK0 (K0 := K) (by rfl) D_law_low (hr.mono (by decide)) (pa_cons (pe_op op_mulA (pe_ix (ix_tupK (K0 := K) (by rfl)) (pv 0) pe_int (fun _ _ => rfl)) (pe_ix (ix_tupK (K0 := K) (by rfl)) (pv 1) pe_int (fun _ _ => rfl))) (pa_cons (pe_op op_mulA (pe_ix (ix_tupK (K0 := K) (by rfl)) (pv 0) pe_int (fun _ _ => rfl)) (pe_ix (ix_tupK (K0 := K) (by rfl)) (pv 1) pe_int (fun _ _ => rfl))) pa_nil))))), fun h H0 G0 ds R hS => ?_⟩
  obtain ⟨a, b, c, d, rfl, hb, hd, b1, b2, b3, b4, hR⟩ := hS
  refine ws_ret (we_call (wa_cons ?_))
  refine we_I (we_ixT (we_var rfl ⟨_, rfl, we_int ⟨_, _, rfl, rfl, _, rfl, we_ixT (we_var rfl ⟨_, rfl, we_int ⟨_, _, rfl, rfl, _, rfl, b1.cm b3, ?_⟩⟩)⟩⟩))
  refine wa_cons (we_I (we_ixT (we_var rfl ⟨_, rfl, we_int ⟨_, _, rfl, rfl, _, rfl, we_ixT (we_var rfl ⟨_, rfl, we_int ⟨_, _, rfl, rfl, _, rfl, b2.cm b4, ?_⟩⟩)⟩⟩)))
  exact wa_nil ⟨_, _, rfl, Int.mul_pos hb hd, (b2.mul b4).mono (by decide), hR⟩
/-! ### things, machines among them -/
def T0 (mg : Str → Option Value) (x : D) : Prop := (Ty x ∨ ∃ C fs, x = .ins C fs ∧ mg "Machine" = some (.ref C)) ∧ ∀ i, x = .int i → Bd 100 i
def TV (mg : Str → Option Value) : Nat → D → Prop
  | 0, x => T0 mg x
  | n + 1, x => T0 mg x ∧ ∀ xs, x = .tup xs ∨ x = .lst xs → xs.length ≤ 100 ∧ ∀ y ∈ xs, TV mg n y
theorem TV.t0 {mg : Str → Option Value} : ∀ {n : Nat} {x : D}, TV mg n x → T0 mg x
  | 0, _, h => h
  | _ + 1, _, h => h.1
theorem TV.down {mg : Str → Option Value} : ∀ {n : Nat} {x : D}, TV mg (n + 1) x → TV mg n x
  | 0, _, h => h.1
  | n + 1, _, h => ⟨h.1, fun xs e => ⟨(h.2 xs e).1, fun y hy => TV.down ((h.2 xs e).2 y hy)⟩⟩
def S_is_digit (mg : Str → Option Value) : List D → (D → Prop) → Prop := fun ds R => ∃ (base : Int) (x : D), ds = [.int base, x] ∧ T0 mg x ∧ R (.bl (within (1 - base) (base - 1) x))
theorem l_is_digit (mg : Str → Option Value) : ∀ ds R, S_is_digit mg ds R → ds.length = 2 := fun ds R ⟨_, _, e, _⟩ => by rw [e]; rfl
theorem d_is_digit (T : Txt K mg) : Dfn P w K mg bs 5 "is_digit" ["base", "thing"] (S_is_digit mg) := by
  have D_is_integer_within := d_is_integer_within (P := P) (w := w) (bs := bs) T
  refine mkD (k := 4) T.s_is_digit sc_is_digit (fun _ _ _ _ _ _ us hl => match us, hl with | [_, _], _ => rfl) (l_is_digit mg) fun f cdv A outer s H E hr => ?_
  have hu := hu_of hr
  refine ⟨_, (pss_one (ps_ret (pe_callK0 (K0 := K) (by rfl) D_is_integer_within (hr.mono (by decide)) (pa_cons (pv 1) (pa_cons (pe_op op_sub pe_int (pv 0)) (pa_cons (pe_op op_sub (pv 0) pe_int) pa_nil)))))), fun h H0 G0 ds R hS => ?_⟩
  obtain ⟨base, x, rfl, hx, hR⟩ := hS
  refine ws_ret (we_call (wa_cons (we_var rfl (wa_cons (we_I0 (we_int ⟨_, rfl, we_var rfl ⟨_, rfl, wa_cons ?_⟩⟩))))))
  exact we_I0 (we_var rfl ⟨_, rfl, we_int ⟨_, rfl, wa_nil ⟨x, _, _, rfl, hx.1, hR⟩⟩⟩)
/-- a tuple of integers -/
def areI : D → Bool | .tup xs => xs.all isI | _ => false
theorem all_map {xs : List D} (f : D → Bool) : (xs.map f).all id = xs.all f := by
  rw [List.all_map]
  rfl
/-- asked of a thing whether it is an integer -/
theorem int_of {mg : Str → Option Value} {y : D} {R : D → Prop} (h : T0 mg y) (q : R (.bl (isI y))) : S_is_integer mg [y] R := by
  rcases h.1 with ⟨t, ht⟩ | ⟨C, fs, rfl, hC⟩
  · exact .inl ⟨y, t, rfl, ht, q⟩
  · exact .inr ⟨C, fs, rfl, hC, q⟩
theorem tupOf_of {mg : Str → Option Value} {y : D} {n : Int} {R : D → Prop} (h : T0 mg y) (q : R (.bl (tupOf n y))) : S_is_tuple_of mg [y, .int n] R := by
  rcases h.1 with ⟨t, ht⟩ | ⟨C, fs, rfl, hC⟩
  · exact .inl ⟨y, t, n, rfl, ht, q⟩
  · exact .inr ⟨C, fs, n, rfl, hC, q⟩
theorem tw_of {mg : Str → Option Value} {C : Addr} {y : D} (hC : mg "Machine" = some (.ref C)) (h : T0 mg y) : ∃ t, TyW C y t := by
  rcases h.1 with ⟨t, ht⟩ | ⟨D, fs, rfl, hD⟩
  · exact ⟨_, .inl ⟨t, ht, rfl⟩⟩
  · rw [hC] at hD
    cases hD
    exact ⟨_, .inr ⟨_, rfl, rfl⟩⟩
theorem kw_tuple {p : Par} {C : Addr} (F : EqF p.K C) {x : D} {t : Value} (ty : TyW C x t) : PySem.W.kitOne p.K t (.type "tuple") = some (isTu x) :=
  kit_bltn F ty (by decide) (fun s hs => (kb_tuple hs).trans (by cases x <;> rfl)) (fun h => by cases x <;> first | rfl | cases h)
theorem kw_int {p : Par} {C : Addr} (F : EqF p.K C) {x : D} {t : Value} (ty : TyW C x t) : PySem.W.kitOne p.K t (.type "int") = some (isI x || isBl x) :=
  kit_bltn F ty (by decide) (fun s hs => (kb_int hs).trans (by cases x <;> rfl)) (fun h => by cases x <;> first | rfl | cases h)
theorem kw_bool {p : Par} {C : Addr} (F : EqF p.K C) {x : D} {t : Value} (ty : TyW C x t) : PySem.W.kitOne p.K t (.type "bool") = some (isBl x) :=
  kit_bltn F ty (by decide) (fun s hs => (kb_bool hs).trans (by cases x <;> rfl)) (fun h => by cases x <;> first | rfl | cases h)
def S_are_integers (mg : Str → Option Value) : List D → (D → Prop) → Prop := fun ds R => ∃ x, ds = [x] ∧ TV mg 1 x ∧ R (.bl (areI x))
theorem l_are_integers (mg : Str → Option Value) : ∀ ds R, S_are_integers mg ds R → ds.length = 1 := fun ds R ⟨_, e, _⟩ => by rw [e]; rfl
theorem d_are_integers (T : Txt K mg) : Dfn P w K mg bs 4 "are_integers" ["thing"] (S_are_integers mg) := by
  have D_is_integer := d_is_integer (P := P) (w := w) (bs := bs) T
  obtain ⟨CE_Machine, gE_Machine, kE_Machine, E_Machine⟩ := d_Machine_eq (P := P) (w := w) (bs := bs) T
  refine mkD (k := 3) T.s_are_integers sc_are_integers (fun _ _ _ _ _ _ us hl => match us, hl with | [_], _ => rfl) (l_are_integers mg) fun f cdv A outer s H E hr => ?_
  have hu := hu_of hr
  refine ⟨_, (pss_one (ps_ret (pe_and (pe_callB (call_isiK0 (K0 := K) (by rfl)) (by rfl) T.n_isinstance (by decide +kernel) (pa_cons (pv 0) (pa_cons (pe_bltn (v := .ty "tuple") (by rfl) T.n_tuple (by decide +kernel) rfl) pa_nil))) (pe_one (pe_callB (cr_all rfl) (by rfl) T.n_all (by decide +kernel) (pa_cons (pe_lc (own := [("item", 1)]) (g := (gName 1)) rfl sc_are_integers.nd (pi_tupK (K0 := K) (by rfl) (pv 0)) (blkOk_by (N := N_are_integers) (sc := defScope s_are_integers) (by decide +kernel)) (fun _ _ _ _ _ => by exact (pg_name (i := 1) sc_are_integers.nd rfl (Or.inl rfl))) (fun _ _ _ _ _ => by exact pts_nil) (fun _ _ _ _ _ => by exact (pe_callK0 (K0 := K) (by rfl) D_is_integer (hr.mono (by decide)) (pa_cons (pv 1) pa_nil)))) pa_nil)))))), fun h H0 G0 ds R hS => ?_⟩
  obtain ⟨x, rfl, hx, hR⟩ := hS
  obtain ⟨t, ht⟩ := tw_of gE_Machine hx.1
  refine ws_ret (we_andV (we_isiW kE_Machine (we_var rfl ⟨t, _, ht, kw_tuple kE_Machine ht, _, rfl, fun hb => ?_, fun hb => ?_⟩)))
  · obtain ⟨xs, rfl⟩ : ∃ xs, x = D.tup xs := by cases x <;> first | exact ⟨_, rfl⟩ | cases hb
    obtain ⟨hl, hy⟩ := hx.2 xs (.inl rfl)
    refine we_all (we_F (wf_lcT (we_var rfl ⟨xs, rfl, by omega, fun k acc => acc = (xs.take k).map (fun y => D.bl (isI y)), rfl, ?_, ?_⟩)))
    · rintro k y acc hk rfl _
      refine wgp_name ?_ ?_
      · decide
      refine wt_yes ?_
      rw [if_pos rfl]
      refine we_call (wa_cons (we_var rfl (wa_nil (int_of (hy y (List.mem_of_getElem? hk)) ?_))))
      dsimp only
      rw [List.take_succ, hk, List.map_append]
      rfl
    · rintro acc rfl
      rw [List.take_length]
      refine ⟨xs.map isI, by rw [List.map_map]; rfl, ?_⟩
      rw [all_map]
      exact hR
  · have e : areI x = false := by cases x <;> first | rfl | cases hb
    rw [e] at hR; exact hR
/-- a tuple, a list of digits -/
def areG (base : Int) : D → Bool | .tup xs => xs.all (within (1 - base) (base - 1)) | .lst xs => xs.all (within (1 - base) (base - 1)) | _ => false
theorem kb_str_list' : kitB "str" "list" = some false := by decide +kernel
theorem kb_none_list' : kitB "NoneType" "list" = some false := by decide +kernel
theorem kb_bool_list' : kitB "bool" "list" = some false := by decide +kernel
theorem kb_dict_list' : kitB "dict" "list" = some false := by decide +kernel
theorem kb_list : ∀ {x : D} {t : String}, tyD x = some t → kitB t "list" = some (isLs x)
  | .non, _, h => by cases h; exact kb_none_list'
  | .bl _, _, h => by cases h; exact kb_bool_list'
  | .int _, _, h => by cases h; exact kb_int_list
  | .str _, _, h => by cases h; exact kb_str_list'
  | .tup _, _, h => by cases h; exact kb_tuple_list
  | .lst _, _, h => by cases h; exact kb_list_list
  | .dK _, _, h => by cases h; exact kb_dict_list'
  | .hand, _, h => by cases h
  | .dT _, _, h => by cases h
  | .raw _, _, h => by cases h
  | .ins _ _, _, h => by cases h
theorem kw_list {p : Par} {C : Addr} (F : EqF p.K C) {x : D} {t : Value} (ty : TyW C x t) : PySem.W.kitOne p.K t (.type "list") = some (isLs x) :=
  kit_bltn F ty (by decide) (fun s hs => (kb_list hs).trans (by cases x <;> rfl)) (fun h => by cases x <;> first | rfl | cases h)
theorem within_T0 {mg : Str → Option Value} {y : D} (h : T0 mg y) : Ty y ∨ ∃ C fs, y = .ins C fs := by
  rcases h.1 with h | ⟨C, fs, e, _⟩
  · exact .inl h
  · exact .inr ⟨C, fs, e⟩
def S_are_digits (mg : Str → Option Value) : List D → (D → Prop) → Prop := fun ds R => ∃ (base : Int) (x : D), ds = [.int base, x] ∧ TV mg 1 x ∧ R (.bl (areG base x))
theorem l_are_digits (mg : Str → Option Value) : ∀ ds R, S_are_digits mg ds R → ds.length = 2 := fun ds R ⟨_, _, e, _⟩ => by rw [e]; rfl
theorem d_are_digits (T : Txt K mg) : Dfn P w K mg bs 6 "are_digits" ["base", "thing"] (S_are_digits mg) := by
  have D_is_digit := d_is_digit (P := P) (w := w) (bs := bs) T
  obtain ⟨CE_Machine, gE_Machine, kE_Machine, E_Machine⟩ := d_Machine_eq (P := P) (w := w) (bs := bs) T
  refine mkD (k := 5) T.s_are_digits sc_are_digits (fun _ _ _ _ _ _ us hl => match us, hl with | [_, _], _ => rfl) (l_are_digits mg) fun f cdv A outer s H E hr => ?_
  have hu := hu_of hr
  refine ⟨_, (pss_one (ps_ret (pe_and (pe_callB (call_isiTK (K0 := K) (by rfl)) (by rfl) T.n_isinstance (by decide +kernel) (pa_cons (pv 1) (pa_cons (pe_tup (pa_cons (pe_bltn (v := .ty "list") (by rfl) T.n_list (by decide +kernel) rfl) (pa_cons (pe_bltn (v := .ty "tuple") (by rfl) T.n_tuple (by decide +kernel) rfl) pa_nil))) pa_nil))) (pe_one (pe_callB (cr_all rfl) (by rfl) T.n_all (by decide +kernel) (pa_cons (pe_lc (own := [("item", 2)]) (g := (gName 2)) rfl sc_are_digits.nd (pi_seqK (K0 := K) (by rfl) (pv 1)) (blkOk_by (N := N_are_digits) (sc := defScope s_are_digits) (by decide +kernel)) (fun _ _ _ _ _ => by exact (pg_name (i := 2) sc_are_digits.nd rfl (Or.inl rfl))) (fun _ _ _ _ _ => by exact pts_nil) (fun _ _ _ _ _ => by exact (pe_callK0 (K0 := K) (by rfl) D_is_digit (hr.mono (by decide)) (pa_cons (pv 0) (pa_cons (pv 2) pa_nil))))) pa_nil)))))), fun h H0 G0 ds R hS => ?_⟩
  obtain ⟨base, x, rfl, hx, hR⟩ := hS
  obtain ⟨t, ht⟩ := tw_of gE_Machine hx.1
  refine ws_ret (we_andV (we_isiTW kE_Machine (we_var rfl ⟨t, _, _, ht, kw_list kE_Machine ht, kw_tuple kE_Machine ht, _, rfl, fun hb => ?_, fun hb => ?_⟩)))
  · obtain ⟨xs, hxs⟩ : ∃ xs, x = D.lst xs ∨ x = D.tup xs := by cases x <;> first | exact ⟨_, .inl rfl⟩ | exact ⟨_, .inr rfl⟩ | cases hb
    obtain ⟨hl, hy⟩ := hx.2 xs hxs.symm
    have e : areG base x = xs.all (within (1 - base) (base - 1)) := by rcases hxs with rfl | rfl <;> rfl
    refine we_all (we_F (wf_lcS (we_var rfl ⟨xs, hxs, by omega, fun k acc => acc = (xs.take k).map (fun y => D.bl (within (1 - base) (base - 1) y)), rfl, ?_, ?_⟩)))
    · rintro k y acc hk rfl _
      refine wgp_name ?_ ?_
      · decide
      refine wt_yes ?_
      rw [if_pos rfl]
      refine we_call (wa_cons (we_var rfl (wa_cons (we_var rfl (wa_nil ⟨base, y, rfl, hy y (List.mem_of_getElem? hk), ?_⟩)))))
      dsimp only
      rw [List.take_succ, hk, List.map_append]
      rfl
    · rintro acc rfl
      rw [List.take_length]
      refine ⟨xs.map (within (1 - base) (base - 1)), by rw [List.map_map]; rfl, ?_⟩
      rw [all_map, ← e]
      exact hR
  · have e : areG base x = false := by cases x <;> first | rfl | cases hb
    rw [e] at hR; exact hR
/-- digits of the base -/
def Dig (base : Int) (xs : List Int) : Prop := ∀ x ∈ xs, 1 - base ≤ x ∧ x ≤ base - 1
def hasI : D → Bool | .tup (_ :: _) => true | _ => false
def isRow : D → Bool | .tup [a, b] => areI a && areI b && hasI b | _ => false
theorem tup2_of {x : D} (h : tupOf 2 x = true) : ∃ a b, x = .tup [a, b] := by
  cases x with
  | tup xs =>
    have h2 : xs.length = 2 := by
      have := of_decide_eq_true (show decide ((xs.length : Int) = 2) = true from h)
      omega
    match xs, h2 with
    | [a, b], _ => exact ⟨a, b, rfl⟩
  | _ => cases h
theorem tup2_not {x : D} (h : tupOf 2 x = false) : isRow x = false := by
  unfold isRow
  split
  · cases h
  · rfl
theorem TV.two {mg : Str → Option Value} {n : Nat} {a b : D} (h : TV mg (n + 1) (.tup [a, b])) : TV mg n a ∧ TV mg n b := ⟨(h.2 _ (.inl rfl)).2 a (by simp), (h.2 _ (.inl rfl)).2 b (by simp)⟩
def S_is_row (mg : Str → Option Value) : List D → (D → Prop) → Prop := fun ds R => ∃ x, ds = [x] ∧ TV mg 2 x ∧ R (.bl (isRow x))
theorem l_is_row (mg : Str → Option Value) : ∀ ds R, S_is_row mg ds R → ds.length = 1 := fun ds R ⟨_, e, _⟩ => by rw [e]; rfl
theorem d_is_row (T : Txt K mg) : Dfn P w K mg bs 5 "is_row" ["thing"] (S_is_row mg) := by
  have D_is_tuple_of := d_is_tuple_of (P := P) (w := w) (bs := bs) T
  have D_are_integers := d_are_integers (P := P) (w := w) (bs := bs) T
  refine mkD (k := 4) T.s_is_row sc_is_row (fun _ _ _ _ _ _ us hl => match us, hl with | [_], _ => rfl) (l_is_row mg) fun f cdv A outer s H E hr => ?_
  have hu := hu_of hr
  refine ⟨_, (pss_one (ps_ret (pe_and (pe_callK0 (K0 := K) (by rfl) D_is_tuple_of (hr.mono (by decide)) (pa_cons (pv 0) (pa_cons pe_int pa_nil))) (pe_and (pe_callK0 (K0 := K) (by rfl) D_are_integers (hr.mono (by decide)) (pa_cons (pe_ix (ix_tupK (K0 := K) (by rfl)) (pv 0) pe_int (fun _ _ => rfl)) pa_nil)) (pe_and (pe_callK0 (K0 := K) (by rfl) D_are_integers (hr.mono (by decide)) (pa_cons (pe_ix (ix_tupK (K0 := K) (by rfl)) (pv 0) pe_int (fun _ _ => rfl)) pa_nil)) (pe_one (pe_cmpR op_gt (pe_callB (call_lenK (K0 := K) (by rfl)) (by rfl) T.n_len (by decide +kernel) (pa_cons (pe_ix (ix_tupK (K0 := K) (by rfl)) (pv 0) pe_int (fun _ _ => rfl)) pa_nil)) pe_int (nomark _)))))))), fun h H0 G0 ds R hS => ?_⟩
  obtain ⟨x, rfl, hx, hR⟩ := hS
  refine ws_ret (we_andV (we_call (wa_cons (we_var rfl (wa_cons (we_int (wa_nil (tupOf_of hx.1 ⟨_, rfl, fun hb => ?_, fun hb => ?_⟩))))))))
  · obtain ⟨a, b, rfl⟩ := tup2_of hb
    obtain ⟨pa, pb⟩ := hx.two
    have e0 : isRow (.tup [a, b]) = (areI a && areI b && hasI b) := rfl
    rw [e0] at hR
    refine we_andV (we_call (wa_cons (we_ixT (we_var rfl ⟨_, rfl, we_int ⟨0, _, rfl, rfl, wa_nil ⟨a, rfl, pa, _, rfl, fun ha => ?_, fun ha => ?_⟩⟩⟩))))
    · rw [ha, Bool.true_and] at hR
      refine we_andV (we_call (wa_cons (we_ixT (we_var rfl ⟨_, rfl, we_int ⟨1, _, rfl, rfl, wa_nil ⟨b, rfl, pb, _, rfl, fun hb2 => ?_, fun hb2 => ?_⟩⟩⟩))))
      · rw [hb2, Bool.true_and] at hR
        obtain ⟨xs, rfl⟩ : ∃ xs, b = D.tup xs := by cases b <;> first | exact ⟨_, rfl⟩ | cases hb2
        refine we_I0 (we_len (we_ixT (we_var rfl ⟨_, rfl, we_int ⟨1, _, rfl, rfl, _, .inr rfl, _, rfl, we_int ⟨0, rfl, ?_⟩⟩⟩)))
        have e : decide ((0 : Int) < (xs.length : Int)) = hasI (.tup xs) := by
          cases xs with
          | nil => rfl
          | cons y ys => exact decide_eq_true (by rw [List.length_cons]; omega)
        dsimp only [inj]
        rw [← e] at hR
        exact hR
      · rw [hb2, Bool.false_and] at hR
        exact hR
    · rw [ha, Bool.false_and, Bool.false_and] at hR
      exact hR
  · rw [tup2_not hb] at hR
    exact hR
/-- a row of digits -/
def isRD (base : Int) : D → Bool | .tup [a, b] => isRow (.tup [a, b]) && (areG base a && areG base b) | _ => false
theorem isRD_no {base : Int} {x : D} (h : isRow x = false) : isRD base x = false := by
  unfold isRD
  split
  · rw [h, Bool.false_and]
  · rfl
theorem areI_ty {xs : List D} (h : areI (.tup xs) = true) : ∀ y ∈ xs, Ty y := fun y hy => by
  have := List.all_eq_true.mp (show xs.all isI = true from h) y hy
  cases y <;> first | exact ⟨_, rfl⟩ | cases this
def S_is_row_of_digits (mg : Str → Option Value) : List D → (D → Prop) → Prop := fun ds R => ∃ (base : Int) (x : D), ds = [.int base, x] ∧ TV mg 2 x ∧ R (.bl (isRD base x))
theorem l_is_row_of_digits (mg : Str → Option Value) : ∀ ds R, S_is_row_of_digits mg ds R → ds.length = 2 := fun ds R ⟨_, _, e, _⟩ => by rw [e]; rfl
theorem d_is_row_of_digits (T : Txt K mg) : Dfn P w K mg bs 7 "is_row_of_digits" ["base", "thing"] (S_is_row_of_digits mg) := by
  have D_is_row := d_is_row (P := P) (w := w) (bs := bs) T
  have D_are_digits := d_are_digits (P := P) (w := w) (bs := bs) T
  refine mkD (k := 6) T.s_is_row_of_digits sc_is_row_of_digits (fun _ _ _ _ _ _ us hl => match us, hl with | [_, _], _ => rfl) (l_is_row_of_digits mg) fun f cdv A outer s H E hr => ?_
  have hu := hu_of hr
  refine ⟨_, (pss_one (ps_ret (pe_and (pe_callK0 (K0 := K) (by rfl) D_is_row (hr.mono (by decide)) (pa_cons (pv 1) pa_nil)) (pe_and (pe_callK0 (K0 := K) (by rfl) D_are_digits (hr.mono (by decide)) (pa_cons (pv 0) (pa_cons (pe_ix (ix_tupK (K0 := K) (by rfl)) (pv 1) pe_int (fun _ _ => rfl)) pa_nil))) (pe_one (pe_callK0 (K0 := K) (by rfl) D_are_digits (hr.mono (by decide)) (pa_cons (pv 0) (pa_cons (pe_ix (ix_tupK (K0 := K) (by rfl)) (pv 1) pe_int (fun _ _ => rfl)) pa_nil)))))))), fun h H0 G0 ds R hS => ?_⟩
  obtain ⟨base, x, rfl, hx, hR⟩ := hS
  refine ws_ret (we_andV (we_call (wa_cons (we_var rfl (wa_nil ⟨x, rfl, hx, _, rfl, fun hb => ?_, fun hb => ?_⟩)))))
  · obtain ⟨a, b, rfl⟩ : ∃ a b, x = D.tup [a, b] := by
      unfold isRow at hb
      split at hb
      · exact ⟨_, _, rfl⟩
      · cases hb
    have e0 : isRD base (.tup [a, b]) = (isRow (.tup [a, b]) && (areG base a && areG base b)) := rfl
    rw [e0, hb, Bool.true_and] at hR
    have hb' : (areI a && areI b && hasI b) = true := hb
    obtain ⟨h12, h3⟩ := (Bool.and_eq_true_iff).mp hb'
    obtain ⟨h1, h2⟩ := (Bool.and_eq_true_iff).mp h12
    obtain ⟨as, rfl⟩ : ∃ xs, a = D.tup xs := by cases a <;> first | exact ⟨_, rfl⟩ | cases h1
    obtain ⟨bs', rfl⟩ : ∃ xs, b = D.tup xs := by cases b <;> first | exact ⟨_, rfl⟩ | cases h2
    obtain ⟨pa, pb⟩ := hx.two
    have la := (pa.2 _ (.inl rfl)).1
    have lb := (pb.2 _ (.inl rfl)).1
    refine we_andV (we_call (wa_cons (we_var rfl (wa_cons (we_ixT (we_var rfl ⟨_, rfl, we_int ⟨0, _, rfl, rfl, wa_nil ⟨base, _, rfl, pa, _, rfl, fun ha => ?_, fun ha => ?_⟩⟩⟩))))))
    · rw [ha, Bool.true_and] at hR
      exact we_call (wa_cons (we_var rfl (wa_cons (we_ixT (we_var rfl ⟨_, rfl, we_int ⟨1, _, rfl, rfl, wa_nil ⟨base, _, rfl, pb, hR⟩⟩⟩)))))
    · rw [ha, Bool.false_and] at hR
      exact hR
  · rw [isRD_no hb] at hR
    exact hR
/-! ### which digits a writing begins with -/
def ldig (base t b : Int) : Int := maxI (1 - base) (-((b - base * t) / b))
def gdig (base t b : Int) : Int := minI (base - 1) ((base * t + b) / b)
theorem ldig_ge (base t b : Int) : 1 - base ≤ ldig base t b := by unfold ldig maxI; split <;> omega
theorem gdig_le (base t b : Int) : gdig base t b ≤ base - 1 := by unfold gdig minI; split <;> omega
theorem max_le {a b c : Int} : maxI a b ≤ c ↔ a ≤ c ∧ b ≤ c := by unfold maxI; split <;> omega
theorem le_min {a b c : Int} : c ≤ minI a b ↔ c ≤ a ∧ c ≤ b := by unfold minI; split <;> omega
theorem ldig_le {base t b d : Int} (hb : 0 < b) : ldig base t b ≤ d ↔ 1 - base ≤ d ∧ base * t - d * b ≤ b := by
  unfold ldig
  rw [max_le]
  have e : -((b - base * t) / b) ≤ d ↔ -d ≤ (b - base * t) / b := by omega
  rw [e, Int.le_ediv_iff_mul_le hb, Int.neg_mul]
  omega
theorem le_gdig {base t b d : Int} (hb : 0 < b) : d ≤ gdig base t b ↔ d ≤ base - 1 ∧ -b ≤ base * t - d * b := by
  unfold gdig
  rw [le_min, Int.le_ediv_iff_mul_le hb]
  omega
theorem dig_le {base t b : Int} (h1 : 2 ≤ base) (hb : 0 < b) (h2 : -b ≤ t) (h3 : t ≤ b) : ldig base t b ≤ gdig base t b := by
  have m1 : base * t ≤ base * b := Int.mul_le_mul_of_nonneg_left h3 (by omega)
  have m2 : base * -b ≤ base * t := Int.mul_le_mul_of_nonneg_left h2 (by omega)
  rw [Int.mul_neg] at m2
  unfold ldig gdig
  rw [max_le, le_min, le_min]
  refine ⟨⟨by omega, ?_⟩, ?_, ?_⟩
  · rw [Int.le_ediv_iff_mul_le hb, Int.sub_mul, Int.one_mul]
    omega
  · have : 1 - base ≤ (b - base * t) / b := by
      rw [Int.le_ediv_iff_mul_le hb, Int.sub_mul, Int.one_mul]
      omega
    omega
  · have e1 := Int.mul_ediv_add_emod (b - base * t) b
    have e2 := Int.mul_ediv_add_emod (base * t + b) b
    have r1 := Int.emod_lt_of_pos (b - base * t) hb
    have r2 := Int.emod_lt_of_pos (base * t + b) hb
    generalize (b - base * t) / b = q1 at *
    generalize (base * t + b) / b = q2 at *
    have hs : 0 < b * (q1 + q2) := by rw [Int.mul_add]; omega
    have : 0 < q1 + q2 := by
      by_cases h : 0 < q1 + q2
      · exact h
      · have := Int.mul_nonpos_of_nonneg_of_nonpos (show 0 ≤ b by omega) (show q1 + q2 ≤ 0 by omega)
        omega
    omega
/-- a digit within goes to a number again -/
theorem dig_in {base t b d : Int} (hb : 0 < b) (h1 : ldig base t b ≤ d) (h2 : d ≤ gdig base t b) : -b ≤ base * t - d * b ∧ base * t - d * b ≤ b := ⟨((le_gdig hb).mp h2).2, ((ldig_le hb).mp h1).2⟩
def Num (t b : Int) : Prop := 0 < b ∧ Nat.gcd t.natAbs b.natAbs = 1 ∧ -b ≤ t ∧ t ≤ b
/-! ### the digits that go on -/
/-- what is left of t / b behind the digit d -/
def lat (base t b d : Int) : Int × Int := low ((low (t * base) (b * 1)).1 * 1 - d * (low (t * base) (b * 1)).2) ((low (t * base) (b * 1)).2 * 1)
def goOk (x : Int × (Int × Int)) : Bool := decide (absI x.2.1 ≤ x.2.2)
def goesN (base t b : Int) (n : Nat) : List (Int × (Int × Int)) := ((List.range n).map fun (k : Nat) => ((1 - base + (k : Int)), lat base t b (1 - base + (k : Int)))).filter goOk
def goes (base t b : Int) : List (Int × (Int × Int)) := goesN base t b (base - (1 - base)).toNat
def gD (x : Int × (Int × Int)) : D := .tup [.int x.1, fr x.2]
theorem goesN_succ (base t b : Int) (n : Nat) : goesN base t b (n + 1) = goesN base t b n ++ if goOk ((1 - base + (n : Int)), lat base t b (1 - base + (n : Int))) = true then [((1 - base + (n : Int)), lat base t b (1 - base + (n : Int)))] else [] := by
  unfold goesN
  rw [List.range_succ, List.map_append, List.filter_append, List.map_singleton, List.filter_cons]
  simp only [List.filter_nil]
theorem goesN_len (base t b : Int) (n : Nat) : (goesN base t b n).length ≤ n := by
  unfold goesN
  refine Nat.le_trans (List.length_filter_le _ _) ?_
  rw [List.length_map, List.length_range]
  exact Nat.le_refl _
def S_law_goes : List D → (D → Prop) → Prop := fun ds R => ∃ base t b : Int, ds = [.int base, fr (t, b)] ∧ 2 ≤ base ∧ base ≤ 5 ∧ 0 < b ∧ Bd 3000 t ∧ Bd 3000 b ∧ R (.lst ((goes base t b).map gD))
theorem l_law_goes : ∀ ds R, S_law_goes ds R → ds.length = 2 := fun ds R ⟨_, _, _, e, _⟩ => by rw [e]; rfl
theorem d_law_goes (T : Txt K mg) : Dfn P w K mg bs 3 "_law_goes" ["base", "rest"] S_law_goes := by
  have D_law_minus := d_law_minus (P := P) (w := w) (bs := bs) T
  have D_law_times := d_law_times (P := P) (w := w) (bs := bs) T
  refine mkD (k := 2) T.s_law_goes sc_law_goes (fun _ _ _ _ _ _ us hl => match us, hl with | [_, _], _ => rfl) l_law_goes fun f cdv A outer s H E hr => ?_
  have hu := hu_of hr
  refine ⟨_, (pss_cons (ps_set (i := 2) sc_law_goes.nd rfl (Or.inl rfl) (pe_lst pa_nil))
      (pss_cons (ps_for PassesOwn.never rfl (pi_range2 rfl T.n_range (pa_cons (pe_op op_sub pe_int (pv 0)) (pa_cons (pv 0) pa_nil))) (pg_name (i := 3) sc_law_goes.nd rfl (Or.inl rfl))
      (pss_cons (ps_set (i := 4) sc_law_goes.nd rfl (Or.inl rfl) (pe_callK0 (K0 := K) (by rfl) D_law_minus (hr.mono (by decide)) (pa_cons (pe_callK0 (K0 := K) (by rfl) D_law_times (hr.mono (by decide)) (pa_cons (pv 1) (pa_cons (pe_tup (pa_cons (pv 0) (pa_cons pe_int pa_nil))) pa_nil))) (pa_cons (pe_tup (pa_cons (pv 3) (pa_cons pe_int pa_nil))) pa_nil))))
      (pss_one (ps_if (pt_cmpR op_le (pe_callB call_abs (by rfl) T.n_abs (by decide +kernel) (pa_cons (pe_ix (ix_tupK (K0 := K) (by rfl)) (pv 4) pe_int (fun _ _ => rfl)) pa_nil)) (pe_ix (ix_tupK (K0 := K) (by rfl)) (pv 4) pe_int (fun _ _ => rfl)) (nomark _)) (pss_one (ps_expr (pe_bm PySem.F.plainAttrs_list PySem.F.slot_list_append PySem.F.type_list_append mt_append (pv 2) (pa_cons (pe_tup (pa_cons (pv 3) (pa_cons (pv 4) pa_nil))) pa_nil)))) pss_nil))))
      (pss_one (ps_ret (pv 2))))), fun h H0 G0 ds R hS => ?_⟩
  obtain ⟨base, t, b, rfl, hb1, hb2, hb, bt, bb, hR⟩ := hS
  have ba : Bd 64 base := Bd.small (by omega)
  have b1 : Bd 64 (1 : Int) := by decide
  have hpos : 0 < b * 1 := by omega
  have bu : Bd 4000 (low (t * base) (b * 1)).1 := Nat.lt_of_le_of_lt (low_top hpos) ((bt.mul ba).mono (show 3000 + 64 ≤ 4000 by decide))
  have hv := low_pos (t := t * base) hpos
  have bv : Bd 4000 (low (t * base) (b * 1)).2 := by
    have h1 := low_le (t := t * base) hpos
    exact Nat.lt_of_le_of_lt (by omega) (bb.mono (show 3000 ≤ 4000 by decide))
  refine ws_seq (ws_asgF (wf_lst (wa_nil ⟨by decide, ?_⟩)))
  refine ws_seq (ws_for2 (wa_cons ?_))
  refine we_I0 (we_int ⟨_, rfl, we_var rfl ⟨_, rfl, wa_cons (we_var rfl (wa_nil ?_))⟩⟩)
  refine ⟨1 - base, base, rfl, by omega, fun k ρ => ∃ r3 r4 : Option Cell, ρ = [some (.d (.int base)), some (.d (fr (t, b))), some (.ol ((goesN base t b k).map gD)), r3, r4], ⟨_, _, rfl⟩, ?_, ?_⟩
  · rintro k ρ hk ⟨r3, r4, rfl⟩
    refine wg_name (ws_seq (ws_asg (we_call (wa_cons ?_))))
    refine we_call (wa_cons (we_var rfl (wa_cons ?_)))
    refine we_tup (wa_cons (we_var rfl (wa_cons (we_int (wa_nil ⟨len2, wa_nil ?_⟩)))))
    refine ⟨t, b, base, 1, rfl, hb, by decide, bt.mono (by decide), bb.mono (by decide), ba.mono (by decide), b1.mono (by decide), wa_cons ?_⟩
    refine we_tup (wa_cons (we_var rfl (wa_cons (we_int (wa_nil ⟨len2, wa_nil ?_⟩)))))
    refine ⟨_, _, 1 - base + (k : Int), 1, rfl, hv, by decide, bu, bv, (Bd.small (k := 64) (by omega)).mono (by decide), b1.mono (by decide), ?_⟩
    show WS _ _ _ _
    refine ws_if (wt_T (we_I0 (we_abs (we_fr0 (we_var rfl ⟨_, rfl, _, rfl, _, rfl, we_fr1 (we_var rfl ⟨_, rfl, _, rfl, _, rfl, ?_⟩)⟩)))))
    refine ite2 (fun ht => ?_) (fun ht => ?_)
    · refine ws_append rfl (by rw [List.length_map]; have := goesN_len base t b k; omega) ?_
      refine we_tup (wa_cons (we_var rfl (wa_cons (we_var rfl (wa_nil ⟨len2, ?_⟩)))))
      have e : (goesN base t b (k + 1)).map gD = (goesN base t b k).map gD ++ [gD ((1 - base + (k : Int)), lat base t b (1 - base + (k : Int)))] := by
        rw [goesN_succ, if_pos (show goOk ((1 - base + (k : Int)), lat base t b (1 - base + (k : Int))) = true from ht), List.map_append]
        rfl
      dsimp only
      rw [e]
      exact ⟨_, _, rfl⟩
    · refine ws_next ?_
      have e : goesN base t b (k + 1) = goesN base t b k := by
        rw [goesN_succ, if_neg (show ¬ goOk ((1 - base + (k : Int)), lat base t b (1 - base + (k : Int))) = true from ht), List.append_nil]
      dsimp only
      rw [e]
      exact ⟨_, _, rfl⟩
  · rintro ρ ⟨r3, r4, rfl⟩
    exact ws_freeze 2 rfl rfl (ws_ret (we_var rfl hR))
theorem sim_within {t b t' b' : Int} (hb : 0 < b) (hb' : 0 < b') (hx : t * b' = t' * b) : (-b ≤ t ∧ t ≤ b) ↔ (-b' ≤ t' ∧ t' ≤ b') := by
  constructor
  · rintro ⟨h1, h2⟩
    constructor
    · refine Int.le_of_mul_le_mul_right (a := b) ?_ hb
      rw [← hx, Int.neg_mul, Int.mul_comm b' b, ← Int.neg_mul]
      exact Int.mul_le_mul_of_nonneg_right h1 (by omega)
    · refine Int.le_of_mul_le_mul_right (a := b) ?_ hb
      rw [← hx, Int.mul_comm b' b]
      exact Int.mul_le_mul_of_nonneg_right h2 (by omega)
  · rintro ⟨h1, h2⟩
    constructor
    · refine Int.le_of_mul_le_mul_right (a := b') ?_ hb'
      rw [hx, Int.neg_mul, Int.mul_comm b b', ← Int.neg_mul]
      exact Int.mul_le_mul_of_nonneg_right h1 (by omega)
    · refine Int.le_of_mul_le_mul_right (a := b') ?_ hb'
      rw [hx, Int.mul_comm b b']
      exact Int.mul_le_mul_of_nonneg_right h2 (by omega)
theorem lat_pos {base t b d : Int} (hb : 0 < b) : 0 < (lat base t b d).2 ∧ (lat base t b d).2 ≤ b := by
  have hb' : 0 < b * 1 := by omega
  have h1 := low_pos (t := t * base) hb'
  have h2 := low_le (t := t * base) hb'
  have h3 : 0 < (low (t * base) (b * 1)).2 * 1 := by omega
  exact ⟨low_pos h3, by have := low_le (t := (low (t * base) (b * 1)).1 * 1 - d * (low (t * base) (b * 1)).2) h3; unfold lat; omega⟩
theorem lat_cross {base t b d : Int} (hb : 0 < b) : (lat base t b d).1 * b = (base * t - d * b) * (lat base t b d).2 := by
  have hb' : 0 < b * 1 := by omega
  have h1 := low_pos (t := t * base) hb'
  have c1 := low_cross (t := t * base) hb'
  have h3 : 0 < (low (t * base) (b * 1)).2 * 1 := by omega
  have c2 := low_cross (t := (low (t * base) (b * 1)).1 * 1 - d * (low (t * base) (b * 1)).2) h3
  unfold lat
  generalize (low (t * base) (b * 1)).1 = u at *
  generalize (low (t * base) (b * 1)).2 = v at *
  generalize (low (u * 1 - d * v) (v * 1)) = z at *
  obtain ⟨z1, z2⟩ := z
  dsimp only at *
  rw [Int.mul_one] at c1 c2
  refine Int.eq_of_mul_eq_mul_right (a := v) (by omega) ?_
  calc z1 * b * v = (z1 * v) * b := Int.mul_right_comm _ _ _
    _ = ((u * 1 - d * v) * z2) * b := by rw [c2]
    _ = (u * b - d * v * b) * z2 := by rw [Int.mul_one, Int.mul_right_comm, Int.sub_mul]
    _ = (base * t - d * b) * v * z2 := by
      have e : t * base * v - d * v * b = (base * t - d * b) * v := by rw [Int.sub_mul, Int.mul_comm t base, Int.mul_right_comm d v b]
      rw [c1, e]
    _ = (base * t - d * b) * z2 * v := Int.mul_right_comm _ _ _
theorem lat_ok {base t b d : Int} (hb : 0 < b) : goOk (d, lat base t b d) = true ↔ (-b ≤ base * t - d * b ∧ base * t - d * b ≤ b) := by
  have h := sim_within (lat_pos (base := base) (t := t) (d := d) hb).1 hb (lat_cross (base := base) (t := t) (d := d) hb)
  unfold goOk
  rw [decide_eq_true_iff, absI_eq, ← h]
  dsimp only
  omega
/-- over the digits that go on -/
theorem goes_mem {base t b : Int} {x : Int × (Int × Int)} (hb : 0 < b) (h : x ∈ goes base t b) : 0 < x.2.2 ∧ x.2.2 ≤ b ∧ -x.2.2 ≤ x.2.1 ∧ x.2.1 ≤ x.2.2 := by
  unfold goes goesN at h
  obtain ⟨h1, h2⟩ := List.mem_filter.mp h
  obtain ⟨k, _, e⟩ := List.mem_map.mp h1
  subst e
  have h3 := lat_pos (base := base) (t := t) (d := 1 - base + (k : Int)) hb
  unfold goOk at h2
  rw [decide_eq_true_iff, absI_eq] at h2
  dsimp only at *
  omega
def Fk (B : Int) (x : Int × Int) : Prop := 0 < x.2 ∧ x.2 ≤ B ∧ -x.2 ≤ x.1 ∧ x.1 ≤ x.2
theorem gD_at {L : List (Int × (Int × Int))} {j : Nat} {y : D} (h : (L.map gD)[j]? = some y) : ∃ g, L[j]? = some g ∧ y = gD g := by
  rw [List.getElem?_map] at h
  obtain ⟨z, hz, e⟩ := Option.map_eq_some_iff.mp h
  exact ⟨z, hz, e.symm⟩
theorem take_more {α : Type} {l : List α} {i : Nat} {x : α} (h : l[i]? = some x) : l.take (i + 1) = l.take i ++ [x] := by
  rw [List.take_succ, h]; rfl
theorem nodup_map_on {α β : Type} {f : α → β} : ∀ {L : List α}, (∀ x ∈ L, ∀ y ∈ L, f x = f y → x = y) → L.Nodup → (L.map f).Nodup
  | [], _, _ => List.nodup_nil
  | x :: r, h, nd => by
    rw [List.nodup_cons] at nd
    rw [List.map_cons, List.nodup_cons]
    refine ⟨fun hm => ?_, nodup_map_on (fun a ha b hb => h a (List.mem_cons_of_mem _ ha) b (List.mem_cons_of_mem _ hb)) nd.2⟩
    obtain ⟨y, hy, e⟩ := List.mem_map.mp hm
    have := h y (List.mem_cons_of_mem _ hy) x (by simp) e
    exact nd.1 (by rw [← this]; exact hy)
theorem fk_len {B : Int} {L : List ((Int × Int) × Int)} (hB : B ≤ 1000) (nd : (L.map (·.1)).Nodup) (rg : ∀ x ∈ L.map (·.1), Fk B x) : L.length ≤ 3100000 := by
  have h1 : ((L.map (·.1)).map fun x => x.1 + x.2 * 3000).Nodup := by
    refine nodup_map_on ?_ nd
    intro x hx y hy e
    have hx' := rg x hx
    have hy' := rg y hy
    unfold Fk at hx' hy'
    have : x.2 = y.2 := by omega
    exact Prod.ext (by omega) this
  have h2 := len_range 3100000 0 h1 fun z hz => by
    obtain ⟨x, hx, e⟩ := List.mem_map.mp hz
    have hx' := rg x hx
    unfold Fk at hx'
    omega
  rw [List.length_map, List.length_map] at h2
  exact h2
def kF (x : Int × Int) : List Key := [Sum.inl x.1, Sum.inl x.2]
theorem kF_inj : ∀ a b, kF a = kF b → a = b := fun a b e => by
  unfold kF at e
  injection e with e1 e2
  injection e2 with e2 _
  exact Prod.ext (Sum.inl.inj e1) (Sum.inl.inj e2)
theorem kF_fr (x : Int × Int) : (.tup ((kF x).map kD) : D) = fr x := rfl
def cD (x : (Int × Int) × Int) : D := .tup [fr x.1, .int x.2]
def nexts (base t b : Int) (n : Nat) : List (Int × Int) := (List.range n).map fun (k : Nat) => (ldig base t b + (k : Int), base * t - (ldig base t b + (k : Int)) * b)
def nextN (base t b : Int) : Nat := (gdig base t b + 1 - ldig base t b).toNat
theorem nexts_succ (base t b : Int) (n : Nat) : nexts base t b (n + 1) = nexts base t b n ++ [(ldig base t b + (n : Int), base * t - (ldig base t b + (n : Int)) * b)] := by
  unfold nexts
  rw [List.range_succ, List.map_append]
  rfl
def nx (base b t : Int) : List (Int × Int) := nexts base t b (nextN base t b)
theorem nexts_len (base t b : Int) (n : Nat) : (nexts base t b n).length = n := by unfold nexts; rw [List.length_map, List.length_range]
theorem filter_part {α : Type} (f : Nat → α) (q : α → Bool) {n c m : Nat} (hcm : c + m ≤ n) (hq : ∀ k, k < n → (q (f k) = true ↔ c ≤ k ∧ k < c + m)) : ((List.range n).map f).filter q = (List.range m).map fun k => f (c + k) := by
  have e : n = c + (m + (n - c - m)) := by omega
  have r1 : ∀ a b : Nat, List.range (a + b) = List.range a ++ (List.range b).map (a + ·) := fun a b => by
    refine List.ext_getElem? fun i => ?_
    by_cases h1 : i < a
    · rw [List.getElem?_append_left (by rw [List.length_range]; exact h1), List.getElem?_range h1, List.getElem?_range (by omega)]
    · rw [List.getElem?_append_right (by rw [List.length_range]; omega), List.length_range, List.getElem?_map]
      by_cases h2 : i - a < b
      · rw [List.getElem?_range h2, List.getElem?_range (by omega)]
        show some i = some (a + (i - a))
        congr 1; omega
      · rw [List.getElem?_eq_none (by rw [List.length_range]; omega), List.getElem?_eq_none (by rw [List.length_range]; omega)]; rfl
  rw [e, r1, r1, List.map_append, List.map_append, List.filter_append, List.map_append, List.filter_append]
  have z1 : ((List.range c).map f).filter q = [] := by
    rw [List.filter_eq_nil_iff]
    intro x hx
    obtain ⟨k, hk, rfl⟩ := List.mem_map.mp hx
    have := List.mem_range.mp hk
    rw [hq k (by omega)]
    omega
  have z2 : ((((List.range m).map (c + ·))).map f).filter q = (List.range m).map fun k => f (c + k) := by
    rw [List.map_map, List.filter_eq_self.mpr]
    · rfl
    · intro x hx
      obtain ⟨k, hk, rfl⟩ := List.mem_map.mp hx
      have := List.mem_range.mp hk
      exact (hq (c + k) (by omega)).mpr ⟨by omega, by omega⟩
  have z3 : (((((List.range (n - c - m)).map (m + ·))).map (c + ·)).map f).filter q = [] := by
    rw [List.filter_eq_nil_iff]
    intro x hx
    rw [List.map_map, List.map_map] at hx
    obtain ⟨k, hk, rfl⟩ := List.mem_map.mp hx
    have := List.mem_range.mp hk
    show ¬ q (f (c + (m + k))) = true
    rw [hq _ (by omega)]
    omega
  rw [z1, z2, z3, List.nil_append, List.append_nil]
theorem goes_nx {base t b t' b' : Int} (h1 : 2 ≤ base) (hb : 0 < b) (ht : -b ≤ t ∧ t ≤ b) (hb' : 0 < b') (hx : t' * b = t * b') :
    goes base t' b' = (nx base b t).map fun z => (z.1, lat base t' b' z.1) := by
  have l1 := ldig_ge base t b
  have l2 := gdig_le base t b
  have l3 := dig_le h1 hb ht.1 ht.2
  unfold goes goesN
  have e := filter_part (fun (k : Nat) => ((1 - base + (k : Int)), lat base t' b' (1 - base + (k : Int)))) goOk (n := (base - (1 - base)).toNat) (c := (ldig base t b - (1 - base)).toNat) (m := nextN base t b) (by unfold nextN; omega) ?_
  · rw [e]
    unfold nx nexts
    rw [List.map_map]
    refine List.map_congr_left fun k _ => ?_
    have ek : 1 - base + (((ldig base t b - (1 - base)).toNat + k : Nat) : Int) = ldig base t b + (k : Int) := by omega
    show (_, lat base t' b' _) = (_, lat base t' b' _)
    rw [ek]
  · intro k hk
    rw [lat_ok hb']
    have hs : (-b' ≤ base * t' - (1 - base + (k : Int)) * b' ∧ base * t' - (1 - base + (k : Int)) * b' ≤ b') ↔ (-b ≤ base * t - (1 - base + (k : Int)) * b ∧ base * t - (1 - base + (k : Int)) * b ≤ b) := by
      refine sim_within hb' hb ?_
      rw [Int.sub_mul, Int.sub_mul, Int.mul_assoc base t' b, hx, ← Int.mul_assoc base t b', Int.mul_right_comm _ b' b]
    have hiff : (ldig base t b ≤ 1 - base + (k : Int) ∧ 1 - base + (k : Int) ≤ gdig base t b) ↔ (-b ≤ base * t - (1 - base + (k : Int)) * b ∧ base * t - (1 - base + (k : Int)) * b ≤ b) := by
      rw [ldig_le hb, le_gdig hb]
      constructor
      · rintro ⟨⟨_, a⟩, ⟨_, c⟩⟩; exact ⟨c, a⟩
      · rintro ⟨a, c⟩; exact ⟨⟨by omega, c⟩, ⟨by omega, a⟩⟩
    rw [hs, ← hiff]
    unfold nextN
    omega
theorem low_gcd {t b : Int} (hb : 0 < b) : Nat.gcd (low t b).1.natAbs (low t b).2.natAbs = 1 := by
  have hg := gcd_pos (t := t) hb
  obtain ⟨x, hx⟩ := Int.gcd_dvd_left t b
  obtain ⟨y, hy⟩ := Int.gcd_dvd_right t b
  have e1 : t / (Int.gcd t b : Int) = x := Int.ediv_eq_of_eq_mul_right (by omega) hx
  have e2 : b / (Int.gcd t b : Int) = y := Int.ediv_eq_of_eq_mul_right (by omega) hy
  rw [low_fst, low_snd, e1, e2]
  have h : Int.gcd ((Int.gcd t b : Int) * x) ((Int.gcd t b : Int) * y) = Int.gcd t b := by rw [← hx, ← hy]
  rw [Int.gcd_mul_left, Int.natAbs_natCast] at h
  have h2 : Int.gcd t b * Int.gcd x y = Int.gcd t b * 1 := by rw [h, Nat.mul_one]
  exact Nat.eq_of_mul_eq_mul_left (by omega) h2
theorem low_num {t b : Int} (hb : 0 < b) (h1 : -b ≤ t) (h2 : t ≤ b) : Num (low t b).1 (low t b).2 := by
  have h := (sim_within (low_pos (t := t) hb) hb (low_cross (t := t) hb)).mpr ⟨h1, h2⟩
  exact ⟨low_pos hb, low_gcd hb, h.1, h.2⟩
/-! ### drawn writings -/
/-- digits that lead from a number to what is left -/
inductive Ch (base : Int) : (Int × Int) → List Int → (Int × Int) → Prop
  | nil (r : Int × Int) : Ch base r [] r
  | snoc {r s : Int × Int} {c : List Int} {w : Int × (Int × Int)} : Ch base r c s → w ∈ goes base s.1 s.2 → Ch base r (c ++ [w.1]) w.2
theorem goes_ne {base t b : Int} (h1 : 2 ≤ base) (hb : 0 < b) (ht : -b ≤ t ∧ t ≤ b) : goes base t b ≠ [] := by
  rw [goes_nx h1 hb ht hb rfl]
  intro z
  have := congrArg List.length z
  unfold nx at this
  rw [List.length_map, nexts_len] at this
  have l := dig_le h1 hb ht.1 ht.2
  unfold nextN at this
  simp only [List.length_nil] at this
  omega
theorem goes_fk {base B : Int} {s : Int × Int} {w : Int × (Int × Int)} (hs : Fk B s) (h : w ∈ goes base s.1 s.2) : Fk B w.2 := by
  have := goes_mem hs.1 h
  exact ⟨this.1, Int.le_trans this.2.1 hs.2.1, this.2.2.1, this.2.2.2⟩
def plE (L : List ((Int × Int) × Nat)) : List (List Key × D) := L.map fun x => (kF x.1, D.int (x.2 : Int))
def fiE (L : List ((Int × Int) × (Int × (Int × Int)))) : List (List Key × D) := L.map fun x => (kF x.1, gD x.2)
theorem plE_keys (L : List ((Int × Int) × Nat)) : (plE L).map (·.1) = (L.map (·.1)).map kF := by unfold plE; rw [List.map_map, List.map_map]; rfl
theorem fiE_keys (L : List ((Int × Int) × (Int × (Int × Int)))) : (fiE L).map (·.1) = (L.map (·.1)).map kF := by unfold fiE; rw [List.map_map, List.map_map]; rfl
theorem cop_eq {p q p' q' : Int} (hq : 0 < q) (hq' : 0 < q') (c : Nat.gcd p.natAbs q.natAbs = 1) (c' : Nat.gcd p'.natAbs q'.natAbs = 1) (h : p * q' = p' * q) : p = p' ∧ q = q' := by
  have hn : p.natAbs * q'.natAbs = p'.natAbs * q.natAbs := by rw [← Int.natAbs_mul, ← Int.natAbs_mul, h]
  have d1 : q.natAbs ∣ q'.natAbs := Nat.Coprime.dvd_of_dvd_mul_left (Nat.Coprime.symm c) ⟨p'.natAbs, by rw [hn, Nat.mul_comm]⟩
  have d2 : q'.natAbs ∣ q.natAbs := Nat.Coprime.dvd_of_dvd_mul_left (Nat.Coprime.symm c') ⟨p.natAbs, by rw [← hn, Nat.mul_comm]⟩
  have e := Nat.dvd_antisymm d1 d2
  have e2 : q = q' := by omega
  subst e2
  exact ⟨Int.eq_of_mul_eq_mul_right (by omega) h, rfl⟩
theorem low_uniq {p q T b : Int} (hb : 0 < b) (hq : 0 < q) (c : Nat.gcd p.natAbs q.natAbs = 1) (h : p * b = T * q) : (p, q) = low T b := by
  have h1 := low_pos (t := T) hb
  have h2 := low_cross (t := T) hb
  have h3 := low_gcd (t := T) hb
  generalize low T b = z at h1 h2 h3 ⊢
  obtain ⟨p', q'⟩ := z
  dsimp only at h1 h2 h3
  have h4 : p * q' = p' * q := by
    refine Int.eq_of_mul_eq_mul_right (a := b) (by omega) ?_
    rw [Int.mul_right_comm, h, Int.mul_right_comm p' q b, h2, Int.mul_right_comm T q q']
  obtain ⟨a1, a2⟩ := cop_eq hq h1 c h3 h4
  rw [a1, a2]
/-- a number of the bottom B, in lowest terms -/
def Lt (B : Int) (y : Int × Int) : Prop := Nat.gcd y.1.natAbs y.2.natAbs = 1 ∧ ∃ T : Int, y.1 * B = T * y.2
theorem lt_goes {base B : Int} {s : Int × Int} {w : Int × (Int × Int)} (hB : 0 < B) (hs : Fk B s) (h : Lt B s) (hw : w ∈ goes base s.1 s.2) : Lt B w.2 := by
  unfold goes goesN at hw
  obtain ⟨h1, _⟩ := List.mem_filter.mp hw
  obtain ⟨k, _, e⟩ := List.mem_map.mp h1
  subst e
  obtain ⟨_, T, hT⟩ := h
  have hb := hs.1
  dsimp only
  generalize 1 - base + (k : Int) = d
  have c := lat_cross (base := base) (t := s.1) (d := d) hb
  have hp : 0 < (low (s.1 * base) (s.2 * 1)).2 * 1 := by
    have := low_pos (t := s.1 * base) (b := s.2 * 1) (by omega)
    omega
  refine ⟨low_gcd hp, base * T - d * B, ?_⟩
  refine Int.eq_of_mul_eq_mul_right (a := s.2) (by omega) ?_
  generalize lat base s.1 s.2 d = z at c
  have e1 : z.1 * B * s.2 = (z.1 * s.2) * B := Int.mul_right_comm _ _ _
  rw [e1, c]
  have e2 : (base * s.1 - d * s.2) * z.2 * B = (base * (s.1 * B) - d * B * s.2) * z.2 := by
    rw [Int.mul_right_comm, Int.sub_mul, Int.mul_assoc base s.1 B, Int.mul_right_comm d s.2 B]
  rw [e2, hT, ← Int.mul_assoc base T s.2, ← Int.sub_mul, Int.mul_right_comm]
/-- there are few of them -/
theorem lt_len {B : Int} (hB : 0 < B) {L : List (Int × Int)} (nd : L.Nodup) (h : ∀ y ∈ L, Fk B y ∧ Lt B y) : (L.length : Int) ≤ 2 * B + 1 := by
  have nd2 := nodup_map_on (f := fun y : Int × Int => y.1 * B / y.2) (fun x hx y hy e => ?_) nd
  · have := len_range (2 * B + 1).toNat (-B) nd2 fun z hz => by
      obtain ⟨y, hy, rfl⟩ := List.mem_map.mp hz
      obtain ⟨f, c, T, hT⟩ := h y hy
      have e : y.1 * B / y.2 = T := by rw [hT]; exact Int.mul_ediv_cancel _ (by have := f.1; omega)
      rw [e]
      have := (sim_within f.1 hB hT).mp ⟨f.2.2.1, f.2.2.2⟩
      omega
    rw [List.length_map] at this
    omega
  · obtain ⟨f, c, T, hT⟩ := h x hx
    obtain ⟨f', c', T', hT'⟩ := h y hy
    have e1 : x.1 * B / x.2 = T := by rw [hT]; exact Int.mul_ediv_cancel _ (by have := f.1; omega)
    have e2 : y.1 * B / y.2 = T' := by rw [hT']; exact Int.mul_ediv_cancel _ (by have := f'.1; omega)
    rw [e1, e2] at e
    subst e
    have hx := low_uniq hB f.1 c hT
    have hy := low_uniq hB f'.1 c' hT'
    exact (Prod.ext rfl rfl : x = (x.1, x.2)).trans (hx.trans (hy.symm.trans (Prod.ext rfl rfl)))
theorem ch_dig {base : Int} {r s : Int × Int} {c : List Int} (h : Ch base r c s) : Dig base c := by
  induction h with
  | nil => exact fun x hx => nomatch hx
  | snoc h hw ih =>
    intro x hx
    rcases List.mem_append.mp hx with h1 | h1
    · exact ih x h1
    · rw [List.mem_singleton.mp h1]
      unfold goes goesN at hw
      obtain ⟨h1, _⟩ := List.mem_filter.mp hw
      obtain ⟨k, hk, e⟩ := List.mem_map.mp h1
      have := List.mem_range.mp hk
      subst e
      dsimp only
      omega
/-- the table of places -/
def PlOk (base B : Int) (x s : Int × Int) (c : List Int) (L : List ((Int × Int) × Nat)) : Prop :=
  (L.map (·.1)).Nodup ∧ ∀ y ∈ L, (Fk B y.1 ∧ Lt B y.1) ∧ y.2 < c.length ∧ Ch base x (c.take y.2) y.1 ∧ Ch base y.1 (c.drop y.2) s
theorem PlOk.more {base B : Int} {x s : Int × Int} {c : List Int} {L : List ((Int × Int) × Nat)} {w : Int × (Int × Int)} (h : PlOk base B x s c L) (hx : Ch base x c s) (hs : Fk B s ∧ Lt B s) (hw : w ∈ goes base s.1 s.2) (hn : s ∉ L.map (·.1)) :
    PlOk base B x w.2 (c ++ [w.1]) (L ++ [(s, c.length)]) := by
  refine ⟨?_, fun y hy => ?_⟩
  · rw [List.map_append, List.nodup_append]
    refine ⟨h.1, by simp, fun a ha b hb e => hn ?_⟩
    have : b = s := by simpa using hb
    rw [← this, ← e]; exact ha
  · rcases List.mem_append.mp hy with hy | hy
    · obtain ⟨q1, q2, q3, q4⟩ := h.2 y hy
      refine ⟨q1, by rw [List.length_append]; omega, ?_, ?_⟩
      · rw [List.take_append_of_le_length (by omega)]; exact q3
      · rw [List.drop_append_of_le_length (by omega)]; exact .snoc q4 hw
    · have ey : y = (s, c.length) := by simpa using hy
      rw [ey]
      refine ⟨hs, by show c.length < _; rw [List.length_append, List.length_singleton]; omega, ?_, ?_⟩
      · show Ch base x ((c ++ [w.1]).take c.length) s
        rw [List.take_append_of_le_length (Nat.le_refl _), List.take_length]; exact hx
      · show Ch base s ((c ++ [w.1]).drop c.length) w.2
        rw [List.drop_append_of_le_length (Nat.le_refl _), List.drop_length]
        exact .snoc (.nil s) hw
theorem pl_len {base B : Int} {x s : Int × Int} {c : List Int} {L : List ((Int × Int) × Nat)} (hB : 0 < B) (h : PlOk base B x s c L) : (L.length : Int) ≤ 2 * B + 1 := by
  have := lt_len hB h.1 fun z hz => by
    obtain ⟨y, hy, rfl⟩ := List.mem_map.mp hz
    exact ⟨(h.2 y hy).1.1, (h.2 y hy).1.2⟩
  rw [List.length_map] at this
  exact this
def S_law_writing : List D → (D → Prop) → Prop := fun ds R => ∃ base t b : Int, ds = [.hand, .int base, fr (t, b)] ∧ 2 ≤ base ∧ base ≤ 5 ∧ Num t b ∧ b ≤ 27 ∧
  ∀ (ps qs : List Int), Dig base ps → Dig base qs → qs ≠ [] → ps.length + qs.length ≤ 70 → R (.tup [.tup (ps.map D.int), .tup (qs.map D.int)])
theorem l_law_writing : ∀ ds R, S_law_writing ds R → ds.length = 3 := fun ds R ⟨_, _, _, e, _⟩ => by rw [e]; rfl
theorem gD_mem {base t b : Int} {x : D} (h : x ∈ (goes base t b).map gD) : ∃ w, w ∈ goes base t b ∧ x = gD w := by
  obtain ⟨w, hw, e⟩ := List.mem_map.mp h
  exact ⟨w, hw, e.symm⟩
theorem d_law_writing (T : Txt K mg) : Dfn P w K mg bs 4 "_law_writing" ["hand", "base", "x"] S_law_writing := by
  have D_law_draw := d_law_draw (P := P) (w := w) (bs := bs) T
  have D_law_any := d_law_any (P := P) (w := w) (bs := bs) T
  have D_law_goes := d_law_goes (P := P) (w := w) (bs := bs) T
  refine mkD (k := 3) T.s_law_writing sc_law_writing (fun _ _ _ _ _ _ us hl => match us, hl with | [_, _, _], _ => rfl) l_law_writing fun f cdv A outer s H E hr => ?_
  have hu := hu_of hr
  refine ⟨_, (pss_cons (ps_asg (pe_tup (pa_cons (pe_lst pa_nil) (pa_cons (pv 2) (pa_cons pe_dnewT (pa_cons pe_dnewT pa_nil))))) (pg_tup rfl (pgs_cons (pg_name (i := 3) sc_law_writing.nd rfl (Or.inl rfl)) (pgs_cons (pg_name (i := 4) sc_law_writing.nd rfl (Or.inl rfl)) (pgs_cons (pg_name (i := 5) sc_law_writing.nd rfl (Or.inl rfl)) (pgs_cons (pg_name (i := 6) sc_law_writing.nd rfl (Or.inl rfl)) pgs_nil))))))
      (pss_cons (ps_for PassesOwn.never rfl (pi_range1 rfl T.n_range (pa_cons (pe_callK0 (K0 := K) (by rfl) D_law_draw (hr.mono (by decide)) (pa_cons (pv 0) (pa_cons pe_int pa_nil))) pa_nil)) (pg_name (i := 7) sc_law_writing.nd rfl (Or.inl rfl))
      (pss_cons (ps_asg (pe_callK0 (K0 := K) (by rfl) D_law_any (hr.mono (by decide)) (pa_cons (pv 0) (pa_cons (pe_callK0 (K0 := K) (by rfl) D_law_goes (hr.mono (by decide)) (pa_cons (pv 1) (pa_cons (pv 4) pa_nil))) pa_nil))) (pg_tup rfl (pgs_cons (pg_name (i := 8) sc_law_writing.nd rfl (Or.inl rfl)) (pgs_cons (pg_name (i := 4) sc_law_writing.nd rfl (Or.inl rfl)) pgs_nil))))
      (pss_one (ps_expr (pe_bm PySem.F.plainAttrs_list PySem.F.slot_list_append PySem.F.type_list_append mt_append (pv 3) (pa_cons (pv 8) pa_nil))))))
      (pss_cons (ps_while PassesOwn.never (pt_cmp (pc_dnotin hu (pv 4) (pv 6))) (pss_cons (ps_dput hu (pv 6) (pv 4) (pe_callB (call_lenK (K0 := K) (by rfl)) (by rfl) T.n_len (by decide +kernel) (pa_cons (pv 3) pa_nil)) rfl)
      (pss_cons (ps_dput hu (pv 5) (pv 4) (pe_callK0 (K0 := K) (by rfl) D_law_any (hr.mono (by decide)) (pa_cons (pv 0) (pa_cons (pe_callK0 (K0 := K) (by rfl) D_law_goes (hr.mono (by decide)) (pa_cons (pv 1) (pa_cons (pv 4) pa_nil))) pa_nil))) rfl)
      (pss_cons (ps_expr (pe_bm PySem.F.plainAttrs_list PySem.F.slot_list_append PySem.F.type_list_append mt_append (pv 3) (pa_cons (pe_ix (ix_tupK (K0 := K) (by rfl)) (pe_dget hu (pv 5) (pv 4) (fun _ _ => rfl)) pe_int (fun _ _ => rfl)) pa_nil)))
      (pss_one (ps_set (i := 4) sc_law_writing.nd rfl (Or.inl rfl) (pe_ix (ix_tupK (K0 := K) (by rfl)) (pe_dget hu (pv 5) (pv 4) (fun _ _ => rfl)) pe_int (fun _ _ => rfl))))))))
      (pss_one (ps_ret (pe_tup (pa_cons (pe_callTy (call_tupleK (K0 := K) (by rfl)) (by rfl) T.n_tuple (by decide +kernel) (pa_cons (pe_slice (sl_listK (K0 := K) (by rfl)) (pv 3) po_none (po_some (pe_dget hu (pv 6) (pv 4) (fun _ _ => rfl)))) pa_nil)) (pa_cons (pe_callTy (call_tupleK (K0 := K) (by rfl)) (by rfl) T.n_tuple (by decide +kernel) (pa_cons (pe_slice (sl_listK (K0 := K) (by rfl)) (pv 3) (po_some (pe_dget hu (pv 6) (pv 4) (fun _ _ => rfl))) po_none) pa_nil)) pa_nil)))))))), fun h H0 G0 ds R hS => ?_⟩
  obtain ⟨base, t, b, rfl, h1, h2, hn, hb4, hR⟩ := hS
  obtain ⟨hb, hg, ht1, ht2⟩ := id hn
  have hx0 : Fk b (t, b) := ⟨hb, Int.le_refl _, ht1, ht2⟩
  have hl0 : Lt b (t, b) := ⟨hg, t, rfl⟩
  have bd : ∀ {s : Int × Int}, Fk b s → Bd 3000 s.1 ∧ Bd 3000 s.2 := fun {s} hs => by
    obtain ⟨a1, a2, a3, a4⟩ := hs
    exact ⟨(Bd.small (k := 64) (by omega)).mono (by decide), (Bd.small (k := 64) (by omega)).mono (by decide)⟩
  have gl : ∀ s : Int × Int, (goes base s.1 s.2).length ≤ 9 := fun s => by
    have := goesN_len base s.1 s.2 (base - (1 - base)).toNat
    unfold goes; omega
  refine ws_seq (ws_new4T rfl ?_)
  refine ws_seq (ws_for1 (wa_cons (we_call (wa_cons (we_var rfl (wa_cons (we_int (wa_nil ⟨6, rfl, by decide, by decide, fun n hn0 hn1 => wa_nil ?_⟩))))))))
  refine ⟨n, rfl, by omega, by omega, fun k ρ => ∃ (c : List Int) (s : Int × Int) (r7 r8 : Option Cell), Ch base (t, b) c s ∧ (Fk b s ∧ Lt b s) ∧ c.length = k ∧
    ρ = [some (.d .hand), some (.d (.int base)), some (.d (fr (t, b))), some (.ol (c.map D.int)), some (.d (fr s)), some (.ot []), some (.ot []), r7, r8], ⟨[], (t, b), _, _, .nil _, ⟨hx0, hl0⟩, rfl, rfl⟩, ?_, ?_⟩
  · rintro k ρ hk ⟨c, s, r7, r8, hc, hs, hlen, rfl⟩
    refine wg_name (ws_seq (ws_asgG (we_call (wa_cons (we_var rfl (wa_cons (we_call (wa_cons (we_var rfl (wa_cons (we_var rfl (wa_nil ?_))))))))))))
    obtain ⟨hs, hls⟩ := hs
    obtain ⟨st, sb⟩ := s
    refine ⟨base, st, sb, rfl, h1, h2, hs.1, (bd hs).1, (bd hs).2, wa_nil ⟨_, rfl, ?_, ?_, fun y hy => ?_⟩⟩
    · intro z
      exact goes_ne h1 hs.1 ⟨hs.2.2.1, hs.2.2.2⟩ (List.map_eq_nil_iff.mp z)
    · rw [List.length_map]; have := gl (st, sb); dsimp only at this; omega
    · obtain ⟨w, hw, rfl⟩ := gD_mem hy
      refine wg_tup ⟨_, rfl, rfl, wgs_cons ⟨_, _, rfl, wg_name (wgs_cons ⟨_, _, rfl, wg_name (wgs_nil ⟨rfl, ?_⟩)⟩)⟩⟩
      refine ws_append rfl (by rw [List.length_map]; omega) (we_var rfl ?_)
      refine ⟨c ++ [w.1], w.2, some (.d (.int (k : Int))), some (.d (.int w.1)), .snoc hc hw, ⟨goes_fk hs hw, lt_goes hb hs hls hw⟩, by rw [List.length_append, hlen]; rfl, ?_⟩
      rw [List.map_append]
      rfl
  · rintro ρ ⟨c, s, r7, r8, hc, hs, hlen, rfl⟩
    refine ws_seq (ws_while (fun m ρ => ∃ (c : List Int) (s : Int × Int) (L : List ((Int × Int) × Nat)) (F : List ((Int × Int) × (Int × (Int × Int)))) (r7 r8 : Option Cell), Ch base (t, b) c s ∧ (Fk b s ∧ Lt b s) ∧ PlOk base b (t, b) s c L ∧ F.map (·.1) = L.map (·.1) ∧ c.length ≤ 5 + L.length ∧ m + L.length = 60 ∧
      ρ = [some (.d .hand), some (.d (.int base)), some (.d (fr (t, b))), some (.ol (c.map D.int)), some (.d (fr s)), some (.ot (fiE F)), some (.ot (plE L)), r7, r8]) 60 ⟨c, s, [], [], _, _, hc, hs, ⟨List.nodup_nil, fun y hy => by cases hy⟩, rfl, by show c.length ≤ 5 + 0; omega, rfl, rfl⟩ ?_)
    rintro m ρ ⟨c, s, L, F, q7, q8, hc, ⟨hs, hls⟩, hL, hF, hlen, hm, rfl⟩
    have hcap := pl_len hb hL
    refine wt_T (we_dnotinT rfl (we_var rfl ⟨kF s, (kF_fr s).symm, _, rfl, ?_⟩))
    cases hget : dGet (plE L) (kF s) with
    | none =>
      rw [if_pos (by rfl)]
      have hno : s ∉ L.map (·.1) := fun z => by
        have := dGet_no hget
        rw [plE_keys] at this
        exact this (List.mem_map.mpr ⟨s, z, rfl⟩)
      have hgetF : dGet (fiE F) (kF s) = none := dGet_not (by
        rw [fiE_keys, hF, ← plE_keys]
        exact dGet_no hget)
      refine ws_seq (ws_dputT rfl (by unfold plE; rw [List.length_map]; omega) (we_lenO rfl (we_var rfl ⟨kF s, (kF_fr s).symm, ?_⟩)))
      rw [dPut_new hget]
      have eP : plE L ++ [(kF s, D.int ((c.map D.int).length : Int))] = plE (L ++ [(s, c.length)]) := by
        unfold plE
        rw [List.map_append, List.length_map]
        rfl
      rw [eP]
      have hlF : F.length = L.length := by have := congrArg List.length hF; rw [List.length_map, List.length_map] at this; exact this
      show WS _ _ _ _
      refine ws_seq (ws_dputT rfl (by unfold fiE; rw [List.length_map, hlF]; omega) (we_call (wa_cons (we_var rfl (wa_cons (we_call (wa_cons (we_var rfl (wa_cons (we_var rfl (wa_nil ?_)))))))))))
      refine ⟨base, s.1, s.2, rfl, h1, h2, hs.1, (bd hs).1, (bd hs).2, wa_nil ⟨_, rfl, ?_, ?_, fun y hy => ?_⟩⟩
      · intro z
        exact goes_ne h1 hs.1 ⟨hs.2.2.1, hs.2.2.2⟩ (List.map_eq_nil_iff.mp z)
      · rw [List.length_map]; have := gl s; omega
      obtain ⟨w, hw, rfl⟩ := gD_mem hy
      refine we_var rfl ⟨kF s, (kF_fr s).symm, ?_⟩
      rw [dPut_new hgetF]
      have hgN := dGet_new (v := gD w) hgetF
      have eF : fiE F ++ [(kF s, gD w)] = fiE (F ++ [(s, w)]) := by
        unfold fiE
        rw [List.map_append]
        rfl
      rw [eF] at hgN ⊢
      show WS _ _ _ _
      refine ws_seq (ws_append rfl (by rw [List.length_map]; omega) (we_ixT (we_dgetT rfl (we_var rfl ⟨kF s, gD w, (kF_fr s).symm, hgN, _, rfl, we_int ⟨0, .int w.1, rfl, rfl, ?_⟩⟩))))
      show WS _ _ _ _
      refine ws_asg (we_ixT (we_dgetT rfl (we_var rfl ⟨kF s, gD w, (kF_fr s).symm, hgN, _, rfl, we_int ⟨1, fr w.2, rfl, rfl, ?_⟩⟩)))
      refine ⟨m - 1, by omega, c ++ [w.1], w.2, L ++ [(s, c.length)], F ++ [(s, w)], q7, q8, .snoc hc hw, ⟨goes_fk hs hw, lt_goes hb hs hls hw⟩, hL.more hc ⟨hs, hls⟩ hw hno, ?_, ?_, ?_, ?_⟩
      · rw [List.map_append, List.map_append, hF]; rfl
      · rw [List.length_append, List.length_append, List.length_singleton, List.length_singleton]; omega
      · rw [List.length_append, List.length_singleton]; omega
      · rw [List.map_append]
        rfl
    | some v =>
      rw [if_neg (by exact Bool.false_ne_true)]
      obtain ⟨y, hy, hye⟩ := List.mem_map.mp (dGet_mem hget)
      obtain ⟨q1, q2, q3, q4⟩ := hL.2 y hy
      have e1 : y.1 = s := kF_inj _ _ (congrArg Prod.fst hye)
      have e2 : v = .int (y.2 : Int) := (congrArg Prod.snd hye).symm
      subst e2
      rw [e1] at q3 q4
      refine ws_freeze 3 rfl rfl (ws_ret (we_tup (wa_cons (we_tupleOf (we_slL (we_var rfl ⟨_, rfl, ?_⟩))))))
      refine wo_none (wo_some (we_dgetT rfl (we_var rfl ⟨kF s, .int (y.2 : Int), (kF_fr s).symm, hget, _, rfl, _, .inl rfl, ?_⟩)))
      refine wa_cons (we_tupleOf (we_slL (we_var rfl ⟨_, rfl, wo_some (we_dgetT rfl (we_var rfl ⟨kF s, .int (y.2 : Int), (kF_fr s).symm, hget, _, rfl, wo_none ⟨_, .inl rfl, wa_nil ⟨len2, ?_⟩⟩⟩))⟩)))
      rw [cut_take, cut_drop, ← List.map_take, ← List.map_drop]
      refine hR _ _ (ch_dig q3) (ch_dig q4) (fun z => ?_) ?_
      · have := congrArg List.length z
        rw [List.length_drop] at this
        simp only [List.length_nil] at this
        omega
      · rw [List.length_take, List.length_drop]; omega
def S_law_number : List D → (D → Prop) → Prop := fun ds R => ds = [.hand] ∧ ∀ t b : Int, Num t b → b ≤ 27 → R (fr (t, b))
theorem l_law_number : ∀ ds R, S_law_number ds R → ds.length = 1 := fun ds R ⟨e, _⟩ => by rw [e]; rfl
theorem d_law_number (T : Txt K mg) : Dfn P w K mg bs 4 "_law_number" ["hand"] S_law_number := by
  have D_law_any := d_law_any (P := P) (w := w) (bs := bs) T
  have D_law_low := d_law_low (P := P) (w := w) (bs := bs) T
  have D_law_draw := d_law_draw (P := P) (w := w) (bs := bs) T
  refine mkD (k := 3) T.s_law_number sc_law_number (fun _ _ _ _ _ _ us hl => match us, hl with | [_], _ => rfl) l_law_number fun f cdv A outer s H E hr => ?_
  have hu := hu_of hr
  refine ⟨_, (pss_cons (ps_set (i := 1) sc_law_number.nd rfl (Or.inl rfl) (pe_callK0 (K0 := K) (by rfl) D_law_any (hr.mono (by decide)) (pa_cons (pv 0) (pa_cons (pe_lst (pa_cons pe_int (pa_cons pe_int (pa_cons pe_int (pa_cons pe_int (pa_cons pe_int (pa_cons pe_int (pa_cons pe_int (pa_cons pe_int (pa_cons pe_int (pa_cons pe_int (pa_cons pe_int (pa_cons pe_int pa_nil))))))))))))) pa_nil))))
      (pss_one (ps_ret (pe_callK0 (K0 := K) (by rfl) D_law_low (hr.mono (by decide)) (pa_cons (pe_op op_sub (pe_callK0 (K0 := K) (by rfl) D_law_draw (hr.mono (by decide)) (pa_cons (pv 0) (pa_cons (pe_op op_add (pe_op op_mulA pe_int (pv 1)) pe_int) pa_nil))) (pv 1)) (pa_cons (pv 1) pa_nil)))))), fun h H0 G0 ds R hS => ?_⟩
  obtain ⟨rfl, hR⟩ := hS
  refine ws_seq (ws_asg (we_call (wa_cons (we_var rfl (wa_cons (we_lst ?_))))))
  refine wa_cons (we_int (wa_cons (we_int (wa_cons (we_int (wa_cons (we_int (wa_cons (we_int (wa_cons (we_int ?_)))))))))))
  refine wa_cons (we_int (wa_cons (we_int (wa_cons (we_int (wa_cons (we_int (wa_cons (we_int (wa_cons (we_int ?_)))))))))))
  refine wa_nil ⟨Nat.le_of_ble_eq_true rfl, wa_nil ⟨_, rfl, by simp, by simp, fun y hy => ?_⟩⟩
  obtain ⟨bo, rfl, bo1, bo2⟩ : ∃ i : Int, y = .int i ∧ 1 ≤ i ∧ i ≤ 27 := by
    simp only [List.mem_cons, List.not_mem_nil, or_false] at hy
    rcases hy with rfl | rfl | rfl | rfl | rfl | rfl | rfl | rfl | rfl | rfl | rfl | rfl <;> exact ⟨_, rfl, by omega, by omega⟩
  refine ws_ret (we_call (wa_cons (we_I0 (we_call (wa_cons (we_var rfl (wa_cons ?_)))))))
  refine we_I0 (we_I (we_int ⟨_, rfl, we_var rfl ⟨_, rfl, .inl (by decide), _, rfl, we_int ⟨_, rfl, wa_nil ?_⟩⟩⟩))
  refine ⟨_, rfl, by omega, by omega, fun k2 hk0 hk1 => ⟨_, rfl, we_var rfl ⟨_, rfl, wa_cons (we_var rfl (wa_nil ?_))⟩⟩⟩
  refine ⟨k2 - bo, bo, rfl, by omega, (Bd.small (k := 64) (by omega)).mono (by decide), ?_⟩
  have hX := low_num (t := k2 - bo) (b := bo) (by omega) (by omega) (by omega)
  have hXb := low_le (t := k2 - bo) (b := bo) (by omega)
  exact hR _ _ hX (by omega)
/-! ### the law's own judges -/
def S_law_is_int (mg : Str → Option Value) : List D → (D → Prop) → Prop := fun ds R => ∃ x, ds = [x] ∧ T0 mg x ∧ R (.bl (isI x))
theorem l_law_is_int (mg : Str → Option Value) : ∀ ds R, S_law_is_int mg ds R → ds.length = 1 := fun ds R ⟨_, e, _⟩ => by rw [e]; rfl
theorem d_law_is_int (T : Txt K mg) : Dfn P w K mg bs 3 "_law_is_int" ["thing"] (S_law_is_int mg) := by
  obtain ⟨CE_Machine, gE_Machine, kE_Machine, E_Machine⟩ := d_Machine_eq (P := P) (w := w) (bs := bs) T
  refine mkD (k := 2) T.s_law_is_int sc_law_is_int (fun _ _ _ _ _ _ us hl => match us, hl with | [_], _ => rfl) (l_law_is_int mg) fun f cdv A outer s H E hr => ?_
  have hu := hu_of hr
  refine ⟨_, (pss_one (ps_ret (pe_and (pe_callB (call_isiK0 (K0 := K) (by rfl)) (by rfl) T.n_isinstance (by decide +kernel) (pa_cons (pv 0) (pa_cons (pe_bltn (v := .ty "int") (by rfl) T.n_int (by decide +kernel) rfl) pa_nil))) (pe_one (pe_not (pe_callB (call_isiK0 (K0 := K) (by rfl)) (by rfl) T.n_isinstance (by decide +kernel) (pa_cons (pv 0) (pa_cons (pe_bltn (v := .ty "bool") (by rfl) T.n_bool (by decide +kernel) rfl) pa_nil)))))))), fun h H0 G0 ds R hS => ?_⟩
  obtain ⟨x, rfl, hx, hR⟩ := hS
  obtain ⟨t, ht⟩ := tw_of gE_Machine hx
  refine ws_ret (we_andV (we_isiW kE_Machine (we_var rfl ⟨t, _, ht, kw_int kE_Machine ht, _, rfl, fun hb => ?_, fun hb => ?_⟩)))
  · refine we_notV (we_isiW kE_Machine (we_var rfl ⟨t, _, ht, kw_bool kE_Machine ht, _, rfl, ?_⟩))
    have e : (!isBl x) = isI x := by cases x <;> first | rfl | cases hb
    rw [e]; exact hR
  · have e : isI x = false := by cases x <;> first | rfl | cases hb
    rw [e] at hR; exact hR
/-! what these things are -/
section
variable {mgx : Str → Option Value}
theorem t0_ty {x : D} (h : Ty x) (hi : ∀ i, x ≠ .int i) : T0 mgx x := ⟨.inl h, fun i e => (hi i e).elim⟩
theorem tv_nt {x : D} (h : T0 mgx x) (hn : ∀ xs, x ≠ .tup xs ∧ x ≠ .lst xs) : ∀ n, TV mgx n x
  | 0 => h
  | _ + 1 => ⟨h, fun xs e => (e.elim (hn xs).1 (hn xs).2).elim⟩
theorem tv_tup {n : Nat} {xs : List D} (hl : xs.length ≤ 100) (h : ∀ y ∈ xs, TV mgx n y) : TV mgx (n + 1) (.tup xs) := ⟨t0_ty ⟨_, rfl⟩ (fun i e => by cases e), fun ys e => by rcases e with e | e <;> cases e; exact ⟨hl, h⟩⟩
theorem tv_int {i : Int} (h : Bd 100 i) (n : Nat) : TV mgx n (.int i) := tv_nt ⟨.inl ⟨_, rfl⟩, fun j e => by cases e; exact h⟩ (fun xs => ⟨fun e => (by cases e), fun e => (by cases e)⟩) n
theorem tv_non (n : Nat) : TV mgx n .non := tv_nt (t0_ty ⟨_, rfl⟩ (fun i e => by cases e)) (fun xs => ⟨fun e => (by cases e), fun e => (by cases e)⟩) n
theorem tv_bl (b : Bool) (n : Nat) : TV mgx n (.bl b) := tv_nt (t0_ty ⟨_, rfl⟩ (fun i e => by cases e)) (fun xs => ⟨fun e => (by cases e), fun e => (by cases e)⟩) n
theorem tv_str (s : Str) (n : Nat) : TV mgx n (.str s) := tv_nt (t0_ty ⟨_, rfl⟩ (fun i e => by cases e)) (fun xs => ⟨fun e => (by cases e), fun e => (by cases e)⟩) n
theorem tv_lst {n : Nat} {xs : List D} (hl : xs.length ≤ 100) (h : ∀ m, n = m + 1 → ∀ y ∈ xs, TV mgx m y) : TV mgx n (.lst xs) := by
  cases n with
  | zero => exact t0_ty ⟨_, rfl⟩ (fun i e => by cases e)
  | succ m => exact ⟨t0_ty ⟨_, rfl⟩ (fun i e => by cases e), fun ys e => by rcases e with e | e <;> cases e; exact ⟨hl, h m rfl⟩⟩
theorem tv_dK (xs : List (Key × D)) (n : Nat) : TV mgx n (.dK xs) := tv_nt (t0_ty ⟨_, rfl⟩ (fun i e => by cases e)) (fun xs => ⟨fun e => (by cases e), fun e => (by cases e)⟩) n
theorem tv_ins {C : Addr} (fs : List (Str × D)) (h : mgx "Machine" = some (.ref C)) (n : Nat) : TV mgx n (.ins C fs) := tv_nt ⟨.inr ⟨_, _, rfl, h⟩, fun i e => by cases e⟩ (fun xs => ⟨fun e => (by cases e), fun e => (by cases e)⟩) n
theorem tv_t0 {n : Nat} {xs : List D} (hl : xs.length ≤ 100) (h : ∀ m, n = m + 1 → ∀ y ∈ xs, TV mgx m y) : TV mgx n (.tup xs) := by
  cases n with
  | zero => exact t0_ty ⟨_, rfl⟩ (fun i e => by cases e)
  | succ m => exact tv_tup hl (h m rfl)
theorem tv_nil (n : Nat) : TV mgx n (.tup []) := tv_t0 (Nat.zero_le _) fun _ _ y h => nomatch h
theorem tv_two {n : Nat} {a b : D} (ha : ∀ m, TV mgx m a) (hb : ∀ m, TV mgx m b) : TV mgx n (.tup [a, b]) := tv_t0 (Nat.le_of_ble_eq_true rfl) fun m _ y h => by
  simp only [List.mem_cons, List.not_mem_nil, or_false] at h
  rcases h with rfl | rfl
  · exact ha m
  · exact hb m
theorem TV.zero {n : Nat} {x : D} (h : TV mgx n x) : TV mgx 0 x := h.t0
end
theorem tyN_nt {x : D} (h : Ty x) (hn : ∀ xs, x ≠ .tup xs) : ∀ m, TyN m x
  | 0 => h
  | _ + 1 => ⟨h, fun xs e => absurd e (hn xs)⟩
theorem tyN_tup {m : Nat} {xs : List D} (hl : xs.length ≤ 4000000) (h : ∀ y ∈ xs, TyN m y) : TyN (m + 1) (.tup xs) := ⟨⟨_, rfl⟩, fun ys e => by cases e; exact ⟨hl, h⟩⟩
theorem tyN_int (i : Int) (m : Nat) : TyN m (.int i) := tyN_nt ⟨_, rfl⟩ (fun xs e => by cases e) m
/-- the rows of the machine that is among the odd things -/
abbrev oddRows : D := .tup [.tup [.tup [.int 0, .int 0], .tup [.int 0, .int 0], .tup [.int 0, .int 0]]]
theorem odd_ok : partsBad (.int 2) (.int 0) oddRows = none := by rfl
theorem odd_ty : TyN 3 oddRows := tyN_tup (Nat.le_of_ble_eq_true rfl) fun y hy => by
  rw [List.mem_singleton.mp hy]
  refine tyN_tup (Nat.le_of_ble_eq_true rfl) fun z hz => ?_
  have e : z = .tup [.int 0, .int 0] := by
    simp only [List.mem_cons, List.not_mem_nil, or_false, or_self] at hz
    exact hz
  rw [e]
  refine tyN_tup len2 fun u hu => ?_
  have e : u = .int 0 := by
    simp only [List.mem_cons, List.not_mem_nil, or_false, or_self] at hu
    exact hu
  rw [e]
  exact tyN_int 0 0
def S_law_are_digits (mg : Str → Option Value) : List D → (D → Prop) → Prop := fun ds R => ∃ (base : Int) (x : D), ds = [.int base, x] ∧ T0 mg x ∧ (∀ xs, x = .tup xs ∨ x = .lst xs → xs.length ≤ 4000000 ∧ ∀ y ∈ xs, T0 mg y) ∧ R (.bl (areG base x))
theorem l_law_are_digits (mg : Str → Option Value) : ∀ ds R, S_law_are_digits mg ds R → ds.length = 2 := fun ds R ⟨_, _, e, _⟩ => by rw [e]; rfl
theorem within_abs {base : Int} {i : Int} : within (1 - base) (base - 1) (.int i) = decide (absI i < base) := by
  show (decide (1 - base ≤ i) && decide (i ≤ base - 1)) = _
  rw [← Bool.decide_and]
  have e : (1 - base ≤ i ∧ i ≤ base - 1) ↔ absI i < base := by rw [absI_eq]; omega
  exact decide_eq_decide.mpr e
theorem d_law_are_digits (T : Txt K mg) : Dfn P w K mg bs 4 "_law_are_digits" ["base", "thing"] (S_law_are_digits mg) := by
  have D_law_is_int := d_law_is_int (P := P) (w := w) (bs := bs) T
  obtain ⟨CE_Machine, gE_Machine, kE_Machine, E_Machine⟩ := d_Machine_eq (P := P) (w := w) (bs := bs) T
  refine mkD (k := 3) T.s_law_are_digits sc_law_are_digits (fun _ _ _ _ _ _ us hl => match us, hl with | [_, _], _ => rfl) (l_law_are_digits mg) fun f cdv A outer s H E hr => ?_
  have hu := hu_of hr
  refine ⟨_, (pss_cons (ps_if (pt_not (pt_val (pe_callB (call_isiTK (K0 := K) (by rfl)) (by rfl) T.n_isinstance (by decide +kernel) (pa_cons (pv 1) (pa_cons (pe_tup (pa_cons (pe_bltn (v := .ty "list") (by rfl) T.n_list (by decide +kernel) rfl) (pa_cons (pe_bltn (v := .ty "tuple") (by rfl) T.n_tuple (by decide +kernel) rfl) pa_nil))) pa_nil))))) (pss_one (ps_ret pe_bl)) pss_nil)
      (pss_one (ps_ret (pe_callB (cr_all rfl) (by rfl) T.n_all (by decide +kernel) (pa_cons (pe_lc (own := [("digit", 2)]) (g := (gName 2)) rfl sc_law_are_digits.nd (pi_seqK (K0 := K) (by rfl) (pv 1)) (blkOk_by (N := N_law_are_digits) (sc := defScope s_law_are_digits) (by decide +kernel)) (fun _ _ _ _ _ => by exact (pg_name (i := 2) sc_law_are_digits.nd rfl (Or.inl rfl))) (fun _ _ _ _ _ => by exact pts_nil) (fun _ _ _ _ _ => by exact (pe_and (pe_callK0 (K0 := K) (by rfl) D_law_is_int (hr.mono (by decide)) (pa_cons (pv 2) pa_nil)) (pe_one (pe_cmpR op_lt (pe_callB call_abs (by rfl) T.n_abs (by decide +kernel) (pa_cons (pv 2) pa_nil)) (pv 0) (nomark _)))))) pa_nil))))), fun h H0 G0 ds R hS => ?_⟩
  obtain ⟨base, x, rfl, hx, hxx, hR⟩ := hS
  obtain ⟨t, ht⟩ := tw_of gE_Machine hx
  refine ws_seq (ws_if (wt_not (wt_B (we_isiTW kE_Machine (we_var rfl ⟨t, _, _, ht, kw_list kE_Machine ht, kw_tuple kE_Machine ht, _, rfl, ?_⟩)))))
  cases hb : (isLs x || isTu x) with
  | false =>
    have e : areG base x = false := by cases x <;> first | rfl | cases hb
    rw [e] at hR
    exact ws_ret (we_bl hR)
  | true =>
    obtain ⟨xs, hxs⟩ : ∃ xs, x = D.lst xs ∨ x = D.tup xs := by cases x <;> first | exact ⟨_, .inl rfl⟩ | exact ⟨_, .inr rfl⟩ | cases hb
    obtain ⟨hl, hy⟩ := hxx xs hxs.symm
    have e : areG base x = xs.all (within (1 - base) (base - 1)) := by rcases hxs with rfl | rfl <;> rfl
    refine ws_next (ws_ret (we_all (we_F (wf_lcS (we_var rfl ⟨xs, hxs, by omega, fun k acc => acc = (xs.take k).map (fun y => D.bl (within (1 - base) (base - 1) y)), rfl, ?_, ?_⟩)))))
    · rintro k y acc hk rfl _
      refine wgp_name ?_ ?_
      · decide
      refine wt_yes ?_
      rw [if_pos rfl]
      have e2 : List.map (fun y => D.bl (within (1 - base) (base - 1) y)) (List.take (k + 1) xs) = List.map (fun y => D.bl (within (1 - base) (base - 1) y)) (List.take k xs) ++ [D.bl (within (1 - base) (base - 1) y)] := by
        rw [List.take_succ, hk, List.map_append]
        rfl
      refine we_andV (we_call (wa_cons (we_var rfl (wa_nil ⟨y, rfl, hy y (List.mem_of_getElem? hk), _, rfl, fun h1 => ?_, fun h1 => ?_⟩))))
      · obtain ⟨i, rfl⟩ : ∃ i, y = D.int i := by cases y <;> first | exact ⟨_, rfl⟩ | cases h1
        refine we_I0 (we_abs (we_var rfl ⟨_, rfl, _, rfl, we_var rfl ⟨_, rfl, ?_⟩⟩))
        dsimp only
        rw [e2, within_abs]
        rfl
      · have e3 : within (1 - base) (base - 1) y = false := by cases y <;> first | rfl | cases h1
        dsimp only
        rw [e2, e3]
    · rintro acc rfl
      rw [List.take_length]
      refine ⟨xs.map (within (1 - base) (base - 1)), by rw [List.map_map]; rfl, ?_⟩
      rw [all_map, ← e]
      exact hR
/-- a digit, by its amount -/
def dgOk (base : Int) : D → Bool | .int i => decide (absI i < base) | _ => false
theorem dgOk_within (base : Int) : ∀ y : D, dgOk base y = within (1 - base) (base - 1) y := fun y => by
  cases y with
  | int i =>
    show decide (absI i < base) = (decide (1 - base ≤ i) && decide (i ≤ base - 1))
    rw [absI_eq, ← Bool.decide_and]
    exact decide_eq_decide.mpr ⟨fun h => by omega, fun h => by omega⟩
  | _ => rfl
theorem areG_areI {base : Int} {xs : List D} (h : areG base (.tup xs) = true) : areI (.tup xs) = true := by
  refine List.all_eq_true.mpr fun y hy => ?_
  have := List.all_eq_true.mp (show xs.all (within (1 - base) (base - 1)) = true from h) y hy
  cases y <;> first | rfl | cases this
theorem isRD_two {base : Int} {as bs : List D} (h : bs ≠ []) : isRD base (.tup [.tup as, .tup bs]) = areG base (.tup (as ++ bs)) := by
  show _ = (as ++ bs).all (within (1 - base) (base - 1))
  rw [← show dgOk base = within (1 - base) (base - 1) from funext (dgOk_within base)]
  have e1 : (as ++ bs).all (dgOk base) = (areG base (.tup as) && areG base (.tup bs)) := by
    rw [List.all_append]
    have e : ∀ xs : List D, xs.all (dgOk base) = areG base (.tup xs) := fun xs => by
      show xs.all (dgOk base) = xs.all (within (1 - base) (base - 1))
      congr 1
      exact funext (dgOk_within base)
    rw [e, e]
  rw [e1]
  have h3 : hasI (.tup bs) = true := by
    cases bs with
    | nil => exact (h rfl).elim
    | cons _ _ => rfl
  show ((areI (.tup as) && areI (.tup bs) && hasI (.tup bs)) && (areG base (.tup as) && areG base (.tup bs))) = _
  rw [h3, Bool.and_true]
  cases ha : areG base (.tup as) with
  | false => rw [Bool.false_and, Bool.and_false]
  | true =>
    cases hb : areG base (.tup bs) with
    | false => rw [Bool.and_false, Bool.and_false]
    | true => rw [areG_areI ha, areG_areI hb]; rfl
def S_law_is_writing (mg : Str → Option Value) : List D → (D → Prop) → Prop := fun ds R => ∃ (base : Int) (x : D), ds = [.int base, x] ∧ TV mg 2 x ∧ R (.bl (isRD base x))
theorem l_law_is_writing (mg : Str → Option Value) : ∀ ds R, S_law_is_writing mg ds R → ds.length = 2 := fun ds R ⟨_, _, e, _⟩ => by rw [e]; rfl
theorem isRD_notu {base : Int} {a b : D} (hab : ¬(isTu a = true ∧ isTu b = true)) : isRD base (.tup [a, b]) = false := isRD_no (by
  show (areI a && areI b && hasI b) = false
  cases h1 : isTu a with
  | false =>
    have : areI a = false := by cases a <;> first | rfl | cases h1
    rw [this]; rfl
  | true =>
    have h3 : isTu b = false := by
      cases h : isTu b with
      | false => rfl
      | true => exact (hab ⟨h1, h⟩).elim
    have : areI b = false := by cases b <;> first | rfl | cases h3
    rw [this, Bool.and_false]; rfl)
theorem d_law_is_writing (T : Txt K mg) : Dfn P w K mg bs 5 "_law_is_writing" ["base", "thing"] (S_law_is_writing mg) := by
  have D_law_are_digits := d_law_are_digits (P := P) (w := w) (bs := bs) T
  obtain ⟨CE_Machine, gE_Machine, kE_Machine, E_Machine⟩ := d_Machine_eq (P := P) (w := w) (bs := bs) T
  refine mkD (k := 4) T.s_law_is_writing sc_law_is_writing (fun _ _ _ _ _ _ us hl => match us, hl with | [_, _], _ => rfl) (l_law_is_writing mg) fun f cdv A outer s H E hr => ?_
  have hu := hu_of hr
  refine ⟨_, (pss_cons (ps_if (PW.pt (pw_or (pt_not (pt_val (pe_callB (call_isiK0 (K0 := K) (by rfl)) (by rfl) T.n_isinstance (by decide +kernel) (pa_cons (pv 1) (pa_cons (pe_bltn (v := .ty "tuple") (by rfl) T.n_tuple (by decide +kernel) rfl) pa_nil))))) (pw_or (pt_cmpR op_ne (pe_callB (call_lenK (K0 := K) (by rfl)) (by rfl) T.n_len (by decide +kernel) (pa_cons (pv 1) pa_nil)) pe_int (nomark _)) (pw_or1 (pt_not (pt_val (pe_callB (cr_all rfl) (by rfl) T.n_all (by decide +kernel) (pa_cons (pe_lc (own := [("part", 2)]) (g := (gName 2)) rfl sc_law_is_writing.nd (pi_tupK (K0 := K) (by rfl) (pv 1)) (blkOk_by (N := N_law_is_writing) (sc := defScope s_law_is_writing) (by decide +kernel)) (fun _ _ _ _ _ => by exact (pg_name (i := 2) sc_law_is_writing.nd rfl (Or.inl rfl))) (fun _ _ _ _ _ => by exact pts_nil) (fun _ _ _ _ _ => by exact (pe_callB (call_isiK0 (K0 := K) (by rfl)) (by rfl) T.n_isinstance (by decide +kernel) (pa_cons (pv 2) (pa_cons (pe_bltn (v := .ty "tuple") (by rfl) T.n_tuple (by decide +kernel) rfl) pa_nil))))) pa_nil)))))))) (pss_one (ps_ret pe_bl)) pss_nil)
      (pss_one (ps_ret (pe_and (pe_cmpR op_gt (pe_callB (call_lenK (K0 := K) (by rfl)) (by rfl) T.n_len (by decide +kernel) (pa_cons (pe_ix (ix_tupK (K0 := K) (by rfl)) (pv 1) pe_int (fun _ _ => rfl)) pa_nil)) pe_int (nomark _)) (pe_one (pe_callK0 (K0 := K) (by rfl) D_law_are_digits (hr.mono (by decide)) (pa_cons (pv 0) (pa_cons (pe_op (op_catK (K0 := K) (by rfl)) (pe_ix (ix_tupK (K0 := K) (by rfl)) (pv 1) pe_int (fun _ _ => rfl)) (pe_ix (ix_tupK (K0 := K) (by rfl)) (pv 1) pe_int (fun _ _ => rfl))) pa_nil)))))))), fun h H0 G0 ds R hS => ?_⟩
  obtain ⟨base, x, rfl, hx, hR⟩ := hS
  obtain ⟨t, ht⟩ := tw_of gE_Machine hx.1
  refine ws_seq (ws_if (wt_or (wt_not (wt_B (we_isiW kE_Machine (we_var rfl ⟨t, _, ht, kw_tuple kE_Machine ht, _, rfl, fun hb => ?_, fun hb => ?_⟩))))))
  · obtain ⟨xs, rfl⟩ : ∃ xs, x = D.tup xs := by cases x <;> first | exact ⟨_, rfl⟩ | cases hb
    refine wt_or (wt_T (we_neI (we_len (we_var rfl ⟨_, .inr rfl, _, rfl, we_int ⟨_, rfl, _, rfl, fun hn => ?_, fun hn => ?_⟩⟩))))
    · have h2 : tupOf 2 (.tup xs) = true := by
        show decide ((xs.length : Int) = 2) = true
        simpa using hn
      obtain ⟨a, b, e⟩ := tup2_of h2
      cases e
      obtain ⟨pa, pb⟩ := hx.two
      refine wt_not (wt_B (we_all (we_F (wf_lcT (we_var rfl ⟨[a, b], rfl, len2, fun k acc => acc = ([a, b].take k).map (fun y => D.bl (isTu y)), rfl, ?_, ?_⟩)))))
      · rintro k y acc hk rfl _
        have hy : T0 mg y := by
          have := List.mem_of_getElem? hk
          simp only [List.mem_cons, List.not_mem_nil, or_false] at this
          rcases this with rfl | rfl
          · exact pa.t0
          · exact pb.t0
        obtain ⟨u, hu⟩ := tw_of gE_Machine hy
        refine wgp_name ?_ ?_
        · decide
        refine wt_yes ?_
        rw [if_pos rfl]
        refine we_isiW kE_Machine (we_var rfl ⟨u, _, hu, kw_tuple kE_Machine hu, ?_⟩)
        dsimp only
        rw [List.take_succ, hk, List.map_append]
        rfl
      rintro acc rfl
      refine ⟨[isTu a, isTu b], rfl, _, rfl, ?_⟩
      by_cases hab : isTu a = true ∧ isTu b = true
      · obtain ⟨h1, h3⟩ := hab
        obtain ⟨as, rfl⟩ : ∃ xs, a = D.tup xs := by cases a <;> first | exact ⟨_, rfl⟩ | cases h1
        obtain ⟨bs', rfl⟩ : ∃ xs, b = D.tup xs := by cases b <;> first | exact ⟨_, rfl⟩ | cases h3
        rw [if_neg (by show ¬ ((!([true, true].all id)) = true); decide)]
        refine ws_next (ws_ret (we_andV (we_I0 (we_len (we_ixT (we_var rfl ⟨_, rfl, we_int ⟨1, _, rfl, rfl, _, .inr rfl, _, rfl, we_int ⟨_, rfl, _, rfl, fun hz => ?_, fun hz => ?_⟩⟩⟩))))))
        · have hne : bs' ≠ [] := fun e => by
            rw [e] at hz
            cases hz
          rw [isRD_two hne] at hR
          have la := (pa.2 _ (.inl rfl))
          have lb := (pb.2 _ (.inl rfl))
          refine we_call (wa_cons (we_var rfl (wa_cons (we_catT (we_ixT (we_var rfl ⟨_, rfl, we_int ⟨0, _, rfl, rfl, _, rfl, we_ixT (we_var rfl ⟨_, rfl, we_int ⟨1, _, rfl, rfl, _, rfl, by omega, ?_⟩⟩)⟩⟩))))))
          refine wa_nil ⟨base, _, rfl, t0_ty ⟨_, rfl⟩ (fun i e => by cases e), fun xs e => ?_, hR⟩
          rcases e with e | e <;> cases e
          refine ⟨by rw [List.length_append]; omega, fun y hy => ?_⟩
          rcases List.mem_append.mp hy with h | h
          · exact (la.2 y h).t0
          · exact (lb.2 y h).t0
        · have e : bs' = [] := by
            cases bs' with
            | nil => rfl
            | cons u us => exact absurd (of_decide_eq_false hz) (by rw [List.length_cons]; simp)
          subst e
          have e : isRD base (.tup [.tup as, .tup []]) = false := isRD_no (by show (areI (.tup as) && areI (.tup []) && false) = false; rw [Bool.and_false])
          rw [e] at hR
          exact hR
      · have e2 : ([isTu a, isTu b].all id) = false := by
          cases h1 : isTu a with
          | false => rfl
          | true =>
            cases h3 : isTu b with
            | false => rfl
            | true => exact (hab ⟨h1, h3⟩).elim
        rw [e2, if_pos (by decide)]
        have e : isRD base (.tup [a, b]) = false := isRD_no (by
          show (areI a && areI b && hasI b) = false
          cases h1 : isTu a with
          | false =>
            have : areI a = false := by cases a <;> first | rfl | cases h1
            rw [this]; rfl
          | true =>
            have h3 : isTu b = false := by
              cases h3 : isTu b with
              | false => rfl
              | true => exact (hab ⟨h1, h3⟩).elim
            have : areI b = false := by cases b <;> first | rfl | cases h3
            rw [this, Bool.and_false]; rfl)
        rw [e] at hR
        exact ws_ret (we_bl hR)
    · rw [if_pos rfl]
      have h2 : tupOf 2 (.tup xs) = false := by
        show decide ((xs.length : Int) = 2) = false
        simpa using hn
      rw [isRD_no (tup2_not h2)] at hR
      exact ws_ret (we_bl hR)
  · rw [if_pos rfl]
    have e : isRD base x = false := by cases x <;> first | rfl | cases hb
    rw [e] at hR
    exact ws_ret (we_bl hR)
def S_law_odd (mg : Str → Option Value) : List D → (D → Prop) → Prop := fun ds R => ∃ base : Int, ds = [.hand, .int base] ∧ 2 ≤ base ∧ base ≤ 5 ∧ ∀ y, (∀ n, TV mg n y) → R y
theorem l_law_odd (mg : Str → Option Value) : ∀ ds R, S_law_odd mg ds R → ds.length = 2 := fun ds R ⟨_, e, _⟩ => by rw [e]; rfl
theorem d_law_odd (T : Txt K mg) : Dfn P w K mg bs 10 "_law_odd" ["hand", "base"] (S_law_odd mg) := by
  have D_law_any := d_law_any (P := P) (w := w) (bs := bs) T
  obtain ⟨C_Machine, gC_Machine, kC_Machine, nC_Machine, M_Machine⟩ := d_Machine (P := P) (w := w) (bs := bs) T
  refine mkD (k := 9) T.s_law_odd sc_law_odd (fun _ _ _ _ _ _ us hl => match us, hl with | [_, _], _ => rfl) (l_law_odd mg) fun f cdv A outer s H E hr => ?_
  have hu := hu_of hr
  refine ⟨_, (pss_cons (ps_set (i := 2) sc_law_odd.nd rfl (Or.inl rfl) (pe_lst (pa_cons pe_non (pa_cons pe_bl (pa_cons pe_bl (pa_cons pe_str (pa_cons pe_str (pa_cons pe_dnewK (pa_cons (pe_tup (pa_cons pe_int pa_nil)) (pa_cons (pe_lst (pa_cons pe_int pa_nil)) (pa_cons (pe_un un_neg pe_int) (pa_cons (pv 1) (pa_cons (pe_op op_pow pe_int pe_int) (pa_cons (pe_tup pa_nil) (pa_cons (pe_lst pa_nil) (pa_cons (pe_tup (pa_cons (pe_tup pa_nil) (pa_cons (pe_tup (pa_cons pe_int pa_nil)) pa_nil))) (pa_cons (pe_lst (pa_cons (pe_tup pa_nil) (pa_cons (pe_tup (pa_cons pe_int pa_nil)) pa_nil))) (pa_cons (pe_tup (pa_cons (pe_tup pa_nil) (pa_cons (pe_tup pa_nil) pa_nil))) pa_nil))))))))))))))))))
      (pss_one (ps_ret (pe_callK0 (K0 := K) (by rfl) D_law_any (hr.mono (by decide)) (pa_cons (pv 0) (pa_cons (pe_op op_cat (pv 2) (pe_lst (pa_cons (pe_mk0 M_Machine (hr.mono (by decide)) (pa_cons pe_int (pa_cons pe_int (pa_cons (pe_tup (pa_cons (pe_tup (pa_cons (pe_tup (pa_cons pe_int (pa_cons pe_int pa_nil))) (pa_cons (pe_tup (pa_cons pe_int (pa_cons pe_int pa_nil))) (pa_cons (pe_tup (pa_cons pe_int (pa_cons pe_int pa_nil))) pa_nil)))) pa_nil)) pa_nil)))) (pa_cons (pe_tup (pa_cons (pe_tup (pa_cons pe_int pa_nil)) (pa_cons (pe_tup (pa_cons (pv 1) pa_nil)) pa_nil))) (pa_cons (pe_tup (pa_cons (pe_lst (pa_cons pe_int pa_nil)) (pa_cons (pe_tup (pa_cons pe_int pa_nil)) pa_nil))) (pa_cons (pe_tup (pa_cons pe_bl pa_nil)) pa_nil)))))) pa_nil)))))), fun h H0 G0 ds R hS => ?_⟩
  obtain ⟨base, rfl, hb1, hb2, hR⟩ := hS
  refine ws_seq (ws_asg (we_lst (wa_cons (we_non (wa_cons (we_bl (wa_cons (we_bl (wa_cons (we_str (wa_cons (we_str (wa_cons (we_F (wf_dK (wa_cons (we_tup (wa_cons (we_int (wa_nil ⟨Nat.le_of_ble_eq_true rfl, wa_cons (we_lst (wa_cons (we_int (wa_nil ⟨Nat.le_of_ble_eq_true rfl, wa_cons (we_U (we_int ⟨_, rfl, wa_cons (we_var rfl (wa_cons (we_I (we_int ⟨_, rfl, we_int ⟨_, rfl, by refine ⟨by decide, by decide, ?_⟩; decide, wa_cons (we_tup (wa_nil ⟨Nat.le_of_ble_eq_true rfl, wa_cons (we_lst (wa_nil ⟨Nat.le_of_ble_eq_true rfl, wa_cons (we_tup (wa_cons (we_tup (wa_nil ⟨Nat.le_of_ble_eq_true rfl, wa_cons (we_tup (wa_cons (we_int (wa_nil ⟨Nat.le_of_ble_eq_true rfl, wa_nil ⟨Nat.le_of_ble_eq_true rfl, wa_cons (we_lst (wa_cons (we_tup (wa_nil ⟨Nat.le_of_ble_eq_true rfl, wa_cons (we_tup (wa_cons (we_int (wa_nil ⟨Nat.le_of_ble_eq_true rfl, wa_nil ⟨Nat.le_of_ble_eq_true rfl, wa_cons (we_tup (wa_cons (we_tup (wa_nil ⟨Nat.le_of_ble_eq_true rfl, wa_cons (we_tup (wa_nil ⟨Nat.le_of_ble_eq_true rfl, wa_nil ⟨Nat.le_of_ble_eq_true rfl, wa_nil ⟨Nat.le_of_ble_eq_true rfl, ?_⟩⟩⟩))⟩))))⟩⟩))))⟩))))⟩⟩))))⟩))))⟩))⟩))⟩⟩))))⟩))⟩))))⟩))))))))))))))))))))
  refine ws_ret (we_call (wa_cons (we_var rfl (wa_cons (we_F (wf_catL (we_var rfl ⟨_, rfl, we_lst (wa_cons (we_mk (wa_cons (we_int (wa_cons (we_int (wa_cons (we_tup (wa_cons (we_tup (wa_cons (we_tup (wa_cons (we_int (wa_cons (we_int (wa_nil ⟨Nat.le_of_ble_eq_true rfl, wa_cons (we_tup (wa_cons (we_int (wa_cons (we_int (wa_nil ⟨Nat.le_of_ble_eq_true rfl, wa_cons (we_tup (wa_cons (we_int (wa_cons (we_int (wa_nil ⟨Nat.le_of_ble_eq_true rfl, wa_nil ⟨Nat.le_of_ble_eq_true rfl, wa_nil ⟨Nat.le_of_ble_eq_true rfl, wa_nil ⟨.int 2, .int 0, oddRows, rfl, ⟨_, rfl⟩, ⟨_, rfl⟩, odd_ty, fun _ => wa_cons (we_tup (wa_cons (we_tup (wa_cons (we_int (wa_nil ⟨Nat.le_of_ble_eq_true rfl, wa_cons (we_tup (wa_cons (we_var rfl (wa_nil ⟨Nat.le_of_ble_eq_true rfl, wa_nil ⟨Nat.le_of_ble_eq_true rfl, wa_cons (we_tup (wa_cons (we_lst (wa_cons (we_int (wa_nil ⟨Nat.le_of_ble_eq_true rfl, wa_cons (we_tup (wa_cons (we_int (wa_nil ⟨Nat.le_of_ble_eq_true rfl, wa_nil ⟨Nat.le_of_ble_eq_true rfl, wa_cons (we_tup (wa_cons (we_bl (wa_nil ⟨Nat.le_of_ble_eq_true rfl, wa_nil ⟨Nat.le_of_ble_eq_true rfl, ⟨_, rfl, Nat.le_of_ble_eq_true rfl, ?_⟩⟩⟩))))⟩⟩))))⟩))))))⟩⟩))))⟩)))))), fun y e => (by rw [odd_ok] at e; cases e)⟩⟩⟩⟩))))))⟩))))))⟩)))))))))))))))))⟩)))))))
  refine wa_nil ⟨_, rfl, by simp, Nat.lt_of_le_of_lt (Nat.le_of_ble_eq_true rfl : _ ≤ 30) (by decide), fun y hy => hR y ?_⟩
  have i0 : ∀ n, TV mg n (.int 0) := fun n => tv_int (by decide) n
  have ib : ∀ n, TV mg n (.int base) := fun n => tv_int ((Bd.small (k := 64) (by omega)).mono (by decide)) n
  have one : ∀ {x : D}, (∀ n, TV mg n x) → ∀ n, TV mg n (.tup [x]) := fun {x} hx n => tv_t0 (Nat.le_of_ble_eq_true rfl) fun m _ y h => by
    rw [List.mem_singleton.mp h]
    exact hx m
  have onel : ∀ {x : D}, (∀ n, TV mg n x) → ∀ n, TV mg n (.lst [x]) := fun {x} hx n => tv_lst (Nat.le_of_ble_eq_true rfl) fun m _ y h => by
    rw [List.mem_singleton.mp h]
    exact hx m
  simp only [List.cons_append, List.nil_append, List.mem_cons, List.not_mem_nil, or_false] at hy
  rcases hy with rfl | rfl | rfl | rfl | rfl | rfl | rfl | rfl | rfl | rfl | rfl | rfl | rfl | rfl | rfl | rfl | rfl | rfl | rfl | rfl
  · exact tv_non
  · exact tv_bl _
  · exact tv_bl _
  · exact tv_str _
  · exact tv_str _
  · exact tv_dK _
  · exact one i0
  · exact onel i0
  · exact fun n => tv_int (by decide) n
  · exact ib
  · exact fun n => tv_int (by decide) n
  · exact tv_nil
  · exact fun n => tv_lst (Nat.zero_le _) fun m _ y h => nomatch h
  · exact fun n => tv_two tv_nil (one i0)
  · refine fun n => tv_lst (Nat.le_of_ble_eq_true rfl) fun m _ y h => ?_
    simp only [List.mem_cons, List.not_mem_nil, or_false] at h
    rcases h with rfl | rfl
    · exact tv_nil m
    · exact one i0 m
  · exact fun n => tv_two tv_nil tv_nil
  · exact tv_ins _ gC_Machine
  · exact fun n => tv_two (one i0) (one ib)
  · exact fun n => tv_two (onel i0) (one i0)
  · exact one (tv_bl _)
/-! ### the shortest turn -/
/-- gone through again and again, so many make the whole -/
def Turns (qs : List Int) (l : Nat) : Prop := qs.length % l = 0 ∧ (List.replicate (qs.length / l) (qs.take l)).flatten = qs
instance (qs : List Int) (l : Nat) : Decidable (Turns qs l) := inferInstanceAs (Decidable (_ ∧ _))
def turnF (qs : List Int) : Nat → Nat → Nat
  | 0, _ => qs.length
  | n + 1, l => if Turns qs l then l else turnF qs n (l + 1)
def turnN (qs : List Int) : Nat := turnF qs (qs.length - 1) 1
theorem turnF_le (qs : List Int) : ∀ n l : Nat, 1 ≤ l → l + n ≤ qs.length → 1 ≤ turnF qs n l ∧ turnF qs n l ≤ qs.length
  | 0, l, h1, h2 => ⟨by show 1 ≤ qs.length; omega, Nat.le_refl _⟩
  | n + 1, l, h1, h2 => by
    rw [turnF]
    split
    · omega
    · exact turnF_le qs n (l + 1) (by omega) (by omega)
theorem turnN_le {qs : List Int} (h : qs ≠ []) : 1 ≤ turnN qs ∧ turnN qs ≤ qs.length := by
  have := List.length_pos_iff.mpr h
  exact turnF_le qs _ 1 (by omega) (by omega)
def S_shortest_turn : List D → (D → Prop) → Prop := fun ds R => ∃ qs : List Int, ds = [.tup (qs.map D.int)] ∧ qs ≠ [] ∧ qs.length ≤ 1000 ∧ R (.int (turnN qs))
theorem l_shortest_turn : ∀ ds R, S_shortest_turn ds R → ds.length = 1 := fun ds R ⟨_, e, _⟩ => by rw [e]; rfl
theorem d_shortest_turn (T : Txt K mg) : Dfn P w K mg bs 1 "shortest_turn" ["again"] S_shortest_turn := by
  refine mkD (k := 0) T.s_shortest_turn sc_shortest_turn (fun _ _ _ _ _ _ us hl => match us, hl with | [_], _ => rfl) l_shortest_turn fun f cdv A outer s H E hr => ?_
  have hu := hu_of hr
  refine ⟨_, (pss_cons (ps_set (i := 1) sc_shortest_turn.nd rfl (Or.inl rfl) (pe_callB (call_lenK (K0 := K) (by rfl)) (by rfl) T.n_len (by decide +kernel) (pa_cons (pv 0) pa_nil)))
      (pss_cons (ps_for PassesOwn.never rfl (pi_range2 rfl T.n_range (pa_cons pe_int (pa_cons (pv 1) pa_nil))) (pg_name (i := 2) sc_shortest_turn.nd rfl (Or.inl rfl))
      (pss_one (ps_if (PW.pt (pw_and (pt_cmpR op_eq (pe_op op_mod (pv 1) (pv 2)) pe_int (nomark _)) (pw_and1 (pt_cmpR (op_eqK (K0 := K) (by rfl) hr.units) (pe_op (op_repTK (K0 := K) (by rfl)) (pe_slice (sl_tupK (K0 := K) (by rfl)) (pv 0) po_none (po_some (pv 2))) (pe_op op_divA (pv 1) (pv 2))) (pv 0) (nomark _))))) (pss_one (ps_ret (pv 2))) pss_nil)))
      (pss_one (ps_ret (pv 1))))), fun h H0 G0 ds R hS => ?_⟩
  obtain ⟨qs, rfl, hne, hl, hR⟩ := hS
  have hpos := List.length_pos_iff.mpr hne
  refine ws_seq (ws_asg (we_len (we_var rfl ⟨_, .inr rfl, ?_⟩)))
  rw [List.length_map]
  refine ws_seq (ws_for2 (wa_cons (we_int (wa_cons (we_var rfl (wa_nil ⟨1, _, rfl, by omega, ?_⟩))))))
  refine ⟨fun k ρ => ∃ r2 : Option Cell, ρ = [some (.d (.tup (qs.map D.int))), some (.d (.int (qs.length : Int))), r2] ∧ turnF qs (qs.length - 1 - k) (1 + k) = turnN qs, ⟨_, rfl, rfl⟩, ?_, ?_⟩
  · rintro k ρ hk ⟨r2, rfl, hinv⟩
    have hk' : k < qs.length - 1 := by omega
    obtain ⟨m, hm⟩ : ∃ m, qs.length - 1 - k = m + 1 := ⟨qs.length - 1 - k - 1, by omega⟩
    rw [hm, turnF] at hinv
    have ek : (1 : Int) + (k : Int) = ((1 + k : Nat) : Int) := by omega
    rw [ek]
    refine wg_name (ws_if (wt_and (wt_T (we_eqI (we_I (we_var rfl ⟨_, rfl, we_var rfl ⟨_, rfl, by omega, _, rfl, we_int ⟨0, rfl, _, rfl, fun hb => ?_, fun hb => ?_⟩⟩⟩))))))
    · have hmod : qs.length % (1 + k) = 0 := by
        have := of_decide_eq_true hb
        omega
      have hq : qs.length / (1 + k) * (1 + k) = qs.length := Nat.div_mul_cancel (Nat.dvd_of_mod_eq_zero hmod)
      have hq2 : 2 ≤ qs.length / (1 + k) := by
        rw [Nat.le_div_iff_mul_le (by omega)]
        apply Classical.byContradiction
        intro h
        have h1 : qs.length / (1 + k) < 2 := by
          rw [Nat.div_lt_iff_lt_mul (by omega)]; omega
        have h2 : qs.length / (1 + k) * (1 + k) ≤ 1 * (1 + k) := Nat.mul_le_mul_right _ (by omega)
        omega
      have hq3 : qs.length / (1 + k) ≤ 1000 := Nat.le_trans (Nat.div_le_self _ _) hl
      refine wt_T (we_eqD (we_repT (we_slT (we_var rfl ⟨_, rfl, wo_none (wo_some (we_var rfl ⟨_, rfl, ?_⟩))⟩))))
      rw [cut_take, ← List.map_take]
      refine ⟨_, rfl, ?_, ?_, we_I (we_var rfl ⟨_, rfl, we_var rfl ⟨_, rfl, ⟨by omega, .inl (by omega)⟩, _, rfl, ?_⟩⟩)⟩
      · intro z
        have := congrArg List.length z
        rw [List.length_map, List.length_take, List.length_nil] at this
        omega
      · rw [List.length_map, List.length_take]; omega
      · have ed : ((qs.length : Int) / ((1 + k : Nat) : Int)) = ((qs.length / (1 + k) : Nat) : Int) := by omega
        refine ⟨by rw [ed]; omega, by rw [ed]; omega, ?_⟩
        rw [ed, Int.toNat_natCast]
        have ef : (List.replicate (qs.length / (1 + k)) ((qs.take (1 + k)).map D.int)).flatten = ((List.replicate (qs.length / (1 + k)) (qs.take (1 + k))).flatten).map D.int := by
          rw [List.map_flatten, List.map_replicate]
        rw [ef]
        refine ⟨tup_cmp _, tup_shaped _, we_var rfl ⟨tup_cmp _, tup_shaped _, _, rfl, ?_⟩⟩
        rw [eqv_tup]
        refine ite2 (fun hb2 => ?_) (fun hb2 => ?_)
        · refine ws_ret (we_var rfl ?_)
          rw [if_pos (show Turns qs (1 + k) from ⟨hmod, of_decide_eq_true hb2⟩)] at hinv
          rw [hinv]
          exact hR
        · refine ws_next ⟨_, rfl, ?_⟩
          rw [if_neg (fun z => hb2 (decide_eq_true z.2))] at hinv
          rw [show qs.length - 1 - (k + 1) = m by omega]
          exact hinv
    · rw [if_neg (by decide)]
      refine ws_next ⟨_, rfl, ?_⟩
      rw [if_neg (fun z => by
        have := of_decide_eq_false hb
        have h1 := z.1
        omega)] at hinv
      rw [show qs.length - 1 - (k + 1) = m by omega]
      exact hinv
  · rintro ρ ⟨r2, rfl, hinv⟩
    refine ws_ret (we_var rfl ?_)
    have e0 : qs.length - 1 - ((qs.length : Int) - 1).toNat = 0 := by omega
    rw [e0] at hinv
    have : (turnN qs : Int) = (qs.length : Int) := by rw [← hinv]; rfl
    rw [this] at hR
    exact hR
/-! ### the round pulled over what is ahead -/
theorem atI_end {α : Type} {xs : List α} {i : Int} {j : Nat} (h : j < xs.length) (e : i = -1 - (j : Int)) : atI xs i = some xs[xs.length - 1 - j] := by
  unfold atI ixN
  rw [if_neg (by omega), if_pos (by omega)]
  have e1 : (i + (xs.length : Int)).toNat = xs.length - 1 - j := by omega
  show xs[(i + (xs.length : Int)).toNat]? = _
  rw [e1]
  exact List.getElem?_eq_getElem (by omega)
def pullF : Nat → List Int × List Int → List Int × List Int
  | 0, z => z
  | n + 1, z => if z.1 ≠ [] ∧ z.1.getLast? = z.2.getLast? then pullF n (z.1.dropLast, z.2.getLast?.toList ++ z.2.dropLast) else z
/-- turned to the right so often -/
def rotR (q : List Int) (s : Nat) : List Int := q.drop (q.length - s % q.length) ++ q.take (q.length - s % q.length)
theorem rotR_zero (q : List Int) : rotR q 0 = q := by
  unfold rotR
  rw [Nat.zero_mod, Nat.sub_zero, List.drop_length, List.take_length]
  rfl
theorem take_snoc {α : Type} {q : List α} {n : Nat} (h : n < q.length) : q.take (n + 1) = q.take n ++ [q[n]] := by
  rw [List.take_succ, List.getElem?_eq_getElem h]; rfl
theorem rotR_step {q : List Int} (h : q ≠ []) (s : Nat) : ∃ x, q[q.length - 1 - s % q.length]? = some x ∧ (rotR q s).getLast? = some x ∧ x :: (rotR q s).dropLast = rotR q (s + 1) := by
  have hp := List.length_pos_iff.mpr h
  have hr := Nat.mod_lt s hp
  obtain ⟨m, hm⟩ : ∃ m, q.length - s % q.length = m + 1 := ⟨q.length - s % q.length - 1, by omega⟩
  have hml : m < q.length := by omega
  have e0 : rotR q s = q.drop (m + 1) ++ q.take m ++ [q[m]] := by
    unfold rotR
    rw [hm, take_snoc hml, List.append_assoc]
  refine ⟨q[m], ?_, ?_, ?_⟩
  · rw [show q.length - 1 - s % q.length = m by omega]
    exact List.getElem?_eq_getElem hml
  · rw [e0, List.getLast?_concat]
  · rw [e0, List.dropLast_concat]
    have e1 : q[m] :: (q.drop (m + 1) ++ q.take m) = q.drop m ++ q.take m := by
      rw [List.drop_eq_getElem_cons hml]; rfl
    rw [e1]
    unfold rotR
    by_cases hz : s % q.length + 1 < q.length
    · have e2 : (s + 1) % q.length = s % q.length + 1 := by
        have hd := Nat.div_add_mod s q.length
        have : s + 1 = q.length * (s / q.length) + (s % q.length + 1) := by omega
        rw [this, Nat.mul_add_mod, Nat.mod_eq_of_lt hz]
      rw [e2, show q.length - (s % q.length + 1) = m by omega]
    · have hm0 : m = 0 := by omega
      have e2 : (s + 1) % q.length = 0 := by
        have hs : s % q.length = q.length - 1 := by omega
        have hd := Nat.div_add_mod s q.length
        rw [hs] at hd
        have : s + 1 = q.length * (s / q.length + 1) := by rw [Nat.mul_add]; omega
        rw [this, Nat.mul_mod_right]
      rw [e2, hm0, Nat.sub_zero, List.drop_length, List.take_length, List.take_zero, List.drop_zero, List.append_nil, List.nil_append]
theorem take_last {α : Type} {ps : List α} {s : Nat} (h : s < ps.length) : (ps.take (ps.length - s)).getLast? = some ps[ps.length - 1 - s] ∧ (ps.take (ps.length - s)).dropLast = ps.take (ps.length - (s + 1)) := by
  have e : ps.length - s = (ps.length - 1 - s) + 1 := by omega
  have e2 : ps.length - (s + 1) = ps.length - 1 - s := by omega
  rw [e, e2, take_snoc (show ps.length - 1 - s < ps.length by omega)]
  exact ⟨List.getLast?_concat, List.dropLast_concat⟩
/-- the neat row of a row of integers -/
def neatP (ps qs : List Int) : List Int × List Int := pullF ps.length (ps, qs.take (turnN qs))
def rowP (z : List Int × List Int) : D := rowD z.1 z.2
theorem rotR_len (q : List Int) (s : Nat) : (rotR q s).length = q.length := by
  unfold rotR
  rw [List.length_append, List.length_drop, List.length_take]
  omega
def S_shortest : List D → (D → Prop) → Prop := fun ds R => ∃ ps qs : List Int, ds = [.tup (ps.map D.int), .tup (qs.map D.int)] ∧ qs ≠ [] ∧ qs.length ≤ 1000 ∧ ps.length ≤ 1000000 ∧ R (rowP (neatP ps qs))
theorem l_shortest : ∀ ds R, S_shortest ds R → ds.length = 2 := fun ds R ⟨_, _, e, _⟩ => by rw [e]; rfl
theorem d_shortest (T : Txt K mg) : Dfn P w K mg bs 2 "shortest" ["ahead", "again"] S_shortest := by
  have D_shortest_turn := d_shortest_turn (P := P) (w := w) (bs := bs) T
  refine mkD (k := 1) T.s_shortest sc_shortest (fun _ _ _ _ _ _ us hl => match us, hl with | [_, _], _ => rfl) l_shortest fun f cdv A outer s H E hr => ?_
  have hu := hu_of hr
  refine ⟨_, (pss_cons (ps_set (i := 1) sc_shortest.nd rfl (Or.inl rfl) (pe_slice (sl_tupK (K0 := K) (by rfl)) (pv 1) po_none (po_some (pe_callK0 (K0 := K) (by rfl) D_shortest_turn (hr.mono (by decide)) (pa_cons (pv 1) pa_nil)))))
      (pss_cons (ps_set (i := 2) sc_shortest.nd rfl (Or.inl rfl) pe_int)
      (pss_cons (ps_while PassesOwn.never (PW.pt (pw_and (pt_cmpR op_lt (pv 2) (pe_callB (call_lenK (K0 := K) (by rfl)) (by rfl) T.n_len (by decide +kernel) (pa_cons (pv 0) pa_nil)) (nomark _)) (pw_and1 (pt_cmpR op_eq (pe_ix (ix_tupK (K0 := K) (by rfl)) (pv 0) (pe_op op_sub (pe_un un_neg pe_int) (pv 2)) (fun _ _ => rfl)) (pe_ix (ix_tupK (K0 := K) (by rfl)) (pv 1) (pe_op op_sub (pe_un un_neg pe_int) (pe_op op_mod (pv 2) (pe_callB (call_lenK (K0 := K) (by rfl)) (by rfl) T.n_len (by decide +kernel) (pa_cons (pv 1) pa_nil)))) (fun _ _ => rfl)) (nomark _))))) (pss_one (ps_aug (i := 2) sc_shortest.nd rfl (Or.inl rfl) pe_int ip_add)))
      (pss_cons (ps_set (i := 3) sc_shortest.nd rfl (Or.inl rfl) (pe_op op_sub (pe_callB (call_lenK (K0 := K) (by rfl)) (by rfl) T.n_len (by decide +kernel) (pa_cons (pv 1) pa_nil)) (pe_op op_mod (pv 2) (pe_callB (call_lenK (K0 := K) (by rfl)) (by rfl) T.n_len (by decide +kernel) (pa_cons (pv 1) pa_nil)))))
      (pss_one (ps_ret (pe_tup (pa_cons (pe_slice (sl_tupK (K0 := K) (by rfl)) (pv 0) po_none (po_some (pe_op op_sub (pe_callB (call_lenK (K0 := K) (by rfl)) (by rfl) T.n_len (by decide +kernel) (pa_cons (pv 0) pa_nil)) (pv 2)))) (pa_cons (pe_op (op_catK (K0 := K) (by rfl)) (pe_slice (sl_tupK (K0 := K) (by rfl)) (pv 1) (po_some (pv 3)) po_none) (pe_slice (sl_tupK (K0 := K) (by rfl)) (pv 1) po_none (po_some (pv 3)))) pa_nil))))))))), fun h H0 G0 ds R hS => ?_⟩
  obtain ⟨ps, qs, rfl, hne, hl, hpl, hR⟩ := hS
  have ht := turnN_le hne
  refine ws_seq (ws_asg (we_slT (we_var rfl ⟨_, rfl, wo_none (wo_some (we_call (wa_cons (we_var rfl (wa_nil ⟨qs, rfl, hne, hl, _, rfl, ?_⟩)))))⟩)))
  rw [cut_take, ← List.map_take]
  unfold neatP at hR
  have hql : (qs.take (turnN qs)).length = turnN qs := by rw [List.length_take]; omega
  generalize qs.take (turnN qs) = q at hR hql
  have hq0 : q ≠ [] := fun z => by rw [z] at hql; simp only [List.length_nil] at hql; omega
  have hqp := List.length_pos_iff.mpr hq0
  have hqL : q.length ≤ 1000 := by omega
  refine ws_seq (ws_asg (we_int ?_))
  refine ws_seq (ws_while (fun m ρ => ∃ (s : Nat) (r3 : Option Cell), ρ = [some (.d (.tup (ps.map D.int))), some (.d (.tup (q.map D.int))), some (.d (.int (s : Int))), r3] ∧ s + m = ps.length ∧ pullF m (ps.take (ps.length - s), rotR q s) = pullF ps.length (ps, q)) ps.length ⟨0, _, rfl, by omega, ?_⟩ ?_)
  · rw [rotR_zero, Nat.sub_zero, List.take_length]
  · rintro m ρ ⟨s, r3, rfl, hm, hinv⟩
    obtain ⟨x, hx1, hx2, hx3⟩ := rotR_step hq0 s
    have hml := Nat.mod_lt s hqp
    refine wt_and (wt_T (we_I0 (we_var rfl ⟨_, rfl, we_len (we_var rfl ⟨_, .inr rfl, _, rfl, _, rfl, fun hb => ?_, fun hb => ?_⟩)⟩)))
    · have hb := of_decide_eq_true hb
      rw [List.length_map] at hb
      have hs : s < ps.length := by omega
      obtain ⟨n, rfl⟩ : ∃ n, m = n + 1 := ⟨m - 1, by omega⟩
      obtain ⟨t1, t2⟩ := take_last hs
      have a1 : atI (ps.map D.int) (-1 - (s : Int)) = some (.int ps[ps.length - 1 - s]) := by
        rw [atI_end (j := s) (by rw [List.length_map]; exact hs) rfl]
        simp
      have a2 : atI (q.map D.int) (-1 - (s : Int) % (q.length : Int)) = some (.int x) := by
        rw [atI_end (j := s % q.length) (by rw [List.length_map]; exact hml) (by omega)]
        have : q[q.length - 1 - s % q.length] = x := by
          rw [List.getElem?_eq_getElem (by omega)] at hx1
          exact Option.some.inj hx1
        rw [← this]
        simp
      refine wt_T (we_eqI (we_ixT (we_var rfl ⟨_, rfl, we_I0 (we_U (we_int ⟨_, rfl, _, rfl, we_var rfl ⟨_, rfl, _, _, rfl, a1, _, rfl, ?_⟩⟩))⟩)))
      refine we_ixT (we_var rfl ⟨_, rfl, we_I0 (we_U (we_int ⟨_, rfl, _, rfl, we_I (we_var rfl ⟨_, rfl, we_len (we_var rfl ⟨_, .inr rfl, _, rfl, by rw [List.length_map]; omega, _, rfl, _, _, rfl, by rw [List.length_map]; exact a2, _, rfl, _, rfl, ?_⟩)⟩)⟩))⟩)
      by_cases he : ps[ps.length - 1 - s] = x
      · rw [decide_eq_true he, if_pos rfl]
        refine ws_aug rfl (we_int ⟨1, rfl, ?_⟩)
        refine ⟨n, by omega, s + 1, _, rfl, by omega, ?_⟩
        have hne' : ps.take (ps.length - s) ≠ [] := fun z => by rw [z] at t1; cases t1
        rw [pullF, if_pos ⟨hne', by rw [t1, hx2, he]⟩] at hinv
        dsimp only at hinv
        rw [t2, hx2] at hinv
        have e3 : (some x).toList ++ (rotR q s).dropLast = rotR q (s + 1) := hx3
        rw [e3] at hinv
        exact hinv
      · rw [decide_eq_false he, if_neg (by decide)]
        rw [pullF, if_neg (fun z => he (by
          have z2 := z.2
          dsimp only at z2
          rw [t1, hx2] at z2
          exact Option.some.inj z2))] at hinv
        refine ws_seq (ws_asg (we_I0 (we_len (we_var rfl ⟨_, .inr rfl, _, rfl, we_I (we_var rfl ⟨_, rfl, we_len (we_var rfl ⟨_, .inr rfl, _, rfl, by rw [List.length_map]; omega, _, rfl, ?_⟩)⟩)⟩))))
        rw [List.length_map, show (inj (V.int ((q.length : Int) - (s : Int) % (q.length : Int)))) = D.int ((q.length - s % q.length : Nat) : Int) from congrArg D.int (by omega)]
        refine ws_ret (we_tup (wa_cons (we_slT (we_var rfl ⟨_, rfl, wo_none (wo_some (we_I0 (we_len (we_var rfl ⟨_, .inr rfl, _, rfl, we_var rfl ⟨_, rfl, _, rfl, wa_cons ?_⟩⟩))))⟩))))
        rw [List.length_map, show ((ps.length : Int) - (s : Int)) = ((ps.length - s : Nat) : Int) by omega, cut_take, ← List.map_take]
        refine we_catT (we_slT (we_var rfl ⟨_, rfl, wo_some (we_var rfl ⟨_, rfl, wo_none ⟨_, rfl, we_slT (we_var rfl ⟨_, rfl, wo_none (wo_some (we_var rfl ⟨_, rfl, _, rfl, ?_⟩))⟩)⟩⟩)⟩))
        rw [cut_drop, cut_take]
        refine ⟨by rw [List.length_drop, List.length_take, List.length_map]; omega, wa_nil ⟨len2, ?_⟩⟩
        rw [← List.map_drop, ← List.map_take, ← List.map_append]
        rw [← hinv] at hR
        exact hR
    · have hb := of_decide_eq_false hb
      rw [List.length_map] at hb
      have hm0 : m = 0 := by omega
      subst hm0
      rw [pullF] at hinv
      rw [if_neg (by decide)]
      refine ws_seq (ws_asg (we_I0 (we_len (we_var rfl ⟨_, .inr rfl, _, rfl, we_I (we_var rfl ⟨_, rfl, we_len (we_var rfl ⟨_, .inr rfl, _, rfl, by rw [List.length_map]; omega, _, rfl, ?_⟩)⟩)⟩))))
      rw [List.length_map, show (inj (V.int ((q.length : Int) - (s : Int) % (q.length : Int)))) = D.int ((q.length - s % q.length : Nat) : Int) from congrArg D.int (by omega)]
      refine ws_ret (we_tup (wa_cons (we_slT (we_var rfl ⟨_, rfl, wo_none (wo_some (we_I0 (we_len (we_var rfl ⟨_, .inr rfl, _, rfl, we_var rfl ⟨_, rfl, _, rfl, wa_cons ?_⟩⟩))))⟩))))
      rw [List.length_map, show ((ps.length : Int) - (s : Int)) = ((ps.length - s : Nat) : Int) by omega, cut_take, ← List.map_take]
      refine we_catT (we_slT (we_var rfl ⟨_, rfl, wo_some (we_var rfl ⟨_, rfl, wo_none ⟨_, rfl, we_slT (we_var rfl ⟨_, rfl, wo_none (wo_some (we_var rfl ⟨_, rfl, _, rfl, ?_⟩))⟩)⟩⟩)⟩))
      rw [cut_drop, cut_take]
      refine ⟨by rw [List.length_drop, List.length_take, List.length_map]; omega, wa_nil ⟨len2, ?_⟩⟩
      rw [← List.map_drop, ← List.map_take, ← List.map_append]
      rw [← hinv] at hR
      exact hR
/-! ### powers -/
theorem bd_pow {base : Int} (h1 : 2 ≤ base) (h2 : base ≤ 5) : ∀ k : Nat, Bd (3 * k + 1) (base ^ k)
  | 0 => by show (base ^ 0).natAbs < _; rw [Int.pow_zero]; decide
  | k + 1 => by
    have ih := bd_pow h1 h2 k
    have hb : Bd 3 base := by show base.natAbs < 8; omega
    rw [Int.pow_succ]
    exact ih.mul hb
theorem pow_pos' {base : Int} (h1 : 2 ≤ base) (k : Nat) : 0 < base ^ k := Int.pow_pos (by omega)
theorem pow_ge {base : Int} (h1 : 2 ≤ base) : ∀ k : Nat, 0 < k → 2 ≤ base ^ k
  | 0, h => by omega
  | 1, _ => by rw [Int.pow_succ, Int.pow_zero]; omega
  | k + 2, _ => by
    have ih := pow_ge h1 (k + 1) (by omega)
    rw [Int.pow_succ]
    have := Int.mul_le_mul_of_nonneg_left (show 1 ≤ base by omega) (show 0 ≤ base ^ (k + 1) by omega)
    omega
def S_power : List D → (D → Prop) → Prop := fun ds R => ∃ (base : Int) (n : Nat), ds = [.int base, .int (n : Int)] ∧ 2 ≤ base ∧ base ≤ 5 ∧ n ≤ 10000 ∧ R (.int (base ^ n))
theorem l_power : ∀ ds R, S_power ds R → ds.length = 2 := fun ds R ⟨_, _, e, _⟩ => by rw [e]; rfl
theorem d_power (T : Txt K mg) : Dfn P w K mg bs 1 "power" ["base", "many"] S_power := by
  refine mkD (k := 0) T.s_power sc_power (fun _ _ _ _ _ _ us hl => match us, hl with | [_, _], _ => rfl) l_power fun f cdv A outer s H E hr => ?_
  have hu := hu_of hr
  refine ⟨_, (pss_cons (ps_set (i := 2) sc_power.nd rfl (Or.inl rfl) pe_int)
      (pss_cons (ps_set (i := 3) sc_power.nd rfl (Or.inl rfl) (pv 0))
      (pss_cons (ps_set (i := 4) sc_power.nd rfl (Or.inl rfl) (pv 1))
      (pss_cons (ps_while PassesOwn.never (pt_cmpR op_gt (pv 4) pe_int (nomark _)) (pss_cons (ps_if (pt_truth (pe_op op_and (pv 4) pe_int) (by intro _; rfl)) (pss_one (ps_set (i := 2) sc_power.nd rfl (Or.inl rfl) (pe_op op_mulA (pv 2) (pv 3)))) pss_nil)
      (pss_cons (ps_set (i := 3) sc_power.nd rfl (Or.inl rfl) (pe_op op_mulA (pv 3) (pv 3)))
      (pss_one (ps_set (i := 4) sc_power.nd rfl (Or.inl rfl) (pe_op op_shr (pv 4) pe_int))))))
      (pss_one (ps_ret (pv 2))))))), fun h H0 G0 ds R hS => ?_⟩
  obtain ⟨base, n, rfl, h1, h2, hn, hR⟩ := hS
  refine ws_seq (ws_asg (we_int ?_))
  refine ws_seq (ws_asg (we_var rfl ?_))
  refine ws_seq (ws_asg (we_var rfl ?_))
  refine ws_seq (ws_while (fun m ρ => ∃ a e : Nat, a + e * m = n ∧ (0 < m → e ≤ n) ∧ ρ = [some (.d (.int base)), some (.d (.int (n : Int))), some (.d (.int (base ^ a))), some (.d (.int (base ^ e))), some (.d (.int (m : Int)))]) n ⟨0, 1, by omega, by omega, ?_⟩ ?_)
  · rw [Int.pow_zero, Int.pow_succ, Int.pow_zero, Int.one_mul]
    rfl
  rintro m ρ ⟨a, e, hae, hen, rfl⟩
  refine wt_T (we_I0 (we_var rfl ⟨_, rfl, we_int ⟨0, rfl, _, rfl, ?_⟩⟩))
  by_cases hm : 0 < m
  · rw [decide_eq_true (by omega), if_pos rfl]
    have hen := hen hm
    have hsq : CMulA (base ^ e) (base ^ e) := Bd.cm (bd_pow h1 h2 e) (bd_pow h1 h2 e) (by omega) (by omega) (by omega)
    have hhalf : inj (V.int ((m : Int) / 2 ^ (1 : Int).toNat)) = D.int ((m / 2 : Nat) : Int) := congrArg D.int (by show (m : Int) / 2 ^ 1 = _; omega)
    have hem : e * m = e * (m % 2) + (e + e) * (m / 2) := by
      have hd := Nat.div_add_mod m 2
      have : e * m = e * (2 * (m / 2) + m % 2) := by rw [hd]
      rw [this, Nat.mul_add, ← Nat.mul_assoc, Nat.mul_two]
      omega
    have h2e : 0 < m / 2 → e + e ≤ n := fun z => by
      have := Nat.mul_le_mul_left (e + e) z
      omega
    refine ws_seq (ws_if (wt_truI (we_I0 (we_var rfl ⟨_, rfl, we_int ⟨1, rfl, _, rfl, ?_⟩⟩))))
    rw [band1]
    by_cases hodd : m % 2 = 1
    · rw [if_pos (decide_eq_true (by omega))]
      have hmul : e * (m % 2) = e := by rw [hodd, Nat.mul_one]
      refine ws_asg (we_I (we_var rfl ⟨_, rfl, we_var rfl ⟨_, rfl, Bd.cm (bd_pow h1 h2 a) (bd_pow h1 h2 e) (by omega) (by omega) (by omega), ?_⟩⟩))
      refine ws_seq (ws_asg (we_I (we_var rfl ⟨_, rfl, we_var rfl ⟨_, rfl, hsq, ?_⟩⟩)))
      refine ws_asg (we_I (we_var rfl ⟨_, rfl, we_int ⟨1, rfl, by decide, ?_⟩⟩))
      rw [hhalf]
      refine ⟨m / 2, by omega, a + e, e + e, by omega, h2e, ?_⟩
      rw [Int.pow_add, Int.pow_add]
      rfl
    · rw [if_neg (by rw [decide_eq_false (by omega)]; decide)]
      have h0 : m % 2 = 0 := by omega
      have hmul : e * (m % 2) = 0 := by rw [h0, Nat.mul_zero]
      refine ws_next (ws_seq (ws_asg (we_I (we_var rfl ⟨_, rfl, we_var rfl ⟨_, rfl, hsq, ?_⟩⟩))))
      refine ws_asg (we_I (we_var rfl ⟨_, rfl, we_int ⟨1, rfl, by decide, ?_⟩⟩))
      rw [hhalf]
      refine ⟨m / 2, by omega, a, e + e, by omega, h2e, ?_⟩
      rw [Int.pow_add]
      rfl
  · rw [decide_eq_false (by omega), if_neg (by decide)]
    have hm0 : m = 0 := by omega
    have ha : a = n := by rw [hm0, Nat.mul_zero] at hae; omega
    refine ws_ret (we_var rfl ?_)
    rw [ha]
    exact hR
/-! ### rows read as integers -/
def hvA (w : Int) (a : Int) : List Int → Int
  | [] => a
  | x :: xs => hvA w (a * w + x) xs
def hv (w : Int) (xs : List Int) : Int := hvA w 0 xs
theorem hv_zero (w : Int) (xs : List Int) : hv w (0 :: xs) = hv w xs := by
  show hvA w (0 * w + 0) xs = hvA w 0 xs
  rw [Int.zero_mul]
  rfl
def prs (w : Int) : List Int → List Int
  | a :: b :: r => (a * w + b) :: prs w r
  | _ => []
theorem prs_len (w : Int) : ∀ (m : Nat) (xs : List Int), xs.length = 2 * m → (prs w xs).length = m
  | 0, xs, h => by
    cases xs with
    | nil => rfl
    | cons a l => rw [List.length_cons] at h; omega
  | m + 1, [], h => by rw [List.length_nil] at h; omega
  | m + 1, [a], h => by rw [List.length_singleton] at h; omega
  | m + 1, a :: b :: r, h => by
    rw [prs, List.length_cons, prs_len w m r (by simp only [List.length_cons] at h; omega)]
theorem prs_hv (w : Int) : ∀ (m : Nat) (a : Int) (xs : List Int), xs.length = 2 * m → hvA (w * w) a (prs w xs) = hvA w a xs
  | 0, a, xs, h => by
    cases xs with
    | nil => rfl
    | cons b l => rw [List.length_cons] at h; omega
  | m + 1, a, [], h => by rw [List.length_nil] at h; omega
  | m + 1, a, [b], h => by rw [List.length_singleton] at h; omega
  | m + 1, a, x :: y :: r, h => by
    rw [prs]
    show hvA (w * w) (a * (w * w) + (x * w + y)) (prs w r) = hvA w ((a * w + x) * w + y) r
    rw [prs_hv w m _ r (by simp only [List.length_cons] at h; omega)]
    congr 1
    rw [Int.add_mul, Int.mul_assoc, Int.add_assoc]
theorem prs_get (w : Int) : ∀ (k : Nat) (xs : List Int), 2 * k + 1 < xs.length → ∃ a b, xs[2 * k]? = some a ∧ xs[2 * k + 1]? = some b ∧ (prs w xs)[k]? = some (a * w + b)
  | 0, a :: b :: r, _ => ⟨a, b, rfl, rfl, by rw [prs]; rfl⟩
  | 0, [], h => by simp at h
  | 0, [a], h => by simp at h
  | k + 1, [], h => by simp at h
  | k + 1, [a], h => by simp only [List.length_singleton] at h; omega
  | k + 1, a :: b :: r, h => by
    obtain ⟨x, y, h1, h2, h3⟩ := prs_get w k r (by simp only [List.length_cons] at h; omega)
    refine ⟨x, y, ?_, ?_, ?_⟩
    · rw [show 2 * (k + 1) = 2 * k + 1 + 1 by omega, List.getElem?_cons_succ, List.getElem?_cons_succ]; exact h1
    · rw [show 2 * (k + 1) + 1 = 2 * k + 1 + 1 + 1 by omega, List.getElem?_cons_succ, List.getElem?_cons_succ]; exact h2
    · rw [prs, List.getElem?_cons_succ]; exact h3
/-- all at most so great -/
def Sm2 (B : Int) (xs : List Int) : Prop := ∀ x ∈ xs, -B ≤ x ∧ x ≤ B
theorem prs_sm {w M : Int} (hw : 1 ≤ w) (hM : 0 ≤ M) : ∀ (m : Nat) (xs : List Int), xs.length = 2 * m → Sm2 (M * (w - 1)) xs → Sm2 (M * (w * w - 1)) (prs w xs)
  | 0, xs, h, _ => by
    cases xs with
    | nil => intro x hx; cases hx
    | cons a l => rw [List.length_cons] at h; omega
  | m + 1, [], h, _ => by rw [List.length_nil] at h; omega
  | m + 1, [a], h, _ => by rw [List.length_singleton] at h; omega
  | m + 1, a :: b :: r, h, hs => by
    rw [prs]
    intro x hx
    rcases List.mem_cons.mp hx with rfl | hx
    · obtain ⟨a1, a2⟩ := hs a List.mem_cons_self
      obtain ⟨b1, b2⟩ := hs b (List.mem_cons_of_mem _ List.mem_cons_self)
      have m1 := Int.mul_le_mul_of_nonneg_right a1 (show 0 ≤ w by omega)
      have m2 := Int.mul_le_mul_of_nonneg_right a2 (show 0 ≤ w by omega)
      have e : M * (w * w - 1) = M * (w - 1) * w + M * (w - 1) := by
        rw [Int.mul_sub, Int.mul_sub, Int.sub_mul, Int.mul_one, Int.mul_assoc]
        omega
      rw [Int.neg_mul] at m1
      omega
    · exact prs_sm hw hM m r (by simp only [List.length_cons] at h; omega) (fun z hz => hs z (List.mem_cons_of_mem _ (List.mem_cons_of_mem _ hz))) x hx
/-- how great the integers of a row may be -/
def Big50 : Int := 1125899906842624
theorem sm_bd {base : Int} (h1 : 2 ≤ base) (h2 : base ≤ 5) {e : Nat} {x : Int} (h : -(Big50 * (base ^ e - 1)) ≤ x ∧ x ≤ Big50 * (base ^ e - 1)) : Bd (3 * e + 52) x := by
  have hp := pow_pos' h1 e
  have hb : Bd (51 + (3 * e + 1)) (Big50 * base ^ e) := Bd.mul (by show Big50.natAbs < 2 ^ 51; decide) (bd_pow h1 h2 e)
  have e1 : Big50 * (base ^ e - 1) = Big50 * base ^ e - Big50 := by rw [Int.mul_sub, Int.mul_one]
  rw [e1] at h
  have hB : (0 : Int) < Big50 := by decide
  have hb' : (Big50 * base ^ e).natAbs < 2 ^ (51 + (3 * e + 1)) := hb
  rw [show 3 * e + 52 = 51 + (3 * e + 1) by omega]
  show x.natAbs < _
  have hnn : 0 ≤ Big50 * base ^ e := Int.mul_nonneg (by decide) (by omega)
  generalize Big50 * base ^ e = z at *
  generalize (2 : Nat) ^ (51 + (3 * e + 1)) = q at *
  omega
theorem atI_nat {α : Type} {xs : List α} {i : Int} {j : Nat} {x : α} (h : xs[j]? = some x) (e : i = (j : Int)) : atI xs i = some x := by
  have hl := (List.getElem?_eq_some_iff.mp h).1
  obtain ⟨y, h1, h2⟩ := atI_of (xs := xs) (i := i) (by omega) (by omega)
  rw [h1]
  rw [e, Int.toNat_natCast, h] at h2
  exact h2.symm
def S_whole : List D → (D → Prop) → Prop := fun ds R => ∃ (base : Int) (xs : List Int), ds = [.int base, .tup (xs.map D.int)] ∧ 2 ≤ base ∧ base ≤ 5 ∧ xs.length ≤ 3000 ∧ Sm2 Big50 xs ∧ R (.int (hv base xs))
theorem l_whole : ∀ ds R, S_whole ds R → ds.length = 2 := fun ds R ⟨_, _, e, _⟩ => by rw [e]; rfl
theorem d_whole (T : Txt K mg) : Dfn P w K mg bs 1 "whole" ["base", "digits"] S_whole := by
  refine mkD (k := 0) T.s_whole sc_whole (fun _ _ _ _ _ _ us hl => match us, hl with | [_, _], _ => rfl) l_whole fun f cdv A outer s H E hr => ?_
  have hu := hu_of hr
  refine ⟨_, (pss_cons (ps_set (i := 2) sc_whole.nd rfl (Or.inr rfl) (pe_callTy (call_listK (K0 := K) (by rfl)) (by rfl) T.n_list (by decide +kernel) (pa_cons (pv 1) pa_nil)))
      (pss_cons (ps_set (i := 3) sc_whole.nd rfl (Or.inr rfl) (pv 0))
      (pss_cons (ps_while PassesOwn.never (pt_cmpR op_gt (pe_callB (call_lenK (K0 := K) (by rfl)) (by rfl) T.n_len (by decide +kernel) (pa_cons (pv 2) pa_nil)) pe_int (nomark _)) (pss_cons (ps_if (pt_truth (pe_op op_and (pe_callB (call_lenK (K0 := K) (by rfl)) (by rfl) T.n_len (by decide +kernel) (pa_cons (pv 2) pa_nil)) pe_int) (by intro _; rfl)) (pss_one (ps_set (i := 2) sc_whole.nd rfl (Or.inr rfl) (pe_op op_cat (pe_lst (pa_cons pe_int pa_nil)) (pv 2)))) pss_nil)
      (pss_cons (ps_set (i := 2) sc_whole.nd rfl (Or.inr rfl) (pe_lc (own := [("k", 4)]) (g := (gName 4)) rfl sc_whole.nd (pi_range3 rfl T.n_range (pa_cons pe_int (pa_cons (pe_callB (call_lenK (K0 := K) (by rfl)) (by rfl) T.n_len (by decide +kernel) (pa_cons (pv 2) pa_nil)) (pa_cons pe_int pa_nil)))) (blkOk_by (N := N_whole) (sc := defScope s_whole) (by decide +kernel)) (fun _ _ _ _ _ => by exact (pg_name (i := 4) sc_whole.nd rfl (Or.inl rfl))) (fun _ _ _ _ _ => by exact pts_nil) (fun _ _ _ _ _ => by exact (pe_op op_add (pe_op op_mulA (pe_ix (ix_listK (K0 := K) (by rfl)) (pv 2) (pv 4) (fun _ _ => rfl)) (pv 3)) (pe_ix (ix_listK (K0 := K) (by rfl)) (pv 2) (pe_op op_add (pv 4) pe_int) (fun _ _ => rfl))))))
      (pss_one (ps_set (i := 3) sc_whole.nd rfl (Or.inr rfl) (pe_op op_mulA (pv 3) (pv 3)))))))
      (pss_one (ps_ret (pe_ifExp (pt_cmpR op_eq (pe_callB (call_lenK (K0 := K) (by rfl)) (by rfl) T.n_len (by decide +kernel) (pa_cons (pv 2) pa_nil)) pe_int (nomark _)) (pe_ix (ix_listK (K0 := K) (by rfl)) (pv 2) pe_int (fun _ _ => rfl)) pe_int)))))), fun h H0 G0 ds R hS => ?_⟩
  obtain ⟨base, xs, rfl, h1, h2, hl, hs, hR⟩ := hS
  refine ws_seq (ws_asg (we_F (wf_listOf (we_var rfl ⟨_, .inr rfl, ?_⟩))))
  refine ws_seq (ws_asg (we_var rfl ?_))
  refine ws_seq (ws_while (fun m ρ => ∃ (ps : List Int) (e : Nat) (r4 : Option Cell), m = ps.length ∧ hv (base ^ e) ps = hv base xs ∧ 1 ≤ e ∧ ps.length ≤ 3000 ∧ (ps.length - 1) * e ≤ xs.length - 1 ∧ Sm2 (Big50 * (base ^ e - 1)) ps ∧
    ρ = [some (.d (.int base)), some (.d (.tup (xs.map D.int))), some (.d (.lst (ps.map D.int))), some (.d (.int (base ^ e))), r4]) xs.length ⟨xs, 1, none, rfl, ?_, Nat.le_refl _, hl, by omega, ?_, ?_⟩ ?_)
  · rw [Int.pow_succ, Int.pow_zero, Int.one_mul]
  · intro x hx
    obtain ⟨a1, a2⟩ := hs x hx
    have hB : (0 : Int) < Big50 := by decide
    have := Int.mul_le_mul_of_nonneg_left (show 1 ≤ base ^ 1 - 1 by rw [Int.pow_succ, Int.pow_zero, Int.one_mul]; omega) (show 0 ≤ Big50 by decide)
    rw [Int.mul_one] at this
    omega
  · rw [Int.pow_succ, Int.pow_zero, Int.one_mul]
    rfl
  rintro m ρ ⟨ps, e, r4, rfl, hval, he1, hpl, hpe, hsm, rfl⟩
  refine wt_T (we_I0 (we_len (we_var rfl ⟨_, .inl rfl, _, rfl, we_int ⟨1, rfl, _, rfl, ?_⟩⟩)))
  rw [List.length_map]
  by_cases hlen : 1 < ps.length
  · rw [decide_eq_true (by omega), if_pos rfl]
    have heN : e ≤ 3000 := by
      have := Nat.mul_le_mul_right e (show 1 ≤ ps.length - 1 by omega)
      omega
    have hw1 : (1 : Int) ≤ base ^ e := by have := pow_pos' h1 e; omega
    refine ws_seq (ws_to (fun ρ' => ∃ (qs : List Int) (k : Nat), qs.length = 2 * k ∧ k < ps.length ∧ 1 ≤ k ∧ (k - 1) * (e + e) ≤ xs.length - 1 ∧ hv (base ^ e) qs = hv base xs ∧ Sm2 (Big50 * (base ^ e - 1)) qs ∧
      ρ' = [some (.d (.int base)), some (.d (.tup (xs.map D.int))), some (.d (.lst (qs.map D.int))), some (.d (.int (base ^ e))), r4]) (ws_if (wt_truI (we_I0 (we_len (we_var rfl ⟨_, .inl rfl, _, rfl, we_int ⟨1, rfl, _, rfl, ?_⟩⟩))))) ?_)
    · rw [band1, List.length_map]
      have hdm := Nat.div_add_mod ps.length 2
      by_cases hodd : ps.length % 2 = 1
      · rw [if_pos (decide_eq_true (by omega))]
        refine ws_asg (we_F (wf_catL (we_lst (wa_cons (we_int (wa_nil ⟨Nat.le_of_ble_eq_true rfl, _, rfl, we_var rfl ⟨_, rfl, ?_, ?_⟩⟩))))))
        · rw [List.length_map]
          show 1 + ps.length ≤ 4000000
          omega
        · refine ⟨0 :: ps, ps.length / 2 + 1, by rw [List.length_cons]; omega, by omega, by omega, ?_, by rw [hv_zero]; exact hval, ?_, rfl⟩
          · have : (ps.length / 2 + 1 - 1) * (e + e) = (ps.length - 1) * e := by
              rw [← Nat.two_mul, ← Nat.mul_assoc]
              congr 1
              omega
            omega
          · intro x hx
            rcases List.mem_cons.mp hx with rfl | hx
            · have : 0 ≤ Big50 * (base ^ e - 1) := Int.mul_nonneg (by decide) (by omega)
              omega
            · exact hsm x hx
      · rw [if_neg (by rw [decide_eq_false (by omega)]; decide)]
        refine ws_next ⟨ps, ps.length / 2, by omega, by omega, by omega, ?_, hval, hsm, rfl⟩
        have h3 : (ps.length / 2 - 1) * (e + e) ≤ (ps.length - 1) * e := by
          rw [← Nat.two_mul, ← Nat.mul_assoc]
          exact Nat.mul_le_mul_right e (by omega)
        omega
    rintro ρ' ⟨qs, k, hk, hkp, hk1, hke, hq, hqs, rfl⟩
    refine ws_seq (ws_asg (we_F (wf_lc3 (wa_cons (we_int (wa_cons (we_len (we_var rfl ⟨_, .inl rfl, wa_cons (we_int (wa_nil ?_))⟩))))))))
    refine ⟨0, _, 2, k, rfl, by rw [List.length_map, hk]; exact rgc2 k (by omega), by omega, fun j acc => acc = ((prs (base ^ e) qs).take j).map D.int, rfl, ?_, ?_⟩
    · rintro j acc hj rfl _
      obtain ⟨a, b, g1, g2, g3⟩ := prs_get (base ^ e) j qs (by omega)
      have ga := hqs a (List.mem_of_getElem? g1)
      refine wgp_name ?_ ?_
      · decide
      refine wt_yes ?_
      rw [if_pos rfl]
      refine we_I0 (we_I (we_ixL (we_var rfl ⟨_, rfl, we_var rfl ⟨_, .int a, rfl, atI_nat (j := 2 * j) (by rw [List.getElem?_map, g1]; rfl) (by omega), _, rfl, we_var rfl ⟨_, rfl, ?_, _, rfl, ?_⟩⟩⟩)))
      · exact Bd.cm (sm_bd h1 h2 ga) (bd_pow h1 h2 e) (by omega) (by omega) (by omega)
      refine we_ixL (we_var rfl ⟨_, rfl, we_I0 (we_var rfl ⟨_, rfl, we_int ⟨1, rfl, _, .int b, rfl, atI_nat (j := 2 * j + 1) (by rw [List.getElem?_map, g2]; rfl) (by omega), _, rfl, ?_⟩⟩)⟩)
      dsimp only
      rw [take_more g3, List.map_append]
      rfl
    · rintro acc rfl
      have hpl := prs_len (base ^ e) k qs hk
      rw [List.take_of_length_le (by omega)]
      refine ws_asg (we_I (we_var rfl ⟨_, rfl, we_var rfl ⟨_, rfl, Bd.cm (bd_pow h1 h2 e) (bd_pow h1 h2 e) (by omega) (by omega) (by omega), ?_⟩⟩))
      refine ⟨k, by omega, prs (base ^ e) qs, e + e, r4, hpl.symm, ?_, by omega, by omega, by rw [hpl]; exact hke, ?_, ?_⟩
      · rw [Int.pow_add, ← hq]
        exact prs_hv _ k 0 qs hk
      · rw [Int.pow_add]
        exact prs_sm hw1 (by decide) k qs hk hqs
      · rw [Int.pow_add]
        rfl
  · rw [decide_eq_false (by omega), if_neg (by decide)]
    refine ws_ret (we_if (wt_T (we_eqI (we_len (we_var rfl ⟨_, .inl rfl, _, rfl, we_int ⟨1, rfl, _, rfl, ?_⟩⟩)))))
    rw [List.length_map]
    match ps, hlen, hval with
    | [], _, hval =>
      rw [if_neg (by decide)]
      refine we_int ?_
      rw [← hval] at hR
      exact hR
    | [x], _, hval =>
      rw [if_pos (by rfl)]
      refine we_ixL (we_var rfl ⟨_, rfl, we_int ⟨0, .int x, rfl, rfl, ?_⟩⟩)
      rw [← hval] at hR
      have ex : hv (base ^ e) [x] = x := by
        show 0 * base ^ e + x = x
        rw [Int.zero_mul, Int.zero_add]
      rw [ex] at hR
      exact hR
    | a :: b :: r, h, _ => exact (h (by simp only [List.length_cons]; omega)).elim
/-! ### worths -/
theorem hvA_sm {base : Int} (h1 : 2 ≤ base) : ∀ (xs : List Int) (k : Nat) (a : Int), Sm2 Big50 xs → (-(Big50 * (base ^ k - 1)) ≤ a ∧ a ≤ Big50 * (base ^ k - 1)) → -(Big50 * (base ^ (k + xs.length) - 1)) ≤ hvA base a xs ∧ hvA base a xs ≤ Big50 * (base ^ (k + xs.length) - 1)
  | [], k, a, _, ha => ha
  | x :: xs, k, a, hs, ha => by
    have ih := hvA_sm h1 xs (k + 1) (a * base + x) (fun z hz => hs z (List.mem_cons_of_mem _ hz)) (by
      obtain ⟨b1, b2⟩ := hs x List.mem_cons_self
      have m1 := Int.mul_le_mul_of_nonneg_right ha.1 (show 0 ≤ base by omega)
      have m2 := Int.mul_le_mul_of_nonneg_right ha.2 (show 0 ≤ base by omega)
      have e : Big50 * (base ^ (k + 1) - 1) = Big50 * (base ^ k - 1) * base + Big50 * (base - 1) := by
        rw [Int.pow_succ, Int.mul_sub, Int.mul_sub, Int.mul_sub, Int.sub_mul, Int.mul_one, Int.mul_assoc]
        omega
      have hB : Big50 ≤ Big50 * (base - 1) := by
        have := Int.mul_le_mul_of_nonneg_left (show 1 ≤ base - 1 by omega) (show 0 ≤ Big50 by decide)
        rw [Int.mul_one] at this
        exact this
      rw [Int.neg_mul] at m1
      omega)
    rw [List.length_cons, show k + (xs.length + 1) = k + 1 + xs.length by omega]
    exact ih
theorem hv_sm {base : Int} (h1 : 2 ≤ base) {xs : List Int} (hs : Sm2 Big50 xs) : -(Big50 * (base ^ xs.length - 1)) ≤ hv base xs ∧ hv base xs ≤ Big50 * (base ^ xs.length - 1) := by
  have := hvA_sm h1 xs 0 0 hs (by rw [Int.pow_zero]; show -(Big50 * 0) ≤ 0 ∧ 0 ≤ Big50 * 0; rw [Int.mul_zero]; omega)
  rw [Nat.zero_add] at this
  exact this
def S_reduced : List D → (D → Prop) → Prop := fun ds R => ∃ t b : Int, ds = [.int t, .int b] ∧ 0 < b ∧ Bd 8999 b ∧ R (fr (low t b))
theorem l_reduced : ∀ ds R, S_reduced ds R → ds.length = 2 := fun ds R ⟨_, _, e, _⟩ => by rw [e]; rfl
theorem d_reduced (T : Txt K mg) : Dfn P w K mg bs 1 "reduced" ["top", "bottom"] S_reduced := by
  refine mkD (k := 0) T.s_reduced sc_reduced (fun _ _ _ _ _ _ us hl => match us, hl with | [_, _], _ => rfl) l_reduced fun f cdv A outer s H E hr => ?_
  have hu := hu_of hr
  refine ⟨_, (pss_cons (ps_set (i := 2) sc_reduced.nd rfl (Or.inl rfl) (pe_callBfun cr_gcd (by rfl) T.g_gcd (pa_cons (pv 0) (pa_cons (pv 1) pa_nil))))
      (pss_one (ps_ret (pe_tup (pa_cons (pe_op op_divA (pv 0) (pv 2)) (pa_cons (pe_op op_divA (pv 1) (pv 2)) pa_nil)))))), fun h H0 G0 ds R hS => ?_⟩
  obtain ⟨t, b, rfl, hb, hbd, hR⟩ := hS
  rw [low_is] at hR
  have hg := gcd_pos (t := t) hb
  have hbg : Bd 8999 (Int.gcd t b : Int) := by
    have := gcd_le (t := t) hb
    exact Nat.lt_of_le_of_lt (by omega) hbd
  refine ws_seq (ws_asg (we_gcd (we_var rfl ⟨_, rfl, we_var rfl ⟨_, rfl, ?_⟩⟩)))
  exact ws_ret (we_tup (wa_cons (we_I (we_var rfl ⟨_, rfl, we_var rfl ⟨_, rfl, Bd.cd hg hbg, wa_cons (we_I (we_var rfl ⟨_, rfl, we_var rfl ⟨_, rfl, Bd.cd hg hbg, wa_nil ⟨len2, hR⟩⟩⟩))⟩⟩))))
/-- the worth of a row -/
def wTop (base : Int) (ps qs : List Int) : Int := hv base ps * (base ^ qs.length - 1) + hv base qs
def wBot (base : Int) (ps qs : List Int) : Int := base ^ ps.length * (base ^ qs.length - 1)
theorem wBot_pos {base : Int} (h1 : 2 ≤ base) (ps : List Int) {qs : List Int} (hne : qs ≠ []) : 0 < wBot base ps qs := by
  have h2 := pow_ge h1 qs.length (List.length_pos_iff.mpr hne)
  exact Int.mul_pos (pow_pos' h1 _) (by omega)
def S_worth_of : List D → (D → Prop) → Prop := fun ds R => ∃ (base : Int) (ps qs : List Int), ds = [.int base, .tup (ps.map D.int), .tup (qs.map D.int)] ∧ 2 ≤ base ∧ base ≤ 5 ∧ qs ≠ [] ∧ ps.length + qs.length ≤ 2900 ∧ Sm2 Big50 ps ∧ Sm2 Big50 qs ∧ R (fr (low (wTop base ps qs) (wBot base ps qs)))
theorem l_worth_of : ∀ ds R, S_worth_of ds R → ds.length = 3 := fun ds R ⟨_, _, _, e, _⟩ => by rw [e]; rfl
theorem d_worth_of (T : Txt K mg) : Dfn P w K mg bs 2 "worth_of" ["base", "ahead", "again"] S_worth_of := by
  have D_reduced := d_reduced (P := P) (w := w) (bs := bs) T
  have D_power := d_power (P := P) (w := w) (bs := bs) T
  have D_whole := d_whole (P := P) (w := w) (bs := bs) T
  refine mkD (k := 1) T.s_worth_of sc_worth_of (fun _ _ _ _ _ _ us hl => match us, hl with | [_, _, _], _ => rfl) l_worth_of fun f cdv A outer s H E hr => ?_
  have hu := hu_of hr
  refine ⟨_, (pss_cons (ps_set (i := 3) sc_worth_of.nd rfl (Or.inl rfl) (pe_op op_sub (pe_callK0 (K0 := K) (by rfl) D_power (hr.mono (by decide)) (pa_cons (pv 0) (pa_cons (pe_callB (call_lenK (K0 := K) (by rfl)) (by rfl) T.n_len (by decide +kernel) (pa_cons (pv 2) pa_nil)) pa_nil))) pe_int))
      (pss_cons (ps_set (i := 4) sc_worth_of.nd rfl (Or.inl rfl) (pe_op op_add (pe_op op_mulA (pe_callK0 (K0 := K) (by rfl) D_whole (hr.mono (by decide)) (pa_cons (pv 0) (pa_cons (pv 1) pa_nil))) (pv 3)) (pe_callK0 (K0 := K) (by rfl) D_whole (hr.mono (by decide)) (pa_cons (pv 0) (pa_cons (pv 2) pa_nil)))))
      (pss_one (ps_ret (pe_callK0 (K0 := K) (by rfl) D_reduced (hr.mono (by decide)) (pa_cons (pv 4) (pa_cons (pe_op op_mulA (pe_callK0 (K0 := K) (by rfl) D_power (hr.mono (by decide)) (pa_cons (pv 0) (pa_cons (pe_callB (call_lenK (K0 := K) (by rfl)) (by rfl) T.n_len (by decide +kernel) (pa_cons (pv 1) pa_nil)) pa_nil))) (pv 3)) pa_nil))))))), fun h H0 G0 ds R hS => ?_⟩
  obtain ⟨base, ps, qs, rfl, h1, h2, hne, hl, hp, hq, hR⟩ := hS
  have hbt : Bd (3 * qs.length + 1) (base ^ qs.length - 1) := by
    have h3 := pow_pos' h1 qs.length
    have h4 : (base ^ qs.length).natAbs < 2 ^ (3 * qs.length + 1) := bd_pow h1 h2 qs.length
    show (base ^ qs.length - 1).natAbs < _
    generalize base ^ qs.length = z at *
    generalize (2 : Nat) ^ (3 * qs.length + 1) = q at *
    omega
  refine ws_seq (ws_asg (we_I0 (we_call (wa_cons (we_var rfl (wa_cons (we_len (we_var rfl ⟨_, .inr rfl, wa_nil ⟨base, qs.length, by rw [List.length_map], h1, h2, by omega, _, rfl, we_int ⟨1, rfl, ?_⟩⟩⟩))))))))
  refine ws_seq (ws_asg (we_I0 (we_I (we_call (wa_cons (we_var rfl (wa_cons (we_var rfl (wa_nil ⟨base, ps, rfl, h1, h2, by omega, hp, _, rfl, we_var rfl ⟨_, rfl, Bd.cm (sm_bd h1 h2 (hv_sm h1 hp)) hbt (by omega) (by omega) (by omega), _, rfl, ?_⟩⟩)))))))))
  refine we_call (wa_cons (we_var rfl (wa_cons (we_var rfl (wa_nil ⟨base, qs, rfl, h1, h2, by omega, hq, _, rfl, ?_⟩)))))
  refine ws_ret (we_call (wa_cons (we_var rfl (wa_cons (we_I (we_call (wa_cons (we_var rfl (wa_cons (we_len (we_var rfl ⟨_, .inr rfl, wa_nil ⟨base, ps.length, by rw [List.length_map], h1, h2, by omega, _, rfl, we_var rfl ⟨_, rfl, ?_, wa_nil ?_⟩⟩⟩)))))))))))
  · exact Bd.cm (bd_pow h1 h2 ps.length) hbt (by omega) (by omega) (by omega)
  · exact ⟨_, _, rfl, wBot_pos h1 ps hne, ((bd_pow h1 h2 ps.length).mul hbt).mono (by omega), hR⟩
/-! ### machines of sound parts -/
structure Mach (base : Int) (rs : List (List (Int × Nat))) : Prop where
  lo : 2 ≤ base
  hi : base ≤ 5
  ne : rs ≠ []
  many : rs.length ≤ 1000000
  row : ∀ r ∈ rs, (r.length : Int) = 2 * base - 1 ∧ ∀ q ∈ r, q.2 < rs.length
/-- a list or a tuple of integers -/
def seqI (x : D) (ds : List Int) : Prop := x = .lst (ds.map D.int) ∨ x = .tup (ds.map D.int)
/-- is it a state -/
def isSt (rs : List (List (Int × Nat))) (x : D) : Bool := within 0 ((rs.length : Int) - 1) x
def S_is_state : List D → (D → Prop) → Prop := fun ds R => ∃ (C : Addr) (base first : Int) (rs : List (List (Int × Nat))) (x : D), ds = [machD C base first rs, x] ∧ Ty x ∧ R (.bl (isSt rs x))
theorem l_is_state : ∀ ds R, S_is_state ds R → ds.length = 2 := fun ds R ⟨_, _, _, _, _, e, _⟩ => by rw [e]; rfl
theorem d_is_state (T : Txt K mg) : Dfn P w K mg bs 6 "is_state" ["machine", "thing"] S_is_state := by
  have D_is_index := d_is_index (P := P) (w := w) (bs := bs) T
  refine mkD (k := 5) T.s_is_state sc_is_state (fun _ _ _ _ _ _ us hl => match us, hl with | [_, _], _ => rfl) l_is_state fun f cdv A outer s H E hr => ?_
  have hu := hu_of hr
  refine ⟨_, (pss_one (ps_ret (pe_callK0 (K0 := K) (by rfl) D_is_index (hr.mono (by decide)) (pa_cons (pe_callB (call_lenK (K0 := K) (by rfl)) (by rfl) T.n_len (by decide +kernel) (pa_cons (pe_fld (pv 0) rfl) pa_nil)) (pa_cons (pv 1) pa_nil))))), fun h H0 G0 ds R hS => ?_⟩
  obtain ⟨C, base, first, rs, x, rfl, tx, hR⟩ := hS
  refine ws_ret (we_call (wa_cons (we_len (we_fld (we_var rfl ⟨_, _, _, rfl, lk_rows, _, .inr rfl, wa_cons (we_var rfl (wa_nil ⟨_, x, rfl, tx, ?_⟩))⟩)))))
  rw [List.length_map]
  exact hR
def S_check_state : List D → (Out → Prop) → Prop := fun ds R => ∃ (C : Addr) (base first : Int) (rs : List (List (Int × Nat))) (x : D), ds = [machD C base first rs, x] ∧ Ty x ∧ (isSt rs x = true → R (.ok .non)) ∧ (isSt rs x = false → R (.ex "NoState" []))
theorem l_check_state : ∀ ds R, S_check_state ds R → ds.length = 2 := fun ds R ⟨_, _, _, _, _, e, _⟩ => by rw [e]; rfl
theorem d_check_state (T : Txt K mg) : DfnN P w K mg bs 7 "check_state" ["machine", "thing"] (S_check_state) := by
  have D_is_state := d_is_state (P := P) (w := w) (bs := bs) T
  obtain ⟨C_NoState, X_NoState⟩ := x_NoState (P := P) (w := w) (bs := bs) T
  refine mkN (k := 6) T.s_check_state sc_check_state (fun _ _ _ _ _ _ us hl => match us, hl with | [_, _], _ => rfl) (l_check_state) fun f cdv A outer s H E hr => ?_
  have hu := hu_of hr
  refine ⟨_, (pss_one (ps_if (pt_not (pt_val (pe_callK0 (K0 := K) (by rfl) D_is_state (hr.mono (by decide)) (pa_cons (pv 0) (pa_cons (pv 1) pa_nil))))) (pss_one (ps_rz0N X_NoState (hr.mono (by decide)) (L2N.takes_of rfl rfl rfl rfl))) pss_nil)), fun h H0 G0 ds R hS hW => ?_⟩
  obtain ⟨C, base, first, rs, x, rfl, tx, h1, h2⟩ := hS
  refine WS.o (ws_if (wt_not (wt_B (we_call (wa_cons (we_var rfl (wa_cons (we_var rfl (wa_nil ⟨C, base, first, rs, x, rfl, tx, _, rfl, ?_⟩)))))))))
  cases hb : isSt rs x with
  | true => exact ws_next (h1 hb)
  | false => exact ws_raise0 hW X_NoState.gC (h2 hb)
def S_check_digits (mg : Str → Option Value) : List D → (Out → Prop) → Prop := fun ds R => ∃ (C : Addr) (base first : Int) (rs : List (List (Int × Nat))) (x : D), ds = [machD C base first rs, x] ∧ TV mg 1 x ∧ (areG base x = true → R (.ok .non)) ∧ (areG base x = false → R (.ex "NoDigits" []))
theorem l_check_digits (mg : Str → Option Value) : ∀ ds R, S_check_digits mg ds R → ds.length = 2 := fun ds R ⟨_, _, _, _, _, e, _⟩ => by rw [e]; rfl
theorem d_check_digits (T : Txt K mg) : DfnN P w K mg bs 7 "check_digits" ["machine", "thing"] (S_check_digits mg) := by
  have D_are_digits := d_are_digits (P := P) (w := w) (bs := bs) T
  obtain ⟨C_NoDigits, X_NoDigits⟩ := x_NoDigits (P := P) (w := w) (bs := bs) T
  refine mkN (k := 6) T.s_check_digits sc_check_digits (fun _ _ _ _ _ _ us hl => match us, hl with | [_, _], _ => rfl) (l_check_digits mg) fun f cdv A outer s H E hr => ?_
  have hu := hu_of hr
  refine ⟨_, (pss_one (ps_if (pt_not (pt_val (pe_callK0 (K0 := K) (by rfl) D_are_digits (hr.mono (by decide)) (pa_cons (pe_fld (pv 0) rfl) (pa_cons (pv 1) pa_nil))))) (pss_one (ps_rz0N X_NoDigits (hr.mono (by decide)) (L2N.takes_of rfl rfl rfl rfl))) pss_nil)), fun h H0 G0 ds R hS hW => ?_⟩
  obtain ⟨C, base, first, rs, x, rfl, hx, h1, h2⟩ := hS
  refine WS.o (ws_if (wt_not (wt_B (we_call (wa_cons (we_fld (we_var rfl ⟨_, _, _, rfl, lk_base, wa_cons (we_var rfl (wa_nil ⟨base, x, rfl, hx, _, rfl, ?_⟩))⟩)))))))
  cases hb : areG base x with
  | true => exact ws_next (h1 hb)
  | false => exact ws_raise0 hW X_NoDigits.gC (h2 hb)
def S_check_writing (mg : Str → Option Value) : List D → (Out → Prop) → Prop := fun ds R => ∃ (C : Addr) (base first : Int) (rs : List (List (Int × Nat))) (x : D), ds = [machD C base first rs, x] ∧ TV mg 2 x ∧ (isRD base x = true → R (.ok .non)) ∧ (isRD base x = false → R (.ex "NoWriting" []))
theorem l_check_writing (mg : Str → Option Value) : ∀ ds R, S_check_writing mg ds R → ds.length = 2 := fun ds R ⟨_, _, _, _, _, e, _⟩ => by rw [e]; rfl
theorem d_check_writing (T : Txt K mg) : DfnN P w K mg bs 8 "check_writing" ["machine", "thing"] (S_check_writing mg) := by
  have D_is_row_of_digits := d_is_row_of_digits (P := P) (w := w) (bs := bs) T
  obtain ⟨C_NoWriting, X_NoWriting⟩ := x_NoWriting (P := P) (w := w) (bs := bs) T
  refine mkN (k := 7) T.s_check_writing sc_check_writing (fun _ _ _ _ _ _ us hl => match us, hl with | [_, _], _ => rfl) (l_check_writing mg) fun f cdv A outer s H E hr => ?_
  have hu := hu_of hr
  refine ⟨_, (pss_one (ps_if (pt_not (pt_val (pe_callK0 (K0 := K) (by rfl) D_is_row_of_digits (hr.mono (by decide)) (pa_cons (pe_fld (pv 0) rfl) (pa_cons (pv 1) pa_nil))))) (pss_one (ps_rz0N X_NoWriting (hr.mono (by decide)) (L2N.takes_of rfl rfl rfl rfl))) pss_nil)), fun h H0 G0 ds R hS hW => ?_⟩
  obtain ⟨C, base, first, rs, x, rfl, hx, h1, h2⟩ := hS
  refine WS.o (ws_if (wt_not (wt_B (we_call (wa_cons (we_fld (we_var rfl ⟨_, _, _, rfl, lk_base, wa_cons (we_var rfl (wa_nil ⟨base, x, rfl, hx, _, rfl, ?_⟩))⟩)))))))
  cases hb : isRD base x with
  | true => exact ws_next (h1 hb)
  | false => exact ws_raise0 hW X_NoWriting.gC (h2 hb)
/-- digits that are right, of a thing -/
theorem ints_of {base : Int} : ∀ {xs : List D}, xs.all (within (1 - base) (base - 1)) = true → ∃ js : List Int, xs = js.map D.int ∧ Dig base js
  | [], _ => ⟨[], rfl, fun x hx => nomatch hx⟩
  | x :: xs, h => by
    rw [List.all_cons] at h
    obtain ⟨h1, h2⟩ := (Bool.and_eq_true_iff).mp h
    obtain ⟨js, rfl, hd⟩ := ints_of h2
    cases x with
    | int i =>
      have h1 : (decide (1 - base ≤ i) && decide (i ≤ base - 1)) = true := h1
      obtain ⟨a, b⟩ := (Bool.and_eq_true_iff).mp h1
      refine ⟨i :: js, rfl, fun y hy => ?_⟩
      rcases List.mem_cons.mp hy with rfl | hy
      · exact ⟨of_decide_eq_true a, of_decide_eq_true b⟩
      · exact hd y hy
    | _ => cases h1
theorem seq_of {mg : Str → Option Value} {base : Int} {x : D} (hx : TV mg 1 x) (h : areG base x = true) : ∃ js : List Int, seqI x js ∧ js.length ≤ 100 ∧ Dig base js := by
  cases x with
  | lst xs =>
    obtain ⟨js, rfl, hd⟩ := ints_of (show xs.all (within (1 - base) (base - 1)) = true from h)
    have := (hx.2 _ (.inr rfl)).1
    rw [List.length_map] at this
    exact ⟨js, .inl rfl, this, hd⟩
  | tup xs =>
    obtain ⟨js, rfl, hd⟩ := ints_of (show xs.all (within (1 - base) (base - 1)) = true from h)
    have := (hx.2 _ (.inl rfl)).1
    rw [List.length_map] at this
    exact ⟨js, .inr rfl, this, hd⟩
  | _ => cases h
theorem rd_of {mg : Str → Option Value} {base : Int} {x : D} (hx : TV mg 2 x) (h : isRD base x = true) : ∃ ps qs : List Int, x = rowD ps qs ∧ qs ≠ [] ∧ ps.length ≤ 100 ∧ qs.length ≤ 100 ∧ Dig base ps ∧ Dig base qs := by
  unfold isRD at h
  split at h
  · rename_i a b
    obtain ⟨h1, h2⟩ := (Bool.and_eq_true_iff).mp h
    obtain ⟨h3, h4⟩ := (Bool.and_eq_true_iff).mp h2
    have h5 : (areI a && areI b && hasI b) = true := h1
    obtain ⟨h6, h7⟩ := (Bool.and_eq_true_iff).mp h5
    obtain ⟨h8, h9⟩ := (Bool.and_eq_true_iff).mp h6
    obtain ⟨pa, pb⟩ := hx.two
    obtain ⟨as, rfl⟩ : ∃ xs, a = D.tup xs := by cases a <;> first | exact ⟨_, rfl⟩ | cases h8
    obtain ⟨bs, rfl⟩ : ∃ xs, b = D.tup xs := by cases b <;> first | exact ⟨_, rfl⟩ | cases h9
    obtain ⟨ps, rfl, dp⟩ := ints_of (show as.all (within (1 - base) (base - 1)) = true from h3)
    obtain ⟨qs, rfl, dq⟩ := ints_of (show bs.all (within (1 - base) (base - 1)) = true from h4)
    have l1 := (pa.2 _ (.inl rfl)).1
    have l2 := (pb.2 _ (.inl rfl)).1
    rw [List.length_map] at l1 l2
    refine ⟨ps, qs, rfl, fun e => ?_, l1, l2, dp, dq⟩
    subst e
    cases h7
  · cases h
theorem st_of' {rs : List (List (Int × Nat))} {x : D} (h : isSt rs x = true) : ∃ i : Nat, x = .int (i : Int) ∧ i < rs.length := by
  cases x with
  | int i =>
    have h : (decide (0 ≤ i) && decide (i ≤ (rs.length : Int) - 1)) = true := h
    obtain ⟨a, b⟩ := (Bool.and_eq_true_iff).mp h
    have a := of_decide_eq_true a
    have b := of_decide_eq_true b
    exact ⟨i.toNat, by rw [show ((i.toNat : Nat) : Int) = i by omega], by omega⟩
  | _ => cases h
/-! ### a machine's way -/
/-- what state s makes of digit d -/
def stepM (base : Int) (rs : List (List (Int × Nat))) (s : Nat) (d : Int) : Int × Nat := ((rs[s]?.getD [])[(d + base - 1).toNat]?).getD (0, 0)
def walkM (base : Int) (rs : List (List (Int × Nat))) : List Int → Nat → List Int × Nat
  | [], s => ([], s)
  | d :: ds, s => ((stepM base rs s d).1 :: (walkM base rs ds (stepM base rs s d).2).1, (walkM base rs ds (stepM base rs s d).2).2)
theorem walkM_app (base : Int) (rs : List (List (Int × Nat))) : ∀ (xs ys : List Int) (s : Nat), walkM base rs (xs ++ ys) s = ((walkM base rs xs s).1 ++ (walkM base rs ys (walkM base rs xs s).2).1, (walkM base rs ys (walkM base rs xs s).2).2)
  | [], ys, s => rfl
  | x :: xs, ys, s => by
    rw [List.cons_append, walkM, walkM_app base rs xs ys, walkM]
    rfl
theorem walkM_len (base : Int) (rs : List (List (Int × Nat))) : ∀ (xs : List Int) (s : Nat), (walkM base rs xs s).1.length = xs.length
  | [], s => rfl
  | x :: xs, s => by rw [walkM]; show _ + 1 = _ + 1; rw [walkM_len base rs xs]
/-- the place of a step in the rows -/
theorem step_at {base : Int} {rs : List (List (Int × Nat))} (hM : Mach base rs) {s : Nat} {d : Int} (hs : s < rs.length) (hd : 1 - base ≤ d ∧ d ≤ base - 1) :
    ∃ r, rs[s]? = some r ∧ r[(d + base - 1).toNat]? = some (stepM base rs s d) ∧ (stepM base rs s d).2 < rs.length := by
  have h1 : rs[s]? = some rs[s] := List.getElem?_eq_getElem hs
  obtain ⟨hl, hq⟩ := hM.row _ (List.getElem_mem hs)
  have b1 := hM.lo
  have hk : (d + base - 1).toNat < rs[s].length := by omega
  have h2 : rs[s][(d + base - 1).toNat]? = some rs[s][(d + base - 1).toNat] := List.getElem?_eq_getElem hk
  have e : stepM base rs s d = rs[s][(d + base - 1).toNat] := by
    unfold stepM
    rw [h1]
    show (rs[s][(d + base - 1).toNat]?).getD (0, 0) = _
    rw [h2]
    rfl
  rw [e]
  exact ⟨_, h1, h2, hq _ (List.getElem_mem hk)⟩
theorem walkM_in {base : Int} {rs : List (List (Int × Nat))} (hM : Mach base rs) : ∀ (xs : List Int) (s : Nat), s < rs.length → Dig base xs → (walkM base rs xs s).2 < rs.length
  | [], s, hs, _ => hs
  | x :: xs, s, hs, hd => by
    obtain ⟨_, _, _, h⟩ := step_at hM hs (hd x List.mem_cons_self)
    exact walkM_in hM xs _ h fun y hy => hd y (List.mem_cons_of_mem _ hy)
/-- reading on by one digit -/
theorem walkM_on {base : Int} {rs : List (List (Int × Nat))} {xs : List Int} {k : Nat} {d : Int} (h : xs[k]? = some d) (s : Nat) :
    walkM base rs (xs.take (k + 1)) s = ((walkM base rs (xs.take k) s).1 ++ [(stepM base rs (walkM base rs (xs.take k) s).2 d).1], (stepM base rs (walkM base rs (xs.take k) s).2 d).2) := by
  rw [List.take_succ, h]
  show walkM base rs (xs.take k ++ [d]) s = _
  rw [walkM_app]
  rfl
theorem at_rows {rs : List (List (Int × Nat))} {s : Nat} {r : List (Int × Nat)} (h : rs[s]? = some r) : atI (rs.map rowM) (s : Int) = some (rowM r) := atI_nat (by rw [List.getElem?_map, h]; rfl) rfl
theorem at_row {r : List (Int × Nat)} {i : Int} {q : Int × Nat} (hi : 0 ≤ i) (h : r[i.toNat]? = some q) : atI (r.map pairD) i = some (pairD q) := by
  have z : atI (r.map pairD) ((i.toNat : Nat) : Int) = some (pairD q) := atI_nat (by rw [List.getElem?_map, h]; rfl) rfl
  rw [show ((i.toNat : Nat) : Int) = i by omega] at z
  exact z
theorem dig_at {base : Int} {js : List Int} (hd : Dig base js) {k : Nat} {d : Int} (h : js[k]? = some d) : 1 - base ≤ d ∧ d ≤ base - 1 := hd d (List.mem_of_getElem? h)
/-- item and state handed back -/
def outD (q : List Int × Nat) : D := .tup [.tup (q.1.map D.int), .int (q.2 : Int)]
def S_follow : List D → (D → Prop) → Prop := fun ds R => ∃ (C : Addr) (base first : Int) (rs : List (List (Int × Nat))) (s : Nat) (x : D) (js : List Int), ds = [machD C base first rs, .int (s : Int), x] ∧ Mach base rs ∧ s < rs.length ∧ seqI x js ∧ js.length ≤ 1000000 ∧ Dig base js ∧ R (outD (walkM base rs js s))
theorem l_follow : ∀ ds R, S_follow ds R → ds.length = 3 := fun ds R ⟨_, _, _, _, _, _, _, e, _⟩ => by rw [e]; rfl
theorem d_follow (T : Txt K mg) : Dfn P w K mg bs 1 "follow" ["machine", "state", "digits"] S_follow := by
  refine mkD (k := 0) T.s_follow sc_follow (fun _ _ _ _ _ _ us hl => match us, hl with | [_, _, _], _ => rfl) l_follow fun f cdv A outer s H E hr => ?_
  have hu := hu_of hr
  refine ⟨_, (pss_cons (ps_set (i := 3) sc_follow.nd rfl (Or.inl rfl) (pv 1))
      (pss_cons (ps_set (i := 4) sc_follow.nd rfl (Or.inl rfl) (pe_lst pa_nil))
      (pss_cons (ps_for PassesOwn.never rfl (pi_seqK (K0 := K) (by rfl) (pv 2)) (pg_name (i := 5) sc_follow.nd rfl (Or.inl rfl))
      (pss_cons (ps_asg (pe_ix (ix_tupK (K0 := K) (by rfl)) (pe_ix (ix_tupK (K0 := K) (by rfl)) (pe_fld (pv 0) rfl) (pv 3) (fun _ _ => rfl)) (pe_op op_sub (pe_op op_add (pv 5) (pe_fld (pv 0) rfl)) pe_int) (fun _ _ => rfl)) (pg_tup rfl (pgs_cons (pg_name (i := 6) sc_follow.nd rfl (Or.inl rfl)) (pgs_cons (pg_name (i := 3) sc_follow.nd rfl (Or.inl rfl)) pgs_nil))))
      (pss_one (ps_expr (pe_bm PySem.F.plainAttrs_list PySem.F.slot_list_append PySem.F.type_list_append mt_append (pv 4) (pa_cons (pv 6) pa_nil))))))
      (pss_one (ps_ret (pe_tup (pa_cons (pe_callTy (call_tupleK (K0 := K) (by rfl)) (by rfl) T.n_tuple (by decide +kernel) (pa_cons (pv 4) pa_nil)) (pa_cons (pv 3) pa_nil)))))))), fun h H0 G0 ds R hS => ?_⟩
  obtain ⟨C, base, first, rs, s, x, js, rfl, hM, hs, hx, hl, hd, hR⟩ := hS
  refine ws_seq (ws_asg (we_var rfl ?_))
  refine ws_seq (ws_asgF (wf_lst (wa_nil ⟨by decide, ?_⟩)))
  refine ws_seq (ws_to (fun ρ => ∃ r5 r6 : Option Cell, ρ = [some (.d (machD C base first rs)), some (.d (.int (s : Int))), some (.d x), some (.d (.int ((walkM base rs js s).2 : Int))), some (.ol ((walkM base rs js s).1.map D.int)), r5, r6])
    (ws_forS (we_var rfl ⟨js.map D.int, hx, fun k ρ => ∃ r5 r6 : Option Cell, ρ = [some (.d (machD C base first rs)), some (.d (.int (s : Int))), some (.d x), some (.d (.int ((walkM base rs (js.take k) s).2 : Int))), some (.ol ((walkM base rs (js.take k) s).1.map D.int)), r5, r6], ⟨_, _, rfl⟩, ?_, ?_⟩)) ?_)
  · rintro k y ρ hk ⟨r5, r6, rfl⟩
    rw [List.getElem?_map] at hk
    obtain ⟨d, hk1, rfl⟩ := Option.map_eq_some_iff.mp hk
    have hkl : k < js.length := (List.getElem?_eq_some_iff.mp hk1).1
    have hdd := dig_at hd hk1
    have hin : (walkM base rs (js.take k) s).2 < rs.length := walkM_in hM _ _ hs fun z hz => hd z (List.mem_of_mem_take hz)
    obtain ⟨r, g1, g2, g3⟩ := step_at hM hin hdd
    have hwl := walkM_len base rs (js.take k) s
    rw [List.length_take] at hwl
    refine wg_name (ws_seq (ws_asgG (we_ixT (we_ixT (we_fld (we_var rfl ⟨C, _, _, rfl, lk_rows, _, rfl, we_var rfl ⟨_, _, rfl, at_rows g1, _, rfl, ?_⟩⟩))))))
    refine we_I0 (we_I0 (we_var rfl ⟨_, rfl, we_fld (we_var rfl ⟨C, _, _, rfl, lk_base, _, rfl, _, rfl, we_int ⟨_, rfl, _, _, rfl, at_row (by omega) g2, ?_⟩⟩)⟩))
    refine wg_tup ⟨_, rfl, rfl, wgs_cons ⟨_, _, rfl, wg_name (wgs_cons ⟨_, _, rfl, wg_name (wgs_nil ⟨rfl, ?_⟩)⟩)⟩⟩
    refine ws_append rfl (by rw [List.length_map]; omega) (we_var rfl ?_)
    dsimp only
    rw [walkM_on hk1, List.map_append]
    exact ⟨_, _, rfl⟩
  · rintro ρ ⟨r5, r6, rfl⟩
    rw [List.length_map, List.take_length]
    exact ⟨_, _, rfl⟩
  rintro ρ ⟨r5, r6, rfl⟩
  exact ws_freeze 4 rfl rfl (ws_ret (we_tup (wa_cons (we_tupleOf (we_var rfl ⟨_, .inl rfl, wa_cons (we_var rfl (wa_nil ⟨len2, hR⟩))⟩)))))
def S_read (mg : Str → Option Value) : List D → (Out → Prop) → Prop := fun ds R => ∃ (C : Addr) (base first : Int) (rs : List (List (Int × Nat))) (s x : D), ds = [machD C base first rs, s, x] ∧ Mach base rs ∧ Ty s ∧ TV mg 1 x ∧
  (isSt rs s = false → R (.ex "NoState" [])) ∧ (isSt rs s = true → areG base x = false → R (.ex "NoDigits" [])) ∧ (isSt rs s = true → areG base x = true → ∀ d, R (.ok d))
theorem l_read (mg : Str → Option Value) : ∀ ds R, S_read mg ds R → ds.length = 3 := fun ds R ⟨_, _, _, _, _, _, e, _⟩ => by rw [e]; rfl
theorem d_read (T : Txt K mg) : DfnN P w K mg bs 8 "read" ["machine", "state", "digits"] (S_read mg) := by
  have D_check_state := d_check_state (P := P) (w := w) (bs := bs) T
  have D_check_digits := d_check_digits (P := P) (w := w) (bs := bs) T
  have D_follow := d_follow (P := P) (w := w) (bs := bs) T
  refine mkN (k := 7) T.s_read sc_read (fun _ _ _ _ _ _ us hl => match us, hl with | [_, _, _], _ => rfl) (l_read mg) fun f cdv A outer s H E hr => ?_
  have hu := hu_of hr
  refine ⟨_, (pss_cons (ps_expr (pe_callN D_check_state (hr.mono (by decide)) (L2N.takes_of rfl rfl rfl rfl) (pa_cons (pv 0) (pa_cons (pv 1) pa_nil))))
      (pss_cons (ps_expr (pe_callN D_check_digits (hr.mono (by decide)) (L2N.takes_of rfl rfl rfl rfl) (pa_cons (pv 0) (pa_cons (pv 2) pa_nil))))
      (pss_one (ps_ret (pe_callK0 (K0 := K) (by rfl) D_follow (hr.mono (by decide)) (pa_cons (pv 0) (pa_cons (pv 1) (pa_cons (pv 2) pa_nil)))))))), fun h H0 G0 ds R hS hW => ?_⟩
  obtain ⟨C, base, first, rs, s, x, rfl, hM, ts, hx, h1, h2, h3⟩ := hS
  refine WS.o (ws_seq (ws_drop (we_callX hW (wa_cons (we_var rfl (wa_cons (we_var rfl (wa_nil ⟨C, base, first, rs, s, rfl, ts, fun hs => ?_, h1⟩))))))))
  refine ws_seq (ws_drop (we_callX hW (wa_cons (we_var rfl (wa_cons (we_var rfl (wa_nil ⟨C, base, first, rs, x, rfl, hx, fun hd => ?_, h2 hs⟩)))))))
  obtain ⟨i, rfl, hi⟩ := st_of' hs
  obtain ⟨js, hj, hl, dj⟩ := seq_of hx hd
  exact ws_ret (we_call (wa_cons (we_var rfl (wa_cons (we_var rfl (wa_cons (we_var rfl (wa_nil ⟨C, base, first, rs, i, x, js, rfl, hM, hi, hj, by omega, dj, h3 hs hd _⟩))))))))
/-! ### what comes again -/
/-- the first that comes again: at n, as at s -/
structure Rep {α : Type} (f : Nat → α) (s n : Nat) : Prop where
  lt : s < n
  eq : f n = f s
  ne : ∀ i j, i < j → j < n → f i ≠ f j
theorem Rep.uniq {α : Type} {f : Nat → α} {s n s' n' : Nat} (a : Rep f s n) (c : Rep f s' n') : s = s' ∧ n = n' := by
  have hn : n = n' := by
    rcases Nat.lt_trichotomy n n' with h | h | h
    · exact (c.ne s n a.lt h a.eq.symm).elim
    · exact h
    · exact (a.ne s' n' c.lt h c.eq.symm).elim
  subst hn
  refine ⟨?_, rfl⟩
  have e := a.eq.symm.trans c.eq
  rcases Nat.lt_trichotomy s s' with h | h | h
  · exact (a.ne s s' h c.lt e).elim
  · exact h
  · exact (a.ne s' s h a.lt e.symm).elim
theorem rep_le {f : Nat → Nat} {N n : Nat} (hf : ∀ i, i < n → f i < N) (ne : ∀ i j, i < j → j < n → f i ≠ f j) : n ≤ N := by
  have nd : ((List.range n).map fun i => ((f i : Nat) : Int)).Nodup := by
    refine nodup_map_on (fun x hx y hy e => ?_) List.nodup_range
    have hx := List.mem_range.mp hx
    have hy := List.mem_range.mp hy
    have e : f x = f y := Int.ofNat.inj e
    rcases Nat.lt_trichotomy x y with h | h | h
    · exact (ne x y h hy e).elim
    · exact h
    · exact (ne y x h hx e.symm).elim
  have := len_range N 0 nd fun x hx => by
    obtain ⟨i, hi, rfl⟩ := List.mem_map.mp hx
    have h3 := hf i (List.mem_range.mp hi)
    omega
  rw [List.length_map, List.length_range] at this
  exact this
/-! ### what is told of a row -/
/-- the state after n rounds -/
def tSt (base : Int) (rs : List (List (Int × Nat))) (qs : List Int) (t : Nat) : Nat → Nat
  | 0 => t
  | n + 1 => (walkM base rs qs (tSt base rs qs t n)).2
/-- what is said in n rounds -/
def tSay (base : Int) (rs : List (List (Int × Nat))) (qs : List Int) (t : Nat) : Nat → List Int
  | 0 => []
  | n + 1 => tSay base rs qs t n ++ (walkM base rs qs (tSt base rs qs t n)).1
def tK (base : Int) (rs : List (List (Int × Nat))) (qs : List Int) (t o : Nat) (n : Nat) : List (Key × D) := (List.range n).map fun i => (.inl ((tSt base rs qs t i : Nat) : Int), .int ((o + i * qs.length : Nat) : Int))
theorem tK_succ (base : Int) (rs : List (List (Int × Nat))) (qs : List Int) (t o n : Nat) : tK base rs qs t o (n + 1) = tK base rs qs t o n ++ [(.inl ((tSt base rs qs t n : Nat) : Int), .int ((o + n * qs.length : Nat) : Int))] := by
  unfold tK
  rw [List.range_succ, List.map_append]
  rfl
theorem tK_len (base : Int) (rs : List (List (Int × Nat))) (qs : List Int) (t o n : Nat) : (tK base rs qs t o n).length = n := by unfold tK; rw [List.length_map, List.length_range]
theorem tSay_len (base : Int) (rs : List (List (Int × Nat))) (qs : List Int) (t : Nat) : ∀ n, (tSay base rs qs t n).length = n * qs.length
  | 0 => by rw [Nat.zero_mul]; rfl
  | n + 1 => by rw [tSay, List.length_append, tSay_len base rs qs t n, walkM_len, Nat.succ_mul]
theorem tSt_in {base : Int} {rs : List (List (Int × Nat))} (hM : Mach base rs) {qs : List Int} (hd : Dig base qs) {t : Nat} (ht : t < rs.length) : ∀ n, tSt base rs qs t n < rs.length
  | 0 => ht
  | n + 1 => walkM_in hM qs _ (tSt_in hM hd ht n) hd
def toldP (base : Int) (rs : List (List (Int × Nat))) (ps qs : List Int) (s a n : Nat) : List Int × List Int :=
  ((walkM base rs ps s).1 ++ (tSay base rs qs (walkM base rs ps s).2 n).take (a * qs.length), (tSay base rs qs (walkM base rs ps s).2 n).drop (a * qs.length))
theorem tK_no {base : Int} {rs : List (List (Int × Nat))} {qs : List Int} {t o n : Nat} (h : dGet (tK base rs qs t o n) (.inl ((tSt base rs qs t n : Nat) : Int)) = none) : ∀ i, i < n → tSt base rs qs t i ≠ tSt base rs qs t n := fun i hi z => by
  refine dGet_no h ?_
  rw [← z]
  refine List.mem_map.mpr ⟨(.inl ((tSt base rs qs t i : Nat) : Int), .int ((o + i * qs.length : Nat) : Int)), ?_, rfl⟩
  unfold tK
  exact List.mem_map.mpr ⟨i, List.mem_range.mpr hi, rfl⟩
theorem tK_yes {base : Int} {rs : List (List (Int × Nat))} {qs : List Int} {t o n : Nat} {v : D} (h : dGet (tK base rs qs t o n) (.inl ((tSt base rs qs t n : Nat) : Int)) = some v) (hne : ∀ i j, i < j → j < n → tSt base rs qs t i ≠ tSt base rs qs t j) :
    ∃ a, Rep (tSt base rs qs t) a n ∧ v = .int ((o + a * qs.length : Nat) : Int) := by
  have hm := dGet_mem h
  unfold tK at hm
  obtain ⟨a, ha, he⟩ := List.mem_map.mp hm
  have e1 := Int.ofNat.inj (Sum.inl.inj (congrArg Prod.fst he))
  exact ⟨a, ⟨List.mem_range.mp ha, e1.symm, hne⟩, (congrArg Prod.snd he).symm⟩
def S_row_told : List D → (D → Prop) → Prop := fun ds R => ∃ (C : Addr) (base first : Int) (rs : List (List (Int × Nat))) (s : Nat) (ps qs : List Int), ds = [machD C base first rs, .int (s : Int), rowD ps qs] ∧ Mach base rs ∧ s < rs.length ∧ ps.length ≤ 1000000 ∧ qs.length ≤ 1000000 ∧ (rs.length + 1) * qs.length ≤ 1000000 ∧ Dig base ps ∧ Dig base qs ∧
  ∀ a n, Rep (tSt base rs qs (walkM base rs ps s).2) a n → n ≤ rs.length → R (rowP (toldP base rs ps qs s a n))
theorem l_row_told : ∀ ds R, S_row_told ds R → ds.length = 3 := fun ds R ⟨_, _, _, _, _, _, _, e, _⟩ => by rw [e]; rfl
theorem d_row_told (T : Txt K mg) : Dfn P w K mg bs 2 "row_told" ["machine", "state", "writing"] S_row_told := by
  have D_follow := d_follow (P := P) (w := w) (bs := bs) T
  refine mkD (k := 1) T.s_row_told sc_row_told (fun _ _ _ _ _ _ us hl => match us, hl with | [_, _, _], _ => rfl) l_row_told fun f cdv A outer s H E hr => ?_
  have hu := hu_of hr
  refine ⟨_, (pss_cons (ps_asg (pe_callK0 (K0 := K) (by rfl) D_follow (hr.mono (by decide)) (pa_cons (pv 0) (pa_cons (pv 1) (pa_cons (pe_ix (ix_tupK (K0 := K) (by rfl)) (pv 2) pe_int (fun _ _ => rfl)) pa_nil)))) (pg_tup rfl (pgs_cons (pg_name (i := 3) sc_row_told.nd rfl (Or.inl rfl)) (pgs_cons (pg_name (i := 4) sc_row_told.nd rfl (Or.inl rfl)) pgs_nil))))
      (pss_cons (ps_set (i := 5) sc_row_told.nd rfl (Or.inl rfl) pe_dnewK)
      (pss_cons (ps_set (i := 6) sc_row_told.nd rfl (Or.inl rfl) (pe_lst pa_nil))
      (pss_cons (ps_while PassesOwn.never (pt_cmp (pc_dnotin hu (pv 4) (pv 5))) (pss_cons (ps_dput hu (pv 5) (pv 4) (pe_callB (call_lenK (K0 := K) (by rfl)) (by rfl) T.n_len (by decide +kernel) (pa_cons (pv 6) pa_nil)) rfl)
      (pss_cons (ps_asg (pe_callK0 (K0 := K) (by rfl) D_follow (hr.mono (by decide)) (pa_cons (pv 0) (pa_cons (pv 4) (pa_cons (pe_ix (ix_tupK (K0 := K) (by rfl)) (pv 2) pe_int (fun _ _ => rfl)) pa_nil)))) (pg_tup rfl (pgs_cons (pg_name (i := 7) sc_row_told.nd rfl (Or.inl rfl)) (pgs_cons (pg_name (i := 4) sc_row_told.nd rfl (Or.inl rfl)) pgs_nil))))
      (pss_one (ps_expr (pe_bm PySem.F.plainAttrs_list PySem.F.slot_list_extend PySem.F.type_list_extend (mt_extT (K0 := K) (by rfl)) (pv 6) (pa_cons (pv 7) pa_nil)))))))
      (pss_cons (ps_set (i := 8) sc_row_told.nd rfl (Or.inl rfl) (pe_dget hu (pv 5) (pv 4) (fun _ _ => rfl)))
      (pss_one (ps_ret (pe_tup (pa_cons (pe_op (op_catK (K0 := K) (by rfl)) (pv 3) (pe_callTy (call_tupleK (K0 := K) (by rfl)) (by rfl) T.n_tuple (by decide +kernel) (pa_cons (pe_slice (sl_listK (K0 := K) (by rfl)) (pv 6) po_none (po_some (pv 8))) pa_nil))) (pa_cons (pe_callTy (call_tupleK (K0 := K) (by rfl)) (by rfl) T.n_tuple (by decide +kernel) (pa_cons (pe_slice (sl_listK (K0 := K) (by rfl)) (pv 6) (po_some (pv 8)) po_none) pa_nil)) pa_nil)))))))))), fun h H0 G0 ds R hS => ?_⟩
  obtain ⟨C, base, first, rs, s, ps, qs, rfl, hM, hs, hpl, hql, hcap, hp, hq, hR⟩ := hS
  have ht := walkM_in hM ps s hs hp
  have hal := walkM_len base rs ps s
  refine ws_seq (ws_asgG (we_call (wa_cons (we_var rfl (wa_cons (we_var rfl (wa_cons (we_ixT (we_var rfl ⟨_, rfl, we_int ⟨0, _, rfl, rfl, wa_nil ⟨C, base, first, rs, s, _, ps, rfl, hM, hs, .inr rfl, hpl, hp, ?_⟩⟩⟩)))))))))
  refine wg_tup ⟨_, rfl, rfl, wgs_cons ⟨_, _, rfl, wg_name (wgs_cons ⟨_, _, rfl, wg_name (wgs_nil ⟨rfl, ?_⟩)⟩)⟩⟩
  refine ws_seq (ws_asgF (wf_dK ?_))
  refine ws_seq (ws_asgF (wf_lst (wa_nil ⟨by decide, ?_⟩)))
  unfold toldP at hR
  generalize (walkM base rs ps s).2 = t at ht hR
  refine ws_seq (ws_while (fun m ρ => ∃ (n : Nat) (r7 r8 : Option Cell), (∀ i j, i < j → j < n → tSt base rs qs t i ≠ tSt base rs qs t j) ∧ m + n = rs.length ∧
    ρ = [some (.d (machD C base first rs)), some (.d (.int (s : Int))), some (.d (rowD ps qs)), some (.d (.tup ((walkM base rs ps s).1.map D.int))), some (.d (.int ((tSt base rs qs t n : Nat) : Int))), some (.ok (tK base rs qs t 0 n)), some (.ol ((tSay base rs qs t n).map D.int)), r7, r8]) rs.length ⟨0, _, _, fun i j _ h => by omega, by omega, rfl⟩ ?_)
  rintro m ρ ⟨n, r7, r8, hne, hm, rfl⟩
  have hin := tSt_in hM hq ht n
  have hsl := tSay_len base rs qs t n
  have hcap2 : n * qs.length + qs.length ≤ 1000000 := by
    have h1 : (n + 1) * qs.length ≤ (rs.length + 1) * qs.length := Nat.mul_le_mul_right _ (by omega)
    rw [Nat.succ_mul] at h1
    omega
  refine wt_T (we_dnotin rfl (we_var rfl ⟨.inl ((tSt base rs qs t n : Nat) : Int), rfl, _, rfl, ?_⟩))
  cases hget : dGet (tK base rs qs t 0 n) (.inl ((tSt base rs qs t n : Nat) : Int)) with
  | none =>
    rw [if_pos (by rfl)]
    have hno := tK_no hget
    have hne2 : ∀ i j, i < j → j < n + 1 → tSt base rs qs t i ≠ tSt base rs qs t j := fun i j hij hj => by
      by_cases hjn : j = n
      · rw [hjn]; exact hno i (by omega)
      · exact hne i j hij (by omega)
    have hle := rep_le (N := rs.length) (fun i _ => tSt_in hM hq ht i) hne2
    have e0 : tK base rs qs t 0 (n + 1) = tK base rs qs t 0 n ++ [(.inl ((tSt base rs qs t n : Nat) : Int), .int ((n * qs.length : Nat) : Int))] := by rw [tK_succ, Nat.zero_add]
    have hmany := hM.many
    refine ws_seq (ws_dput rfl (by rw [tK_len]; omega) (we_lenO rfl (we_var rfl ⟨.inl ((tSt base rs qs t n : Nat) : Int), rfl, ?_⟩)))
    rw [dPut_new hget, List.length_map, hsl, ← e0]
    refine ws_seq (ws_asgG (we_call (wa_cons (we_var rfl (wa_cons (we_var rfl (wa_cons (we_ixT (we_var rfl ⟨_, rfl, we_int ⟨1, _, rfl, rfl, wa_nil ⟨C, base, first, rs, _, _, qs, rfl, hM, hin, .inr rfl, hql, hq, ?_⟩⟩⟩)))))))))
    refine wg_tup ⟨_, rfl, rfl, wgs_cons ⟨_, _, rfl, wg_name (wgs_cons ⟨_, _, rfl, wg_name (wgs_nil ⟨rfl, ?_⟩)⟩)⟩⟩
    refine ws_extendT rfl (we_var rfl ⟨_, rfl, by rw [List.length_map, List.length_map, hsl, walkM_len]; omega, ?_⟩)
    refine ⟨m - 1, by omega, n + 1, some (.d (.tup ((walkM base rs qs (tSt base rs qs t n)).1.map D.int))), r8, hne2, by omega, ?_⟩
    rw [tSay, List.map_append]
    rfl
  | some v =>
    rw [if_neg (by exact Bool.false_ne_true)]
    obtain ⟨a, rep, e2⟩ := tK_yes hget hne
    rw [Nat.zero_add] at e2
    subst e2
    have hlt := rep.lt
    have hcut : a * qs.length ≤ n * qs.length := Nat.mul_le_mul_right _ (by omega)
    refine ws_seq (ws_asg (we_dget rfl (we_var rfl ⟨.inl ((tSt base rs qs t n : Nat) : Int), .int ((a * qs.length : Nat) : Int), rfl, hget, ?_⟩)))
    refine ws_freeze 6 rfl rfl (ws_ret (we_tup (wa_cons (we_catT (we_var rfl ⟨_, rfl, we_tupleOf (we_slL (we_var rfl ⟨_, rfl, wo_none (wo_some (we_var rfl ⟨_, rfl, _, .inl rfl, _, rfl, ?_, ?_⟩))⟩))⟩)))))
    · rw [cut_take, List.length_take, List.length_map, List.length_map, hal, hsl]; omega
    refine wa_cons (we_tupleOf (we_slL (we_var rfl ⟨_, rfl, wo_some (we_var rfl ⟨_, rfl, wo_none ⟨_, .inl rfl, wa_nil ⟨len2, ?_⟩⟩⟩)⟩)))
    rw [cut_take, cut_drop, ← List.map_take, ← List.map_drop, ← List.map_append]
    exact hR a n rep (by omega)
/-- the parts of what is told, of a length that can be had -/
theorem told_len {base : Int} {rs : List (List (Int × Nat))} {ps qs : List Int} {s a n : Nat} (hq : qs ≠ []) (h : a < n) (hn : n ≤ rs.length) (hcap : (rs.length + 1) * qs.length ≤ 1000000) :
    (toldP base rs ps qs s a n).2 ≠ [] ∧ (toldP base rs ps qs s a n).1.length + (toldP base rs ps qs s a n).2.length = ps.length + n * qs.length ∧ n * qs.length ≤ (rs.length + 1) * qs.length ∧ (toldP base rs ps qs s a n).2.length ≤ n * qs.length := by
  have hp := List.length_pos_iff.mpr hq
  have h1 : n * qs.length ≤ (rs.length + 1) * qs.length := Nat.mul_le_mul_right _ (by omega)
  have h2 : (a + 1) * qs.length ≤ n * qs.length := Nat.mul_le_mul_right _ h
  rw [Nat.succ_mul] at h2
  have e1 : (toldP base rs ps qs s a n).1.length = ps.length + a * qs.length := by
    show (_ ++ _ : List Int).length = _
    rw [List.length_append, List.length_take, walkM_len, tSay_len]
    omega
  have e2 : (toldP base rs ps qs s a n).2.length = n * qs.length - a * qs.length := by
    show (List.drop _ _).length = _
    rw [List.length_drop, tSay_len]
  refine ⟨fun z => ?_, by omega, h1, by omega⟩
  rw [z, List.length_nil] at e2
  omega
def S_told (mg : Str → Option Value) : List D → (Out → Prop) → Prop := fun ds R => ∃ (C : Addr) (base first : Int) (rs : List (List (Int × Nat))) (s x : D), ds = [machD C base first rs, s, x] ∧ Mach base rs ∧ rs.length ≤ 4 ∧ Ty s ∧ TV mg 2 x ∧
  (isSt rs s = false → R (.ex "NoState" [])) ∧ (isSt rs s = true → isRD base x = false → R (.ex "NoWriting" [])) ∧ (isSt rs s = true → isRD base x = true → ∀ d, R (.ok d))
theorem l_told (mg : Str → Option Value) : ∀ ds R, S_told mg ds R → ds.length = 3 := fun ds R ⟨_, _, _, _, _, _, e, _⟩ => by rw [e]; rfl
theorem d_told (T : Txt K mg) : DfnN P w K mg bs 9 "told" ["machine", "state", "writing"] (S_told mg) := by
  have D_check_state := d_check_state (P := P) (w := w) (bs := bs) T
  have D_check_writing := d_check_writing (P := P) (w := w) (bs := bs) T
  have D_row_told := d_row_told (P := P) (w := w) (bs := bs) T
  have D_shortest := d_shortest (P := P) (w := w) (bs := bs) T
  refine mkN (k := 8) T.s_told sc_told (fun _ _ _ _ _ _ us hl => match us, hl with | [_, _, _], _ => rfl) (l_told mg) fun f cdv A outer s H E hr => ?_
  have hu := hu_of hr
  refine ⟨_, (pss_cons (ps_expr (pe_callN D_check_state (hr.mono (by decide)) (L2N.takes_of rfl rfl rfl rfl) (pa_cons (pv 0) (pa_cons (pv 1) pa_nil))))
      (pss_cons (ps_expr (pe_callN D_check_writing (hr.mono (by decide)) (L2N.takes_of rfl rfl rfl rfl) (pa_cons (pv 0) (pa_cons (pv 2) pa_nil))))
      (pss_cons (ps_asg (pe_callK0 (K0 := K) (by rfl) D_row_told (hr.mono (by decide)) (pa_cons (pv 0) (pa_cons (pv 1) (pa_cons (pv 2) pa_nil)))) (pg_tup rfl (pgs_cons (pg_name (i := 3) sc_told.nd rfl (Or.inl rfl)) (pgs_cons (pg_name (i := 4) sc_told.nd rfl (Or.inl rfl)) pgs_nil))))
      (pss_one (ps_ret (pe_callK0 (K0 := K) (by rfl) D_shortest (hr.mono (by decide)) (pa_cons (pv 3) (pa_cons (pv 4) pa_nil)))))))), fun h H0 G0 ds R hS hW => ?_⟩
  obtain ⟨C, base, first, rs, s, x, rfl, hM, h4, ts, hx, h1, h2, h3⟩ := hS
  refine WS.o (ws_seq (ws_drop (we_callX hW (wa_cons (we_var rfl (wa_cons (we_var rfl (wa_nil ⟨C, base, first, rs, s, rfl, ts, fun hs => ?_, h1⟩))))))))
  refine ws_seq (ws_drop (we_callX hW (wa_cons (we_var rfl (wa_cons (we_var rfl (wa_nil ⟨C, base, first, rs, x, rfl, hx, fun hd => ?_, h2 hs⟩)))))))
  have hR := h3 hs hd
  obtain ⟨i, rfl, hi⟩ := st_of' hs
  obtain ⟨ps, qs, rfl, hne, hpl, hql, hp, hq⟩ := rd_of hx hd
  have hcap : (rs.length + 1) * qs.length ≤ 1000 := Nat.le_trans (Nat.mul_le_mul (show rs.length + 1 ≤ 5 by omega) hql) (by decide)
  refine ws_seq (ws_asgG (we_call (wa_cons (we_var rfl (wa_cons (we_var rfl (wa_cons (we_var rfl (wa_nil ⟨C, base, first, rs, i, ps, qs, rfl, hM, hi, by omega, by omega, by omega, hp, hq, fun a n rep hn => ?_⟩)))))))))
  obtain ⟨g1, g2, g3, g4⟩ := told_len (base := base) (ps := ps) (s := i) hne rep.lt hn (by omega)
  generalize toldP base rs ps qs i a n = z at g1 g2 g4
  refine wg_tup ⟨_, rfl, rfl, wgs_cons ⟨_, _, rfl, wg_name (wgs_cons ⟨_, _, rfl, wg_name (wgs_nil ⟨rfl, ?_⟩)⟩)⟩⟩
  exact ws_ret (we_call (wa_cons (we_var rfl (wa_cons (we_var rfl (wa_nil ⟨z.1, z.2, rfl, g1, by omega, by omega, hR _⟩))))))
/-- small items -/
def Items (rs : List (List (Int × Nat))) : Prop := ∀ r ∈ rs, ∀ q ∈ r, -Big50 ≤ q.1 ∧ q.1 ≤ Big50
theorem step_item {base : Int} {rs : List (List (Int × Nat))} (hi : Items rs) {s : Nat} {d : Int} : -Big50 ≤ (stepM base rs s d).1 ∧ (stepM base rs s d).1 ≤ Big50 := by
  unfold stepM
  cases h1 : rs[s]? with
  | none =>
    show -Big50 ≤ (([] : List (Int × Nat))[(d + base - 1).toNat]?.getD (0, 0)).1 ∧ (([] : List (Int × Nat))[(d + base - 1).toNat]?.getD (0, 0)).1 ≤ Big50
    rw [List.getElem?_nil]
    exact ⟨by decide, by decide⟩
  | some r =>
    show -Big50 ≤ ((r[(d + base - 1).toNat]?).getD (0, 0)).1 ∧ ((r[(d + base - 1).toNat]?).getD (0, 0)).1 ≤ Big50
    cases h2 : r[(d + base - 1).toNat]? with
    | none => exact ⟨by decide, by decide⟩
    | some q => exact hi r (List.mem_of_getElem? h1) q (List.mem_of_getElem? h2)
theorem walk_items {base : Int} {rs : List (List (Int × Nat))} (hi : Items rs) : ∀ (xs : List Int) (s : Nat), Sm2 Big50 (walkM base rs xs s).1
  | [], s => fun x hx => nomatch hx
  | d :: ds, s => fun x hx => by
    rcases List.mem_cons.mp hx with h | h
    · rw [h]; exact step_item hi
    · exact walk_items hi ds _ x h
theorem say_items {base : Int} {rs : List (List (Int × Nat))} (hi : Items rs) (qs : List Int) (t : Nat) : ∀ n, Sm2 Big50 (tSay base rs qs t n)
  | 0 => fun x hx => nomatch hx
  | n + 1 => fun x hx => by
    rcases List.mem_append.mp hx with h | h
    · exact say_items hi qs t n x h
    · exact walk_items hi qs _ x h
theorem told_items {base : Int} {rs : List (List (Int × Nat))} (hi : Items rs) (ps qs : List Int) (s a n : Nat) : Sm2 Big50 (toldP base rs ps qs s a n).1 ∧ Sm2 Big50 (toldP base rs ps qs s a n).2 := by
  refine ⟨fun x hx => ?_, fun x hx => say_items hi qs _ n x (List.mem_of_mem_drop hx)⟩
  rcases List.mem_append.mp hx with h | h
  · exact walk_items hi ps s x h
  · exact say_items hi qs _ n x (List.mem_of_mem_take h)
/-- the worth of a row, by top and bottom -/
def worthP (base : Int) (z : List Int × List Int) : Int × Int := low (wTop base z.1 z.2) (wBot base z.1 z.2)
def S_made_by_state : List D → (D → Prop) → Prop := fun ds R => ∃ (C : Addr) (base first : Int) (rs : List (List (Int × Nat))) (s : Nat) (ps qs : List Int), ds = [machD C base first rs, .int (s : Int), rowD ps qs] ∧ Mach base rs ∧ Items rs ∧ s < rs.length ∧ ps.length ≤ 1000 ∧ qs.length ≤ 1000 ∧ qs ≠ [] ∧ (rs.length + 1) * qs.length ≤ 1000 ∧ Dig base ps ∧ Dig base qs ∧
  ∀ a n, Rep (tSt base rs qs (walkM base rs ps s).2) a n → n ≤ rs.length → R (fr (worthP base (toldP base rs ps qs s a n)))
theorem l_made_by_state : ∀ ds R, S_made_by_state ds R → ds.length = 3 := fun ds R ⟨_, _, _, _, _, _, _, e, _⟩ => by rw [e]; rfl
theorem d_made_by_state (T : Txt K mg) : Dfn P w K mg bs 3 "made_by_state" ["machine", "state", "writing"] S_made_by_state := by
  have D_row_told := d_row_told (P := P) (w := w) (bs := bs) T
  have D_worth_of := d_worth_of (P := P) (w := w) (bs := bs) T
  refine mkD (k := 2) T.s_made_by_state sc_made_by_state (fun _ _ _ _ _ _ us hl => match us, hl with | [_, _, _], _ => rfl) l_made_by_state fun f cdv A outer s H E hr => ?_
  have hu := hu_of hr
  refine ⟨_, (pss_cons (ps_asg (pe_callK0 (K0 := K) (by rfl) D_row_told (hr.mono (by decide)) (pa_cons (pv 0) (pa_cons (pv 1) (pa_cons (pv 2) pa_nil)))) (pg_tup rfl (pgs_cons (pg_name (i := 3) sc_made_by_state.nd rfl (Or.inl rfl)) (pgs_cons (pg_name (i := 4) sc_made_by_state.nd rfl (Or.inl rfl)) pgs_nil))))
      (pss_one (ps_ret (pe_callK0 (K0 := K) (by rfl) D_worth_of (hr.mono (by decide)) (pa_cons (pe_fld (pv 0) rfl) (pa_cons (pv 3) (pa_cons (pv 4) pa_nil))))))), fun h H0 G0 ds R hS => ?_⟩
  obtain ⟨C, base, first, rs, s, ps, qs, rfl, hM, hi, hs, hpl, hql, hne, hcap, hp, hq, hR⟩ := hS
  refine ws_seq (ws_asgG (we_call (wa_cons (we_var rfl (wa_cons (we_var rfl (wa_cons (we_var rfl (wa_nil ⟨C, base, first, rs, s, ps, qs, rfl, hM, hs, by omega, by omega, by omega, hp, hq, fun a n rep hn => ?_⟩)))))))))
  obtain ⟨g1, g2, g3, g4⟩ := told_len (base := base) (ps := ps) (s := s) hne rep.lt hn (by omega)
  obtain ⟨i1, i2⟩ := told_items (base := base) hi ps qs s a n
  have hR' := hR a n rep hn
  generalize toldP base rs ps qs s a n = z at g1 g2 g4 hR' i1 i2
  refine wg_tup ⟨_, rfl, rfl, wgs_cons ⟨_, _, rfl, wg_name (wgs_cons ⟨_, _, rfl, wg_name (wgs_nil ⟨rfl, ?_⟩)⟩)⟩⟩
  exact ws_ret (we_call (wa_cons (we_fld (we_var rfl ⟨C, _, _, rfl, lk_base, wa_cons (we_var rfl (wa_cons (we_var rfl (wa_nil ⟨base, z.1, z.2, rfl, hM.lo, hM.hi, g1, by omega, i1, i2, hR'⟩))))⟩))))
def S_makes (mg : Str → Option Value) : List D → (Out → Prop) → Prop := fun ds R => ∃ (C : Addr) (base first : Int) (rs : List (List (Int × Nat))) (s x : D), ds = [machD C base first rs, s, x] ∧ Mach base rs ∧ Items rs ∧ rs.length ≤ 4 ∧ Ty s ∧ TV mg 2 x ∧
  (isSt rs s = false → R (.ex "NoState" [])) ∧ (isSt rs s = true → isRD base x = false → R (.ex "NoWriting" [])) ∧ (isSt rs s = true → isRD base x = true → ∀ d, R (.ok d))
theorem l_makes (mg : Str → Option Value) : ∀ ds R, S_makes mg ds R → ds.length = 3 := fun ds R ⟨_, _, _, _, _, _, e, _⟩ => by rw [e]; rfl
theorem d_makes (T : Txt K mg) : DfnN P w K mg bs 9 "makes" ["machine", "state", "writing"] (S_makes mg) := by
  have D_check_state := d_check_state (P := P) (w := w) (bs := bs) T
  have D_check_writing := d_check_writing (P := P) (w := w) (bs := bs) T
  have D_made_by_state := d_made_by_state (P := P) (w := w) (bs := bs) T
  refine mkN (k := 8) T.s_makes sc_makes (fun _ _ _ _ _ _ us hl => match us, hl with | [_, _, _], _ => rfl) (l_makes mg) fun f cdv A outer s H E hr => ?_
  have hu := hu_of hr
  refine ⟨_, (pss_cons (ps_expr (pe_callN D_check_state (hr.mono (by decide)) (L2N.takes_of rfl rfl rfl rfl) (pa_cons (pv 0) (pa_cons (pv 1) pa_nil))))
      (pss_cons (ps_expr (pe_callN D_check_writing (hr.mono (by decide)) (L2N.takes_of rfl rfl rfl rfl) (pa_cons (pv 0) (pa_cons (pv 2) pa_nil))))
      (pss_one (ps_ret (pe_callK0 (K0 := K) (by rfl) D_made_by_state (hr.mono (by decide)) (pa_cons (pv 0) (pa_cons (pv 1) (pa_cons (pv 2) pa_nil)))))))), fun h H0 G0 ds R hS hW => ?_⟩
  obtain ⟨C, base, first, rs, s, x, rfl, hM, hit, h4, ts, hx, h1, h2, h3⟩ := hS
  refine WS.o (ws_seq (ws_drop (we_callX hW (wa_cons (we_var rfl (wa_cons (we_var rfl (wa_nil ⟨C, base, first, rs, s, rfl, ts, fun hs => ?_, h1⟩))))))))
  refine ws_seq (ws_drop (we_callX hW (wa_cons (we_var rfl (wa_cons (we_var rfl (wa_nil ⟨C, base, first, rs, x, rfl, hx, fun hd => ?_, h2 hs⟩)))))))
  have hR := h3 hs hd
  obtain ⟨i, rfl, hi⟩ := st_of' hs
  obtain ⟨ps, qs, rfl, hne, hpl, hql, hp, hq⟩ := rd_of hx hd
  have hcap : (rs.length + 1) * qs.length ≤ 1000 := Nat.le_trans (Nat.mul_le_mul (show rs.length + 1 ≤ 5 by omega) hql) (by decide)
  exact ws_ret (we_call (wa_cons (we_var rfl (wa_cons (we_var rfl (wa_cons (we_var rfl (wa_nil ⟨C, base, first, rs, i, ps, qs, rfl, hM, hit, hi, by omega, by omega, hne, hcap, hp, hq, fun a n _ _ => hR _⟩))))))))
/-! ### what the whole machine makes -/
theorem bd_pow1 {base : Int} (h1 : 2 ≤ base) (h2 : base ≤ 5) (k : Nat) : Bd (3 * k + 1) (base ^ k - 1) := by
  have h3 := pow_pos' h1 k
  have h4 : (base ^ k).natAbs < 2 ^ (3 * k + 1) := bd_pow h1 h2 k
  show (base ^ k - 1).natAbs < _
  generalize base ^ k = z at *
  generalize (2 : Nat) ^ (3 * k + 1) = q at *
  omega
theorem low_bd {k : Nat} {t b : Int} (hb : 0 < b) (h1 : Bd k t) (h2 : Bd k b) : Bd k (low t b).1 ∧ Bd k (low t b).2 := by
  have g1 := low_top (t := t) hb
  have g2 := low_le (t := t) hb
  have g3 := low_pos (t := t) hb
  exact ⟨Nat.lt_of_le_of_lt g1 h1, Nat.lt_of_le_of_lt (by omega) h2⟩
theorem worth_bd {base : Int} (h1 : 2 ≤ base) (h2 : base ≤ 5) {z : List Int × List Int} (hne : z.2 ≠ []) (hl : z.1.length + z.2.length ≤ 1300) (i1 : Sm2 Big50 z.1) (i2 : Sm2 Big50 z.2) :
    0 < (worthP base z).2 ∧ Bd 4000 (worthP base z).1 ∧ Bd 4000 (worthP base z).2 := by
  have hb := wBot_pos h1 z.1 hne
  have b1 : Bd 4000 (wTop base z.1 z.2) := ((((sm_bd h1 h2 (hv_sm h1 i1)).mul (bd_pow1 h1 h2 z.2.length)).mono (b := 3 * (z.1.length + z.2.length) + 53) (by omega)).add ((sm_bd h1 h2 (hv_sm h1 i2)).mono (by omega))).mono (by omega)
  have b2 : Bd 4000 (wBot base z.1 z.2) := ((bd_pow h1 h2 z.1.length).mul (bd_pow1 h1 h2 z.2.length)).mono (by omega)
  obtain ⟨l1, l2⟩ := low_bd hb b1 b2
  exact ⟨low_pos hb, l1, l2⟩
def plusP (x y : Int × Int) : Int × Int := low (x.1 * y.2 + y.1 * x.2) (x.2 * y.2)
def S_plus : List D → (D → Prop) → Prop := fun ds R => ∃ x y : Int × Int, ds = [fr x, fr y] ∧ 0 < x.2 ∧ 0 < y.2 ∧ Bd 4000 x.1 ∧ Bd 4000 x.2 ∧ Bd 4000 y.1 ∧ Bd 4000 y.2 ∧ R (fr (plusP x y))
theorem l_plus : ∀ ds R, S_plus ds R → ds.length = 2 := fun ds R ⟨_, _, e, _⟩ => by rw [e]; rfl
theorem d_plus (T : Txt K mg) : Dfn P w K mg bs 2 "plus" ["one", "other"] S_plus := by
  have D_reduced := d_reduced (P := P) (w := w) (bs := bs) T
  refine mkD (k := 1) T.s_plus sc_plus (fun _ _ _ _ _ _ us hl => match us, hl with | [_, _], _ => rfl) l_plus fun f cdv A outer s H E hr => ?_
  have hu := hu_of hr
  refine ⟨_, (pss_one (ps_ret (pe_callK0 (K0 := K) (by rfl) D_reduced (hr.mono (by decide)) (pa_cons (pe_op op_add (pe_op op_mulA (pe_ix (ix_tupK (K0 := K) (by rfl)) (pv 0) pe_int (fun _ _ => rfl)) (pe_ix (ix_tupK (K0 := K) (by rfl)) (pv 1) pe_int (fun _ _ => rfl))) (pe_op op_mulA (pe_ix (ix_tupK (K0 := K) (by rfl)) (pv 1) pe_int (fun _ _ => rfl)) (pe_ix (ix_tupK (K0 := K) (by rfl)) (pv 0) pe_int (fun _ _ => rfl)))) (pa_cons (pe_op op_mulA (pe_ix (ix_tupK (K0 := K) (by rfl)) (pv 0) pe_int (fun _ _ => rfl)) (pe_ix (ix_tupK (K0 := K) (by rfl)) (pv 1) pe_int (fun _ _ => rfl))) pa_nil))))), fun h H0 G0 ds R hS => ?_⟩
  obtain ⟨x, y, rfl, hb, hd, b1, b2, b3, b4, hR⟩ := hS
  refine ws_ret (we_call (wa_cons (we_I0 ?_)))
  refine we_I (we_ixT (we_var rfl ⟨_, rfl, we_int ⟨_, _, rfl, rfl, _, rfl, we_ixT (we_var rfl ⟨_, rfl, we_int ⟨_, _, rfl, rfl, _, rfl, b1.cm b4, _, rfl, ?_⟩⟩)⟩⟩))
  refine we_I (we_ixT (we_var rfl ⟨_, rfl, we_int ⟨_, _, rfl, rfl, _, rfl, we_ixT (we_var rfl ⟨_, rfl, we_int ⟨_, _, rfl, rfl, _, rfl, b3.cm b2, _, rfl, ?_⟩⟩)⟩⟩))
  refine wa_cons (we_I (we_ixT (we_var rfl ⟨_, rfl, we_int ⟨_, _, rfl, rfl, _, rfl, we_ixT (we_var rfl ⟨_, rfl, we_int ⟨_, _, rfl, rfl, _, rfl, b2.cm b4, ?_⟩⟩)⟩⟩)))
  exact wa_nil ⟨_, _, rfl, Int.mul_pos hb hd, (b2.mul b4).mono (by decide), hR⟩
def S_made_by_machine : List D → (D → Prop) → Prop := fun ds R => ∃ (C : Addr) (base first : Int) (rs : List (List (Int × Nat))) (ps qs : List Int), ds = [machD C base first rs, rowD ps qs] ∧ Mach base rs ∧ Items rs ∧ -Big50 ≤ first ∧ first ≤ Big50 ∧ ps.length ≤ 300 ∧ qs ≠ [] ∧ (rs.length + 1) * qs.length ≤ 1000 ∧ Dig base ps ∧ Dig base qs ∧
  ∀ a n, Rep (tSt base rs qs (walkM base rs ps 0).2) a n → n ≤ rs.length → R (fr (plusP (first, 1) (worthP base (toldP base rs ps qs 0 a n))))
theorem l_made_by_machine : ∀ ds R, S_made_by_machine ds R → ds.length = 2 := fun ds R ⟨_, _, _, _, _, _, e, _⟩ => by rw [e]; rfl
theorem mul_self_le {n q : Nat} (h : (n + 1) * q ≤ 1000) : q ≤ 1000 := by
  rw [Nat.succ_mul] at h
  omega
theorem d_made_by_machine (T : Txt K mg) : Dfn P w K mg bs 4 "made_by_machine" ["machine", "writing"] S_made_by_machine := by
  have D_plus := d_plus (P := P) (w := w) (bs := bs) T
  have D_made_by_state := d_made_by_state (P := P) (w := w) (bs := bs) T
  refine mkD (k := 3) T.s_made_by_machine sc_made_by_machine (fun _ _ _ _ _ _ us hl => match us, hl with | [_, _], _ => rfl) l_made_by_machine fun f cdv A outer s H E hr => ?_
  have hu := hu_of hr
  refine ⟨_, (pss_one (ps_ret (pe_callK0 (K0 := K) (by rfl) D_plus (hr.mono (by decide)) (pa_cons (pe_tup (pa_cons (pe_fld (pv 0) rfl) (pa_cons pe_int pa_nil))) (pa_cons (pe_callK0 (K0 := K) (by rfl) D_made_by_state (hr.mono (by decide)) (pa_cons (pv 0) (pa_cons pe_int (pa_cons (pv 1) pa_nil)))) pa_nil))))), fun h H0 G0 ds R hS => ?_⟩
  obtain ⟨C, base, first, rs, ps, qs, rfl, hM, hi, hf1, hf2, hpl, hne, hcap, hp, hq, hR⟩ := hS
  have hpos := List.length_pos_iff.mpr hM.ne
  have hql := mul_self_le hcap
  refine ws_ret (we_call (wa_cons (we_tup (wa_cons (we_fld (we_var rfl ⟨C, _, _, rfl, lk_first, wa_cons (we_int (wa_nil ⟨len2, ?_⟩))⟩))))))
  refine wa_cons (we_call (wa_cons (we_var rfl (wa_cons (we_int (wa_cons (we_var rfl (wa_nil ⟨C, base, first, rs, 0, ps, qs, rfl, hM, hi, hpos, by omega, by omega, hne, hcap, hp, hq, fun a n rep hn => ?_⟩))))))))
  obtain ⟨g1, g2, g3, g4⟩ := told_len (base := base) (ps := ps) (s := 0) hne rep.lt hn (by omega)
  obtain ⟨i1, i2⟩ := told_items (base := base) hi ps qs 0 a n
  obtain ⟨w1, w2, w3⟩ := worth_bd hM.lo hM.hi g1 (by omega) i1 i2
  have hfb : Bd 4000 first := Bd.small (k := 4000) (by show first.natAbs < 18446744073709551616; unfold Big50 at hf1 hf2; omega)
  exact wa_nil ⟨(first, 1), _, rfl, (show (0 : Int) < 1 by decide), w1, hfb, Bd.small (k := 4000) (show (1 : Int).natAbs < 18446744073709551616 by decide), w2, w3, hR a n rep hn⟩
def S_made (mg : Str → Option Value) : List D → (Out → Prop) → Prop := fun ds R => ∃ (C : Addr) (base first : Int) (rs : List (List (Int × Nat))) (x : D), ds = [machD C base first rs, x] ∧ Mach base rs ∧ Items rs ∧ -Big50 ≤ first ∧ first ≤ Big50 ∧ rs.length ≤ 4 ∧ TV mg 2 x ∧
  (isRD base x = false → R (.ex "NoWriting" [])) ∧ (isRD base x = true → ∀ d, R (.ok d))
theorem l_made (mg : Str → Option Value) : ∀ ds R, S_made mg ds R → ds.length = 2 := fun ds R ⟨_, _, _, _, _, e, _⟩ => by rw [e]; rfl
theorem d_made (T : Txt K mg) : DfnN P w K mg bs 9 "made" ["machine", "writing"] (S_made mg) := by
  have D_check_writing := d_check_writing (P := P) (w := w) (bs := bs) T
  have D_made_by_machine := d_made_by_machine (P := P) (w := w) (bs := bs) T
  refine mkN (k := 8) T.s_made sc_made (fun _ _ _ _ _ _ us hl => match us, hl with | [_, _], _ => rfl) (l_made mg) fun f cdv A outer s H E hr => ?_
  have hu := hu_of hr
  refine ⟨_, (pss_cons (ps_expr (pe_callN D_check_writing (hr.mono (by decide)) (L2N.takes_of rfl rfl rfl rfl) (pa_cons (pv 0) (pa_cons (pv 1) pa_nil))))
      (pss_one (ps_ret (pe_callK0 (K0 := K) (by rfl) D_made_by_machine (hr.mono (by decide)) (pa_cons (pv 0) (pa_cons (pv 1) pa_nil)))))), fun h H0 G0 ds R hS hW => ?_⟩
  obtain ⟨C, base, first, rs, x, rfl, hM, hit, hf1, hf2, h4, hx, h2, h3⟩ := hS
  refine WS.o (ws_seq (ws_drop (we_callX hW (wa_cons (we_var rfl (wa_cons (we_var rfl (wa_nil ⟨C, base, first, rs, x, rfl, hx, fun hd => ?_, h2⟩))))))))
  have hR := h3 hd
  obtain ⟨ps, qs, rfl, hne, hpl, hql, hp, hq⟩ := rd_of hx hd
  have hcap : (rs.length + 1) * qs.length ≤ 1000 := Nat.le_trans (Nat.mul_le_mul (show rs.length + 1 ≤ 5 by omega) hql) (by decide)
  exact ws_ret (we_call (wa_cons (we_var rfl (wa_cons (we_var rfl (wa_nil ⟨C, base, first, rs, ps, qs, rfl, hM, hit, hf1, hf2, by omega, hne, hcap, hp, hq, fun a n _ _ => hR _⟩))))))
/-! ### the word -/
theorem kit_same {K : PySem.W.Frag} {C : Addr} : PySem.W.kitOne K (.ref C) (.ref C) = some true := by
  unfold PySem.W.kitOne
  rw [if_pos (by simp)]
def wd09 : Str → Option Str := fun y => if y = "NoState" then some ("state" : Str) else if y = "NoDigits" then some ("digits" : Str) else if y = "NoWriting" then some ("writing" : Str) else none
theorem g_law_word (T : Txt K mg) (X : Cx) (hK : X.K = K) (hm : X.mg = mg) (q : Str) (g : Addr) (cdg : Value) : GivesN X N_law_word "_law_word" (defScope s_law_word) g cdg (defBody s_law_word) "call" q (TTk mg wd09 "told") := by
  subst hK hm
  obtain ⟨C1, g1, E1⟩ := T.k_NoState.ex
  obtain ⟨C2, g2, E2⟩ := T.k_NoDigits.ex
  obtain ⟨C3, g3, E3⟩ := T.k_NoWriting.ex
  obtain ⟨CW, gW, _⟩ := T.w_WritingError.ex
  refine words_kinds (C1 := C1) (C2 := C2) (C3 := C3) (cw := .ref CW) (w1 := "state") (w2 := "digits") (w3 := "writing") (w4 := "other") sc_law_word.nd rfl (by decide) (fun s => rfl) (fun s H => ⟨rfl, by decide, .inl gW⟩) (fun s H a oe cls d pn hz hf => ?_) fun y C s e1 e2 => ?_
  · exact pss_cons (ps_set (i := 2) sc_law_word.nd rfl (Or.inl rfl) (pe_lst (pa_cons (pe_callB (cr_isEg hz.zc hf) (by rfl) T.n_isinstance (by decide +kernel) (pa_cons (pv 1) (pa_cons (pe_glob (v := .ref C1) (by rfl) g1 rfl) pa_nil))) (pa_cons (pe_callB (cr_isEg hz.zc hf) (by rfl) T.n_isinstance (by decide +kernel) (pa_cons (pv 1) (pa_cons (pe_glob (v := .ref C2) (by rfl) g2 rfl) pa_nil))) (pa_cons (pe_callB (cr_isEg hz.zc hf) (by rfl) T.n_isinstance (by decide +kernel) (pa_cons (pv 1) (pa_cons (pe_glob (v := .ref C3) (by rfl) g3 rfl) pa_nil))) pa_nil))))) (pss_one (ps_ret (pe_ifExp (pt_cmpR op_eq (pe_callB (cr_sumH (hot_suite hz hf)) (by rfl) T.n_sum (by decide +kernel) (pa_cons (pv 2) pa_nil)) pe_int (nomark _)) (pe_ix ix_list (pe_lst (pa_cons pe_str (pa_cons pe_str (pa_cons pe_str pa_nil)))) (pe_bm PySem.F.plainAttrs_list PySem.F.slot_list_index PySem.F.type_list_index mt_index (pv 2) (pa_cons pe_bl pa_nil)) (fun _ _ => rfl)) pe_str)))
  · unfold wd09 at e2
    by_cases h1 : y = "NoState"
    · rw [if_pos h1] at e2
      cases e2
      subst h1
      have m := (T.m_NoState_WritingError.m _ _ e1 gW).1
      rw [g1] at e1
      cases e1
      exact ⟨m, E1, true, false, false, kit_same, (T.m_NoState_NoDigits.m _ _ g1 g2).2, (T.m_NoState_NoWriting.m _ _ g1 g3).2, .inl ⟨rfl, rfl, rfl, rfl⟩⟩
    rw [if_neg h1] at e2
    by_cases h2 : y = "NoDigits"
    · rw [if_pos h2] at e2
      cases e2
      subst h2
      have m := (T.m_NoDigits_WritingError.m _ _ e1 gW).1
      rw [g2] at e1
      cases e1
      exact ⟨m, E2, false, true, false, (T.m_NoDigits_NoState.m _ _ g2 g1).2, kit_same, (T.m_NoDigits_NoWriting.m _ _ g2 g3).2, .inr (.inl ⟨rfl, rfl, rfl, rfl⟩)⟩
    rw [if_neg h2] at e2
    by_cases h3 : y = "NoWriting"
    · rw [if_pos h3] at e2
      cases e2
      subst h3
      have m := (T.m_NoWriting_WritingError.m _ _ e1 gW).1
      rw [g3] at e1
      cases e1
      exact ⟨m, E3, false, false, true, (T.m_NoWriting_NoState.m _ _ g3 g1).2, (T.m_NoWriting_NoDigits.m _ _ g3 g2).2, kit_same, .inr (.inr ⟨rfl, rfl, rfl, rfl⟩)⟩
    · rw [if_neg h3] at e2
      cases e2
/-! ### what is nearly right -/
theorem strs_cmp (ss : List Str) : Cmp (.lst (ss.map D.str)) := .lst fun x hx => by
  obtain ⟨s, _, rfl⟩ := List.mem_map.mp hx
  exact .str s
theorem py_strs : ∀ xs : List Str, (∀ s ∈ xs, PyData.strOk s = true) → PyData.canLayAll0 (toPyL (xs.map D.str)) = true ∧ PyData.depthAll (toPyL (xs.map D.str)) = 0
  | [], _ => ⟨rfl, rfl⟩
  | x :: xs, h => by
    obtain ⟨h1, h2⟩ := py_strs xs fun s hs => h s (List.mem_cons_of_mem _ hs)
    rw [List.map_cons, toPyL, toPy]
    exact ⟨by rw [PyData.canLayAll0, h1, PyData.canLay0, h x List.mem_cons_self]; rfl, by rw [PyData.depthAll, h2, PyData.depth]; rfl⟩
theorem strs_shaped (c : List Str) (h : ∀ s ∈ c, PyData.strOk s = true) : SeqAt.shaped (toPy (.lst (c.map D.str))) = true := by
  obtain ⟨h1, h2⟩ := py_strs c h
  unfold SeqAt.shaped
  rw [toPy, PyData.canLay0, h1, PyData.depth, h2]
  rfl
theorem same2 {s : Str} (h : PyData.strOk s = true) : ∀ t ∈ [s, s], PyData.strOk t = true := fun t ht => by
  simp only [List.mem_cons, List.not_mem_nil, or_false, or_self] at ht
  rw [ht]; exact h
theorem same3 {s : Str} (h : PyData.strOk s = true) : ∀ t ∈ [s, s, s], PyData.strOk t = true := fun t ht => by
  simp only [List.mem_cons, List.not_mem_nil, or_false, or_self] at ht
  rw [ht]; exact h
theorem ok_digits : PyData.strOk "digits" = true := by decide +kernel
theorem ok_writing : PyData.strOk "writing" = true := by decide +kernel
theorem ok_state : PyData.strOk "state" = true := by decide +kernel
theorem ok_told : PyData.strOk "told" = true := by decide +kernel
theorem isRD_ag {base : Int} {a b : D} (h : areG base a = false) : isRD base (.tup [a, b]) = false := by
  show (isRow (.tup [a, b]) && (areG base a && areG base b)) = false
  rw [h, Bool.false_and, Bool.and_false]
theorem isRD_bg {base : Int} {a b : D} (h : areG base b = false) : isRD base (.tup [a, b]) = false := by
  show (isRow (.tup [a, b]) && (areG base a && areG base b)) = false
  rw [h, Bool.and_false, Bool.and_false]
theorem areG_no {base : Int} {xs : List D} {y : D} (h : y ∈ xs) (hy : within (1 - base) (base - 1) y = false) : areG base (.tup xs) = false := List.all_eq_false.mpr ⟨y, h, by rw [hy]; decide⟩
theorem areL_no {base : Int} {xs : List D} {y : D} (h : y ∈ xs) (hy : within (1 - base) (base - 1) y = false) : areG base (.lst xs) = false := List.all_eq_false.mpr ⟨y, h, by rw [hy]; decide⟩
theorem within_no {lo hi i : Int} (h : ¬(lo ≤ i ∧ i ≤ hi)) : within lo hi (.int i) = false := by
  show (decide (lo ≤ i) && decide (i ≤ hi)) = false
  rw [← Bool.decide_and]
  exact decide_eq_false h
/-- the words that are due -/
def dueD (base : Int) (rs : List (List (Int × Nat))) (s x : D) : Str := if isSt rs s = false then "state" else if areG base x = false then "digits" else "told"
def dueM (base : Int) (x : D) : Str := if isRD base x = false then "writing" else "told"
def dueT (base : Int) (rs : List (List (Int × Nat))) (s x : D) : Str := if isSt rs s = false then "state" else dueM base x
theorem read_of {mgx : Str → Option Value} {Q : D → Prop} {C : Addr} {base first : Int} {rs : List (List (Int × Nat))} {s x : D} (hM : Mach base rs) (ts : Ty s) (hx : TV mgx 1 x) (q : Q (.str (dueD base rs s x))) : S_read mgx [machD C base first rs, s, x] (kindOf Q wd09 "told") := by
  unfold dueD at q
  refine ⟨C, base, first, rs, s, x, rfl, hM, ts, hx, fun h => ⟨rfl, "state", by decide, ?_⟩, fun h h2 => ⟨rfl, "digits", by decide, ?_⟩, fun h h2 d => ?_⟩
  · rw [if_pos h] at q; exact q
  · rw [if_neg (by rw [h]; decide), if_pos h2] at q; exact q
  · rw [if_neg (by rw [h]; decide), if_neg (by rw [h2]; decide)] at q; exact q
theorem told_of {mgx : Str → Option Value} {Q : D → Prop} {C : Addr} {base first : Int} {rs : List (List (Int × Nat))} {s x : D} (hM : Mach base rs) (h4 : rs.length ≤ 4) (ts : Ty s) (hx : TV mgx 2 x) (q : Q (.str (dueT base rs s x))) : S_told mgx [machD C base first rs, s, x] (kindOf Q wd09 "told") := by
  unfold dueT dueM at q
  refine ⟨C, base, first, rs, s, x, rfl, hM, h4, ts, hx, fun h => ⟨rfl, "state", by decide, ?_⟩, fun h h2 => ⟨rfl, "writing", by decide, ?_⟩, fun h h2 d => ?_⟩
  · rw [if_pos h] at q; exact q
  · rw [if_neg (by rw [h]; decide), if_pos h2] at q; exact q
  · rw [if_neg (by rw [h]; decide), if_neg (by rw [h2]; decide)] at q; exact q
theorem makes_of {mgx : Str → Option Value} {Q : D → Prop} {C : Addr} {base first : Int} {rs : List (List (Int × Nat))} {s x : D} (hM : Mach base rs) (hi : Items rs) (h4 : rs.length ≤ 4) (ts : Ty s) (hx : TV mgx 2 x) (q : Q (.str (dueT base rs s x))) : S_makes mgx [machD C base first rs, s, x] (kindOf Q wd09 "told") := by
  unfold dueT dueM at q
  refine ⟨C, base, first, rs, s, x, rfl, hM, hi, h4, ts, hx, fun h => ⟨rfl, "state", by decide, ?_⟩, fun h h2 => ⟨rfl, "writing", by decide, ?_⟩, fun h h2 d => ?_⟩
  · rw [if_pos h] at q; exact q
  · rw [if_neg (by rw [h]; decide), if_pos h2] at q; exact q
  · rw [if_neg (by rw [h]; decide), if_neg (by rw [h2]; decide)] at q; exact q
theorem made_of {mgx : Str → Option Value} {Q : D → Prop} {C : Addr} {base : Int} {rs : List (List (Int × Nat))} {x : D} (hM : Mach base rs) (hi : Items rs) (h4 : rs.length ≤ 4) (hx : TV mgx 2 x) (q : Q (.str (dueM base x))) : S_made mgx [machD C base 0 rs, x] (kindOf Q wd09 "told") := by
  unfold dueM at q
  refine ⟨C, base, 0, rs, x, rfl, hM, hi, by decide, by decide, h4, hx, fun h2 => ⟨rfl, "writing", by decide, ?_⟩, fun h2 d => ?_⟩
  · rw [if_pos h2] at q; exact q
  · rw [if_neg (by rw [h2]; decide)] at q; exact q
theorem st_zero {base : Int} {rs : List (List (Int × Nat))} (hM : Mach base rs) : isSt rs (.int 0) = true := by
  have := List.length_pos_iff.mpr hM.ne
  show (decide ((0 : Int) ≤ 0) && decide ((0 : Int) ≤ (rs.length : Int) - 1)) = true
  rw [decide_eq_true (by omega), decide_eq_true (by omega)]
  rfl
def S_law_are_near_refused (mg : Str → Option Value) : List D → (D → Prop) → Prop := fun ds R => ∃ (C : Addr) (base : Int) (rs : List (List (Int × Nat))), ds = [machD C base 0 rs] ∧ Mach base rs ∧ Items rs ∧ rs.length ≤ 4 ∧ R (.bl true)
theorem l_law_are_near_refused (mg : Str → Option Value) : ∀ ds R, S_law_are_near_refused mg ds R → ds.length = 1 := fun ds R ⟨_, _, _, e, _⟩ => by rw [e]; rfl
abbrev lamQ : Str := (envOfC "law" (defScope s_law) 0 0 .none).qual ++ "<lambda>"
abbrev lamQ2 : Str := (envOfC "_law_are_near_refused" (defScope s_law_are_near_refused) 0 0 .none).qual ++ "<lambda>"
theorem d_law_are_near_refused {c2 P1 P2 : Addr} (T : Txt K mg) (FN : SrcC K mg "_law_are_near_refused" s_law_are_near_refused c2) (TB2 : LamX.TabB bs mg c2 P2) (ne : P1 ≠ P2) : DfnT P w K mg bs 12 "_law_are_near_refused" ["machine"] [(P1, lamQ), (P2, lamQ2)] (S_law_are_near_refused mg) := by
  have G_law_word := g_law_word (K := K) (mg := mg) T
  have D_read := d_read (P := P) (w := w) (bs := bs) T
  have D_told := d_told (P := P) (w := w) (bs := bs) T
  have D_makes := d_makes (P := P) (w := w) (bs := bs) T
  have D_made := d_made (P := P) (w := w) (bs := bs) T
  refine mkDT (k := 11) FN sc_law_are_near_refused (fun _ _ _ _ _ _ us hl => match us, hl with | [_], _ => rfl) (l_law_are_near_refused mg) fun f A outer s H E hr => ?_
  have hu := hu_of hr
  refine ⟨_, (pss_cons (ps_par (i := 1) (j := 2) (by rfl) sc_law_are_near_refused.nd rfl rfl (by decide) rfl rfl (pa_cons (pe_fld (pv 0) rfl) (pa_cons (pe_callB (call_lenK (K0 := K) (by rfl)) (by rfl) T.n_len (by decide +kernel) (pa_cons (pe_fld (pv 0) rfl) pa_nil)) pa_nil)) (by rfl))
      (pss_cons (ps_for PassesOwn.never rfl (pi_tupK (K0 := K) (by rfl) (pe_tup (pa_cons (pv 1) (pa_cons (pe_op op_sub pe_int (pv 1)) (pa_cons pe_bl (pa_cons pe_bl (pa_cons pe_non pa_nil))))))) (pg_name (i := 3) sc_law_are_near_refused.nd rfl (Or.inr rfl))
      (pss_cons (ps_set (i := 4) sc_law_are_near_refused.nd rfl (Or.inl rfl) (pe_lst (pa_cons (pe_lamNT (k := 8) (T := [(P1, lamQ), (P2, lamQ2)]) (t := fun E => tCallS (spX K mg (S_read mg)) (L2.WE fun cls d _ H => E cls d H) (tCons (tVar 0) (tCons (tC (.int 0)) (tCons (tLst (tCons (tC (.int 0)) (tCons (tVar 3) tNil))) tNil)))) T.s_law_word sc_law_word (fun _ _ _ _ _ _ us hl => match us, hl with | [_], _ => rfl) rfl (Or.inl rfl) (fun g cdg => G_law_word _ rfl rfl _ g cdg) TB2 rfl (.tail _ (.head _)) (in_two ne).2 (hr.mono (by decide)) (LamX.lamS_by (sc := defScope s_law_are_near_refused) (by decide +kernel)) rfl (fun _ _ _ _ _ => rfl) (fun A outer s H E f c' hr2 => by exact pe_callN D_read (hr2.mono (by decide)) (L2N.takes_of rfl rfl rfl rfl) (pa_cons (pv 0) (pa_cons pe_int (pa_cons (pe_lst (pa_cons pe_int (pa_cons (pv 3) pa_nil))) pa_nil))))) pa_nil)))
      (pss_cons (ps_expr (pe_bm PySem.F.plainAttrs_list PySem.F.slot_list_append PySem.F.type_list_append mt_append (pv 4) (pa_cons (pe_lamNT (k := 8) (T := [(P1, lamQ), (P2, lamQ2)]) (t := fun E => tCallS (spX K mg (S_read mg)) (L2.WE fun cls d _ H => E cls d H) (tCons (tVar 0) (tCons (tC (.int 0)) (tCons (tTup (tCons (tVar 3) tNil)) tNil)))) T.s_law_word sc_law_word (fun _ _ _ _ _ _ us hl => match us, hl with | [_], _ => rfl) rfl (Or.inl rfl) (fun g cdg => G_law_word _ rfl rfl _ g cdg) TB2 rfl (.tail _ (.head _)) (in_two ne).2 (hr.mono (by decide)) (LamX.lamS_by (sc := defScope s_law_are_near_refused) (by decide +kernel)) rfl (fun _ _ _ _ _ => rfl) (fun A outer s H E f c' hr2 => by exact pe_callN D_read (hr2.mono (by decide)) (L2N.takes_of rfl rfl rfl rfl) (pa_cons (pv 0) (pa_cons pe_int (pa_cons (pe_tup (pa_cons (pv 3) pa_nil)) pa_nil))))) pa_nil)))
      (pss_cons (ps_if (pt_cmpR (op_neK (K0 := K) (by rfl) hr.units) (pv 4) (pe_op op_rep (pe_lst (pa_cons pe_str pa_nil)) pe_int) (nomark _)) (pss_one (ps_ret pe_bl)) pss_nil)
      (pss_cons (ps_set (i := 4) sc_law_are_near_refused.nd rfl (Or.inl rfl) (pe_lst (pa_cons (pe_lamNT (k := 9) (T := [(P1, lamQ), (P2, lamQ2)]) (t := fun E => tCallS (spX K mg (S_told mg)) (L2.WE fun cls d _ H => E cls d H) (tCons (tVar 0) (tCons (tC (.int 0)) (tCons (tTup (tCons (tTup (tCons (tVar 3) tNil)) (tCons (tTup (tCons (tC (.int 0)) tNil)) tNil))) tNil)))) T.s_law_word sc_law_word (fun _ _ _ _ _ _ us hl => match us, hl with | [_], _ => rfl) rfl (Or.inl rfl) (fun g cdg => G_law_word _ rfl rfl _ g cdg) TB2 rfl (.tail _ (.head _)) (in_two ne).2 (hr.mono (by decide)) (LamX.lamS_by (sc := defScope s_law_are_near_refused) (by decide +kernel)) rfl (fun _ _ _ _ _ => rfl) (fun A outer s H E f c' hr2 => by exact pe_callN D_told (hr2.mono (by decide)) (L2N.takes_of rfl rfl rfl rfl) (pa_cons (pv 0) (pa_cons pe_int (pa_cons (pe_tup (pa_cons (pe_tup (pa_cons (pv 3) pa_nil)) (pa_cons (pe_tup (pa_cons pe_int pa_nil)) pa_nil))) pa_nil))))) pa_nil)))
      (pss_cons (ps_expr (pe_bm PySem.F.plainAttrs_list PySem.F.slot_list_append PySem.F.type_list_append mt_append (pv 4) (pa_cons (pe_lamNT (k := 9) (T := [(P1, lamQ), (P2, lamQ2)]) (t := fun E => tCallS (spX K mg (S_makes mg)) (L2.WE fun cls d _ H => E cls d H) (tCons (tVar 0) (tCons (tC (.int 0)) (tCons (tTup (tCons (tTup tNil) (tCons (tTup (tCons (tC (.int 0)) (tCons (tVar 3) tNil))) tNil))) tNil)))) T.s_law_word sc_law_word (fun _ _ _ _ _ _ us hl => match us, hl with | [_], _ => rfl) rfl (Or.inl rfl) (fun g cdg => G_law_word _ rfl rfl _ g cdg) TB2 rfl (.tail _ (.head _)) (in_two ne).2 (hr.mono (by decide)) (LamX.lamS_by (sc := defScope s_law_are_near_refused) (by decide +kernel)) rfl (fun _ _ _ _ _ => rfl) (fun A outer s H E f c' hr2 => by exact pe_callN D_makes (hr2.mono (by decide)) (L2N.takes_of rfl rfl rfl rfl) (pa_cons (pv 0) (pa_cons pe_int (pa_cons (pe_tup (pa_cons (pe_tup pa_nil) (pa_cons (pe_tup (pa_cons pe_int (pa_cons (pv 3) pa_nil))) pa_nil))) pa_nil))))) pa_nil)))
      (pss_cons (ps_expr (pe_bm PySem.F.plainAttrs_list PySem.F.slot_list_append PySem.F.type_list_append mt_append (pv 4) (pa_cons (pe_lamNT (k := 9) (T := [(P1, lamQ), (P2, lamQ2)]) (t := fun E => tCallS (spX K mg (S_made mg)) (L2.WE fun cls d _ H => E cls d H) (tCons (tVar 0) (tCons (tTup (tCons (tTup (tCons (tC (.int 0)) (tCons (tVar 3) tNil))) (tCons (tTup (tCons (tC (.int 0)) tNil)) tNil))) tNil))) T.s_law_word sc_law_word (fun _ _ _ _ _ _ us hl => match us, hl with | [_], _ => rfl) rfl (Or.inl rfl) (fun g cdg => G_law_word _ rfl rfl _ g cdg) TB2 rfl (.tail _ (.head _)) (in_two ne).2 (hr.mono (by decide)) (LamX.lamS_by (sc := defScope s_law_are_near_refused) (by decide +kernel)) rfl (fun _ _ _ _ _ => rfl) (fun A outer s H E f c' hr2 => by exact pe_callN D_made (hr2.mono (by decide)) (L2N.takes_of rfl rfl rfl rfl) (pa_cons (pv 0) (pa_cons (pe_tup (pa_cons (pe_tup (pa_cons pe_int (pa_cons (pv 3) pa_nil))) (pa_cons (pe_tup (pa_cons pe_int pa_nil)) pa_nil))) pa_nil)))) pa_nil)))
      (pss_one (ps_if (pt_cmpR (op_neK (K0 := K) (by rfl) hr.units) (pv 4) (pe_op op_rep (pe_lst (pa_cons pe_str pa_nil)) pe_int) (nomark _)) (pss_one (ps_ret pe_bl)) pss_nil)))))))))
      (pss_cons (ps_for PassesOwn.never rfl (pi_tupK (K0 := K) (by rfl) (pe_tup (pa_cons (pv 2) (pa_cons (pe_un un_neg pe_int) (pa_cons pe_bl (pa_cons pe_bl (pa_cons pe_non pa_nil))))))) (pg_name (i := 3) sc_law_are_near_refused.nd rfl (Or.inr rfl))
      (pss_cons (ps_set (i := 4) sc_law_are_near_refused.nd rfl (Or.inl rfl) (pe_lst (pa_cons (pe_lamNT (k := 8) (T := [(P1, lamQ), (P2, lamQ2)]) (t := fun E => tCallS (spX K mg (S_read mg)) (L2.WE fun cls d _ H => E cls d H) (tCons (tVar 0) (tCons (tVar 3) (tCons (tLst tNil) tNil)))) T.s_law_word sc_law_word (fun _ _ _ _ _ _ us hl => match us, hl with | [_], _ => rfl) rfl (Or.inl rfl) (fun g cdg => G_law_word _ rfl rfl _ g cdg) TB2 rfl (.tail _ (.head _)) (in_two ne).2 (hr.mono (by decide)) (LamX.lamS_by (sc := defScope s_law_are_near_refused) (by decide +kernel)) rfl (fun _ _ _ _ _ => rfl) (fun A outer s H E f c' hr2 => by exact pe_callN D_read (hr2.mono (by decide)) (L2N.takes_of rfl rfl rfl rfl) (pa_cons (pv 0) (pa_cons (pv 3) (pa_cons (pe_lst pa_nil) pa_nil))))) pa_nil)))
      (pss_cons (ps_expr (pe_bm PySem.F.plainAttrs_list PySem.F.slot_list_append PySem.F.type_list_append mt_append (pv 4) (pa_cons (pe_lamNT (k := 9) (T := [(P1, lamQ), (P2, lamQ2)]) (t := fun E => tCallS (spX K mg (S_told mg)) (L2.WE fun cls d _ H => E cls d H) (tCons (tVar 0) (tCons (tVar 3) (tCons (tTup (tCons (tTup tNil) (tCons (tTup (tCons (tC (.int 0)) tNil)) tNil))) tNil)))) T.s_law_word sc_law_word (fun _ _ _ _ _ _ us hl => match us, hl with | [_], _ => rfl) rfl (Or.inl rfl) (fun g cdg => G_law_word _ rfl rfl _ g cdg) TB2 rfl (.tail _ (.head _)) (in_two ne).2 (hr.mono (by decide)) (LamX.lamS_by (sc := defScope s_law_are_near_refused) (by decide +kernel)) rfl (fun _ _ _ _ _ => rfl) (fun A outer s H E f c' hr2 => by exact pe_callN D_told (hr2.mono (by decide)) (L2N.takes_of rfl rfl rfl rfl) (pa_cons (pv 0) (pa_cons (pv 3) (pa_cons (pe_tup (pa_cons (pe_tup pa_nil) (pa_cons (pe_tup (pa_cons pe_int pa_nil)) pa_nil))) pa_nil))))) pa_nil)))
      (pss_cons (ps_expr (pe_bm PySem.F.plainAttrs_list PySem.F.slot_list_append PySem.F.type_list_append mt_append (pv 4) (pa_cons (pe_lamNT (k := 9) (T := [(P1, lamQ), (P2, lamQ2)]) (t := fun E => tCallS (spX K mg (S_makes mg)) (L2.WE fun cls d _ H => E cls d H) (tCons (tVar 0) (tCons (tVar 3) (tCons (tTup (tCons (tTup tNil) (tCons (tTup (tCons (tC (.int 0)) tNil)) tNil))) tNil)))) T.s_law_word sc_law_word (fun _ _ _ _ _ _ us hl => match us, hl with | [_], _ => rfl) rfl (Or.inl rfl) (fun g cdg => G_law_word _ rfl rfl _ g cdg) TB2 rfl (.tail _ (.head _)) (in_two ne).2 (hr.mono (by decide)) (LamX.lamS_by (sc := defScope s_law_are_near_refused) (by decide +kernel)) rfl (fun _ _ _ _ _ => rfl) (fun A outer s H E f c' hr2 => by exact pe_callN D_makes (hr2.mono (by decide)) (L2N.takes_of rfl rfl rfl rfl) (pa_cons (pv 0) (pa_cons (pv 3) (pa_cons (pe_tup (pa_cons (pe_tup pa_nil) (pa_cons (pe_tup (pa_cons pe_int pa_nil)) pa_nil))) pa_nil))))) pa_nil)))
      (pss_one (ps_if (pt_cmpR (op_neK (K0 := K) (by rfl) hr.units) (pv 4) (pe_op op_rep (pe_lst (pa_cons pe_str pa_nil)) pe_int) (nomark _)) (pss_one (ps_ret pe_bl)) pss_nil))))))
      (pss_one (ps_ret pe_bl))))), fun h H0 G0 ds R hT hS => ?_⟩
  obtain ⟨C, base, rs, rfl, hM, hi, h4, hR⟩ := hS
  have hb1 := hM.lo
  have hb2 := hM.hi
  have z0 := st_zero hM
  have i0 : ∀ n, TV mg n (.int 0) := fun n => tv_int (by decide) n
  have one : ∀ {x : D}, (∀ n, TV mg n x) → ∀ n, TV mg n (.tup [x]) := fun {x} hx n => tv_t0 (Nat.le_of_ble_eq_true rfl) fun m _ y h => by
    rw [List.mem_singleton.mp h]
    exact hx m
  have t0 : Ty (.int 0) := ⟨_, rfl⟩
  refine ws_seq (ws_par (wa_cons (we_fld (we_var rfl ⟨C, _, _, rfl, lk_base, wa_cons (we_len (we_fld (we_var rfl ⟨C, _, _, rfl, lk_rows, _, .inr rfl, wa_nil ⟨_, _, rfl, ?_⟩⟩)))⟩))))
  rw [List.length_map]
  -- digits just beyond
  refine ws_seq (ws_to (fun ρ => ∃ r3 r4 : Option Cell, ρ = [some (.d (machD C base 0 rs)), some (.d (.int base)), some (.d (.int (rs.length : Int))), r3, r4]) (ws_forT (we_tup (wa_cons (we_var rfl (wa_cons (we_I0 (we_int ⟨_, rfl, we_var rfl ⟨_, rfl, wa_cons (we_bl (wa_cons (we_bl (wa_cons (we_non (wa_nil ⟨Nat.le_of_ble_eq_true rfl, ⟨_, rfl, fun k ρ => ∃ r3 r4 : Option Cell, ρ = [some (.d (machD C base 0 rs)), some (.d (.int base)), some (.d (.int (rs.length : Int))), r3, r4], ⟨_, _, rfl⟩, ?_, ?_⟩⟩))))))⟩⟩))))))) ?_)
  · rintro k odd ρ hk ⟨r3, r4, rfl⟩
    have ho : (∀ n, TV mg n odd) ∧ within (1 - base) (base - 1) odd = false := by
      have := List.mem_of_getElem? hk
      simp only [List.mem_cons, List.not_mem_nil, or_false] at this
      rcases this with rfl | rfl | rfl | rfl | rfl
      · exact ⟨fun n => tv_int ((Bd.small (k := 64) (by omega)).mono (by decide)) n, within_no (by omega)⟩
      · exact ⟨fun n => tv_int ((Bd.small (k := 64) (by omega)).mono (by decide)) n, within_no (by omega)⟩
      · exact ⟨tv_bl _, rfl⟩
      · exact ⟨tv_bl _, rfl⟩
      · exact ⟨tv_non, rfl⟩
    obtain ⟨tv, no⟩ := ho
    have p2 : ∀ y ∈ [D.int 0, odd], ∀ m, TV mg m y := fun y h m => by
      simp only [List.mem_cons, List.not_mem_nil, or_false] at h
      rcases h with rfl | rfl
      · exact i0 m
      · exact tv m
    have tl : TV mg 1 (.lst [.int 0, odd]) := tv_lst (Nat.le_of_ble_eq_true rfl) fun m _ y h => p2 y h m
    have tt : ∀ n, TV mg n (.tup [.int 0, odd]) := fun n => tv_t0 (Nat.le_of_ble_eq_true rfl) fun m _ y h => p2 y h m
    have d1 : dueD base rs (.int 0) (.lst [.int 0, odd]) = "digits" := by unfold dueD; rw [if_neg (by rw [z0]; decide), if_pos (areL_no (y := odd) (by simp) no)]
    have d2 : dueD base rs (.int 0) (.tup [odd]) = "digits" := by unfold dueD; rw [if_neg (by rw [z0]; decide), if_pos (areG_no (y := odd) (by simp) no)]
    have d3 : dueT base rs (.int 0) (.tup [.tup [odd], .tup [.int 0]]) = "writing" := by unfold dueT dueM; rw [if_neg (by rw [z0]; decide), if_pos (isRD_ag (areG_no (y := odd) (by simp) no))]
    have d4 : dueT base rs (.int 0) (.tup [.tup [], .tup [.int 0, odd]]) = "writing" := by unfold dueT dueM; rw [if_neg (by rw [z0]; decide), if_pos (isRD_bg (areG_no (y := odd) (by simp) no))]
    have d5 : dueM base (.tup [.tup [.int 0, odd], .tup [.int 0]]) = "writing" := by unfold dueM; rw [if_pos (isRD_ag (areG_no (y := odd) (by simp) no))]
    refine wg_name (ws_seq (ws_asgF (wf_lst (wa_cons (we_lamK hT (wa_cons (we_var rfl (wa_cons (we_int (wa_cons (we_lst (wa_cons (we_int (wa_cons (we_var rfl (wa_nil ⟨Nat.le_of_ble_eq_true rfl, wa_nil (read_of hM t0 tl (wa_nil ⟨Nat.le_of_ble_eq_true rfl, ?_⟩))⟩))))))))))))))))
    rw [d1]
    refine ws_seq (ws_append rfl (by decide) (we_lamK hT (wa_cons (we_var rfl (wa_cons (we_int (wa_cons (we_tup (wa_cons (we_var rfl (wa_nil ⟨Nat.le_of_ble_eq_true rfl, wa_nil (read_of hM t0 (one tv 1) ?_)⟩)))))))))))
    rw [d2]
    refine ws_seq (ws_freeze 4 rfl rfl (ws_if (wt_T (we_neD (we_var rfl ⟨strs_cmp ["digits", "digits"], (strs_shaped ["digits", "digits"] (same2 ok_digits)), we_repL (we_lst (wa_cons (we_str (wa_nil ⟨Nat.le_of_ble_eq_true rfl, _, rfl, we_int ⟨2, rfl, by decide, by decide, by decide, strs_cmp ["digits", "digits"], (strs_shaped ["digits", "digits"] (same2 ok_digits)), ?_⟩⟩))))⟩)))))
    refine ⟨_, rfl, ?_⟩
    rw [show PyData.eqv (toPy (Cell.ol ([D.str "digits"] ++ [D.str "digits"])).toD) (toPy (.lst (List.replicate (2 : Int).toNat [D.str "digits"]).flatten)) = true from eqv_self (strs_shaped ["digits", "digits"] (same2 ok_digits)), if_neg (by decide)]
    refine ws_next (ws_seq (ws_asgF (wf_lst (wa_cons (we_lamK hT (wa_cons (we_var rfl (wa_cons (we_int (wa_cons (we_tup (wa_cons (we_tup (wa_cons (we_var rfl (wa_nil ⟨Nat.le_of_ble_eq_true rfl, wa_cons (we_tup (wa_cons (we_int (wa_nil ⟨Nat.le_of_ble_eq_true rfl, wa_nil ⟨Nat.le_of_ble_eq_true rfl, wa_nil (told_of hM h4 t0 (tv_two (one tv) (one i0)) (wa_nil ⟨Nat.le_of_ble_eq_true rfl, ?_⟩))⟩⟩))))⟩))))))))))))))))
    rw [d3]
    refine ws_seq (ws_append rfl (by decide) (we_lamK hT (wa_cons (we_var rfl (wa_cons (we_int (wa_cons (we_tup (wa_cons (we_tup (wa_nil ⟨Nat.le_of_ble_eq_true rfl, wa_cons (we_tup (wa_cons (we_int (wa_cons (we_var rfl (wa_nil ⟨Nat.le_of_ble_eq_true rfl, wa_nil ⟨Nat.le_of_ble_eq_true rfl, wa_nil (makes_of hM hi h4 t0 (tv_two tv_nil tt) ?_)⟩⟩))))))⟩)))))))))))
    rw [d4]
    refine ws_seq (ws_append rfl (by decide) (we_lamK hT (wa_cons (we_var rfl (wa_cons (we_tup (wa_cons (we_tup (wa_cons (we_int (wa_cons (we_var rfl (wa_nil ⟨Nat.le_of_ble_eq_true rfl, wa_cons (we_tup (wa_cons (we_int (wa_nil ⟨Nat.le_of_ble_eq_true rfl, wa_nil ⟨Nat.le_of_ble_eq_true rfl, wa_nil (made_of hM hi h4 (tv_two tt (one i0)) ?_)⟩⟩))))⟩)))))))))))))
    rw [d5]
    refine ws_freeze 4 rfl rfl (ws_if (wt_T (we_neD (we_var rfl ⟨strs_cmp ["writing", "writing", "writing"], (strs_shaped ["writing", "writing", "writing"] (same3 ok_writing)), we_repL (we_lst (wa_cons (we_str (wa_nil ⟨Nat.le_of_ble_eq_true rfl, _, rfl, we_int ⟨3, rfl, by decide, by decide, by decide, strs_cmp ["writing", "writing", "writing"], (strs_shaped ["writing", "writing", "writing"] (same3 ok_writing)), ?_⟩⟩))))⟩))))
    refine ⟨_, rfl, ?_⟩
    rw [show PyData.eqv (toPy (Cell.ol ([D.str "writing"] ++ [D.str "writing"] ++ [D.str "writing"])).toD) (toPy (.lst (List.replicate (3 : Int).toNat [D.str "writing"]).flatten)) = true from eqv_self (strs_shaped ["writing", "writing", "writing"] (same3 ok_writing)), if_neg (by decide)]
    exact ws_next ⟨_, _, rfl⟩
  · rintro ρ ⟨r3, r4, rfl⟩
    exact ⟨_, _, rfl⟩
  rintro ρ ⟨r3, r4, rfl⟩
  -- states just beyond
  refine ws_seq (ws_to (fun ρ => ∃ r3 r4 : Option Cell, ρ = [some (.d (machD C base 0 rs)), some (.d (.int base)), some (.d (.int (rs.length : Int))), r3, r4]) (ws_forT (we_tup (wa_cons (we_var rfl (wa_cons (we_U (we_int ⟨_, rfl, wa_cons (we_bl (wa_cons (we_bl (wa_cons (we_non (wa_nil ⟨Nat.le_of_ble_eq_true rfl, ⟨_, rfl, fun k ρ => ∃ r3 r4 : Option Cell, ρ = [some (.d (machD C base 0 rs)), some (.d (.int base)), some (.d (.int (rs.length : Int))), r3, r4], ⟨_, _, rfl⟩, ?_, ?_⟩⟩))))))⟩))))))) ?_)
  · rintro k odd ρ hk ⟨r3, r4, rfl⟩
    have ho : Ty odd ∧ isSt rs odd = false := by
      have := List.mem_of_getElem? hk
      simp only [List.mem_cons, List.not_mem_nil, or_false] at this
      rcases this with rfl | rfl | rfl | rfl | rfl
      · exact ⟨⟨_, rfl⟩, within_no (by omega)⟩
      · exact ⟨⟨_, rfl⟩, within_no (by omega)⟩
      · exact ⟨⟨_, rfl⟩, rfl⟩
      · exact ⟨⟨_, rfl⟩, rfl⟩
      · exact ⟨⟨_, rfl⟩, rfl⟩
    obtain ⟨ty, no⟩ := ho
    have d1 : dueD base rs odd (.lst []) = "state" := if_pos no
    have d2 : dueT base rs odd (.tup [.tup [], .tup [.int 0]]) = "state" := if_pos no
    have tr : TV mg 2 (.tup [.tup [], .tup [.int 0]]) := tv_two tv_nil (one i0)
    refine wg_name (ws_seq (ws_asgF (wf_lst (wa_cons (we_lamK hT (wa_cons (we_var rfl (wa_cons (we_var rfl (wa_cons (we_lst (wa_nil ⟨Nat.le_of_ble_eq_true rfl, wa_nil (read_of hM ty (tv_lst (Nat.zero_le _) fun m _ y h => nomatch h) (wa_nil ⟨Nat.le_of_ble_eq_true rfl, ?_⟩))⟩))))))))))))
    rw [d1]
    refine ws_seq (ws_append rfl (by decide) (we_lamK hT (wa_cons (we_var rfl (wa_cons (we_var rfl (wa_cons (we_tup (wa_cons (we_tup (wa_nil ⟨Nat.le_of_ble_eq_true rfl, wa_cons (we_tup (wa_cons (we_int (wa_nil ⟨Nat.le_of_ble_eq_true rfl, wa_nil ⟨Nat.le_of_ble_eq_true rfl, wa_nil (told_of hM h4 ty tr ?_)⟩⟩))))⟩)))))))))))
    rw [d2]
    refine ws_seq (ws_append rfl (by decide) (we_lamK hT (wa_cons (we_var rfl (wa_cons (we_var rfl (wa_cons (we_tup (wa_cons (we_tup (wa_nil ⟨Nat.le_of_ble_eq_true rfl, wa_cons (we_tup (wa_cons (we_int (wa_nil ⟨Nat.le_of_ble_eq_true rfl, wa_nil ⟨Nat.le_of_ble_eq_true rfl, wa_nil (makes_of hM hi h4 ty tr ?_)⟩⟩))))⟩)))))))))))
    rw [d2]
    refine ws_freeze 4 rfl rfl (ws_if (wt_T (we_neD (we_var rfl ⟨strs_cmp ["state", "state", "state"], (strs_shaped ["state", "state", "state"] (same3 ok_state)), we_repL (we_lst (wa_cons (we_str (wa_nil ⟨Nat.le_of_ble_eq_true rfl, _, rfl, we_int ⟨3, rfl, by decide, by decide, by decide, strs_cmp ["state", "state", "state"], (strs_shaped ["state", "state", "state"] (same3 ok_state)), ?_⟩⟩))))⟩))))
    refine ⟨_, rfl, ?_⟩
    rw [show PyData.eqv (toPy (Cell.ol ([D.str "state"] ++ [D.str "state"] ++ [D.str "state"])).toD) (toPy (.lst (List.replicate (3 : Int).toNat [D.str "state"]).flatten)) = true from eqv_self (strs_shaped ["state", "state", "state"] (same3 ok_state)), if_neg (by decide)]
    exact ws_next ⟨_, _, rfl⟩
  · rintro ρ ⟨r3, r4, rfl⟩
    exact ⟨_, _, rfl⟩
  rintro ρ ⟨r3, r4, rfl⟩
  exact ws_ret (we_bl hR)
/-! ### machines that are made -/
theorem partsBad_step {base : Int} {f r : D} (hb : within 2 5 (.int base) = true) (hf : isI f = true) : partsBad (.int base) f r = match r with
    | .tup xs => if xs = [] then some (.str "rows") else (xs.findIdx? fun y => !rowOk base xs.length y).map fun (s : Nat) => D.int ((s : Nat) : Int)
    | _ => some (.str "rows") := by
  unfold partsBad
  rw [if_neg (by rw [hb]; decide), if_neg (by rw [hf]; decide)]
  cases r <;> rfl
theorem pairOk_int {n : Nat} {i j : Int} : pairOk n (.tup [.int i, .int j]) = (decide (0 ≤ j) && decide (j < n)) := by
  show (true && (decide (0 ≤ j) && decide (j ≤ (n : Int) - 1))) = _
  rw [Bool.true_and]
  congr 1
  by_cases h : j < n
  · rw [decide_eq_true h, decide_eq_true (by omega)]
  · rw [decide_eq_false h, decide_eq_false (by omega)]
theorem tyN_pair (q : Int × Nat) (m : Nat) : TyN (m + 1) (pairD q) := tyN_tup len2 fun y h => by
  simp only [List.mem_cons, List.not_mem_nil, or_false] at h
  rcases h with rfl | rfl
  · exact tyN_int _ m
  · exact tyN_int _ m
theorem tyN_row {r : List (Int × Nat)} (hl : r.length ≤ 1000) (m : Nat) : TyN (m + 2) (rowM r) := tyN_tup (by rw [List.length_map]; omega) fun y h => by
  obtain ⟨q, _, rfl⟩ := List.mem_map.mp h
  exact tyN_pair q m
theorem mach_good {base first : Int} {rs : List (List (Int × Nat))} (h : Mach base rs) : partsBad (.int base) (.int first) (rowsM rs) = none := by
  have hb : within 2 5 (.int base) = true := by
    show (decide (2 ≤ base) && decide (base ≤ 5)) = true
    rw [decide_eq_true h.lo, decide_eq_true h.hi]; rfl
  rw [partsBad_step hb rfl]
  show (if rs.map rowM = [] then _ else _) = _
  rw [if_neg fun e => h.ne (List.map_eq_nil_iff.mp e), List.findIdx?_eq_none_iff.mpr fun z hz => ?_]
  · rfl
  · obtain ⟨r, hr, rfl⟩ := List.mem_map.mp hz
    obtain ⟨h1, h2⟩ := h.row r hr
    rw [List.length_map]
    have e1 : tupOf (2 * base - 1) (rowM r) = true := by
      show decide (((r.map pairD).length : Int) = 2 * base - 1) = true
      rw [List.length_map, decide_eq_true h1]
    have e2 : (tupL (rowM r)).all (pairOk rs.length) = true := List.all_eq_true.mpr fun y hy => by
      obtain ⟨q, hq, rfl⟩ := List.mem_map.mp hy
      show pairOk rs.length (.tup [.int q.1, .int (q.2 : Int)]) = true
      rw [pairOk_int, decide_eq_true (by omega), decide_eq_true (by have := h2 q hq; omega)]; rfl
    unfold rowOk
    rw [e1, e2]; rfl
/-! ### the law -/
theorem law_mark : True := trivial
theorem mem_cut {xs : List D} {lo hi : Option Int} {y : D} (h : y ∈ Cal.cutD xs lo hi) : y ∈ xs := by
  unfold Cal.cutD at h
  exact List.mem_of_mem_drop (List.mem_of_mem_take h)
theorem cut_len {xs : List D} {lo hi : Option Int} : (Cal.cutD xs lo hi).length ≤ xs.length := by
  unfold Cal.cutD
  rw [List.length_take, List.length_drop]
  omega
theorem dig_item {base : Int} {xs : List Int} (h1 : 2 ≤ base) (h2 : base ≤ 5) (h : Dig base xs) {mgx : Str → Option Value} {y : D} (hy : y ∈ xs.map D.int) (n : Nat) : TV mgx n y := by
  obtain ⟨i, hi, rfl⟩ := List.mem_map.mp hy
  have := h i hi
  exact tv_int ((Bd.small (k := 64) (by omega)).mono (by decide)) n
theorem tv_dig {base : Int} {xs : List Int} (h1 : 2 ≤ base) (h2 : base ≤ 5) (h : Dig base xs) (hl : xs.length ≤ 100) {mgx : Str → Option Value} (n : Nat) : TV mgx n (.tup (xs.map D.int)) := tv_t0 (by rw [List.length_map]; exact hl) fun m _ y hy => dig_item h1 h2 h hy m
theorem st_ok {rs : List (List (Int × Nat))} {s x : D} {base : Int} (h : isSt rs s = false) : dueD base rs s x = "state" ∧ dueT base rs s x = "state" := ⟨if_pos h, if_pos h⟩
theorem st_on {rs : List (List (Int × Nat))} {s x : D} {base : Int} (h : isSt rs s = true) : dueD base rs s x = (if areG base x = false then ("digits" : Str) else "told") ∧ dueT base rs s x = dueM base x := ⟨if_neg (by rw [h]; decide), if_neg (by rw [h]; decide)⟩
theorem ok_due {rs : List (List (Int × Nat))} {s x : D} {base : Int} : PyData.strOk (dueT base rs s x) = true := by
  unfold dueT dueM
  split
  · exact ok_state
  · split
    · exact ok_writing
    · exact ok_told
theorem ok_law {f c1 c2 P1 P2 : Addr} {fd : FuncData} (T : Txt K mg) (F : FunC K "law" "law" s_law f c1 fd) (FN : SrcC K mg "_law_are_near_refused" s_law_are_near_refused c2) (TB1 : LamX.TabB bs mg c1 P1) (TB2 : LamX.TabB bs mg c2 P2) (ne : P1 ≠ P2) : FnOk P w K mg bs CX0 13 f fd ["script"] (spLawT K [(P1, lamQ), (P2, lamQ2)]) := by
  have D_law_hand := d_law_hand (P := P) (w := w) (bs := bs) T
  obtain ⟨C_Machine, gC_Machine, kC_Machine, nC_Machine, M_Machine⟩ := d_Machine (P := P) (w := w) (bs := bs) T
  have D_law_draw := d_law_draw (P := P) (w := w) (bs := bs) T
  have D_law_any := d_law_any (P := P) (w := w) (bs := bs) T
  have D_law_writing := d_law_writing (P := P) (w := w) (bs := bs) T
  have D_law_is_writing := d_law_is_writing (P := P) (w := w) (bs := bs) T
  have D_law_is_int := d_law_is_int (P := P) (w := w) (bs := bs) T
  have G_law_word := g_law_word (K := K) (mg := mg) T
  have D_law_number := d_law_number (P := P) (w := w) (bs := bs) T
  have D_law_are_near_refused := d_law_are_near_refused (P := P) (w := w) (bs := bs) T FN TB2 ne
  have D_law_odd := d_law_odd (P := P) (w := w) (bs := bs) T
  have D_law_are_digits := d_law_are_digits (P := P) (w := w) (bs := bs) T
  have D_read := d_read (P := P) (w := w) (bs := bs) T
  have D_told := d_told (P := P) (w := w) (bs := bs) T
  have D_makes := d_makes (P := P) (w := w) (bs := bs) T
  have D_made := d_made (P := P) (w := w) (bs := bs) T
  refine F.ok sc_law (fun vs H Q E h => ?_) (fun A outer s H vs Q E hr h => ?_)
  · obtain ⟨a, ns, rfl, _⟩ := h; rfl
  obtain ⟨a, ns, rfl, hS, hl, hT, hQ⟩ := h
  have hu := hu_of hr
  refine ⟨_, (pss_cons (ps_set (i := 1) sc_law.nd rfl (Or.inr rfl) (pe_callR D_law_hand (hr.mono (by decide)) (pa_cons (pv 0) pa_nil)))
      (pss_cons (ps_for PassesOwn.never rfl (pi_range1 rfl T.n_range (pa_cons pe_int pa_nil)) (pg_name (i := 2) sc_law.nd rfl (Or.inl rfl))
      (pss_cons (ps_asg (pe_tup (pa_cons (pe_op op_add pe_int (pe_callK0 (K0 := K) (by rfl) D_law_draw (hr.mono (by decide)) (pa_cons (pv 1) (pa_cons pe_int pa_nil)))) (pa_cons (pe_op op_add pe_int (pe_callK0 (K0 := K) (by rfl) D_law_draw (hr.mono (by decide)) (pa_cons (pv 1) (pa_cons pe_int pa_nil)))) pa_nil))) (pg_tup rfl (pgs_cons (pg_name (i := 3) sc_law.nd rfl (Or.inr rfl)) (pgs_cons (pg_name (i := 4) sc_law.nd rfl (Or.inr rfl)) pgs_nil))))
      (pss_cons (ps_set (i := 5) sc_law.nd rfl (Or.inl rfl) (pe_callTy (call_tupleK (K0 := K) (by rfl)) (by rfl) T.n_tuple (by decide +kernel) (pa_cons (pe_lc (own := [("state", 6)]) (g := (gName 6)) rfl sc_law.nd (pi_range1 rfl T.n_range (pa_cons (pv 4) pa_nil)) (blkOk_by (N := N_law) (sc := defScope s_law) (by decide +kernel)) (fun _ _ _ _ _ => by exact (pg_name (i := 6) sc_law.nd rfl (Or.inl rfl))) (fun _ _ _ _ _ => by exact pts_nil) (fun _ _ _ _ _ => by exact (pe_callTy (call_tupleK (K0 := K) (by rfl)) (by rfl) T.n_tuple (by decide +kernel) (pa_cons (pe_lc (own := [("turn", 2)]) (g := (gName 2)) rfl sc_law.nd (pi_range1 rfl T.n_range (pa_cons (pe_op op_sub (pe_op op_mulA pe_int (pv 3)) pe_int) pa_nil)) (blkOk_by (N := N_law) (by rfl)) (fun _ _ _ _ _ => by exact (pg_name (i := 2) sc_law.nd rfl (Or.inl rfl))) (fun _ _ _ _ _ => by exact pts_nil) (fun _ _ _ _ _ => by exact (pe_tup (pa_cons pe_int (pa_cons (pe_callK0 (K0 := K) (by rfl) D_law_draw (hr.mono (by decide)) (pa_cons (pv 1) (pa_cons (pv 4) pa_nil))) pa_nil))))) pa_nil)))) pa_nil)))
      (pss_cons (ps_set (i := 7) sc_law.nd rfl (Or.inr rfl) (pe_mk0 M_Machine (hr.mono (by decide)) (pa_cons (pv 3) (pa_cons pe_int (pa_cons (pv 5) pa_nil)))))
      (pss_cons (ps_set (i := 6) sc_law.nd rfl (Or.inr rfl) (pe_callK0 (K0 := K) (by rfl) D_law_draw (hr.mono (by decide)) (pa_cons (pv 1) (pa_cons (pv 4) pa_nil))))
      (pss_cons (ps_if (pt_cmpR op_eq (pe_callK0 (K0 := K) (by rfl) D_law_draw (hr.mono (by decide)) (pa_cons (pv 1) (pa_cons pe_int pa_nil))) pe_int (nomark _)) (pss_one (ps_set (i := 6) sc_law.nd rfl (Or.inr rfl) (pe_callK0 (K0 := K) (by rfl) D_law_any (hr.mono (by decide)) (pa_cons (pv 1) (pa_cons (pe_lst (pa_cons (pv 4) (pa_cons (pe_un un_neg pe_int) (pa_cons pe_bl (pa_cons pe_non (pa_cons pe_str (pa_cons (pe_tup (pa_cons pe_int pa_nil)) (pa_cons pe_dnewK pa_nil)))))))) pa_nil))))) pss_nil)
      (pss_cons (ps_set (i := 8) sc_law.nd rfl (Or.inl rfl) (pe_and (pe_callK0 (K0 := K) (by rfl) D_law_is_int (hr.mono (by decide)) (pa_cons (pv 6) pa_nil)) (pe_one (pe_chain op_le op_lt pe_int (pv 6) (pv 4)))))
      (pss_cons (ps_setLc (i := 9) (own := [("turn", 2)]) (g := (gName 2)) rfl sc_law.nd rfl rfl (sw_true rfl rfl rfl (by decide +kernel)) (pi_range1 rfl T.n_range (pa_cons (pe_callK0 (K0 := K) (by rfl) D_law_draw (hr.mono (by decide)) (pa_cons (pv 1) (pa_cons pe_int pa_nil))) pa_nil)) (blkOk_by (N := N_law) (sc := defScope s_law) (by decide +kernel)) (fun _ _ _ _ _ => by exact (pg_name (i := 2) sc_law.nd rfl (Or.inl rfl))) (fun _ _ _ _ _ => by exact pts_nil) (fun _ _ _ _ _ => by exact (pe_op op_sub (pe_op op_add (pe_callK0 (K0 := K) (by rfl) D_law_draw (hr.mono (by decide)) (pa_cons (pv 1) (pa_cons (pe_op op_sub (pe_op op_mulA pe_int (pv 3)) pe_int) pa_nil))) pe_int) (pv 3))))
      (pss_cons (ps_set (i := 9) sc_law.nd rfl (Or.inl rfl) (pe_op op_cat (pv 9) (pe_op op_rep (pe_lst (pa_cons (pe_callK0 (K0 := K) (by rfl) D_law_odd (hr.mono (by decide)) (pa_cons (pv 1) (pa_cons (pv 3) pa_nil))) pa_nil)) (pe_callTy call_int1 (by rfl) T.n_int (by decide +kernel) (pa_cons (pe_cmpR op_eq (pe_callK0 (K0 := K) (by rfl) D_law_draw (hr.mono (by decide)) (pa_cons (pv 1) (pa_cons pe_int pa_nil))) pe_int (nomark _)) pa_nil)))))
      (pss_cons (ps_set (i := 10) sc_law.nd rfl (Or.inr rfl) (pe_callK0 (K0 := K) (by rfl) D_law_any (hr.mono (by decide)) (pa_cons (pv 1) (pa_cons (pe_lst (pa_cons (pv 9) (pa_cons (pe_callTy (call_tupleK (K0 := K) (by rfl)) (by rfl) T.n_tuple (by decide +kernel) (pa_cons (pv 9) pa_nil)) (pa_cons (pe_callK0 (K0 := K) (by rfl) D_law_odd (hr.mono (by decide)) (pa_cons (pv 1) (pa_cons (pv 3) pa_nil))) pa_nil)))) pa_nil))))
      (pss_cons (ps_set (i := 11) sc_law.nd rfl (Or.inl rfl) (pe_ifExp (pt_not (pt_val (pv 8))) pe_str (pe_ifExp (pt_val (pe_callK0 (K0 := K) (by rfl) D_law_are_digits (hr.mono (by decide)) (pa_cons (pv 3) (pa_cons (pv 10) pa_nil)))) pe_str pe_str)))
      (pss_cons (ps_if (pt_cmpR op_ne (pe_lamNT (k := 8) (T := [(P1, lamQ), (P2, lamQ2)]) (t := fun E => tCallS (spX K mg (S_read mg)) (L2.WE fun cls d _ H => E cls d H) (tCons (tVar 7) (tCons (tVar 6) (tCons (tVar 10) tNil)))) T.s_law_word sc_law_word (fun _ _ _ _ _ _ us hl => match us, hl with | [_], _ => rfl) rfl (Or.inl rfl) (fun g cdg => G_law_word _ rfl rfl _ g cdg) TB1 rfl (.head _) (in_two ne).1 (hr.mono (by decide)) (LamX.lamS_by (sc := defScope s_law) (by decide +kernel)) rfl (fun _ _ _ _ _ => rfl) (fun A outer s H E f c' hr2 => by exact pe_callN D_read (hr2.mono (by decide)) (L2N.takes_of rfl rfl rfl rfl) (pa_cons (pv 7) (pa_cons (pv 6) (pa_cons (pv 10) pa_nil))))) (pv 11) (nomark _)) (pss_one (ps_ret pe_bl)) pss_nil)
      (pss_cons (ps_set (i := 12) sc_law.nd rfl (Or.inl rfl) (pe_callK0 (K0 := K) (by rfl) D_law_writing (hr.mono (by decide)) (pa_cons (pv 1) (pa_cons (pv 3) (pa_cons (pe_callK0 (K0 := K) (by rfl) D_law_number (hr.mono (by decide)) (pa_cons (pv 1) pa_nil)) pa_nil)))))
      (pss_cons (ps_set (i := 13) sc_law.nd rfl (Or.inl rfl) (pe_tup (pa_cons (pe_ix (ix_tupK (K0 := K) (by rfl)) (pv 12) pe_int (fun _ _ => rfl)) (pa_cons (pe_op (op_catK (K0 := K) (by rfl)) (pe_slice (sl_tupK (K0 := K) (by rfl)) (pe_ix (ix_tupK (K0 := K) (by rfl)) (pv 12) pe_int (fun _ _ => rfl)) po_none (po_some (pe_un un_neg pe_int))) (pe_tup (pa_cons (pe_callK0 (K0 := K) (by rfl) D_law_any (hr.mono (by decide)) (pa_cons (pv 1) (pa_cons (pe_lst (pa_cons (pv 3) (pa_cons (pe_op op_sub pe_int (pv 3)) (pa_cons pe_non (pa_cons pe_bl pa_nil))))) pa_nil))) pa_nil))) pa_nil))))
      (pss_cons (ps_set (i := 10) sc_law.nd rfl (Or.inr rfl) (pe_callK0 (K0 := K) (by rfl) D_law_any (hr.mono (by decide)) (pa_cons (pv 1) (pa_cons (pe_lst (pa_cons (pv 12) (pa_cons (pv 12) (pa_cons (pv 13) (pa_cons (pe_tup (pa_cons (pe_ix (ix_tupK (K0 := K) (by rfl)) (pv 12) pe_int (fun _ _ => rfl)) (pa_cons (pe_tup pa_nil) pa_nil))) (pa_cons (pe_callTy (call_listK (K0 := K) (by rfl)) (by rfl) T.n_list (by decide +kernel) (pa_cons (pv 12) pa_nil)) (pa_cons (pe_op (op_catK (K0 := K) (by rfl)) (pv 12) (pe_tup (pa_cons pe_int pa_nil))) (pa_cons (pe_callK0 (K0 := K) (by rfl) D_law_odd (hr.mono (by decide)) (pa_cons (pv 1) (pa_cons (pv 3) pa_nil))) pa_nil)))))))) pa_nil))))
      (pss_cons (ps_set (i := 14) sc_law.nd rfl (Or.inl rfl) (pe_callK0 (K0 := K) (by rfl) D_law_is_writing (hr.mono (by decide)) (pa_cons (pv 3) (pa_cons (pv 10) pa_nil))))
      (pss_cons (ps_set (i := 11) sc_law.nd rfl (Or.inl rfl) (pe_ifExp (pt_not (pt_val (pv 8))) pe_str (pe_ifExp (pt_val (pv 14)) pe_str pe_str)))
      (pss_cons (ps_set (i := 15) sc_law.nd rfl (Or.inl rfl) (pe_lst (pa_cons (pe_lamNT (k := 9) (T := [(P1, lamQ), (P2, lamQ2)]) (t := fun E => tCallS (spX K mg (S_told mg)) (L2.WE fun cls d _ H => E cls d H) (tCons (tVar 7) (tCons (tVar 6) (tCons (tVar 10) tNil)))) T.s_law_word sc_law_word (fun _ _ _ _ _ _ us hl => match us, hl with | [_], _ => rfl) rfl (Or.inl rfl) (fun g cdg => G_law_word _ rfl rfl _ g cdg) TB1 rfl (.head _) (in_two ne).1 (hr.mono (by decide)) (LamX.lamS_by (sc := defScope s_law) (by decide +kernel)) rfl (fun _ _ _ _ _ => rfl) (fun A outer s H E f c' hr2 => by exact pe_callN D_told (hr2.mono (by decide)) (L2N.takes_of rfl rfl rfl rfl) (pa_cons (pv 7) (pa_cons (pv 6) (pa_cons (pv 10) pa_nil))))) pa_nil)))
      (pss_cons (ps_expr (pe_bm PySem.F.plainAttrs_list PySem.F.slot_list_append PySem.F.type_list_append mt_append (pv 15) (pa_cons (pe_lamNT (k := 9) (T := [(P1, lamQ), (P2, lamQ2)]) (t := fun E => tCallS (spX K mg (S_makes mg)) (L2.WE fun cls d _ H => E cls d H) (tCons (tVar 7) (tCons (tVar 6) (tCons (tVar 10) tNil)))) T.s_law_word sc_law_word (fun _ _ _ _ _ _ us hl => match us, hl with | [_], _ => rfl) rfl (Or.inl rfl) (fun g cdg => G_law_word _ rfl rfl _ g cdg) TB1 rfl (.head _) (in_two ne).1 (hr.mono (by decide)) (LamX.lamS_by (sc := defScope s_law) (by decide +kernel)) rfl (fun _ _ _ _ _ => rfl) (fun A outer s H E f c' hr2 => by exact pe_callN D_makes (hr2.mono (by decide)) (L2N.takes_of rfl rfl rfl rfl) (pa_cons (pv 7) (pa_cons (pv 6) (pa_cons (pv 10) pa_nil))))) pa_nil)))
      (pss_cons (ps_if (pt_cmpR (op_neK (K0 := K) (by rfl) hr.units) (pv 15) (pe_lst (pa_cons (pv 11) (pa_cons (pv 11) pa_nil))) (nomark _)) (pss_one (ps_ret pe_bl)) pss_nil)
      (pss_cons (ps_if (pt_cmpR op_ne (pe_lamNT (k := 9) (T := [(P1, lamQ), (P2, lamQ2)]) (t := fun E => tCallS (spX K mg (S_made mg)) (L2.WE fun cls d _ H => E cls d H) (tCons (tVar 7) (tCons (tVar 10) tNil))) T.s_law_word sc_law_word (fun _ _ _ _ _ _ us hl => match us, hl with | [_], _ => rfl) rfl (Or.inl rfl) (fun g cdg => G_law_word _ rfl rfl _ g cdg) TB1 rfl (.head _) (in_two ne).1 (hr.mono (by decide)) (LamX.lamS_by (sc := defScope s_law) (by decide +kernel)) rfl (fun _ _ _ _ _ => rfl) (fun A outer s H E f c' hr2 => by exact pe_callN D_made (hr2.mono (by decide)) (L2N.takes_of rfl rfl rfl rfl) (pa_cons (pv 7) (pa_cons (pv 10) pa_nil)))) (pe_ifExp (pt_val (pv 14)) pe_str pe_str) (nomark _)) (pss_one (ps_ret pe_bl)) pss_nil)
      (pss_one (ps_if (pt_not (pt_val (pe_callT0 (K0 := K) (by rfl) D_law_are_near_refused (hr.mono (by decide)) (pa_cons (pv 7) pa_nil)))) (pss_one (ps_ret pe_bl)) pss_nil)))))))))))))))))))))))
      (pss_one (ps_ret pe_bl)))), ?_⟩
  refine ⟨.ref a, rfl, a, ns, rfl, hS, hl, fun h c' H' ex hne hh hc => ?_⟩
  dsimp only
  refine law_go1T (K := K) (a := a) (T := [(P1, lamQ), (P2, lamQ2)]) (ts := tSeq (tFor _ _ _) (tRet _)) 14 hne hl hh hc (fun H0 G0 => ?_) hQ (hT.ext ex)
  refine ws_seq (ws_for1 (wa_cons (we_int (wa_nil ⟨8, rfl, by decide, by decide, fun k ρ => ∃ r2 r3 r4 r5 r6 r7 r8 r9 r10 r11 r12 r13 r14 r15 : Option Cell, ρ = [none, some (.d .hand), r2, r3, r4, r5, r6, r7, r8, r9, r10, r11, r12, r13, r14, r15], ⟨_, _, _, _, _, _, _, _, _, _, _, _, _, _, rfl⟩, ?_, ?_⟩))))
  · rintro k ρ hk ⟨r2, r3, r4, r5, r6, r7, r8, r9, r10, r11, r12, r13, r14, r15, rfl⟩
    have tI : ∀ i : Int, Ty (.int i) := fun i => ⟨_, rfl⟩
    refine wg_name (ws_seq (ws_asgG (we_tup (wa_cons (we_I0 (we_int ⟨_, rfl, we_call (wa_cons (we_var rfl (wa_cons (we_int (wa_nil (⟨4, rfl, by decide, by decide, fun b0 hb0 hb1 => ⟨_, rfl, wa_cons (we_I0 (we_int ⟨_, rfl, we_call (wa_cons (we_var rfl (wa_cons (we_int (wa_nil (⟨4, rfl, by decide, by decide, fun m0 hm0 hm1 => ⟨_, rfl, wa_nil ⟨len2, ?_⟩⟩⟩))))))⟩))⟩⟩))))))⟩))))))
    refine wg_tup ⟨_, rfl, rfl, wgs_cons ⟨_, _, rfl, wg_name (wgs_cons ⟨_, _, rfl, wg_name (wgs_nil ⟨rfl, ?_⟩)⟩)⟩⟩
    dsimp only [inj]
    obtain ⟨base, hbase⟩ : ∃ b : Int, b = 2 + b0 := ⟨_, rfl⟩
    obtain ⟨many, hmany⟩ : ∃ b : Int, b = 1 + m0 := ⟨_, rfl⟩
    have hb1 : 2 ≤ base := by omega
    have hb2 : base ≤ 5 := by omega
    have hm1' : 1 ≤ many := by omega
    have hm2' : many ≤ 4 := by omega
    rw [← hbase, ← hmany]
    clear hbase hmany
    -- rows
    refine ws_seq (ws_asg (we_tupleOf (we_F (wf_lc1 (wa_cons (we_var rfl (wa_nil ⟨many, rfl, by omega, by omega, fun j acc => ∃ rs : List (List (Int × Nat)), acc = rs.map rowM ∧ rs.length = j ∧ ∀ r ∈ rs, (r.length : Int) = 2 * base - 1 ∧ ∀ q ∈ r, q.1 = 0 ∧ (q.2 : Int) < many, ⟨[], rfl, rfl, fun r h => nomatch h⟩, ?_, ?_⟩)))))))
    · rintro j acc hj ⟨rs, rfl, hl2, hrs⟩ _
      refine wgp_name ?_ ?_
      · decide
      refine wt_yes ?_
      rw [if_pos rfl]
      refine we_tupleOf (we_F (wf_lc1 (wa_cons (we_I0 (we_I (we_int ⟨_, rfl, we_var rfl ⟨_, rfl, .inl (by omega), _, rfl, we_int ⟨_, rfl, wa_nil ⟨2 * base - 1, rfl, by omega, by omega, fun i acc => ∃ r : List (Int × Nat), acc = r.map pairD ∧ r.length = i ∧ ∀ q ∈ r, q.1 = 0 ∧ (q.2 : Int) < many, ⟨[], rfl, rfl, fun q h => nomatch h⟩, ?_, ?_⟩⟩⟩⟩))))))
      · rintro i acc hi ⟨r, rfl, hl3, hr⟩ _
        refine wgp_name ?_ ?_
        · decide
        refine wt_yes ?_
        rw [if_pos rfl]
        refine we_tup (wa_cons (we_int (wa_cons (we_call (wa_cons (we_var rfl (wa_cons (we_var rfl (wa_nil (⟨many, rfl, by omega, by omega, fun d hd0 hd1 => wa_nil ⟨len2, ?_⟩⟩))))))))))
        refine ⟨r ++ [(0, d.toNat)], ?_, by rw [List.length_append, hl3]; rfl, fun q hq => ?_⟩
        · rw [List.map_append]
          show _ = _ ++ [D.tup [.int 0, .int ((d.toNat : Nat) : Int)]]
          rw [show ((d.toNat : Nat) : Int) = d by omega]
        · rcases List.mem_append.mp hq with h | h
          · exact hr q h
          · rw [List.mem_singleton.mp h]; exact ⟨rfl, by dsimp only; omega⟩
      · rintro acc ⟨r, rfl, hl3, hr⟩
        refine ⟨_, .inl rfl, rs ++ [r], ?_, by rw [List.length_append, hl2]; rfl, fun q hq => ?_⟩
        · rw [List.map_append]; rfl
        · rcases List.mem_append.mp hq with h | h
          · exact hrs q h
          · rw [List.mem_singleton.mp h]; exact ⟨by omega, hr⟩
    rintro acc ⟨rs, rfl, hl2, hrs⟩
    refine ⟨_, .inl rfl, ?_⟩
    have hmn : many = (rs.length : Int) := by omega
    subst hmn
    have hM : Mach base rs := ⟨hb1, hb2, fun e => (by rw [e] at hm1'; simp at hm1'), by omega, fun r hr => ⟨(hrs r hr).1, fun q hq => by have := ((hrs r hr).2 q hq).2; omega⟩⟩
    have h4 : rs.length ≤ 4 := by omega
    have hi : Items rs := fun r hr q hq => by rw [((hrs r hr).2 q hq).1]; decide
    have good := mach_good (first := 0) hM
    have hT3 : TyN 3 (rowsM rs) := tyN_tup (by rw [List.length_map]; omega) fun y hy => by
      obtain ⟨r, hr, rfl⟩ := List.mem_map.mp hy
      exact tyN_row (by have := (hM.row r hr).1; omega) 0
    refine ws_seq (ws_asg (we_mk (wa_cons (we_var rfl (wa_cons (we_int (wa_cons (we_var rfl (wa_nil ⟨.int base, .int 0, rowsM rs, rfl, tI _, tI _, hT3, fun _ => ?_, fun y e => (by rw [good] at e; cases e)⟩)))))))))
    -- state
    refine ws_seq (ws_asg (we_call (wa_cons (we_var rfl (wa_cons (we_var rfl (wa_nil (⟨(rs.length : Int), rfl, by omega, by omega, fun s0 hs0 hs1 => ?_⟩))))))))
    refine ws_seq (ws_to (fun ρ => ∃ st : D, (Ty st ∧ ∀ i, st = .int i → -1 ≤ i ∧ i ≤ 4) ∧ ρ = [none, some (.d .hand), some (.d (.int (k : Int))), some (.d (.int base)), some (.d (.int (rs.length : Int))), some (.d (rowsM rs)), some (.d (st)), some (.d (machD C_Machine base 0 rs)), r8, r9, r10, r11, r12, r13, r14, r15]) ?_ ?_)
    · refine ws_if (wt_T (we_eqI (we_call (wa_cons (we_var rfl (wa_cons (we_int (wa_nil (⟨3, rfl, by decide, by decide, fun d _ _ => ⟨_, rfl, we_int ⟨_, rfl, _, rfl, ?_⟩⟩⟩)))))))))
      refine ite2 (fun _ => ?_) (fun _ => ?_)
      · refine ws_asg (we_call (wa_cons (we_var rfl (wa_cons (we_lst (wa_cons (we_var rfl (wa_cons (we_U (we_int ⟨_, rfl, wa_cons (we_bl (wa_cons (we_non (wa_cons (we_str (wa_cons (we_tup (wa_cons (we_int (wa_nil ⟨Nat.le_of_ble_eq_true rfl, wa_cons (we_F (wf_dK (wa_nil ⟨Nat.le_of_ble_eq_true rfl, wa_nil ⟨_, rfl, by simp, by simp, fun y hy => ⟨y, ?_, rfl⟩⟩⟩)))⟩))))))))))⟩))))))))))
        simp only [List.mem_cons, List.not_mem_nil, or_false] at hy
        rcases hy with rfl | rfl | rfl | rfl | rfl | rfl | rfl <;> exact ⟨⟨_, rfl⟩, fun i e => by first | (cases e; done) | (cases e; omega)⟩
      · exact ws_next ⟨_, ⟨tI _, fun i e => by cases e; omega⟩, rfl⟩
    rintro ρ ⟨st, ⟨tst, hst⟩, rfl⟩
    have t0st : T0 mg st := ⟨.inl tst, fun i e => (Bd.small (k := 64) (by have := hst i e; omega)).mono (by decide)⟩
    refine ws_seq (ws_to (fun ρ => ρ = [none, some (.d .hand), some (.d (.int (k : Int))), some (.d (.int base)), some (.d (.int (rs.length : Int))), some (.d (rowsM rs)), some (.d (st)), some (.d (machD C_Machine base 0 rs)), some (.d (.bl (isSt rs st))), r9, r10, r11, r12, r13, r14, r15]) (ws_asg (we_andV (we_call (wa_cons (we_var rfl (wa_nil (⟨st, rfl, t0st, _, rfl, fun h1 => ?_, fun h1 => ?_⟩))))))) ?_)
    · obtain ⟨i, rfl⟩ : ∃ i, st = D.int i := by cases st <;> first | exact ⟨_, rfl⟩ | cases h1
      refine we_chain (we_int ⟨_, rfl, we_var rfl ⟨_, rfl, fun h2 => we_var rfl ⟨_, rfl, ?_⟩, fun h2 => ?_⟩⟩)
      · have e : isSt rs (.int i) = decide (i < (rs.length : Int)) := by
          show (decide (0 ≤ i) && decide (i ≤ (rs.length : Int) - 1)) = _
          rw [h2, Bool.true_and]
          exact decide_eq_decide.mpr (by omega)
        dsimp only
        rw [e]
        rfl
      · have e : isSt rs (.int i) = false := by
          show (decide (0 ≤ i) && decide (i ≤ (rs.length : Int) - 1)) = false
          rw [h2, Bool.false_and]
        dsimp only
        rw [e]
        rfl
    · have e : isSt rs st = false := by cases st <;> first | rfl | cases h1
      dsimp only
      rw [e]
      rfl
    rintro ρ rfl
    -- digits
    refine ws_seq (ws_asgF (wf_lc1 (wa_cons (we_call (wa_cons (we_var rfl (wa_cons (we_int (wa_nil (⟨4, rfl, by decide, by decide, fun n0 hn0 hn1 => wa_nil ⟨n0, rfl, by omega, by omega, fun j acc => (∀ y ∈ acc, ∀ n, TV mg n y) ∧ acc.length = j, ⟨(fun y h => nomatch h), rfl⟩, ?_, ?_⟩⟩))))))))))
    · rintro j acc hj ⟨hacc, hlen⟩ _
      refine wgp_name ?_ ?_
      · decide
      refine wt_yes ?_
      rw [if_pos rfl]
      refine we_I0 (we_I0 (we_call (wa_cons (we_var rfl (wa_cons (we_I0 (we_I (we_int ⟨_, rfl, we_var rfl ⟨_, rfl, .inl (by omega), _, rfl, we_int ⟨_, rfl, wa_nil ⟨2 * base - 1, rfl, by omega, by omega, fun f0 hf1 hf2 => ?_⟩⟩⟩⟩))))))))
      refine ⟨_, rfl, we_int ⟨_, rfl, _, rfl, we_var rfl ⟨_, rfl, fun y hy n => ?_, by rw [List.length_append, hlen]; rfl⟩⟩⟩
      rcases List.mem_append.mp hy with h | h
      · exact hacc y h n
      · rw [List.mem_singleton.mp h]
        exact tv_int ((Bd.small (k := 64) (by omega)).mono (by decide)) n
    rintro acc ⟨hacc, hlen⟩
    have key : ∀ (od : D) (fl : Bool), (∀ n, TV mg n od) → (List.replicate (if fl = true then (1 : Int) else 0).toNat [od]).flatten.length ≤ 1 ∧ ∀ y ∈ (List.replicate (if fl = true then (1 : Int) else 0).toNat [od]).flatten, ∀ n, TV mg n y := fun od fl ho => by
      cases fl
      · exact ⟨Nat.zero_le _, fun y hy => nomatch hy⟩
      · refine ⟨Nat.le_refl _, fun y hy => ?_⟩
        have e : y = od := by simpa using hy
        rw [e]; exact ho
    refine ws_freeze 9 rfl rfl (ws_seq (ws_asg (we_F (wf_catL (we_var rfl ⟨_, rfl, we_repL (we_lst (wa_cons (we_call (wa_cons (we_var rfl (wa_cons (we_var rfl (wa_nil (⟨base, rfl, hb1, hb2, fun od hod => wa_nil ⟨Nat.le_of_ble_eq_true rfl, _, rfl, we_intB (we_eqI (we_call (wa_cons (we_var rfl (wa_cons (we_int (wa_nil (⟨4, rfl, by decide, by decide, fun d2 _ _ => ⟨_, rfl, we_int ⟨_, rfl, _, rfl, ?_⟩⟩⟩))))))))⟩⟩)))))))))⟩)))))
    generalize decide (d2 = 0) = fl
    obtain ⟨k1, k2⟩ := key od fl hod
    refine ⟨_, rfl, by cases fl <;> decide, by cases fl <;> decide, by cases fl <;> exact Nat.le_of_ble_eq_true rfl, _, rfl, by omega, ?_⟩
    generalize (List.replicate (if fl = true then (1 : Int) else 0).toNat [od]).flatten = l2 at k1 k2 ⊢
    obtain ⟨dg, hdg⟩ : ∃ l : List D, l = acc ++ l2 := ⟨_, rfl⟩
    have dl : dg.length ≤ 100 := by rw [hdg, List.length_append]; omega
    have dt : ∀ y ∈ dg, ∀ n, TV mg n y := fun y hy => by
      rw [hdg] at hy
      rcases List.mem_append.mp hy with h | h
      · exact hacc y h
      · exact k2 y h
    rw [← hdg]
    clear hdg
    refine ws_seq (ws_asg (we_call (wa_cons (we_var rfl (wa_cons (we_lst (wa_cons (we_var rfl (wa_cons (we_tupleOf (we_var rfl ⟨_, .inl rfl, wa_cons (we_call (wa_cons (we_var rfl (wa_cons (we_var rfl (wa_nil (⟨base, rfl, hb1, hb2, fun o2 ho2 => wa_nil ⟨Nat.le_of_ble_eq_true rfl, wa_nil (⟨_, rfl, by simp, by simp, fun th hth => ?_⟩)⟩⟩)))))))⟩)))))))))))
    have tth : ∀ n, TV mg n th := by
      simp only [List.mem_cons, List.not_mem_nil, or_false] at hth
      rcases hth with rfl | rfl | rfl
      · exact fun n => tv_lst dl fun m _ y h => dt y h m
      · exact fun n => tv_t0 dl fun m _ y h => dt y h m
      · exact ho2
    clear hth
    refine ws_seq (ws_to (fun ρ => ρ = [none, some (.d .hand), some (.d (.int (k : Int))), some (.d (.int base)), some (.d (.int (rs.length : Int))), some (.d (rowsM rs)), some (.d (st)), some (.d (machD C_Machine base 0 rs)), some (.d (.bl (isSt rs st))), some (.d (.lst dg)), some (.d (th)), some (.d (.str (dueD base rs st th))), r12, r13, r14, r15]) (ws_asg (we_if (wt_not (wt_B (we_var rfl ⟨_, rfl, ?_⟩))))) ?_)
    · cases hs : isSt rs st with
      | false =>
        rw [(st_ok hs).1]
        exact we_str rfl
      | true =>
        rw [(st_on hs).1]
        refine we_if (wt_B (we_call (wa_cons (we_var rfl (wa_cons (we_var rfl (wa_nil (⟨base, th, rfl, (tth 1).1, fun xs e => ⟨by have := ((tth 1).2 xs e).1; omega, ((tth 1).2 xs e).2⟩, _, rfl, ?_⟩))))))))
        cases hd : areG base th with
        | false => exact we_str rfl
        | true => exact we_str rfl
    rintro ρ rfl
    refine ws_seq (ws_if (wt_T (we_neS (we_lamK rfl (wa_cons (we_var rfl (wa_cons (we_var rfl (wa_cons (we_var rfl (wa_nil (read_of hM tst (tth 1) ⟨_, rfl, we_var rfl ⟨_, rfl, _, rfl, ?_⟩⟩))))))))))))
    rw [decide_eq_true rfl, if_neg (by decide)]
    -- row
    refine ws_next (ws_seq (ws_asg (we_call (wa_cons (we_var rfl (wa_cons (we_var rfl (wa_cons (we_call (wa_cons (we_var rfl (wa_nil (⟨rfl, fun t b hn hb => wa_nil (⟨base, t, b, rfl, hb1, hb2, hn, hb, fun ps qs dp dq hne2 hlen2 => ?_⟩)⟩)))))))))))))
    have tp : ∀ n, TV mg n (.tup (ps.map D.int)) := tv_dig hb1 hb2 dp (by omega)
    have tq : ∀ n, TV mg n (.tup (qs.map D.int)) := tv_dig hb1 hb2 dq (by omega)
    refine ws_seq (ws_asg (we_tup (wa_cons (we_ixT (we_var rfl ⟨_, rfl, we_int ⟨0, _, rfl, rfl, wa_cons (we_catT (we_slT (we_ixT (we_var rfl ⟨_, rfl, we_int ⟨1, _, rfl, rfl, _, rfl, wo_none (wo_some (we_U (we_int ⟨_, rfl, _, rfl, _, rfl, we_tup (wa_cons (we_call (wa_cons (we_var rfl (wa_cons (we_lst (wa_cons (we_var rfl (wa_cons (we_I0 (we_int ⟨_, rfl, we_var rfl ⟨_, rfl, wa_cons (we_non (wa_cons (we_bl (wa_nil ⟨Nat.le_of_ble_eq_true rfl, wa_nil (⟨_, rfl, by simp, by simp, fun bo hbo => wa_nil ⟨Nat.le_of_ble_eq_true rfl, _, rfl, ?_, wa_nil ⟨len2, ?_⟩⟩⟩)⟩))))⟩⟩)))))))))))⟩)))⟩⟩))))⟩⟩)))))
    · show _ + 1 ≤ _
      have := cut_len (xs := qs.map D.int) (lo := none) (hi := some (-1))
      rw [List.length_map] at this
      exact Nat.le_trans (Nat.add_le_add_right this 1) (by omega)
    have tbo : ∀ n, TV mg n bo := by
      simp only [List.mem_cons, List.not_mem_nil, or_false] at hbo
      rcases hbo with rfl | rfl | rfl | rfl
      · exact fun n => tv_int ((Bd.small (k := 64) (by omega)).mono (by decide)) n
      · exact fun n => tv_int ((Bd.small (k := 64) (by omega)).mono (by decide)) n
      · exact tv_non
      · exact tv_bl _
    generalize hcut : Cal.cutD (qs.map D.int) none (some _) = cq
    have cl : cq.length ≤ 70 := by
      rw [← hcut]
      refine Nat.le_trans cut_len ?_
      rw [List.length_map]; omega
    have ct : ∀ y ∈ cq, ∀ n, TV mg n y := fun y hy n => by
      rw [← hcut] at hy
      exact dig_item hb1 hb2 dq (mem_cut hy) n
    have tbent : ∀ n, TV mg n (.tup (cq ++ [bo])) := fun n => tv_t0 (by rw [List.length_append]; show _ + 1 ≤ _; omega) fun m _ y h => by
      rcases List.mem_append.mp h with h | h
      · exact ct y h m
      · rw [List.mem_singleton.mp h]; exact tbo m
    refine ws_seq (ws_asg (we_call (wa_cons (we_var rfl (wa_cons (we_lst (wa_cons (we_var rfl (wa_cons (we_var rfl (wa_cons (we_var rfl (wa_cons (we_tup (wa_cons (we_ixT (we_var rfl ⟨_, rfl, we_int ⟨0, _, rfl, rfl, wa_cons (we_tup (wa_nil ⟨Nat.le_of_ble_eq_true rfl, wa_nil ⟨len2, wa_cons (we_F (wf_listOf (we_var rfl ⟨_, .inr rfl, wa_cons (we_catT (we_var rfl ⟨_, rfl, we_tup (wa_cons (we_int (wa_nil ⟨Nat.le_of_ble_eq_true rfl, _, rfl, Nat.le_of_ble_eq_true rfl, wa_cons (we_call (wa_cons (we_var rfl (wa_cons (we_var rfl (wa_nil (⟨base, rfl, hb1, hb2, fun o3 ho3 => wa_nil ⟨Nat.le_of_ble_eq_true rfl, wa_nil (⟨_, rfl, by simp, by simp, fun t2 ht2 => ?_⟩)⟩⟩)))))))⟩)))⟩))⟩)))⟩⟩))⟩⟩)))))))))))))))))
    have tt2 : ∀ n, TV mg n t2 := by
      have two : ∀ n, TV mg n (rowD ps qs) := fun n => tv_two tp tq
      simp only [List.mem_cons, List.not_mem_nil, or_false] at ht2
      rcases ht2 with rfl | rfl | rfl | rfl | rfl | rfl | rfl
      · exact two
      · exact two
      · exact fun n => tv_two tp tbent
      · exact fun n => tv_two tp tv_nil
      · refine fun n => tv_lst (Nat.le_of_ble_eq_true rfl) fun m _ y h => ?_
        simp only [List.mem_cons, List.not_mem_nil, or_false] at h
        rcases h with rfl | rfl
        · exact tp m
        · exact tq m
      · refine fun n => tv_t0 (Nat.le_of_ble_eq_true rfl) fun m _ y h => ?_
        simp only [List.cons_append, List.nil_append, List.mem_cons, List.not_mem_nil, or_false] at h
        rcases h with rfl | rfl | rfl
        · exact tp m
        · exact tq m
        · exact tv_int (by decide) m
      · exact ho3
    clear ht2
    refine ws_seq (ws_asg (we_call (wa_cons (we_var rfl (wa_cons (we_var rfl (wa_nil (⟨base, t2, rfl, tt2 2, ?_⟩))))))))
    refine ws_seq (ws_to (fun ρ => ρ = [none, some (.d .hand), some (.d (.int (k : Int))), some (.d (.int base)), some (.d (.int (rs.length : Int))), some (.d (rowsM rs)), some (.d (st)), some (.d (machD C_Machine base 0 rs)), some (.d (.bl (isSt rs st))), some (.d (.lst dg)), some (.d (t2)), some (.d (.str (dueT base rs st t2))), some (.d (rowD ps qs)), some (.d (.tup [.tup (ps.map D.int), .tup (cq ++ [bo])])), some (.d (.bl (isRD base t2))), r15]) (ws_asg (we_if (wt_not (wt_B (we_var rfl ⟨_, rfl, ?_⟩))))) ?_)
    · cases hs : isSt rs st with
      | false =>
        rw [(st_ok hs).2]
        exact we_str rfl
      | true =>
        rw [(st_on hs).2]
        unfold dueM
        refine we_if (wt_B (we_var rfl ⟨_, rfl, ?_⟩))
        cases hd : isRD base t2 with
        | false => exact we_str rfl
        | true => exact we_str rfl
    rintro ρ rfl
    -- words
    refine ws_seq (ws_asgF (wf_lst (wa_cons (we_lamK rfl (wa_cons (we_var rfl (wa_cons (we_var rfl (wa_cons (we_var rfl (wa_nil (told_of hM h4 tst (tt2 2) (wa_nil ⟨Nat.le_of_ble_eq_true rfl, ?_⟩)))))))))))))
    refine ws_seq (ws_append rfl (show 1 < 4000000 by decide) (we_lamK rfl (wa_cons (we_var rfl (wa_cons (we_var rfl (wa_cons (we_var rfl (wa_nil (makes_of hM hi h4 tst (tt2 2) ?_))))))))))
    refine ws_seq (ws_freeze 15 rfl rfl (ws_if (wt_T (we_neD (we_var rfl ⟨strs_cmp [dueT base rs st t2, dueT base rs st t2], (strs_shaped [dueT base rs st t2, dueT base rs st t2] (same2 ok_due)), we_lst (wa_cons (we_var rfl (wa_cons (we_var rfl (wa_nil ⟨len2, strs_cmp [dueT base rs st t2, dueT base rs st t2], (strs_shaped [dueT base rs st t2, dueT base rs st t2] (same2 ok_due)), ?_⟩)))))⟩)))))
    refine ⟨_, rfl, ?_⟩
    rw [show PyData.eqv (toPy (Cell.ol ([D.str (dueT base rs st t2)] ++ [D.str (dueT base rs st t2)])).toD) (toPy (.lst [D.str (dueT base rs st t2), D.str (dueT base rs st t2)])) = true from eqv_self (strs_shaped [dueT base rs st t2, dueT base rs st t2] (same2 ok_due)), if_neg (by decide)]
    refine ws_next (ws_seq (ws_if (wt_T (we_neS (we_lamK rfl (wa_cons (we_var rfl (wa_cons (we_var rfl (wa_nil (made_of hM hi h4 (tt2 2) ⟨_, rfl, we_if (wt_B (we_var rfl ⟨_, rfl, ?_⟩))⟩)))))))))))
    cases hrd : isRD base t2 with
    | false =>
      have e : dueM base t2 = "writing" := if_pos hrd
      rw [e]
      refine we_str ⟨_, rfl, _, rfl, ?_⟩
      rw [decide_eq_true rfl, if_neg (by decide)]
      refine ws_next (ws_if (wt_not (wt_B (we_callT rfl (wa_cons (we_var rfl (wa_nil ⟨C_Machine, base, rs, rfl, hM, hi, h4, _, rfl, ?_⟩)))))))
      rw [if_neg (by decide)]
      exact ws_next ⟨_, _, _, _, _, _, _, _, _, _, _, _, _, _, rfl⟩
    | true =>
      have e : dueM base t2 = "told" := if_neg (by rw [hrd]; decide)
      rw [e]
      refine we_str ⟨_, rfl, _, rfl, ?_⟩
      rw [decide_eq_true rfl, if_neg (by decide)]
      refine ws_next (ws_if (wt_not (wt_B (we_callT rfl (wa_cons (we_var rfl (wa_nil ⟨C_Machine, base, rs, rfl, hM, hi, h4, _, rfl, ?_⟩)))))))
      rw [if_neg (by decide)]
      exact ws_next ⟨_, _, _, _, _, _, _, _, _, _, _, _, _, _, rfl⟩
  · rintro ρ ⟨r2, r3, r4, r5, r6, r7, r8, r9, r10, r11, r12, r13, r14, r15, rfl⟩
    exact ws_ret (we_bl rfl)
end
theorem all_mk {l : PySem.W.OpenLaw} {w : World} {K : PySem.W.Frag} {h : Heap} {mg : Str → Option Value} {fa : Addr} (X : K.In h) (G : h.Ns mainGlobals mg) (hfa : mg "law" = some (.ref fa)) {fb c1 c2 : Addr} (hfb : mg "_law_are_near_refused" = some (.ref fb)) (hco : ∀ o fd, h.get? fa = some o → o.data = .func fd → fd.code = .ref c1) (hco2 : ∀ o fd, h.get? fb = some o → o.data = .func fd → fd.code = .ref c2)
    {cc_law cc_law_are_near_refused pp_law pp_law_are_near_refused : Addr} {ob_law ob_law_are_near_refused : Obj} {vs_law vs_law_are_near_refused : Array Value}
    {f_reduced f_plus f_whole f_power f_worth_of f_is_integer f_is_integer_within f_is_base f_is_digit f_is_tuple_of f_are_integers f_are_digits f_is_row f_is_row_of_digits f_shortest f_shortest_turn f_Machine f_Machine_eq f_is_row_of_pairs f_is_pair_of_state f_is_index f_is_state f_check_state f_check_digits f_check_writing f_read f_follow f_told f_row_told f_makes f_made_by_state f_made f_made_by_machine f_law_hand f_law_mixed f_law_draw f_law_any f_law_low f_law_minus f_law_times f_law_goes f_law_writing f_law_number f_law_is_int f_law_word f_law_are_digits f_law_is_writing f_law_odd f_law_are_near_refused f_law : Addr}
    {C_Machine : Addr}
    {od_reduced an_reduced od_plus an_plus od_whole an_whole od_power an_power od_worth_of an_worth_of od_is_integer an_is_integer od_is_integer_within an_is_integer_within od_is_base an_is_base od_is_digit an_is_digit od_is_tuple_of an_is_tuple_of od_are_integers an_are_integers od_are_digits an_are_digits od_is_row an_is_row od_is_row_of_digits an_is_row_of_digits od_shortest an_shortest od_shortest_turn an_shortest_turn od_Machine an_Machine od_Machine_eq an_Machine_eq od_is_row_of_pairs an_is_row_of_pairs od_is_pair_of_state an_is_pair_of_state od_is_index an_is_index od_is_state an_is_state od_check_state an_check_state od_check_digits an_check_digits od_check_writing an_check_writing od_read an_read od_follow an_follow od_told an_told od_row_told an_row_told od_makes an_makes od_made_by_state an_made_by_state od_made an_made od_made_by_machine an_made_by_machine od_law_hand an_law_hand od_law_mixed an_law_mixed od_law_draw an_law_draw od_law_any an_law_any od_law_low an_law_low od_law_minus an_law_minus od_law_times an_law_times od_law_goes an_law_goes od_law_writing an_law_writing od_law_number an_law_number od_law_is_int an_law_is_int od_law_word an_law_word od_law_are_digits an_law_are_digits od_law_is_writing an_law_is_writing od_law_odd an_law_odd od_law_are_near_refused an_law_are_near_refused od_law an_law : Option Addr}
    {sl_reduced sl_plus sl_whole sl_power sl_worth_of sl_is_integer sl_is_integer_within sl_is_base sl_is_digit sl_is_tuple_of sl_are_integers sl_are_digits sl_is_row sl_is_row_of_digits sl_shortest sl_shortest_turn sl_Machine sl_Machine_eq sl_is_row_of_pairs sl_is_pair_of_state sl_is_index sl_is_state sl_check_state sl_check_digits sl_check_writing sl_read sl_follow sl_told sl_row_told sl_makes sl_made_by_state sl_made sl_made_by_machine sl_law_hand sl_law_mixed sl_law_draw sl_law_any sl_law_low sl_law_minus sl_law_times sl_law_goes sl_law_writing sl_law_number sl_law_is_int sl_law_word sl_law_are_digits sl_law_is_writing sl_law_odd sl_law_are_near_refused sl_law : Array (Option Value)}
    {oc_reduced kV_reduced dc_reduced pm_reduced cd_reduced ct_reduced oc_plus kV_plus dc_plus pm_plus cd_plus ct_plus oc_whole kV_whole dc_whole pm_whole cd_whole ct_whole oc_power kV_power dc_power pm_power cd_power ct_power oc_worth_of kV_worth_of dc_worth_of pm_worth_of cd_worth_of ct_worth_of oc_is_integer kV_is_integer dc_is_integer pm_is_integer cd_is_integer ct_is_integer oc_is_integer_within kV_is_integer_within dc_is_integer_within pm_is_integer_within cd_is_integer_within ct_is_integer_within oc_is_base kV_is_base dc_is_base pm_is_base cd_is_base ct_is_base oc_is_digit kV_is_digit dc_is_digit pm_is_digit cd_is_digit ct_is_digit oc_is_tuple_of kV_is_tuple_of dc_is_tuple_of pm_is_tuple_of cd_is_tuple_of ct_is_tuple_of oc_are_integers kV_are_integers dc_are_integers pm_are_integers cd_are_integers ct_are_integers oc_are_digits kV_are_digits dc_are_digits pm_are_digits cd_are_digits ct_are_digits oc_is_row kV_is_row dc_is_row pm_is_row cd_is_row ct_is_row oc_is_row_of_digits kV_is_row_of_digits dc_is_row_of_digits pm_is_row_of_digits cd_is_row_of_digits ct_is_row_of_digits oc_shortest kV_shortest dc_shortest pm_shortest cd_shortest ct_shortest oc_shortest_turn kV_shortest_turn dc_shortest_turn pm_shortest_turn cd_shortest_turn ct_shortest_turn oc_Machine kV_Machine dc_Machine pm_Machine cd_Machine ct_Machine kV_Machine_eq dc_Machine_eq pm_Machine_eq cd_Machine_eq ct_Machine_eq oc_is_row_of_pairs kV_is_row_of_pairs dc_is_row_of_pairs pm_is_row_of_pairs cd_is_row_of_pairs ct_is_row_of_pairs oc_is_pair_of_state kV_is_pair_of_state dc_is_pair_of_state pm_is_pair_of_state cd_is_pair_of_state ct_is_pair_of_state oc_is_index kV_is_index dc_is_index pm_is_index cd_is_index ct_is_index oc_is_state kV_is_state dc_is_state pm_is_state cd_is_state ct_is_state oc_check_state kV_check_state dc_check_state pm_check_state cd_check_state ct_check_state oc_check_digits kV_check_digits dc_check_digits pm_check_digits cd_check_digits ct_check_digits oc_check_writing kV_check_writing dc_check_writing pm_check_writing cd_check_writing ct_check_writing oc_read kV_read dc_read pm_read cd_read ct_read oc_follow kV_follow dc_follow pm_follow cd_follow ct_follow oc_told kV_told dc_told pm_told cd_told ct_told oc_row_told kV_row_told dc_row_told pm_row_told cd_row_told ct_row_told oc_makes kV_makes dc_makes pm_makes cd_makes ct_makes oc_made_by_state kV_made_by_state dc_made_by_state pm_made_by_state cd_made_by_state ct_made_by_state oc_made kV_made dc_made pm_made cd_made ct_made oc_made_by_machine kV_made_by_machine dc_made_by_machine pm_made_by_machine cd_made_by_machine ct_made_by_machine oc_law_hand kV_law_hand dc_law_hand pm_law_hand cd_law_hand ct_law_hand oc_law_mixed kV_law_mixed dc_law_mixed pm_law_mixed cd_law_mixed ct_law_mixed oc_law_draw kV_law_draw dc_law_draw pm_law_draw cd_law_draw ct_law_draw oc_law_any kV_law_any dc_law_any pm_law_any cd_law_any ct_law_any oc_law_low kV_law_low dc_law_low pm_law_low cd_law_low ct_law_low oc_law_minus kV_law_minus dc_law_minus pm_law_minus cd_law_minus ct_law_minus oc_law_times kV_law_times dc_law_times pm_law_times cd_law_times ct_law_times oc_law_goes kV_law_goes dc_law_goes pm_law_goes cd_law_goes ct_law_goes oc_law_writing kV_law_writing dc_law_writing pm_law_writing cd_law_writing ct_law_writing oc_law_number kV_law_number dc_law_number pm_law_number cd_law_number ct_law_number oc_law_is_int kV_law_is_int dc_law_is_int pm_law_is_int cd_law_is_int ct_law_is_int oc_law_word kV_law_word dc_law_word pm_law_word cd_law_word ct_law_word oc_law_are_digits kV_law_are_digits dc_law_are_digits pm_law_are_digits cd_law_are_digits ct_law_are_digits oc_law_is_writing kV_law_is_writing dc_law_is_writing pm_law_is_writing cd_law_is_writing ct_law_is_writing oc_law_odd kV_law_odd dc_law_odd pm_law_odd cd_law_odd ct_law_odd oc_law_are_near_refused kV_law_are_near_refused dc_law_are_near_refused pm_law_are_near_refused cd_law_are_near_refused ct_law_are_near_refused oc_law kV_law dc_law pm_law cd_law ct_law : Value}
    {nn_Machine_eq : Addr} {nm_Machine_eq qn_Machine_eq : Str} {bs_Machine_eq sb_Machine_eq : List Value} {sn_Machine_eq : List Str} {hd_Machine_eq ab_Machine_eq : Bool} {cl_Machine_eq : Option Bool} {dd_Machine_eq od2_Machine_eq : Option Addr} {m0_Machine_eq m1_Machine_eq m2_Machine_eq m3_Machine_eq m5_Machine_eq : Option Value} {ni_Machine_eq : String} {o2_Machine_eq : Value} {es_Machine_eq : Array DictEntry} {ep_Machine_eq : Nat} {sl2_Machine_eq : Array (Option Value)}
    {C_WritingError C_BadMachine nn_BadMachine fi_BadMachine C_NoState nn_NoState fi_NoState C_NoDigits nn_NoDigits fi_NoDigits C_NoWriting nn_NoWriting fi_NoWriting : Addr}
    {nm_BadMachine qn_BadMachine nm_NoState qn_NoState nm_NoDigits qn_NoDigits nm_NoWriting qn_NoWriting : Str} {bs_BadMachine sb_BadMachine bs_NoState sb_NoState bs_NoDigits sb_NoDigits bs_NoWriting sb_NoWriting : List Value} {sn_BadMachine sn_NoState sn_NoDigits sn_NoWriting : List Str} {ab_BadMachine ab_NoState ab_NoDigits ab_NoWriting : Bool} {cl_BadMachine cl_NoState cl_NoDigits cl_NoWriting : Option Bool} {dd_BadMachine od_BadMachine an_BadMachine dd_NoState od_NoState an_NoState dd_NoDigits od_NoDigits an_NoDigits dd_NoWriting od_NoWriting an_NoWriting : Option Addr} {m0_BadMachine m1_BadMachine m2_BadMachine m3_BadMachine m5_BadMachine m0_NoState m1_NoState m2_NoState m3_NoState m5_NoState m0_NoDigits m1_NoDigits m2_NoDigits m3_NoDigits m5_NoDigits m0_NoWriting m1_NoWriting m2_NoWriting m3_NoWriting m5_NoWriting : Option Value} {sl_BadMachine sl_NoState sl_NoDigits sl_NoWriting : Array (Option Value)} {oc_BadMachine kV_BadMachine dc_BadMachine pm_BadMachine cd_BadMachine ct_BadMachine oc_NoState kV_NoState dc_NoState pm_NoState cd_NoState ct_NoState oc_NoDigits kV_NoDigits dc_NoDigits pm_NoDigits cd_NoDigits ct_NoDigits oc_NoWriting kV_NoWriting dc_NoWriting pm_NoWriting cd_NoWriting ct_NoWriting : Value}
    (a_reduced : PySem.W.nsIn K mainGlobals "reduced" = some (some (.ref f_reduced))) (l_reduced : K.lookup f_reduced = some ⟨oc_reduced, od_reduced, .func (PySem.W.fnOf "reduced" "reduced" (defArgs s_reduced) (defBody s_reduced) (defScope s_reduced) .none kV_reduced dc_reduced pm_reduced an_reduced cd_reduced ct_reduced), sl_reduced⟩) (c_reduced : PySem.W.codeIn K cd_reduced "reduced" = true) (k_reduced : PySem.W.keepIn K (.ref f_reduced) = true)
    (a_plus : PySem.W.nsIn K mainGlobals "plus" = some (some (.ref f_plus))) (l_plus : K.lookup f_plus = some ⟨oc_plus, od_plus, .func (PySem.W.fnOf "plus" "plus" (defArgs s_plus) (defBody s_plus) (defScope s_plus) .none kV_plus dc_plus pm_plus an_plus cd_plus ct_plus), sl_plus⟩) (c_plus : PySem.W.codeIn K cd_plus "plus" = true) (k_plus : PySem.W.keepIn K (.ref f_plus) = true)
    (a_whole : PySem.W.nsIn K mainGlobals "whole" = some (some (.ref f_whole))) (l_whole : K.lookup f_whole = some ⟨oc_whole, od_whole, .func (PySem.W.fnOf "whole" "whole" (defArgs s_whole) (defBody s_whole) (defScope s_whole) .none kV_whole dc_whole pm_whole an_whole cd_whole ct_whole), sl_whole⟩) (c_whole : PySem.W.codeIn K cd_whole "whole" = true) (k_whole : PySem.W.keepIn K (.ref f_whole) = true)
    (a_power : PySem.W.nsIn K mainGlobals "power" = some (some (.ref f_power))) (l_power : K.lookup f_power = some ⟨oc_power, od_power, .func (PySem.W.fnOf "power" "power" (defArgs s_power) (defBody s_power) (defScope s_power) .none kV_power dc_power pm_power an_power cd_power ct_power), sl_power⟩) (c_power : PySem.W.codeIn K cd_power "power" = true) (k_power : PySem.W.keepIn K (.ref f_power) = true)
    (a_worth_of : PySem.W.nsIn K mainGlobals "worth_of" = some (some (.ref f_worth_of))) (l_worth_of : K.lookup f_worth_of = some ⟨oc_worth_of, od_worth_of, .func (PySem.W.fnOf "worth_of" "worth_of" (defArgs s_worth_of) (defBody s_worth_of) (defScope s_worth_of) .none kV_worth_of dc_worth_of pm_worth_of an_worth_of cd_worth_of ct_worth_of), sl_worth_of⟩) (c_worth_of : PySem.W.codeIn K cd_worth_of "worth_of" = true) (k_worth_of : PySem.W.keepIn K (.ref f_worth_of) = true)
    (a_is_integer : PySem.W.nsIn K mainGlobals "is_integer" = some (some (.ref f_is_integer))) (l_is_integer : K.lookup f_is_integer = some ⟨oc_is_integer, od_is_integer, .func (PySem.W.fnOf "is_integer" "is_integer" (defArgs s_is_integer) (defBody s_is_integer) (defScope s_is_integer) .none kV_is_integer dc_is_integer pm_is_integer an_is_integer cd_is_integer ct_is_integer), sl_is_integer⟩) (c_is_integer : PySem.W.codeIn K cd_is_integer "is_integer" = true) (k_is_integer : PySem.W.keepIn K (.ref f_is_integer) = true)
    (a_is_integer_within : PySem.W.nsIn K mainGlobals "is_integer_within" = some (some (.ref f_is_integer_within))) (l_is_integer_within : K.lookup f_is_integer_within = some ⟨oc_is_integer_within, od_is_integer_within, .func (PySem.W.fnOf "is_integer_within" "is_integer_within" (defArgs s_is_integer_within) (defBody s_is_integer_within) (defScope s_is_integer_within) .none kV_is_integer_within dc_is_integer_within pm_is_integer_within an_is_integer_within cd_is_integer_within ct_is_integer_within), sl_is_integer_within⟩) (c_is_integer_within : PySem.W.codeIn K cd_is_integer_within "is_integer_within" = true) (k_is_integer_within : PySem.W.keepIn K (.ref f_is_integer_within) = true)
    (a_is_base : PySem.W.nsIn K mainGlobals "is_base" = some (some (.ref f_is_base))) (l_is_base : K.lookup f_is_base = some ⟨oc_is_base, od_is_base, .func (PySem.W.fnOf "is_base" "is_base" (defArgs s_is_base) (defBody s_is_base) (defScope s_is_base) .none kV_is_base dc_is_base pm_is_base an_is_base cd_is_base ct_is_base), sl_is_base⟩) (c_is_base : PySem.W.codeIn K cd_is_base "is_base" = true) (k_is_base : PySem.W.keepIn K (.ref f_is_base) = true)
    (a_is_digit : PySem.W.nsIn K mainGlobals "is_digit" = some (some (.ref f_is_digit))) (l_is_digit : K.lookup f_is_digit = some ⟨oc_is_digit, od_is_digit, .func (PySem.W.fnOf "is_digit" "is_digit" (defArgs s_is_digit) (defBody s_is_digit) (defScope s_is_digit) .none kV_is_digit dc_is_digit pm_is_digit an_is_digit cd_is_digit ct_is_digit), sl_is_digit⟩) (c_is_digit : PySem.W.codeIn K cd_is_digit "is_digit" = true) (k_is_digit : PySem.W.keepIn K (.ref f_is_digit) = true)
    (a_is_tuple_of : PySem.W.nsIn K mainGlobals "is_tuple_of" = some (some (.ref f_is_tuple_of))) (l_is_tuple_of : K.lookup f_is_tuple_of = some ⟨oc_is_tuple_of, od_is_tuple_of, .func (PySem.W.fnOf "is_tuple_of" "is_tuple_of" (defArgs s_is_tuple_of) (defBody s_is_tuple_of) (defScope s_is_tuple_of) .none kV_is_tuple_of dc_is_tuple_of pm_is_tuple_of an_is_tuple_of cd_is_tuple_of ct_is_tuple_of), sl_is_tuple_of⟩) (c_is_tuple_of : PySem.W.codeIn K cd_is_tuple_of "is_tuple_of" = true) (k_is_tuple_of : PySem.W.keepIn K (.ref f_is_tuple_of) = true)
    (a_are_integers : PySem.W.nsIn K mainGlobals "are_integers" = some (some (.ref f_are_integers))) (l_are_integers : K.lookup f_are_integers = some ⟨oc_are_integers, od_are_integers, .func (PySem.W.fnOf "are_integers" "are_integers" (defArgs s_are_integers) (defBody s_are_integers) (defScope s_are_integers) .none kV_are_integers dc_are_integers pm_are_integers an_are_integers cd_are_integers ct_are_integers), sl_are_integers⟩) (c_are_integers : PySem.W.codeIn K cd_are_integers "are_integers" = true) (k_are_integers : PySem.W.keepIn K (.ref f_are_integers) = true)
    (a_are_digits : PySem.W.nsIn K mainGlobals "are_digits" = some (some (.ref f_are_digits))) (l_are_digits : K.lookup f_are_digits = some ⟨oc_are_digits, od_are_digits, .func (PySem.W.fnOf "are_digits" "are_digits" (defArgs s_are_digits) (defBody s_are_digits) (defScope s_are_digits) .none kV_are_digits dc_are_digits pm_are_digits an_are_digits cd_are_digits ct_are_digits), sl_are_digits⟩) (c_are_digits : PySem.W.codeIn K cd_are_digits "are_digits" = true) (k_are_digits : PySem.W.keepIn K (.ref f_are_digits) = true)
    (a_is_row : PySem.W.nsIn K mainGlobals "is_row" = some (some (.ref f_is_row))) (l_is_row : K.lookup f_is_row = some ⟨oc_is_row, od_is_row, .func (PySem.W.fnOf "is_row" "is_row" (defArgs s_is_row) (defBody s_is_row) (defScope s_is_row) .none kV_is_row dc_is_row pm_is_row an_is_row cd_is_row ct_is_row), sl_is_row⟩) (c_is_row : PySem.W.codeIn K cd_is_row "is_row" = true) (k_is_row : PySem.W.keepIn K (.ref f_is_row) = true)
    (a_is_row_of_digits : PySem.W.nsIn K mainGlobals "is_row_of_digits" = some (some (.ref f_is_row_of_digits))) (l_is_row_of_digits : K.lookup f_is_row_of_digits = some ⟨oc_is_row_of_digits, od_is_row_of_digits, .func (PySem.W.fnOf "is_row_of_digits" "is_row_of_digits" (defArgs s_is_row_of_digits) (defBody s_is_row_of_digits) (defScope s_is_row_of_digits) .none kV_is_row_of_digits dc_is_row_of_digits pm_is_row_of_digits an_is_row_of_digits cd_is_row_of_digits ct_is_row_of_digits), sl_is_row_of_digits⟩) (c_is_row_of_digits : PySem.W.codeIn K cd_is_row_of_digits "is_row_of_digits" = true) (k_is_row_of_digits : PySem.W.keepIn K (.ref f_is_row_of_digits) = true)
    (a_shortest : PySem.W.nsIn K mainGlobals "shortest" = some (some (.ref f_shortest))) (l_shortest : K.lookup f_shortest = some ⟨oc_shortest, od_shortest, .func (PySem.W.fnOf "shortest" "shortest" (defArgs s_shortest) (defBody s_shortest) (defScope s_shortest) .none kV_shortest dc_shortest pm_shortest an_shortest cd_shortest ct_shortest), sl_shortest⟩) (c_shortest : PySem.W.codeIn K cd_shortest "shortest" = true) (k_shortest : PySem.W.keepIn K (.ref f_shortest) = true)
    (a_shortest_turn : PySem.W.nsIn K mainGlobals "shortest_turn" = some (some (.ref f_shortest_turn))) (l_shortest_turn : K.lookup f_shortest_turn = some ⟨oc_shortest_turn, od_shortest_turn, .func (PySem.W.fnOf "shortest_turn" "shortest_turn" (defArgs s_shortest_turn) (defBody s_shortest_turn) (defScope s_shortest_turn) .none kV_shortest_turn dc_shortest_turn pm_shortest_turn an_shortest_turn cd_shortest_turn ct_shortest_turn), sl_shortest_turn⟩) (c_shortest_turn : PySem.W.codeIn K cd_shortest_turn "shortest_turn" = true) (k_shortest_turn : PySem.W.keepIn K (.ref f_shortest_turn) = true)
    (g_Machine : PySem.W.nsIn K mainGlobals "Machine" = some (some (.ref C_Machine))) (mk_Machine : PySem.W.makesIn K C_Machine = true) (ii_Machine : PySem.W.findIn K (.ref C_Machine) "__init__" = some (some (.ref f_Machine))) (if_Machine : PySem.W.isFn K (.ref f_Machine) = true) (kC_Machine : PySem.W.keepIn K (.ref C_Machine) = true)
    (pg_Machine : PySem.W.plainGet K C_Machine PySem.Str.empty = true) (hC_Machine : PySem.W.hasDictIn K C_Machine = true) (po_Machine : PySem.W.plainOver K C_Machine = true) (sa_Machine : PySem.W.findIn K (.ref C_Machine) "__setattr__" = some (some (.builtin "object.__setattr__")))
    (l_Machine : K.lookup f_Machine = some ⟨oc_Machine, od_Machine, .func (PySem.W.fnOf "__init__" "Machine.__init__" (defArgs s_Machine) (defBody s_Machine) (defScope s_Machine) .none kV_Machine dc_Machine pm_Machine an_Machine cd_Machine ct_Machine), sl_Machine⟩) (c_Machine : PySem.W.codeIn K cd_Machine "Machine.__init__" = true) (k_Machine : PySem.W.keepIn K (.ref f_Machine) = true)
    (nf_Machine_base : PySem.W.findIn K (.ref C_Machine) "base" = some none)
    (nf_Machine_first : PySem.W.findIn K (.ref C_Machine) "first" = some none)
    (nf_Machine_rows : PySem.W.findIn K (.ref C_Machine) "rows" = some none)
    (ie_Machine_eq : PySem.W.findIn K (.ref C_Machine) "__eq__" = some (some (.ref f_Machine_eq))) (if_Machine_eq : PySem.W.isFn K (.ref f_Machine_eq) = true)
    (l_Machine_eq : K.lookup f_Machine_eq = some ⟨.type "function", od_Machine_eq, .func (PySem.W.fnOf "__eq__" "Machine.__eq__" (defArgs s_Machine_eq) (defBody s_Machine_eq) (defScope s_Machine_eq) .none kV_Machine_eq dc_Machine_eq pm_Machine_eq an_Machine_eq cd_Machine_eq ct_Machine_eq), sl_Machine_eq⟩) (c_Machine_eq : PySem.W.codeIn K cd_Machine_eq "Machine.__eq__" = true) (k_Machine_eq : PySem.W.keepIn K (.ref f_Machine_eq) = true)
    (ha_Machine_eq : PySem.W.findIn K (.ref C_Machine) "__class__" = some (some (.builtin "object.__class__"))) (hn_Machine_eq : PySem.W.specialIn K (.builtin "object.__class__") "__get__" = some (some (.builtin "getset_descriptor.__get__"))) (ht_Machine_eq : PySem.W.takesIn K (.builtin "object.__class__") = some true) (hm_Machine_eq : PySem.W.mroIn K C_Machine (.type "object") = some true)
    (ic_Machine_eq : PySem.W.isClsIn K C_Machine = true) (tc_Machine_eq : PySem.W.typeIn K (.ref C_Machine) = some (.type "type"))
    (u0_Machine_eq : PySem.W.subIn K (.ref C_Machine) (.type "NoneType") = some false) (u1_Machine_eq : PySem.W.subIn K (.ref C_Machine) (.type "bool") = some false) (u2_Machine_eq : PySem.W.subIn K (.ref C_Machine) (.type "int") = some false) (u3_Machine_eq : PySem.W.subIn K (.ref C_Machine) (.type "str") = some false) (u4_Machine_eq : PySem.W.subIn K (.ref C_Machine) (.type "tuple") = some false) (u5_Machine_eq : PySem.W.subIn K (.ref C_Machine) (.type "list") = some false) (u6_Machine_eq : PySem.W.subIn K (.ref C_Machine) (.type "dict") = some false)
    (xl_Machine_eq : K.lookup C_Machine = some (excClassObj nm_Machine_eq qn_Machine_eq C_Machine nn_Machine_eq bs_Machine_eq [.type "object"] hd_Machine_eq sn_Machine_eq sb_Machine_eq ab_Machine_eq cl_Machine_eq dd_Machine_eq m0_Machine_eq m1_Machine_eq m2_Machine_eq m3_Machine_eq m5_Machine_eq ni_Machine_eq)) (xn_Machine_eq : K.lookup nn_Machine_eq = some ⟨o2_Machine_eq, od2_Machine_eq, .dict es_Machine_eq ep_Machine_eq, sl2_Machine_eq⟩) (xs_Machine_eq : es_Machine_eq.toList.all (fun e => match e.key with | .str _ _ => true | _ => false) = true)
    (xe_Machine_eq : PySem.nsFind es_Machine_eq "__eq__" = some (.ref f_Machine_eq)) (xx_Machine_eq : PySem.nsFind es_Machine_eq "__ne__" = none)
    (a_is_row_of_pairs : PySem.W.nsIn K mainGlobals "is_row_of_pairs" = some (some (.ref f_is_row_of_pairs))) (l_is_row_of_pairs : K.lookup f_is_row_of_pairs = some ⟨oc_is_row_of_pairs, od_is_row_of_pairs, .func (PySem.W.fnOf "is_row_of_pairs" "is_row_of_pairs" (defArgs s_is_row_of_pairs) (defBody s_is_row_of_pairs) (defScope s_is_row_of_pairs) .none kV_is_row_of_pairs dc_is_row_of_pairs pm_is_row_of_pairs an_is_row_of_pairs cd_is_row_of_pairs ct_is_row_of_pairs), sl_is_row_of_pairs⟩) (c_is_row_of_pairs : PySem.W.codeIn K cd_is_row_of_pairs "is_row_of_pairs" = true) (k_is_row_of_pairs : PySem.W.keepIn K (.ref f_is_row_of_pairs) = true)
    (a_is_pair_of_state : PySem.W.nsIn K mainGlobals "is_pair_of_state" = some (some (.ref f_is_pair_of_state))) (l_is_pair_of_state : K.lookup f_is_pair_of_state = some ⟨oc_is_pair_of_state, od_is_pair_of_state, .func (PySem.W.fnOf "is_pair_of_state" "is_pair_of_state" (defArgs s_is_pair_of_state) (defBody s_is_pair_of_state) (defScope s_is_pair_of_state) .none kV_is_pair_of_state dc_is_pair_of_state pm_is_pair_of_state an_is_pair_of_state cd_is_pair_of_state ct_is_pair_of_state), sl_is_pair_of_state⟩) (c_is_pair_of_state : PySem.W.codeIn K cd_is_pair_of_state "is_pair_of_state" = true) (k_is_pair_of_state : PySem.W.keepIn K (.ref f_is_pair_of_state) = true)
    (a_is_index : PySem.W.nsIn K mainGlobals "is_index" = some (some (.ref f_is_index))) (l_is_index : K.lookup f_is_index = some ⟨oc_is_index, od_is_index, .func (PySem.W.fnOf "is_index" "is_index" (defArgs s_is_index) (defBody s_is_index) (defScope s_is_index) .none kV_is_index dc_is_index pm_is_index an_is_index cd_is_index ct_is_index), sl_is_index⟩) (c_is_index : PySem.W.codeIn K cd_is_index "is_index" = true) (k_is_index : PySem.W.keepIn K (.ref f_is_index) = true)
    (a_is_state : PySem.W.nsIn K mainGlobals "is_state" = some (some (.ref f_is_state))) (l_is_state : K.lookup f_is_state = some ⟨oc_is_state, od_is_state, .func (PySem.W.fnOf "is_state" "is_state" (defArgs s_is_state) (defBody s_is_state) (defScope s_is_state) .none kV_is_state dc_is_state pm_is_state an_is_state cd_is_state ct_is_state), sl_is_state⟩) (c_is_state : PySem.W.codeIn K cd_is_state "is_state" = true) (k_is_state : PySem.W.keepIn K (.ref f_is_state) = true)
    (a_check_state : PySem.W.nsIn K mainGlobals "check_state" = some (some (.ref f_check_state))) (l_check_state : K.lookup f_check_state = some ⟨oc_check_state, od_check_state, .func (PySem.W.fnOf "check_state" "check_state" (defArgs s_check_state) (defBody s_check_state) (defScope s_check_state) .none kV_check_state dc_check_state pm_check_state an_check_state cd_check_state ct_check_state), sl_check_state⟩) (c_check_state : PySem.W.codeIn K cd_check_state "check_state" = true) (k_check_state : PySem.W.keepIn K (.ref f_check_state) = true)
    (a_check_digits : PySem.W.nsIn K mainGlobals "check_digits" = some (some (.ref f_check_digits))) (l_check_digits : K.lookup f_check_digits = some ⟨oc_check_digits, od_check_digits, .func (PySem.W.fnOf "check_digits" "check_digits" (defArgs s_check_digits) (defBody s_check_digits) (defScope s_check_digits) .none kV_check_digits dc_check_digits pm_check_digits an_check_digits cd_check_digits ct_check_digits), sl_check_digits⟩) (c_check_digits : PySem.W.codeIn K cd_check_digits "check_digits" = true) (k_check_digits : PySem.W.keepIn K (.ref f_check_digits) = true)
    (a_check_writing : PySem.W.nsIn K mainGlobals "check_writing" = some (some (.ref f_check_writing))) (l_check_writing : K.lookup f_check_writing = some ⟨oc_check_writing, od_check_writing, .func (PySem.W.fnOf "check_writing" "check_writing" (defArgs s_check_writing) (defBody s_check_writing) (defScope s_check_writing) .none kV_check_writing dc_check_writing pm_check_writing an_check_writing cd_check_writing ct_check_writing), sl_check_writing⟩) (c_check_writing : PySem.W.codeIn K cd_check_writing "check_writing" = true) (k_check_writing : PySem.W.keepIn K (.ref f_check_writing) = true)
    (a_read : PySem.W.nsIn K mainGlobals "read" = some (some (.ref f_read))) (l_read : K.lookup f_read = some ⟨oc_read, od_read, .func (PySem.W.fnOf "read" "read" (defArgs s_read) (defBody s_read) (defScope s_read) .none kV_read dc_read pm_read an_read cd_read ct_read), sl_read⟩) (c_read : PySem.W.codeIn K cd_read "read" = true) (k_read : PySem.W.keepIn K (.ref f_read) = true)
    (a_follow : PySem.W.nsIn K mainGlobals "follow" = some (some (.ref f_follow))) (l_follow : K.lookup f_follow = some ⟨oc_follow, od_follow, .func (PySem.W.fnOf "follow" "follow" (defArgs s_follow) (defBody s_follow) (defScope s_follow) .none kV_follow dc_follow pm_follow an_follow cd_follow ct_follow), sl_follow⟩) (c_follow : PySem.W.codeIn K cd_follow "follow" = true) (k_follow : PySem.W.keepIn K (.ref f_follow) = true)
    (a_told : PySem.W.nsIn K mainGlobals "told" = some (some (.ref f_told))) (l_told : K.lookup f_told = some ⟨oc_told, od_told, .func (PySem.W.fnOf "told" "told" (defArgs s_told) (defBody s_told) (defScope s_told) .none kV_told dc_told pm_told an_told cd_told ct_told), sl_told⟩) (c_told : PySem.W.codeIn K cd_told "told" = true) (k_told : PySem.W.keepIn K (.ref f_told) = true)
    (a_row_told : PySem.W.nsIn K mainGlobals "row_told" = some (some (.ref f_row_told))) (l_row_told : K.lookup f_row_told = some ⟨oc_row_told, od_row_told, .func (PySem.W.fnOf "row_told" "row_told" (defArgs s_row_told) (defBody s_row_told) (defScope s_row_told) .none kV_row_told dc_row_told pm_row_told an_row_told cd_row_told ct_row_told), sl_row_told⟩) (c_row_told : PySem.W.codeIn K cd_row_told "row_told" = true) (k_row_told : PySem.W.keepIn K (.ref f_row_told) = true)
    (a_makes : PySem.W.nsIn K mainGlobals "makes" = some (some (.ref f_makes))) (l_makes : K.lookup f_makes = some ⟨oc_makes, od_makes, .func (PySem.W.fnOf "makes" "makes" (defArgs s_makes) (defBody s_makes) (defScope s_makes) .none kV_makes dc_makes pm_makes an_makes cd_makes ct_makes), sl_makes⟩) (c_makes : PySem.W.codeIn K cd_makes "makes" = true) (k_makes : PySem.W.keepIn K (.ref f_makes) = true)
    (a_made_by_state : PySem.W.nsIn K mainGlobals "made_by_state" = some (some (.ref f_made_by_state))) (l_made_by_state : K.lookup f_made_by_state = some ⟨oc_made_by_state, od_made_by_state, .func (PySem.W.fnOf "made_by_state" "made_by_state" (defArgs s_made_by_state) (defBody s_made_by_state) (defScope s_made_by_state) .none kV_made_by_state dc_made_by_state pm_made_by_state an_made_by_state cd_made_by_state ct_made_by_state), sl_made_by_state⟩) (c_made_by_state : PySem.W.codeIn K cd_made_by_state "made_by_state" = true) (k_made_by_state : PySem.W.keepIn K (.ref f_made_by_state) = true)
    (a_made : PySem.W.nsIn K mainGlobals "made" = some (some (.ref f_made))) (l_made : K.lookup f_made = some ⟨oc_made, od_made, .func (PySem.W.fnOf "made" "made" (defArgs s_made) (defBody s_made) (defScope s_made) .none kV_made dc_made pm_made an_made cd_made ct_made), sl_made⟩) (c_made : PySem.W.codeIn K cd_made "made" = true) (k_made : PySem.W.keepIn K (.ref f_made) = true)
    (a_made_by_machine : PySem.W.nsIn K mainGlobals "made_by_machine" = some (some (.ref f_made_by_machine))) (l_made_by_machine : K.lookup f_made_by_machine = some ⟨oc_made_by_machine, od_made_by_machine, .func (PySem.W.fnOf "made_by_machine" "made_by_machine" (defArgs s_made_by_machine) (defBody s_made_by_machine) (defScope s_made_by_machine) .none kV_made_by_machine dc_made_by_machine pm_made_by_machine an_made_by_machine cd_made_by_machine ct_made_by_machine), sl_made_by_machine⟩) (c_made_by_machine : PySem.W.codeIn K cd_made_by_machine "made_by_machine" = true) (k_made_by_machine : PySem.W.keepIn K (.ref f_made_by_machine) = true)
    (a_law_hand : PySem.W.nsIn K mainGlobals "_law_hand" = some (some (.ref f_law_hand))) (l_law_hand : K.lookup f_law_hand = some ⟨oc_law_hand, od_law_hand, .func (PySem.W.fnOf "_law_hand" "_law_hand" (defArgs s_law_hand) (defBody s_law_hand) (defScope s_law_hand) .none kV_law_hand dc_law_hand pm_law_hand an_law_hand cd_law_hand ct_law_hand), sl_law_hand⟩) (c_law_hand : PySem.W.codeIn K cd_law_hand "_law_hand" = true) (k_law_hand : PySem.W.keepIn K (.ref f_law_hand) = true)
    (a_law_mixed : PySem.W.nsIn K mainGlobals "_law_mixed" = some (some (.ref f_law_mixed))) (l_law_mixed : K.lookup f_law_mixed = some ⟨oc_law_mixed, od_law_mixed, .func (PySem.W.fnOf "_law_mixed" "_law_mixed" (defArgs s_law_mixed) (defBody s_law_mixed) (defScope s_law_mixed) .none kV_law_mixed dc_law_mixed pm_law_mixed an_law_mixed cd_law_mixed ct_law_mixed), sl_law_mixed⟩) (c_law_mixed : PySem.W.codeIn K cd_law_mixed "_law_mixed" = true) (k_law_mixed : PySem.W.keepIn K (.ref f_law_mixed) = true)
    (a_law_draw : PySem.W.nsIn K mainGlobals "_law_draw" = some (some (.ref f_law_draw))) (l_law_draw : K.lookup f_law_draw = some ⟨oc_law_draw, od_law_draw, .func (PySem.W.fnOf "_law_draw" "_law_draw" (defArgs s_law_draw) (defBody s_law_draw) (defScope s_law_draw) .none kV_law_draw dc_law_draw pm_law_draw an_law_draw cd_law_draw ct_law_draw), sl_law_draw⟩) (c_law_draw : PySem.W.codeIn K cd_law_draw "_law_draw" = true) (k_law_draw : PySem.W.keepIn K (.ref f_law_draw) = true)
    (a_law_any : PySem.W.nsIn K mainGlobals "_law_any" = some (some (.ref f_law_any))) (l_law_any : K.lookup f_law_any = some ⟨oc_law_any, od_law_any, .func (PySem.W.fnOf "_law_any" "_law_any" (defArgs s_law_any) (defBody s_law_any) (defScope s_law_any) .none kV_law_any dc_law_any pm_law_any an_law_any cd_law_any ct_law_any), sl_law_any⟩) (c_law_any : PySem.W.codeIn K cd_law_any "_law_any" = true) (k_law_any : PySem.W.keepIn K (.ref f_law_any) = true)
    (a_law_low : PySem.W.nsIn K mainGlobals "_law_low" = some (some (.ref f_law_low))) (l_law_low : K.lookup f_law_low = some ⟨oc_law_low, od_law_low, .func (PySem.W.fnOf "_law_low" "_law_low" (defArgs s_law_low) (defBody s_law_low) (defScope s_law_low) .none kV_law_low dc_law_low pm_law_low an_law_low cd_law_low ct_law_low), sl_law_low⟩) (c_law_low : PySem.W.codeIn K cd_law_low "_law_low" = true) (k_law_low : PySem.W.keepIn K (.ref f_law_low) = true)
    (a_law_minus : PySem.W.nsIn K mainGlobals "_law_minus" = some (some (.ref f_law_minus))) (l_law_minus : K.lookup f_law_minus = some ⟨oc_law_minus, od_law_minus, .func (PySem.W.fnOf "_law_minus" "_law_minus" (defArgs s_law_minus) (defBody s_law_minus) (defScope s_law_minus) .none kV_law_minus dc_law_minus pm_law_minus an_law_minus cd_law_minus ct_law_minus), sl_law_minus⟩) (c_law_minus : PySem.W.codeIn K cd_law_minus "_law_minus" = true) (k_law_minus : PySem.W.keepIn K (.ref f_law_minus) = true)
    (a_law_times : PySem.W.nsIn K mainGlobals "_law_times" = some (some (.ref f_law_times))) (l_law_times : K.lookup f_law_times = some ⟨oc_law_times, od_law_times, .func (PySem.W.fnOf "_law_times" "_law_times" (defArgs s_law_times) (defBody s_law_times) (defScope s_law_times) .none kV_law_times dc_law_times pm_law_times an_law_times cd_law_times ct_law_times), sl_law_times⟩) (c_law_times : PySem.W.codeIn K cd_law_times "_law_times" = true) (k_law_times : PySem.W.keepIn K (.ref f_law_times) = true)
    (a_law_goes : PySem.W.nsIn K mainGlobals "_law_goes" = some (some (.ref f_law_goes))) (l_law_goes : K.lookup f_law_goes = some ⟨oc_law_goes, od_law_goes, .func (PySem.W.fnOf "_law_goes" "_law_goes" (defArgs s_law_goes) (defBody s_law_goes) (defScope s_law_goes) .none kV_law_goes dc_law_goes pm_law_goes an_law_goes cd_law_goes ct_law_goes), sl_law_goes⟩) (c_law_goes : PySem.W.codeIn K cd_law_goes "_law_goes" = true) (k_law_goes : PySem.W.keepIn K (.ref f_law_goes) = true)
    (a_law_writing : PySem.W.nsIn K mainGlobals "_law_writing" = some (some (.ref f_law_writing))) (l_law_writing : K.lookup f_law_writing = some ⟨oc_law_writing, od_law_writing, .func (PySem.W.fnOf "_law_writing" "_law_writing" (defArgs s_law_writing) (defBody s_law_writing) (defScope s_law_writing) .none kV_law_writing dc_law_writing pm_law_writing an_law_writing cd_law_writing ct_law_writing), sl_law_writing⟩) (c_law_writing : PySem.W.codeIn K cd_law_writing "_law_writing" = true) (k_law_writing : PySem.W.keepIn K (.ref f_law_writing) = true)
    (a_law_number : PySem.W.nsIn K mainGlobals "_law_number" = some (some (.ref f_law_number))) (l_law_number : K.lookup f_law_number = some ⟨oc_law_number, od_law_number, .func (PySem.W.fnOf "_law_number" "_law_number" (defArgs s_law_number) (defBody s_law_number) (defScope s_law_number) .none kV_law_number dc_law_number pm_law_number an_law_number cd_law_number ct_law_number), sl_law_number⟩) (c_law_number : PySem.W.codeIn K cd_law_number "_law_number" = true) (k_law_number : PySem.W.keepIn K (.ref f_law_number) = true)
    (a_law_is_int : PySem.W.nsIn K mainGlobals "_law_is_int" = some (some (.ref f_law_is_int))) (l_law_is_int : K.lookup f_law_is_int = some ⟨oc_law_is_int, od_law_is_int, .func (PySem.W.fnOf "_law_is_int" "_law_is_int" (defArgs s_law_is_int) (defBody s_law_is_int) (defScope s_law_is_int) .none kV_law_is_int dc_law_is_int pm_law_is_int an_law_is_int cd_law_is_int ct_law_is_int), sl_law_is_int⟩) (c_law_is_int : PySem.W.codeIn K cd_law_is_int "_law_is_int" = true) (k_law_is_int : PySem.W.keepIn K (.ref f_law_is_int) = true)
    (a_law_word : PySem.W.nsIn K mainGlobals "_law_word" = some (some (.ref f_law_word))) (l_law_word : K.lookup f_law_word = some ⟨oc_law_word, od_law_word, .func (PySem.W.fnOf "_law_word" "_law_word" (defArgs s_law_word) (defBody s_law_word) (defScope s_law_word) .none kV_law_word dc_law_word pm_law_word an_law_word cd_law_word ct_law_word), sl_law_word⟩) (c_law_word : PySem.W.codeIn K cd_law_word "_law_word" = true) (k_law_word : PySem.W.keepIn K (.ref f_law_word) = true)
    (a_law_are_digits : PySem.W.nsIn K mainGlobals "_law_are_digits" = some (some (.ref f_law_are_digits))) (l_law_are_digits : K.lookup f_law_are_digits = some ⟨oc_law_are_digits, od_law_are_digits, .func (PySem.W.fnOf "_law_are_digits" "_law_are_digits" (defArgs s_law_are_digits) (defBody s_law_are_digits) (defScope s_law_are_digits) .none kV_law_are_digits dc_law_are_digits pm_law_are_digits an_law_are_digits cd_law_are_digits ct_law_are_digits), sl_law_are_digits⟩) (c_law_are_digits : PySem.W.codeIn K cd_law_are_digits "_law_are_digits" = true) (k_law_are_digits : PySem.W.keepIn K (.ref f_law_are_digits) = true)
    (a_law_is_writing : PySem.W.nsIn K mainGlobals "_law_is_writing" = some (some (.ref f_law_is_writing))) (l_law_is_writing : K.lookup f_law_is_writing = some ⟨oc_law_is_writing, od_law_is_writing, .func (PySem.W.fnOf "_law_is_writing" "_law_is_writing" (defArgs s_law_is_writing) (defBody s_law_is_writing) (defScope s_law_is_writing) .none kV_law_is_writing dc_law_is_writing pm_law_is_writing an_law_is_writing cd_law_is_writing ct_law_is_writing), sl_law_is_writing⟩) (c_law_is_writing : PySem.W.codeIn K cd_law_is_writing "_law_is_writing" = true) (k_law_is_writing : PySem.W.keepIn K (.ref f_law_is_writing) = true)
    (a_law_odd : PySem.W.nsIn K mainGlobals "_law_odd" = some (some (.ref f_law_odd))) (l_law_odd : K.lookup f_law_odd = some ⟨oc_law_odd, od_law_odd, .func (PySem.W.fnOf "_law_odd" "_law_odd" (defArgs s_law_odd) (defBody s_law_odd) (defScope s_law_odd) .none kV_law_odd dc_law_odd pm_law_odd an_law_odd cd_law_odd ct_law_odd), sl_law_odd⟩) (c_law_odd : PySem.W.codeIn K cd_law_odd "_law_odd" = true) (k_law_odd : PySem.W.keepIn K (.ref f_law_odd) = true)
    (a_law_are_near_refused : PySem.W.nsIn K mainGlobals "_law_are_near_refused" = some (some (.ref f_law_are_near_refused))) (l_law_are_near_refused : K.lookup f_law_are_near_refused = some ⟨oc_law_are_near_refused, od_law_are_near_refused, .func (PySem.W.fnOf "_law_are_near_refused" "_law_are_near_refused" (defArgs s_law_are_near_refused) (defBody s_law_are_near_refused) (defScope s_law_are_near_refused) .none kV_law_are_near_refused dc_law_are_near_refused pm_law_are_near_refused an_law_are_near_refused cd_law_are_near_refused ct_law_are_near_refused), sl_law_are_near_refused⟩) (c_law_are_near_refused : PySem.W.codeIn K cd_law_are_near_refused "_law_are_near_refused" = true) (k_law_are_near_refused : PySem.W.keepIn K (.ref f_law_are_near_refused) = true)
    (a_law : PySem.W.nsIn K mainGlobals "law" = some (some (.ref f_law))) (l_law : K.lookup f_law = some ⟨oc_law, od_law, .func (PySem.W.fnOf "law" "law" (defArgs s_law) (defBody s_law) (defScope s_law) .none kV_law dc_law pm_law an_law cd_law ct_law), sl_law⟩) (c_law : PySem.W.codeIn K cd_law "law" = true) (k_law : PySem.W.keepIn K (.ref f_law) = true)
    (g_WritingError : PySem.W.nsIn K mainGlobals "WritingError" = some (some (.ref C_WritingError))) (ga_WritingError : PySem.W.specialIn K (.ref C_WritingError) "__getattribute__" = some (some (.builtin "type.__getattribute__"))) (rd_WritingError : PySem.W.readsIn K C_WritingError (.type "type") = true) (fc_WritingError : PySem.W.findCls K (.ref C_WritingError) (.type "type") "__init__" = some (.val (.builtin "ValueError.__init__")))
    (g_BadMachine : PySem.W.nsIn K mainGlobals "BadMachine" = some (some (.ref C_BadMachine))) (xl_BadMachine : K.lookup C_BadMachine = some (excClassObj nm_BadMachine qn_BadMachine C_BadMachine nn_BadMachine bs_BadMachine (.ref C_WritingError :: [.type "ValueError", .type "Exception", .type "BaseException", .type "object"]) true sn_BadMachine sb_BadMachine ab_BadMachine cl_BadMachine dd_BadMachine m0_BadMachine m1_BadMachine m2_BadMachine m3_BadMachine m5_BadMachine "ValueError.__new__"))
    (sa_BadMachine : PySem.W.findIn K (.ref C_BadMachine) "__setattr__" = some (some (.builtin "object.__setattr__"))) (gt_BadMachine : PySem.W.findIn K (.ref C_BadMachine) "__getattribute__" = some (some (.builtin "BaseException.__getattribute__"))) (gg_BadMachine : PySem.W.findIn K (.ref C_BadMachine) "__getattr__" = some none)
    (ii_BadMachine : PySem.W.findIn K (.ref C_BadMachine) "__init__" = some (some (.ref fi_BadMachine))) (ti_BadMachine : PySem.W.typeIn K (.ref fi_BadMachine) = some (.type "function"))
    (li_BadMachine : K.lookup fi_BadMachine = some ⟨oc_BadMachine, od_BadMachine, .func (PySem.W.fnOf "__init__" "BadMachine.__init__" (defArgs si_BadMachine) (defBody si_BadMachine) (defScope si_BadMachine) .none kV_BadMachine dc_BadMachine pm_BadMachine an_BadMachine cd_BadMachine ct_BadMachine), sl_BadMachine⟩) (ci_BadMachine : PySem.W.codeIn K cd_BadMachine "BadMachine.__init__" = true) (ki_BadMachine : PySem.W.keepIn K (.ref fi_BadMachine) = true)
    (kC_BadMachine : PySem.W.keepIn K (.ref C_BadMachine) = true) (eC_BadMachine : PySem.W.subIn K (.ref C_BadMachine) (.type "BaseException") = some true) (tC_BadMachine : PySem.W.typeIn K (.ref C_BadMachine) = some (.type "type")) (hC_BadMachine : PySem.W.hasDictIn K C_BadMachine = true) (iC_BadMachine : PySem.W.isClsIn K C_BadMachine = true) (sC_BadMachine : PySem.W.subIn K (.ref C_BadMachine) (.ref C_BadMachine) = some true)
    (nf_BadMachine : PySem.W.findIn K (.ref C_BadMachine) "part" = some none)
    (g_NoState : PySem.W.nsIn K mainGlobals "NoState" = some (some (.ref C_NoState))) (xl_NoState : K.lookup C_NoState = some (excClassObj nm_NoState qn_NoState C_NoState nn_NoState bs_NoState (.ref C_WritingError :: [.type "ValueError", .type "Exception", .type "BaseException", .type "object"]) true sn_NoState sb_NoState ab_NoState cl_NoState dd_NoState m0_NoState m1_NoState m2_NoState m3_NoState m5_NoState "ValueError.__new__"))
    (sa_NoState : PySem.W.findIn K (.ref C_NoState) "__setattr__" = some (some (.builtin "object.__setattr__"))) (gt_NoState : PySem.W.findIn K (.ref C_NoState) "__getattribute__" = some (some (.builtin "BaseException.__getattribute__"))) (gg_NoState : PySem.W.findIn K (.ref C_NoState) "__getattr__" = some none)
    (ii_NoState : PySem.W.findIn K (.ref C_NoState) "__init__" = some (some (.ref fi_NoState))) (ti_NoState : PySem.W.typeIn K (.ref fi_NoState) = some (.type "function"))
    (li_NoState : K.lookup fi_NoState = some ⟨oc_NoState, od_NoState, .func (PySem.W.fnOf "__init__" "NoState.__init__" (defArgs si_NoState) (defBody si_NoState) (defScope si_NoState) .none kV_NoState dc_NoState pm_NoState an_NoState cd_NoState ct_NoState), sl_NoState⟩) (ci_NoState : PySem.W.codeIn K cd_NoState "NoState.__init__" = true) (ki_NoState : PySem.W.keepIn K (.ref fi_NoState) = true)
    (kC_NoState : PySem.W.keepIn K (.ref C_NoState) = true) (eC_NoState : PySem.W.subIn K (.ref C_NoState) (.type "BaseException") = some true) (tC_NoState : PySem.W.typeIn K (.ref C_NoState) = some (.type "type")) (hC_NoState : PySem.W.hasDictIn K C_NoState = true) (iC_NoState : PySem.W.isClsIn K C_NoState = true) (sC_NoState : PySem.W.subIn K (.ref C_NoState) (.ref C_NoState) = some true)
    (g_NoDigits : PySem.W.nsIn K mainGlobals "NoDigits" = some (some (.ref C_NoDigits))) (xl_NoDigits : K.lookup C_NoDigits = some (excClassObj nm_NoDigits qn_NoDigits C_NoDigits nn_NoDigits bs_NoDigits (.ref C_WritingError :: [.type "ValueError", .type "Exception", .type "BaseException", .type "object"]) true sn_NoDigits sb_NoDigits ab_NoDigits cl_NoDigits dd_NoDigits m0_NoDigits m1_NoDigits m2_NoDigits m3_NoDigits m5_NoDigits "ValueError.__new__"))
    (sa_NoDigits : PySem.W.findIn K (.ref C_NoDigits) "__setattr__" = some (some (.builtin "object.__setattr__"))) (gt_NoDigits : PySem.W.findIn K (.ref C_NoDigits) "__getattribute__" = some (some (.builtin "BaseException.__getattribute__"))) (gg_NoDigits : PySem.W.findIn K (.ref C_NoDigits) "__getattr__" = some none)
    (ii_NoDigits : PySem.W.findIn K (.ref C_NoDigits) "__init__" = some (some (.ref fi_NoDigits))) (ti_NoDigits : PySem.W.typeIn K (.ref fi_NoDigits) = some (.type "function"))
    (li_NoDigits : K.lookup fi_NoDigits = some ⟨oc_NoDigits, od_NoDigits, .func (PySem.W.fnOf "__init__" "NoDigits.__init__" (defArgs si_NoDigits) (defBody si_NoDigits) (defScope si_NoDigits) .none kV_NoDigits dc_NoDigits pm_NoDigits an_NoDigits cd_NoDigits ct_NoDigits), sl_NoDigits⟩) (ci_NoDigits : PySem.W.codeIn K cd_NoDigits "NoDigits.__init__" = true) (ki_NoDigits : PySem.W.keepIn K (.ref fi_NoDigits) = true)
    (kC_NoDigits : PySem.W.keepIn K (.ref C_NoDigits) = true) (eC_NoDigits : PySem.W.subIn K (.ref C_NoDigits) (.type "BaseException") = some true) (tC_NoDigits : PySem.W.typeIn K (.ref C_NoDigits) = some (.type "type")) (hC_NoDigits : PySem.W.hasDictIn K C_NoDigits = true) (iC_NoDigits : PySem.W.isClsIn K C_NoDigits = true) (sC_NoDigits : PySem.W.subIn K (.ref C_NoDigits) (.ref C_NoDigits) = some true)
    (g_NoWriting : PySem.W.nsIn K mainGlobals "NoWriting" = some (some (.ref C_NoWriting))) (xl_NoWriting : K.lookup C_NoWriting = some (excClassObj nm_NoWriting qn_NoWriting C_NoWriting nn_NoWriting bs_NoWriting (.ref C_WritingError :: [.type "ValueError", .type "Exception", .type "BaseException", .type "object"]) true sn_NoWriting sb_NoWriting ab_NoWriting cl_NoWriting dd_NoWriting m0_NoWriting m1_NoWriting m2_NoWriting m3_NoWriting m5_NoWriting "ValueError.__new__"))
    (sa_NoWriting : PySem.W.findIn K (.ref C_NoWriting) "__setattr__" = some (some (.builtin "object.__setattr__"))) (gt_NoWriting : PySem.W.findIn K (.ref C_NoWriting) "__getattribute__" = some (some (.builtin "BaseException.__getattribute__"))) (gg_NoWriting : PySem.W.findIn K (.ref C_NoWriting) "__getattr__" = some none)
    (ii_NoWriting : PySem.W.findIn K (.ref C_NoWriting) "__init__" = some (some (.ref fi_NoWriting))) (ti_NoWriting : PySem.W.typeIn K (.ref fi_NoWriting) = some (.type "function"))
    (li_NoWriting : K.lookup fi_NoWriting = some ⟨oc_NoWriting, od_NoWriting, .func (PySem.W.fnOf "__init__" "NoWriting.__init__" (defArgs si_NoWriting) (defBody si_NoWriting) (defScope si_NoWriting) .none kV_NoWriting dc_NoWriting pm_NoWriting an_NoWriting cd_NoWriting ct_NoWriting), sl_NoWriting⟩) (ci_NoWriting : PySem.W.codeIn K cd_NoWriting "NoWriting.__init__" = true) (ki_NoWriting : PySem.W.keepIn K (.ref fi_NoWriting) = true)
    (kC_NoWriting : PySem.W.keepIn K (.ref C_NoWriting) = true) (eC_NoWriting : PySem.W.subIn K (.ref C_NoWriting) (.type "BaseException") = some true) (tC_NoWriting : PySem.W.typeIn K (.ref C_NoWriting) = some (.type "type")) (hC_NoWriting : PySem.W.hasDictIn K C_NoWriting = true) (iC_NoWriting : PySem.W.isClsIn K C_NoWriting = true) (sC_NoWriting : PySem.W.subIn K (.ref C_NoWriting) (.ref C_NoWriting) = some true)
    (eC_WritingError : PySem.W.subIn K (.ref C_WritingError) (.type "BaseException") = some true) (tC_WritingError : PySem.W.typeIn K (.ref C_WritingError) = some (.type "type")) (iC_WritingError : PySem.W.isClsIn K C_WritingError = true)
    (sb_NoState_WritingError : PySem.W.subIn K (.ref C_NoState) (.ref C_WritingError) = some true)
    (sb_NoDigits_WritingError : PySem.W.subIn K (.ref C_NoDigits) (.ref C_WritingError) = some true)
    (sb_NoWriting_WritingError : PySem.W.subIn K (.ref C_NoWriting) (.ref C_WritingError) = some true)
    (sb_NoState_NoDigits : PySem.W.subIn K (.ref C_NoState) (.ref C_NoDigits) = some false)
    (ne_NoState_NoDigits : C_NoState ≠ C_NoDigits)
    (sb_NoState_NoWriting : PySem.W.subIn K (.ref C_NoState) (.ref C_NoWriting) = some false)
    (ne_NoState_NoWriting : C_NoState ≠ C_NoWriting)
    (sb_NoDigits_NoState : PySem.W.subIn K (.ref C_NoDigits) (.ref C_NoState) = some false)
    (ne_NoDigits_NoState : C_NoDigits ≠ C_NoState)
    (sb_NoDigits_NoWriting : PySem.W.subIn K (.ref C_NoDigits) (.ref C_NoWriting) = some false)
    (ne_NoDigits_NoWriting : C_NoDigits ≠ C_NoWriting)
    (sb_NoWriting_NoState : PySem.W.subIn K (.ref C_NoWriting) (.ref C_NoState) = some false)
    (ne_NoWriting_NoState : C_NoWriting ≠ C_NoState)
    (sb_NoWriting_NoDigits : PySem.W.subIn K (.ref C_NoWriting) (.ref C_NoDigits) = some false)
    (ne_NoWriting_NoDigits : C_NoWriting ≠ C_NoDigits)
    (ac_NoState : PySem.W.findIn K (.ref C_NoState) "__class__" = some (some (.builtin "object.__class__"))) (mc_NoState : PySem.W.mroIn K C_NoState (.type "object") = some true)
    (ac_NoDigits : PySem.W.findIn K (.ref C_NoDigits) "__class__" = some (some (.builtin "object.__class__"))) (mc_NoDigits : PySem.W.mroIn K C_NoDigits (.type "object") = some true)
    (ac_NoWriting : PySem.W.findIn K (.ref C_NoWriting) "__class__" = some (some (.builtin "object.__class__"))) (mc_NoWriting : PySem.W.mroIn K C_NoWriting (.type "object") = some true)
    (nc_ : PySem.W.specialIn K (.builtin "object.__class__") "__get__" = some (some (.builtin "getset_descriptor.__get__"))) (tc_ : PySem.W.takesIn K (.builtin "object.__class__") = some true)
    (n_ValueError : PySem.W.nsIn K mainGlobals "ValueError" = some none)
    (n_abs : PySem.W.nsIn K mainGlobals "abs" = some none)
    (n_all : PySem.W.nsIn K mainGlobals "all" = some none)
    (n_bool : PySem.W.nsIn K mainGlobals "bool" = some none)
    (n_enumerate : PySem.W.nsIn K mainGlobals "enumerate" = some none)
    (n_int : PySem.W.nsIn K mainGlobals "int" = some none)
    (n_isinstance : PySem.W.nsIn K mainGlobals "isinstance" = some none)
    (n_len : PySem.W.nsIn K mainGlobals "len" = some none)
    (n_list : PySem.W.nsIn K mainGlobals "list" = some none)
    (n_range : PySem.W.nsIn K mainGlobals "range" = some none)
    (n_sum : PySem.W.nsIn K mainGlobals "sum" = some none)
    (n_tuple : PySem.W.nsIn K mainGlobals "tuple" = some none)
    (g_gcd : PySem.W.nsIn K mainGlobals "gcd" = some (some (.builtin "math.gcd")))
    (ec_law : cd_law = .ref cc_law) (lc_law : K.lookup cc_law = some ob_law) (dc2_law : ob_law.data = .fields vs_law) (pc_law : vs_law[11]? = some (.ref pp_law))
    (ec_law_are_near_refused : cd_law_are_near_refused = .ref cc_law_are_near_refused) (lc_law_are_near_refused : K.lookup cc_law_are_near_refused = some ob_law_are_near_refused) (dc2_law_are_near_refused : ob_law_are_near_refused.data = .fields vs_law_are_near_refused) (pc_law_are_near_refused : vs_law_are_near_refused[11]? = some (.ref pp_law_are_near_refused))
    (nepp : pp_law ≠ pp_law_are_near_refused) :
    ∃ fd : FuncData, (∀ (s : Shared) (v : Value), BindsTo s fd ⟨[v], []⟩ [("script", v)]) ∧ (∀ P1 P2, PySem.W.CodeHd h c1 P1 → PySem.W.CodeHd h c2 P2 → P1 ≠ P2) ∧ ∀ (base : Heap) (P1 P2 : Addr), P1 ≠ P2 → K.In base → base.Ns mainGlobals mg → LamX.TabB base mg c1 P1 → LamX.TabB base mg c2 P2 → FnOk l.prog w K mg base CX0 13 fa fd ["script"] (spLawT K [(P1, lamQ), (P2, lamQ2)]) := by
  have e := hfa.symm.trans (PySem.W.mg_of X G a_law)
  cases e
  have e2 := hfb.symm.trans (PySem.W.mg_of X G a_law_are_near_refused)
  cases e2
  have T : Txt K mg := ⟨⟨⟨_, PySem.W.mg_of X G g_WritingError, ga_WritingError, rd_WritingError, fc_WritingError⟩⟩,
    ⟨⟨_, _, _, PySem.W.mg_of X G g_BadMachine, ⟨⟨_, _, _, _, _, _, _, _, _, _, _, _, _, _, _, xl_BadMachine, by rfl⟩, sa_BadMachine, eC_BadMachine, tC_BadMachine, kC_BadMachine⟩, ii_BadMachine, ti_BadMachine, fun_mk (st := si_BadMachine) li_BadMachine ci_BadMachine ki_BadMachine, exm_same eC_BadMachine iC_BadMachine tC_BadMachine sC_BadMachine, ⟨gt_BadMachine, gg_BadMachine, eC_BadMachine, hC_BadMachine⟩, (fun f hf => by cases hf with | head => exact nf_BadMachine | tail _ z => cases z)⟩⟩,
    ⟨⟨_, _, _, PySem.W.mg_of X G g_NoState, ⟨⟨_, _, _, _, _, _, _, _, _, _, _, _, _, _, _, xl_NoState, by rfl⟩, sa_NoState, eC_NoState, tC_NoState, kC_NoState⟩, ii_NoState, ti_NoState, fun_mk (st := si_NoState) li_NoState ci_NoState ki_NoState, exm_same eC_NoState iC_NoState tC_NoState sC_NoState, ⟨gt_NoState, gg_NoState, eC_NoState, hC_NoState⟩, (fun f hf => by cases hf)⟩⟩,
    ⟨⟨_, _, _, PySem.W.mg_of X G g_NoDigits, ⟨⟨_, _, _, _, _, _, _, _, _, _, _, _, _, _, _, xl_NoDigits, by rfl⟩, sa_NoDigits, eC_NoDigits, tC_NoDigits, kC_NoDigits⟩, ii_NoDigits, ti_NoDigits, fun_mk (st := si_NoDigits) li_NoDigits ci_NoDigits ki_NoDigits, exm_same eC_NoDigits iC_NoDigits tC_NoDigits sC_NoDigits, ⟨gt_NoDigits, gg_NoDigits, eC_NoDigits, hC_NoDigits⟩, (fun f hf => by cases hf)⟩⟩,
    ⟨⟨_, _, _, PySem.W.mg_of X G g_NoWriting, ⟨⟨_, _, _, _, _, _, _, _, _, _, _, _, _, _, _, xl_NoWriting, by rfl⟩, sa_NoWriting, eC_NoWriting, tC_NoWriting, kC_NoWriting⟩, ii_NoWriting, ti_NoWriting, fun_mk (st := si_NoWriting) li_NoWriting ci_NoWriting ki_NoWriting, exm_same eC_NoWriting iC_NoWriting tC_NoWriting sC_NoWriting, ⟨gt_NoWriting, gg_NoWriting, eC_NoWriting, hC_NoWriting⟩, (fun f hf => by cases hf)⟩⟩,
    ⟨⟨_, _, PySem.W.mg_of X G a_reduced, fun_mk (st := s_reduced) l_reduced c_reduced k_reduced⟩⟩,
    ⟨⟨_, _, PySem.W.mg_of X G a_plus, fun_mk (st := s_plus) l_plus c_plus k_plus⟩⟩,
    ⟨⟨_, _, PySem.W.mg_of X G a_whole, fun_mk (st := s_whole) l_whole c_whole k_whole⟩⟩,
    ⟨⟨_, _, PySem.W.mg_of X G a_power, fun_mk (st := s_power) l_power c_power k_power⟩⟩,
    ⟨⟨_, _, PySem.W.mg_of X G a_worth_of, fun_mk (st := s_worth_of) l_worth_of c_worth_of k_worth_of⟩⟩,
    ⟨⟨_, _, PySem.W.mg_of X G a_is_integer, fun_mk (st := s_is_integer) l_is_integer c_is_integer k_is_integer⟩⟩,
    ⟨⟨_, _, PySem.W.mg_of X G a_is_integer_within, fun_mk (st := s_is_integer_within) l_is_integer_within c_is_integer_within k_is_integer_within⟩⟩,
    ⟨⟨_, _, PySem.W.mg_of X G a_is_base, fun_mk (st := s_is_base) l_is_base c_is_base k_is_base⟩⟩,
    ⟨⟨_, _, PySem.W.mg_of X G a_is_digit, fun_mk (st := s_is_digit) l_is_digit c_is_digit k_is_digit⟩⟩,
    ⟨⟨_, _, PySem.W.mg_of X G a_is_tuple_of, fun_mk (st := s_is_tuple_of) l_is_tuple_of c_is_tuple_of k_is_tuple_of⟩⟩,
    ⟨⟨_, _, PySem.W.mg_of X G a_are_integers, fun_mk (st := s_are_integers) l_are_integers c_are_integers k_are_integers⟩⟩,
    ⟨⟨_, _, PySem.W.mg_of X G a_are_digits, fun_mk (st := s_are_digits) l_are_digits c_are_digits k_are_digits⟩⟩,
    ⟨⟨_, _, PySem.W.mg_of X G a_is_row, fun_mk (st := s_is_row) l_is_row c_is_row k_is_row⟩⟩,
    ⟨⟨_, _, PySem.W.mg_of X G a_is_row_of_digits, fun_mk (st := s_is_row_of_digits) l_is_row_of_digits c_is_row_of_digits k_is_row_of_digits⟩⟩,
    ⟨⟨_, _, PySem.W.mg_of X G a_shortest, fun_mk (st := s_shortest) l_shortest c_shortest k_shortest⟩⟩,
    ⟨⟨_, _, PySem.W.mg_of X G a_shortest_turn, fun_mk (st := s_shortest_turn) l_shortest_turn c_shortest_turn k_shortest_turn⟩⟩,
    ⟨_, _, _, PySem.W.mg_of X G g_Machine, ⟨mk_Machine, ii_Machine, if_Machine, kC_Machine⟩, ⟨pg_Machine, hC_Machine, po_Machine, sa_Machine⟩, fun_mk (st := s_Machine) l_Machine c_Machine k_Machine, fun g hg => by simp only [List.mem_cons, List.not_mem_nil, or_false] at hg; rcases hg with rfl | rfl | rfl <;> first | exact nf_Machine_base | exact nf_Machine_first | exact nf_Machine_rows⟩,
    ⟨⟨_, _, _, PySem.W.mg_of X G g_Machine, eqf_mk ⟨pg_Machine, hC_Machine, po_Machine, sa_Machine⟩ ha_Machine_eq hn_Machine_eq ht_Machine_eq hm_Machine_eq ic_Machine_eq tc_Machine_eq u0_Machine_eq u1_Machine_eq u2_Machine_eq u3_Machine_eq u4_Machine_eq u5_Machine_eq u6_Machine_eq, fun_mk (st := s_Machine_eq) l_Machine_eq c_Machine_eq k_Machine_eq, ie_Machine_eq, if_Machine_eq, ⟨_, l_Machine_eq, rfl⟩, fun _ => ⟨⟨_, _, _, _, _, _, _, _, _, _, _, _, _, _, _, _, _, _, _, _, _, xl_Machine_eq, xn_Machine_eq, xs_Machine_eq, xe_Machine_eq, xx_Machine_eq⟩⟩⟩⟩,
    ⟨⟨_, _, PySem.W.mg_of X G a_is_row_of_pairs, fun_mk (st := s_is_row_of_pairs) l_is_row_of_pairs c_is_row_of_pairs k_is_row_of_pairs⟩⟩,
    ⟨⟨_, _, PySem.W.mg_of X G a_is_pair_of_state, fun_mk (st := s_is_pair_of_state) l_is_pair_of_state c_is_pair_of_state k_is_pair_of_state⟩⟩,
    ⟨⟨_, _, PySem.W.mg_of X G a_is_index, fun_mk (st := s_is_index) l_is_index c_is_index k_is_index⟩⟩,
    ⟨⟨_, _, PySem.W.mg_of X G a_is_state, fun_mk (st := s_is_state) l_is_state c_is_state k_is_state⟩⟩,
    ⟨⟨_, _, PySem.W.mg_of X G a_check_state, fun_mk (st := s_check_state) l_check_state c_check_state k_check_state⟩⟩,
    ⟨⟨_, _, PySem.W.mg_of X G a_check_digits, fun_mk (st := s_check_digits) l_check_digits c_check_digits k_check_digits⟩⟩,
    ⟨⟨_, _, PySem.W.mg_of X G a_check_writing, fun_mk (st := s_check_writing) l_check_writing c_check_writing k_check_writing⟩⟩,
    ⟨⟨_, _, PySem.W.mg_of X G a_read, fun_mk (st := s_read) l_read c_read k_read⟩⟩,
    ⟨⟨_, _, PySem.W.mg_of X G a_follow, fun_mk (st := s_follow) l_follow c_follow k_follow⟩⟩,
    ⟨⟨_, _, PySem.W.mg_of X G a_told, fun_mk (st := s_told) l_told c_told k_told⟩⟩,
    ⟨⟨_, _, PySem.W.mg_of X G a_row_told, fun_mk (st := s_row_told) l_row_told c_row_told k_row_told⟩⟩,
    ⟨⟨_, _, PySem.W.mg_of X G a_makes, fun_mk (st := s_makes) l_makes c_makes k_makes⟩⟩,
    ⟨⟨_, _, PySem.W.mg_of X G a_made_by_state, fun_mk (st := s_made_by_state) l_made_by_state c_made_by_state k_made_by_state⟩⟩,
    ⟨⟨_, _, PySem.W.mg_of X G a_made, fun_mk (st := s_made) l_made c_made k_made⟩⟩,
    ⟨⟨_, _, PySem.W.mg_of X G a_made_by_machine, fun_mk (st := s_made_by_machine) l_made_by_machine c_made_by_machine k_made_by_machine⟩⟩,
    ⟨⟨_, _, PySem.W.mg_of X G a_law_hand, fun_mk (st := s_law_hand) l_law_hand c_law_hand k_law_hand⟩⟩,
    ⟨⟨_, _, PySem.W.mg_of X G a_law_mixed, fun_mk (st := s_law_mixed) l_law_mixed c_law_mixed k_law_mixed⟩⟩,
    ⟨⟨_, _, PySem.W.mg_of X G a_law_draw, fun_mk (st := s_law_draw) l_law_draw c_law_draw k_law_draw⟩⟩,
    ⟨⟨_, _, PySem.W.mg_of X G a_law_any, fun_mk (st := s_law_any) l_law_any c_law_any k_law_any⟩⟩,
    ⟨⟨_, _, PySem.W.mg_of X G a_law_low, fun_mk (st := s_law_low) l_law_low c_law_low k_law_low⟩⟩,
    ⟨⟨_, _, PySem.W.mg_of X G a_law_minus, fun_mk (st := s_law_minus) l_law_minus c_law_minus k_law_minus⟩⟩,
    ⟨⟨_, _, PySem.W.mg_of X G a_law_times, fun_mk (st := s_law_times) l_law_times c_law_times k_law_times⟩⟩,
    ⟨⟨_, _, PySem.W.mg_of X G a_law_goes, fun_mk (st := s_law_goes) l_law_goes c_law_goes k_law_goes⟩⟩,
    ⟨⟨_, _, PySem.W.mg_of X G a_law_writing, fun_mk (st := s_law_writing) l_law_writing c_law_writing k_law_writing⟩⟩,
    ⟨⟨_, _, PySem.W.mg_of X G a_law_number, fun_mk (st := s_law_number) l_law_number c_law_number k_law_number⟩⟩,
    ⟨⟨_, _, PySem.W.mg_of X G a_law_is_int, fun_mk (st := s_law_is_int) l_law_is_int c_law_is_int k_law_is_int⟩⟩,
    ⟨⟨_, _, PySem.W.mg_of X G a_law_word, fun_mk (st := s_law_word) l_law_word c_law_word k_law_word⟩⟩,
    ⟨⟨_, _, PySem.W.mg_of X G a_law_are_digits, fun_mk (st := s_law_are_digits) l_law_are_digits c_law_are_digits k_law_are_digits⟩⟩,
    ⟨⟨_, _, PySem.W.mg_of X G a_law_is_writing, fun_mk (st := s_law_is_writing) l_law_is_writing c_law_is_writing k_law_is_writing⟩⟩,
    ⟨⟨_, _, PySem.W.mg_of X G a_law_odd, fun_mk (st := s_law_odd) l_law_odd c_law_odd k_law_odd⟩⟩,
    ⟨⟨_, _, PySem.W.mg_of X G a_law_are_near_refused, fun_mk (st := s_law_are_near_refused) l_law_are_near_refused c_law_are_near_refused k_law_are_near_refused⟩⟩,
    ⟨⟨_, _, PySem.W.mg_of X G a_law, fun_mk (st := s_law) l_law c_law k_law⟩⟩,
    xm_mk (PySem.W.mg_of X G g_NoState) (PySem.W.mg_of X G g_WritingError) eC_WritingError iC_WritingError tC_WritingError sb_NoState_WritingError (.inl rfl),
    xm_mk (PySem.W.mg_of X G g_NoDigits) (PySem.W.mg_of X G g_WritingError) eC_WritingError iC_WritingError tC_WritingError sb_NoDigits_WritingError (.inl rfl),
    xm_mk (PySem.W.mg_of X G g_NoWriting) (PySem.W.mg_of X G g_WritingError) eC_WritingError iC_WritingError tC_WritingError sb_NoWriting_WritingError (.inl rfl),
    xm_mk (PySem.W.mg_of X G g_NoState) (PySem.W.mg_of X G g_NoDigits) eC_NoDigits iC_NoDigits tC_NoDigits sb_NoState_NoDigits (.inr ne_NoState_NoDigits),
    xm_mk (PySem.W.mg_of X G g_NoState) (PySem.W.mg_of X G g_NoWriting) eC_NoWriting iC_NoWriting tC_NoWriting sb_NoState_NoWriting (.inr ne_NoState_NoWriting),
    xm_mk (PySem.W.mg_of X G g_NoDigits) (PySem.W.mg_of X G g_NoState) eC_NoState iC_NoState tC_NoState sb_NoDigits_NoState (.inr ne_NoDigits_NoState),
    xm_mk (PySem.W.mg_of X G g_NoDigits) (PySem.W.mg_of X G g_NoWriting) eC_NoWriting iC_NoWriting tC_NoWriting sb_NoDigits_NoWriting (.inr ne_NoDigits_NoWriting),
    xm_mk (PySem.W.mg_of X G g_NoWriting) (PySem.W.mg_of X G g_NoState) eC_NoState iC_NoState tC_NoState sb_NoWriting_NoState (.inr ne_NoWriting_NoState),
    xm_mk (PySem.W.mg_of X G g_NoWriting) (PySem.W.mg_of X G g_NoDigits) eC_NoDigits iC_NoDigits tC_NoDigits sb_NoWriting_NoDigits (.inr ne_NoWriting_NoDigits),
    ⟨⟨_, PySem.W.mg_of X G g_NoState, ⟨gt_NoState, gg_NoState, eC_NoState, hC_NoState, ac_NoState, nc_, tc_, mc_NoState⟩⟩⟩,
    ⟨⟨_, PySem.W.mg_of X G g_NoDigits, ⟨gt_NoDigits, gg_NoDigits, eC_NoDigits, hC_NoDigits, ac_NoDigits, nc_, tc_, mc_NoDigits⟩⟩⟩,
    ⟨⟨_, PySem.W.mg_of X G g_NoWriting, ⟨gt_NoWriting, gg_NoWriting, eC_NoWriting, hC_NoWriting, ac_NoWriting, nc_, tc_, mc_NoWriting⟩⟩⟩,
    PySem.W.mg_none_of X G n_ValueError,
    PySem.W.mg_none_of X G n_abs,
    PySem.W.mg_none_of X G n_all,
    PySem.W.mg_none_of X G n_bool,
    PySem.W.mg_none_of X G n_enumerate,
    PySem.W.mg_none_of X G n_int,
    PySem.W.mg_none_of X G n_isinstance,
    PySem.W.mg_none_of X G n_len,
    PySem.W.mg_none_of X G n_list,
    PySem.W.mg_none_of X G n_range,
    PySem.W.mg_none_of X G n_sum,
    PySem.W.mg_none_of X G n_tuple,
    PySem.W.mg_of X G g_gcd⟩
  have E1 := hco _ _ (X _ _ l_law) rfl
  have E2 := hco2 _ _ (X _ _ l_law_are_near_refused) rfl
  have FL := funC_mk (st := s_law) l_law c_law E1
  have FN : SrcC K mg "_law_are_near_refused" s_law_are_near_refused c2 := ⟨_, _, PySem.W.mg_of X G a_law_are_near_refused, k_law_are_near_refused, funC_mk (st := s_law_are_near_refused) l_law_are_near_refused c_law_are_near_refused E2⟩
  have z1 : cc_law = c1 := by rw [show cd_law = Value.ref c1 from E1] at ec_law; cases ec_law; rfl
  have z2 : cc_law_are_near_refused = c2 := by rw [show cd_law_are_near_refused = Value.ref c2 from E2] at ec_law_are_near_refused; cases ec_law_are_near_refused; rfl
  subst z1 z2
  exact ⟨_, fun s v => .of_eq rfl, fun P1 P2 C1 C2 => tabs_ne X lc_law dc2_law pc_law lc_law_are_near_refused dc2_law_are_near_refused pc_law_are_near_refused nepp C1 C2, fun base P1 P2 ne _ _ TB1 TB2 => ok_law T FL FN TB1 TB2 ne⟩
end Lk09
open PySem PySem.W PyProof.Rows
set_option maxRecDepth 100000 in
set_option maxHeartbeats 0 in
theorem PySem.Challenge.cw_anywriting_k09_reading_refused_holds : PySem.Challenge.rw_anywriting_k09_reading_refused.Holds := by
  w_on; o_law; k_head; (case hw => w_witness2)
  k_fill
  refine Cal.walkT2 (l := PySem.Challenge.rw_anywriting_k09_reading_refused) (k := 13) (q1 := Lk09.lamQ) (q2 := Lk09.lamQ2) (y := "_law_are_near_refused") rfl rfl ⟨rfl, by decide, by decide⟩ (fun w h Y => PySem.W.km_in_of Y) ?hK ?hr ?hr2 ?F
  case hK => exact fun w => by kernel_rfl
  case hr => kernel_rfl
  case hr2 => kernel_rfl
  case F =>
    intro w mg fa fb c1 c2 h KX G hmg hmb hco hco2
    refine' Lk09.all_mk KX G hmg hmb hco hco2 ?a_reduced ?l_reduced ?c_reduced ?k_reduced ?a_plus ?l_plus ?c_plus ?k_plus ?a_whole ?l_whole ?c_whole ?k_whole ?a_power ?l_power ?c_power ?k_power ?a_worth_of ?l_worth_of ?c_worth_of ?k_worth_of ?a_is_integer ?l_is_integer ?c_is_integer ?k_is_integer ?a_is_integer_within ?l_is_integer_within ?c_is_integer_within ?k_is_integer_within ?a_is_base ?l_is_base ?c_is_base ?k_is_base ?a_is_digit ?l_is_digit ?c_is_digit ?k_is_digit ?a_is_tuple_of ?l_is_tuple_of ?c_is_tuple_of ?k_is_tuple_of ?a_are_integers ?l_are_integers ?c_are_integers ?k_are_integers ?a_are_digits ?l_are_digits ?c_are_digits ?k_are_digits ?a_is_row ?l_is_row ?c_is_row ?k_is_row ?a_is_row_of_digits ?l_is_row_of_digits ?c_is_row_of_digits ?k_is_row_of_digits ?a_shortest ?l_shortest ?c_shortest ?k_shortest ?a_shortest_turn ?l_shortest_turn ?c_shortest_turn ?k_shortest_turn ?g_Machine ?mk_Machine ?ii_Machine ?if_Machine ?kC_Machine ?pg_Machine ?hC_Machine ?po_Machine ?sa_Machine ?l_Machine ?c_Machine ?k_Machine ?nf_Machine_base ?nf_Machine_first ?nf_Machine_rows ?ie_Machine_eq ?if_Machine_eq ?l_Machine_eq ?c_Machine_eq ?k_Machine_eq ?ha_Machine_eq ?hn_Machine_eq ?ht_Machine_eq ?hm_Machine_eq ?ic_Machine_eq ?tc_Machine_eq ?u0_Machine_eq ?u1_Machine_eq ?u2_Machine_eq ?u3_Machine_eq ?u4_Machine_eq ?u5_Machine_eq ?u6_Machine_eq ?xl_Machine_eq ?xn_Machine_eq ?xs_Machine_eq ?xe_Machine_eq ?xx_Machine_eq ?a_is_row_of_pairs ?l_is_row_of_pairs ?c_is_row_of_pairs ?k_is_row_of_pairs ?a_is_pair_of_state ?l_is_pair_of_state ?c_is_pair_of_state ?k_is_pair_of_state ?a_is_index ?l_is_index ?c_is_index ?k_is_index ?a_is_state ?l_is_state ?c_is_state ?k_is_state ?a_check_state ?l_check_state ?c_check_state ?k_check_state ?a_check_digits ?l_check_digits ?c_check_digits ?k_check_digits ?a_check_writing ?l_check_writing ?c_check_writing ?k_check_writing ?a_read ?l_read ?c_read ?k_read ?a_follow ?l_follow ?c_follow ?k_follow ?a_told ?l_told ?c_told ?k_told ?a_row_told ?l_row_told ?c_row_told ?k_row_told ?a_makes ?l_makes ?c_makes ?k_makes ?a_made_by_state ?l_made_by_state ?c_made_by_state ?k_made_by_state ?a_made ?l_made ?c_made ?k_made ?a_made_by_machine ?l_made_by_machine ?c_made_by_machine ?k_made_by_machine ?a_law_hand ?l_law_hand ?c_law_hand ?k_law_hand ?a_law_mixed ?l_law_mixed ?c_law_mixed ?k_law_mixed ?a_law_draw ?l_law_draw ?c_law_draw ?k_law_draw ?a_law_any ?l_law_any ?c_law_any ?k_law_any ?a_law_low ?l_law_low ?c_law_low ?k_law_low ?a_law_minus ?l_law_minus ?c_law_minus ?k_law_minus ?a_law_times ?l_law_times ?c_law_times ?k_law_times ?a_law_goes ?l_law_goes ?c_law_goes ?k_law_goes ?a_law_writing ?l_law_writing ?c_law_writing ?k_law_writing ?a_law_number ?l_law_number ?c_law_number ?k_law_number ?a_law_is_int ?l_law_is_int ?c_law_is_int ?k_law_is_int ?a_law_word ?l_law_word ?c_law_word ?k_law_word ?a_law_are_digits ?l_law_are_digits ?c_law_are_digits ?k_law_are_digits ?a_law_is_writing ?l_law_is_writing ?c_law_is_writing ?k_law_is_writing ?a_law_odd ?l_law_odd ?c_law_odd ?k_law_odd ?a_law_are_near_refused ?l_law_are_near_refused ?c_law_are_near_refused ?k_law_are_near_refused ?a_law ?l_law ?c_law ?k_law ?g_WritingError ?ga_WritingError ?rd_WritingError ?fc_WritingError ?g_BadMachine ?xl_BadMachine ?sa_BadMachine ?gt_BadMachine ?gg_BadMachine ?ii_BadMachine ?ti_BadMachine ?li_BadMachine ?ci_BadMachine ?ki_BadMachine ?kC_BadMachine ?eC_BadMachine ?tC_BadMachine ?hC_BadMachine ?iC_BadMachine ?sC_BadMachine ?nf_BadMachine ?g_NoState ?xl_NoState ?sa_NoState ?gt_NoState ?gg_NoState ?ii_NoState ?ti_NoState ?li_NoState ?ci_NoState ?ki_NoState ?kC_NoState ?eC_NoState ?tC_NoState ?hC_NoState ?iC_NoState ?sC_NoState ?g_NoDigits ?xl_NoDigits ?sa_NoDigits ?gt_NoDigits ?gg_NoDigits ?ii_NoDigits ?ti_NoDigits ?li_NoDigits ?ci_NoDigits ?ki_NoDigits ?kC_NoDigits ?eC_NoDigits ?tC_NoDigits ?hC_NoDigits ?iC_NoDigits ?sC_NoDigits ?g_NoWriting ?xl_NoWriting ?sa_NoWriting ?gt_NoWriting ?gg_NoWriting ?ii_NoWriting ?ti_NoWriting ?li_NoWriting ?ci_NoWriting ?ki_NoWriting ?kC_NoWriting ?eC_NoWriting ?tC_NoWriting ?hC_NoWriting ?iC_NoWriting ?sC_NoWriting ?eC_WritingError ?tC_WritingError ?iC_WritingError ?sb_NoState_WritingError ?sb_NoDigits_WritingError ?sb_NoWriting_WritingError ?sb_NoState_NoDigits ?ne_NoState_NoDigits ?sb_NoState_NoWriting ?ne_NoState_NoWriting ?sb_NoDigits_NoState ?ne_NoDigits_NoState ?sb_NoDigits_NoWriting ?ne_NoDigits_NoWriting ?sb_NoWriting_NoState ?ne_NoWriting_NoState ?sb_NoWriting_NoDigits ?ne_NoWriting_NoDigits ?ac_NoState ?mc_NoState ?ac_NoDigits ?mc_NoDigits ?ac_NoWriting ?mc_NoWriting ?nc_ ?tc_ ?n_ValueError ?n_abs ?n_all ?n_bool ?n_enumerate ?n_int ?n_isinstance ?n_len ?n_list ?n_range ?n_sum ?n_tuple ?g_gcd ?ec_law ?lc_law ?dc2_law ?pc_law ?ec_law_are_near_refused ?lc_law_are_near_refused ?dc2_law_are_near_refused ?pc_law_are_near_refused ?nepp
    (case a_reduced => k_is)
    (case l_reduced => k_is)
    (case c_reduced => k_is)
    (case k_reduced => k_is)
    (case a_plus => k_is)
    (case l_plus => k_is)
    (case c_plus => k_is)
    (case k_plus => k_is)
    (case a_whole => k_is)
    (case l_whole => k_is)
    (case c_whole => k_is)
    (case k_whole => k_is)
    (case a_power => k_is)
    (case l_power => k_is)
    (case c_power => k_is)
    (case k_power => k_is)
    (case a_worth_of => k_is)
    (case l_worth_of => k_is)
    (case c_worth_of => k_is)
    (case k_worth_of => k_is)
    (case a_is_integer => k_is)
    (case l_is_integer => k_is)
    (case c_is_integer => k_is)
    (case k_is_integer => k_is)
    (case a_is_integer_within => k_is)
    (case l_is_integer_within => k_is)
    (case c_is_integer_within => k_is)
    (case k_is_integer_within => k_is)
    (case a_is_base => k_is)
    (case l_is_base => k_is)
    (case c_is_base => k_is)
    (case k_is_base => k_is)
    (case a_is_digit => k_is)
    (case l_is_digit => k_is)
    (case c_is_digit => k_is)
    (case k_is_digit => k_is)
    (case a_is_tuple_of => k_is)
    (case l_is_tuple_of => k_is)
    (case c_is_tuple_of => k_is)
    (case k_is_tuple_of => k_is)
    (case a_are_integers => k_is)
    (case l_are_integers => k_is)
    (case c_are_integers => k_is)
    (case k_are_integers => k_is)
    (case a_are_digits => k_is)
    (case l_are_digits => k_is)
    (case c_are_digits => k_is)
    (case k_are_digits => k_is)
    (case a_is_row => k_is)
    (case l_is_row => k_is)
    (case c_is_row => k_is)
    (case k_is_row => k_is)
    (case a_is_row_of_digits => k_is)
    (case l_is_row_of_digits => k_is)
    (case c_is_row_of_digits => k_is)
    (case k_is_row_of_digits => k_is)
    (case a_shortest => k_is)
    (case l_shortest => k_is)
    (case c_shortest => k_is)
    (case k_shortest => k_is)
    (case a_shortest_turn => k_is)
    (case l_shortest_turn => k_is)
    (case c_shortest_turn => k_is)
    (case k_shortest_turn => k_is)
    (case g_Machine => k_is)
    (case mk_Machine => k_is)
    (case ii_Machine => k_is)
    (case if_Machine => k_is)
    (case kC_Machine => k_is)
    (case pg_Machine => k_is)
    (case hC_Machine => k_is)
    (case po_Machine => k_is)
    (case sa_Machine => k_is)
    (case l_Machine => k_is)
    (case c_Machine => k_is)
    (case k_Machine => k_is)
    (case nf_Machine_base => k_is)
    (case nf_Machine_first => k_is)
    (case nf_Machine_rows => k_is)
    (case ie_Machine_eq => k_is)
    (case if_Machine_eq => k_is)
    (case l_Machine_eq => k_is)
    (case c_Machine_eq => k_is)
    (case k_Machine_eq => k_is)
    (case ha_Machine_eq => k_is)
    (case hn_Machine_eq => k_is)
    (case ht_Machine_eq => k_is)
    (case hm_Machine_eq => k_is)
    (case ic_Machine_eq => k_is)
    (case tc_Machine_eq => k_is)
    (case u0_Machine_eq => k_is)
    (case u1_Machine_eq => k_is)
    (case u2_Machine_eq => k_is)
    (case u3_Machine_eq => k_is)
    (case u4_Machine_eq => k_is)
    (case u5_Machine_eq => k_is)
    (case u6_Machine_eq => k_is)
    (case xl_Machine_eq => k_is)
    (case xn_Machine_eq => k_is)
    (case xs_Machine_eq => rfl)
    (case xe_Machine_eq => rfl)
    (case xx_Machine_eq => rfl)
    (case a_is_row_of_pairs => k_is)
    (case l_is_row_of_pairs => k_is)
    (case c_is_row_of_pairs => k_is)
    (case k_is_row_of_pairs => k_is)
    (case a_is_pair_of_state => k_is)
    (case l_is_pair_of_state => k_is)
    (case c_is_pair_of_state => k_is)
    (case k_is_pair_of_state => k_is)
    (case a_is_index => k_is)
    (case l_is_index => k_is)
    (case c_is_index => k_is)
    (case k_is_index => k_is)
    (case a_is_state => k_is)
    (case l_is_state => k_is)
    (case c_is_state => k_is)
    (case k_is_state => k_is)
    (case a_check_state => k_is)
    (case l_check_state => k_is)
    (case c_check_state => k_is)
    (case k_check_state => k_is)
    (case a_check_digits => k_is)
    (case l_check_digits => k_is)
    (case c_check_digits => k_is)
    (case k_check_digits => k_is)
    (case a_check_writing => k_is)
    (case l_check_writing => k_is)
    (case c_check_writing => k_is)
    (case k_check_writing => k_is)
    (case a_read => k_is)
    (case l_read => k_is)
    (case c_read => k_is)
    (case k_read => k_is)
    (case a_follow => k_is)
    (case l_follow => k_is)
    (case c_follow => k_is)
    (case k_follow => k_is)
    (case a_told => k_is)
    (case l_told => k_is)
    (case c_told => k_is)
    (case k_told => k_is)
    (case a_row_told => k_is)
    (case l_row_told => k_is)
    (case c_row_told => k_is)
    (case k_row_told => k_is)
    (case a_makes => k_is)
    (case l_makes => k_is)
    (case c_makes => k_is)
    (case k_makes => k_is)
    (case a_made_by_state => k_is)
    (case l_made_by_state => k_is)
    (case c_made_by_state => k_is)
    (case k_made_by_state => k_is)
    (case a_made => k_is)
    (case l_made => k_is)
    (case c_made => k_is)
    (case k_made => k_is)
    (case a_made_by_machine => k_is)
    (case l_made_by_machine => k_is)
    (case c_made_by_machine => k_is)
    (case k_made_by_machine => k_is)
    (case a_law_hand => k_is)
    (case l_law_hand => k_is)
    (case c_law_hand => k_is)
    (case k_law_hand => k_is)
    (case a_law_mixed => k_is)
    (case l_law_mixed => k_is)
    (case c_law_mixed => k_is)
    (case k_law_mixed => k_is)
    (case a_law_draw => k_is)
    (case l_law_draw => k_is)
    (case c_law_draw => k_is)
    (case k_law_draw => k_is)
    (case a_law_any => k_is)
    (case l_law_any => k_is)
    (case c_law_any => k_is)
    (case k_law_any => k_is)
    (case a_law_low => k_is)
    (case l_law_low => k_is)
    (case c_law_low => k_is)
    (case k_law_low => k_is)
    (case a_law_minus => k_is)
    (case l_law_minus => k_is)
    (case c_law_minus => k_is)
    (case k_law_minus => k_is)
    (case a_law_times => k_is)
    (case l_law_times => k_is)
    (case c_law_times => k_is)
    (case k_law_times => k_is)
    (case a_law_goes => k_is)
    (case l_law_goes => k_is)
    (case c_law_goes => k_is)
    (case k_law_goes => k_is)
    (case a_law_writing => k_is)
    (case l_law_writing => k_is)
    (case c_law_writing => k_is)
    (case k_law_writing => k_is)
    (case a_law_number => k_is)
    (case l_law_number => k_is)
    (case c_law_number => k_is)
    (case k_law_number => k_is)
    (case a_law_is_int => k_is)
    (case l_law_is_int => k_is)
    (case c_law_is_int => k_is)
    (case k_law_is_int => k_is)
    (case a_law_word => k_is)
    (case l_law_word => k_is)
    (case c_law_word => k_is)
    (case k_law_word => k_is)
    (case a_law_are_digits => k_is)
    (case l_law_are_digits => k_is)
    (case c_law_are_digits => k_is)
    (case k_law_are_digits => k_is)
    (case a_law_is_writing => k_is)
    (case l_law_is_writing => k_is)
    (case c_law_is_writing => k_is)
    (case k_law_is_writing => k_is)
    (case a_law_odd => k_is)
    (case l_law_odd => k_is)
    (case c_law_odd => k_is)
    (case k_law_odd => k_is)
    (case a_law_are_near_refused => k_is)
    (case l_law_are_near_refused => k_is)
    (case c_law_are_near_refused => k_is)
    (case k_law_are_near_refused => k_is)
    (case a_law => k_is)
    (case l_law => k_is)
    (case c_law => k_is)
    (case k_law => k_is)
    (case g_WritingError => k_is)
    (case ga_WritingError => k_is)
    (case rd_WritingError => k_is)
    (case fc_WritingError => k_is)
    (case g_BadMachine => k_is)
    (case xl_BadMachine => k_is)
    (case sa_BadMachine => k_is)
    (case gt_BadMachine => k_is)
    (case gg_BadMachine => k_is)
    (case ii_BadMachine => k_is)
    (case ti_BadMachine => k_is)
    (case li_BadMachine => k_is)
    (case ci_BadMachine => k_is)
    (case ki_BadMachine => k_is)
    (case kC_BadMachine => k_is)
    (case eC_BadMachine => k_is)
    (case tC_BadMachine => k_is)
    (case hC_BadMachine => k_is)
    (case iC_BadMachine => k_is)
    (case sC_BadMachine => k_is)
    (case nf_BadMachine => k_is)
    (case g_NoState => k_is)
    (case xl_NoState => k_is)
    (case sa_NoState => k_is)
    (case gt_NoState => k_is)
    (case gg_NoState => k_is)
    (case ii_NoState => k_is)
    (case ti_NoState => k_is)
    (case li_NoState => k_is)
    (case ci_NoState => k_is)
    (case ki_NoState => k_is)
    (case kC_NoState => k_is)
    (case eC_NoState => k_is)
    (case tC_NoState => k_is)
    (case hC_NoState => k_is)
    (case iC_NoState => k_is)
    (case sC_NoState => k_is)
    (case g_NoDigits => k_is)
    (case xl_NoDigits => k_is)
    (case sa_NoDigits => k_is)
    (case gt_NoDigits => k_is)
    (case gg_NoDigits => k_is)
    (case ii_NoDigits => k_is)
    (case ti_NoDigits => k_is)
    (case li_NoDigits => k_is)
    (case ci_NoDigits => k_is)
    (case ki_NoDigits => k_is)
    (case kC_NoDigits => k_is)
    (case eC_NoDigits => k_is)
    (case tC_NoDigits => k_is)
    (case hC_NoDigits => k_is)
    (case iC_NoDigits => k_is)
    (case sC_NoDigits => k_is)
    (case g_NoWriting => k_is)
    (case xl_NoWriting => k_is)
    (case sa_NoWriting => k_is)
    (case gt_NoWriting => k_is)
    (case gg_NoWriting => k_is)
    (case ii_NoWriting => k_is)
    (case ti_NoWriting => k_is)
    (case li_NoWriting => k_is)
    (case ci_NoWriting => k_is)
    (case ki_NoWriting => k_is)
    (case kC_NoWriting => k_is)
    (case eC_NoWriting => k_is)
    (case tC_NoWriting => k_is)
    (case hC_NoWriting => k_is)
    (case iC_NoWriting => k_is)
    (case sC_NoWriting => k_is)
    (case eC_WritingError => k_is)
    (case tC_WritingError => k_is)
    (case iC_WritingError => k_is)
    (case sb_NoState_WritingError => k_is)
    (case sb_NoDigits_WritingError => k_is)
    (case sb_NoWriting_WritingError => k_is)
    (case sb_NoState_NoDigits => k_is)
    (case ne_NoState_NoDigits => decide)
    (case sb_NoState_NoWriting => k_is)
    (case ne_NoState_NoWriting => decide)
    (case sb_NoDigits_NoState => k_is)
    (case ne_NoDigits_NoState => decide)
    (case sb_NoDigits_NoWriting => k_is)
    (case ne_NoDigits_NoWriting => decide)
    (case sb_NoWriting_NoState => k_is)
    (case ne_NoWriting_NoState => decide)
    (case sb_NoWriting_NoDigits => k_is)
    (case ne_NoWriting_NoDigits => decide)
    (case ac_NoState => k_is)
    (case mc_NoState => k_is)
    (case ac_NoDigits => k_is)
    (case mc_NoDigits => k_is)
    (case ac_NoWriting => k_is)
    (case mc_NoWriting => k_is)
    (case nc_ => k_is)
    (case tc_ => k_is)
    (case n_ValueError => k_is)
    (case n_abs => k_is)
    (case n_all => k_is)
    (case n_bool => k_is)
    (case n_enumerate => k_is)
    (case n_int => k_is)
    (case n_isinstance => k_is)
    (case n_len => k_is)
    (case n_list => k_is)
    (case n_range => k_is)
    (case n_sum => k_is)
    (case n_tuple => k_is)
    (case g_gcd => k_is)
    (case ec_law => rfl)
    (case lc_law => k_is)
    (case dc2_law => rfl)
    (case pc_law => rfl)
    (case ec_law_are_near_refused => rfl)
    (case lc_law_are_near_refused => k_is)
    (case dc2_law_are_near_refused => rfl)
    (case pc_law_are_near_refused => rfl)
    (case nepp => decide)
#print axioms PySem.Challenge.cw_anywriting_k09_reading_refused_holds

