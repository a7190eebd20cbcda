import PyProof.Rows.All
import Wide.All
import OpenK.AllK
import Wide.FinOn
import HandS.ForMost
import HandS.Evl
import HandS.Wide
import HandS.Gcd
import HandS.IsInst
import HandS.TupAny
import HandS.ExcInit
import HandS.EndBits
import HandS.Lambda
import HandS.EndTab
import KE.KDictSum
import HandS.Sort
import HandS.Style
import HandS.ExcField
import HandS.ExcOwn
import HandS.ExcIs
import HandS.TryOnly
import HandS.TryMany
import HandS.WordsExc
import HandS.Zip
import HandS.Deep
import HandS.TupMul
import HandS.Iter
import KE.BitLaws
import KE.DataCmp
import HandS.TupLe
import KE.GoesEnum
import PyProof.SumAnyB
import HandS.Hot
import HandS.HotCalls
import HandS.RaiseFrom
import HandS.ExcCtx
import HandS.DictComp
import HandS.WideBits
import KE.KExcIs
import PyProof.EqAt
import PyProof.EqKinds
import PyProof.FactsAll.tuple_2
import HandS.Conv
import HandS.DictTup
import HandS.TupLen
import KE.KDictPairs
import HandS.SortRule
import KE.KDictZip
import HandS.Text
import KE.LtSeq
import HandS.TupSets
import PyProof.Rows.ReprR
import HandS.SetFor
import PySem.Challenge.RW_anywriting_k00_errors_of_the_package
set_option Elab.async false
set_option linter.all false
set_option maxRecDepth 100000
set_option maxHeartbeats 2000000
/-! A calculus over the hand layer's readings in which a body is read by plain data: no addresses, no heaps. -/
namespace Cal
open PySem L2 PyProof.Rows
open Evl (Ex ex_l ex_t ex_rd sq_of st_of)

/-! ### data -/
inductive D where
  | non | bl (b : Bool) | int (i : Int) | str (x : Str) | hand
  | tup (xs : List D) | lst (xs : List D)
  | dK (kvs : List (Key × D)) | dT (kvs : List (List Key × D))
  | raw (v : V)
  /-- a tuple of flags whose object is known -/
  | ptp (bs : List Bool)
  | exc (C : Addr)
  /-- an object of a class of the program, its attributes -/
  | ins (C : Addr) (fs : List (Str × D))

/-- the class C has objects with these attributes -/
def ClsF (K : PySem.W.Frag) (C : Addr) (fs : List (Str × D)) : Prop := Cls K C ∧ ∀ g, g ∈ fs.map (·.1) → NoAttr K C g
/-- the hand's place, and the tables of code objects that the law's own lambdas have -/
structure Hnd where
  a : Addr
  c : Addr
  T : List (Addr × Str)
/-- nothing, or a table of code objects -/
def Nil (x : Option HO) : Prop := ∀ o, x = some o → ∃ ps, o = .tbl ps
theorem nil_ne {F : Hp} {a b : Addr} {u : HO} (n : Nil (F a)) (e : F b = some u) (t : ∀ ps, u ≠ .tbl ps) : b ≠ a := fun z => by
  rw [z] at e
  obtain ⟨ps, h⟩ := n _ e
  exact t ps h
theorem Nil.no {x : Option HO} (h : x = none) : Nil x := fun o e => by rw [h] at e; cases e
/-- a tuple of flags, one at least: it is no key -/
def Flags (ds : List D) : Prop := ∃ (b : Bool) (bs : List Bool), ds = (b :: bs).map D.bl
mutual
inductive Rp (K : PySem.W.Frag) (h : Hnd) (G : Hp) : V → D → Prop
  | non : Rp K h G .non .non
  | bl (b : Bool) : Rp K h G (.bl b) (.bl b)
  | int (i : Int) : Rp K h G (.int i) (.int i)
  | str (x : Str) : Rp K h G (.str x) (.str x)
  | hand : Rp K h G (.ref h.a) .hand
  | tup {a : Addr} {vs : List V} {ds : List D} : G a = some (.tup vs) → RpL K h G vs ds → Rp K h G (.ref a) (.tup ds)
  | lst {a : Addr} {vs : List V} {ds : List D} : G a = some (.lst vs) → RpL K h G vs ds → Rp K h G (.ref a) (.lst ds)
  | dK {a : Addr} {vk : List (Key × V)} {kvs : List (Key × D)} : Rd G a (.dK vk) → RpK K h G vk kvs → Rp K h G (.ref a) (.dK kvs)
  | dT {a : Addr} {vk : List (List Key × V)} {kvs : List (List Key × D)} : Rd G a (.dT vk) → RpT K h G vk kvs → Rp K h G (.ref a) (.dT kvs)
  | raw (v : V) : Rp K h G v (.raw v)
  | tupF {a : Addr} {ob : Obj} {vs : List V} {ds : List D} : G a = some (.frz ob (.tup vs)) → Flags ds → RpL K h G vs ds → Rp K h G (.ref a) (.tup ds)
  | ptp {a : Addr} {ob : Obj} {bs : List Bool} : G a = some (.frz ob (.tup (bs.map V.bl))) → ob.dict = none → bs ≠ [] → Rp K h G (.ref a) (.ptp bs)
  | exc {a C : Addr} {d : Option Addr} : G a = some (exo a C d) → (d = none ∨ ∃ dx vfs, d = some dx ∧ G dx = some (exd dx vfs)) → Rp K h G (.ref a) (.exc C)
  | ins {a C dx : Addr} {vf : List (Str × V)} {fs : List (Str × D)} : G a = some (.ins C dx vf) → RpF K h G vf fs → ClsF K C fs → Rp K h G (.ref a) (.ins C fs)
inductive RpF (K : PySem.W.Frag) (h : Hnd) (G : Hp) : List (Str × V) → List (Str × D) → Prop
  | nil : RpF K h G [] []
  | cons {f : Str} {v : V} {vs : List (Str × V)} {d : D} {ds : List (Str × D)} : Rp K h G v d → RpF K h G vs ds → RpF K h G ((f, v) :: vs) ((f, d) :: ds)
inductive RpL (K : PySem.W.Frag) (h : Hnd) (G : Hp) : List V → List D → Prop
  | nil : RpL K h G [] []
  | cons {v : V} {vs : List V} {d : D} {ds : List D} : Rp K h G v d → RpL K h G vs ds → RpL K h G (v :: vs) (d :: ds)
inductive RpK (K : PySem.W.Frag) (h : Hnd) (G : Hp) : List (Key × V) → List (Key × D) → Prop
  | nil : RpK K h G [] []
  | cons {k : Key} {v : V} {vs : List (Key × V)} {d : D} {ds : List (Key × D)} : Rp K h G v d → RpK K h G vs ds → RpK K h G ((k, v) :: vs) ((k, d) :: ds)
inductive RpT (K : PySem.W.Frag) (h : Hnd) (G : Hp) : List (List Key × V) → List (List Key × D) → Prop
  | nil : RpT K h G [] []
  | cons {k : List Key} {v : V} {vs : List (List Key × V)} {d : D} {ds : List (List Key × D)} : Rp K h G v d → RpT K h G vs ds → RpT K h G ((k, v) :: vs) ((k, d) :: ds)
end

section
variable {K : PySem.W.Frag} {h : Hnd} {G G' : Hp}
mutual
theorem Rp.mono (e : Ex G G') : ∀ (d : D) (v : V), Rp K h G v d → Rp K h G' v d
  | .non, _, r => by cases r; exact .non
  | .bl b, _, r => by cases r; exact .bl b
  | .int i, _, r => by cases r; exact .int i
  | .str x, _, r => by cases r; exact .str x
  | .hand, _, r => by cases r; exact .hand
  | .tup ds, _, r => by cases r with
    | tup q l => exact .tup (e _ _ q) (RpL.mono e ds _ l)
    | tupF q f l => exact .tupF (e _ _ q) f (RpL.mono e ds _ l)
  | .lst ds, _, r => by cases r with | lst q l => exact .lst (e _ _ q) (RpL.mono e ds _ l)
  | .dK kvs, _, r => by cases r with | dK q l => exact .dK (ex_rd e q) (RpK.mono e kvs _ l)
  | .dT kvs, _, r => by cases r with | dT q l => exact .dT (ex_rd e q) (RpT.mono e kvs _ l)
  | .raw v, _, r => by cases r; exact .raw v
  | .ptp bs, _, r => by cases r with | ptp q f n => exact .ptp (e _ _ q) f n
  | .exc C, _, r => by cases r with | exc q x => exact .exc (e _ _ q) (x.imp id fun ⟨dx, vfs, e1, e2⟩ => ⟨dx, vfs, e1, e _ _ e2⟩)
  | .ins C fs, _, r => by cases r with | ins q l c => exact .ins (e _ _ q) (RpF.mono e fs _ l) c
theorem RpF.mono (e : Ex G G') : ∀ (ds : List (Str × D)) (vs : List (Str × V)), RpF K h G vs ds → RpF K h G' vs ds
  | [], _, r => by cases r; exact .nil
  | (k, d) :: ds, _, r => by cases r with | cons a b => exact .cons (Rp.mono e d _ a) (RpF.mono e ds _ b)
theorem RpL.mono (e : Ex G G') : ∀ (ds : List D) (vs : List V), RpL K h G vs ds → RpL K h G' vs ds
  | [], _, r => by cases r; exact .nil
  | d :: ds, _, r => by cases r with | cons a b => exact .cons (Rp.mono e d _ a) (RpL.mono e ds _ b)
theorem RpK.mono (e : Ex G G') : ∀ (ds : List (Key × D)) (vs : List (Key × V)), RpK K h G vs ds → RpK K h G' vs ds
  | [], _, r => by cases r; exact .nil
  | (k, d) :: ds, _, r => by cases r with | cons a b => exact .cons (Rp.mono e d _ a) (RpK.mono e ds _ b)
theorem RpT.mono (e : Ex G G') : ∀ (ds : List (List Key × D)) (vs : List (List Key × V)), RpT K h G vs ds → RpT K h G' vs ds
  | [], _, r => by cases r; exact .nil
  | (k, d) :: ds, _, r => by cases r with | cons a b => exact .cons (Rp.mono e d _ a) (RpT.mono e ds _ b)
end
end
abbrev rmono {K : PySem.W.Frag} {h : Hnd} {G G' : Hp} {v : V} {d : D} (r : Rp K h G v d) (e : Ex G G') : Rp K h G' v d := Rp.mono e d v r
abbrev lmono {K : PySem.W.Frag} {h : Hnd} {G G' : Hp} {v : List V} {d : List D} (r : RpL K h G v d) (e : Ex G G') : RpL K h G' v d := RpL.mono e d v r

section
variable {K : PySem.W.Frag} {h : Hnd} {G : Hp}
theorem RpL.length : ∀ {vs : List V} {ds : List D}, RpL K h G vs ds → vs.length = ds.length
  | [], [], _ => rfl
  | v :: vs, d :: ds, r => by cases r with | cons a b => rw [List.length_cons, List.length_cons, RpL.length b]
  | [], d :: ds, r => by cases r
  | v :: vs, [], r => by cases r
theorem RpL.get : ∀ {vs : List V} {ds : List D} {i : Nat} {d : D}, RpL K h G vs ds → ds[i]? = some d → ∃ v, vs[i]? = some v ∧ Rp K h G v d
  | [], [], i, d, _, e => by simp at e
  | v :: vs, x :: ds, 0, d, r, e => by
    cases r with
    | cons a b =>
      have e' : x = d := by simpa using e
      subst e'
      exact ⟨v, rfl, a⟩
  | v :: vs, x :: ds, i + 1, d, r, e => by
    cases r with
    | cons a b =>
      obtain ⟨w, h1, h2⟩ := RpL.get (i := i) (d := d) b (by simpa using e)
      exact ⟨w, by simpa using h1, h2⟩
  | [], d :: ds, _, _, r, _ => by cases r
  | v :: vs, [], _, _, r, _ => by cases r
theorem RpL.get' {vs : List V} {ds : List D} {i : Nat} {v : V} (r : RpL K h G vs ds) (e : vs[i]? = some v) : ∃ d, ds[i]? = some d ∧ Rp K h G v d := by
  have hi : i < vs.length := (List.getElem?_eq_some_iff.mp e).1
  rw [r.length] at hi
  obtain ⟨w, h1, h2⟩ := r.get (List.getElem?_eq_getElem hi)
  rw [e] at h1
  cases h1
  exact ⟨_, List.getElem?_eq_getElem hi, h2⟩
theorem RpL.append : ∀ {vs ws : List V} {ds es : List D}, RpL K h G vs ds → RpL K h G ws es → RpL K h G (vs ++ ws) (ds ++ es)
  | [], _, [], _, _, s => s
  | v :: vs, _, d :: ds, _, r, s => by cases r with | cons a b => exact .cons a (RpL.append b s)
  | [], _, d :: ds, _, r, _ => by cases r
  | v :: vs, _, [], _, r, _ => by cases r
theorem RpL.take : ∀ (n : Nat) {vs : List V} {ds : List D}, RpL K h G vs ds → RpL K h G (vs.take n) (ds.take n)
  | 0, _, _, _ => by rw [List.take_zero, List.take_zero]; exact .nil
  | n + 1, [], [], _ => .nil
  | n + 1, v :: vs, d :: ds, r => by cases r with | cons a b => exact .cons a (RpL.take n b)
  | n + 1, [], d :: ds, r => by cases r
  | n + 1, v :: vs, [], r => by cases r
theorem RpL.drop : ∀ (n : Nat) {vs : List V} {ds : List D}, RpL K h G vs ds → RpL K h G (vs.drop n) (ds.drop n)
  | 0, _, _, r => r
  | n + 1, [], [], _ => .nil
  | n + 1, v :: vs, d :: ds, r => by cases r with | cons a b => exact RpL.drop n b
  | n + 1, [], d :: ds, r => by cases r
  | n + 1, v :: vs, [], r => by cases r
theorem RpL.set {v : V} {d : D} (q : Rp K h G v d) : ∀ (n : Nat) {vs : List V} {ds : List D}, RpL K h G vs ds → RpL K h G (vs.set n v) (ds.set n d)
  | n, [], [], _ => .nil
  | 0, x :: vs, y :: ds, r => by cases r with | cons a b => exact .cons q b
  | n + 1, x :: vs, y :: ds, r => by cases r with | cons a b => exact .cons a (RpL.set q n b)
  | n, [], d :: ds, r => by cases r
  | n, v :: vs, [], r => by cases r
theorem RpL.ints {G : Hp} : ∀ {vs : List V} {ns : List Int}, RpL K h G vs (ns.map D.int) → vs = ns.map V.int
  | [], [], _ => rfl
  | v :: vs, n :: ns, r => by
    cases r with
    | cons a b =>
      cases a
      rw [List.map_cons, RpL.ints b]
  | [], d :: ds, r => by cases r
  | v :: vs, [], r => by cases r
theorem RpL.ofInts {G : Hp} : ∀ (ns : List Int), RpL K h G (ns.map V.int) (ns.map D.int)
  | [] => .nil
  | n :: ns => .cons (.int n) (RpL.ofInts ns)
/-- a tuple stands at a -/
def Tp (G : Hp) (a : Addr) (vs : List V) (ds : List D) : Prop := G a = some (.tup vs) ∨ ((∃ ob, G a = some (.frz ob (.tup vs))) ∧ Flags ds)
theorem Tp.ex {G G' : Hp} {a : Addr} {vs : List V} {ds : List D} (e : Ex G G') (t : Tp G a vs ds) : Tp G' a vs ds := t.elim (fun z => .inl (e _ _ z)) fun ⟨⟨ob, z⟩, f⟩ => .inr ⟨⟨ob, e _ _ z⟩, f⟩
theorem Tp.rd {G : Hp} {a : Addr} {vs : List V} {ds : List D} (t : Tp G a vs ds) : Rd G a (.tup vs) := t.elim (fun z => .inl z) fun ⟨⟨ob, z⟩, f⟩ => .inr ⟨ob, z⟩
theorem Tp.rp {a : Addr} {vs : List V} {ds : List D} (t : Tp G a vs ds) (l : RpL K h G vs ds) : Rp K h G (.ref a) (.tup ds) := t.elim (fun z => .tup z l) fun ⟨⟨ob, z⟩, f⟩ => .tupF z f l
theorem Rp.tup_inv {v : V} {ds : List D} (r : Rp K h G v (.tup ds)) : ∃ a vs, v = .ref a ∧ Tp G a vs ds ∧ RpL K h G vs ds := by
  cases r with
  | tup q l => exact ⟨_, _, rfl, .inl q, l⟩
  | tupF q f l => exact ⟨_, _, rfl, .inr ⟨⟨_, q⟩, f⟩, l⟩
theorem RpL.ofFlags {G : Hp} : ∀ (bs : List Bool), RpL K h G (bs.map V.bl) (bs.map D.bl)
  | [] => .nil
  | b :: bs => .cons (.bl b) (RpL.ofFlags bs)
/-- what is known to be a tuple may be read as any other -/
theorem Rp.view {v : V} {bs : List Bool} (r : Rp K h G v (.ptp bs)) : Rp K h G v (.tup (bs.map D.bl)) := by
  cases r with
  | ptp q f n =>
    cases bs with
    | nil => exact absurd rfl n
    | cons b bs => exact .tupF q ⟨b, bs, rfl⟩ (RpL.ofFlags (b :: bs))
theorem Rp.lst_inv {v : V} {ds : List D} (r : Rp K h G v (.lst ds)) : ∃ a vs, v = .ref a ∧ G a = some (.lst vs) ∧ RpL K h G vs ds := by
  cases r with | lst q l => exact ⟨_, _, rfl, q, l⟩
theorem RpK.length : ∀ {vs : List (Key × V)} {ds : List (Key × D)}, RpK K h G vs ds → vs.length = ds.length
  | [], [], _ => rfl
  | v :: vs, d :: ds, r => by cases r with | cons a b => rw [List.length_cons, List.length_cons, RpK.length b]
  | [], d :: ds, r => by cases r
  | v :: vs, [], r => by cases r
theorem RpT.length : ∀ {vs : List (List Key × V)} {ds : List (List Key × D)}, RpT K h G vs ds → vs.length = ds.length
  | [], [], _ => rfl
  | v :: vs, d :: ds, r => by cases r with | cons a b => rw [List.length_cons, List.length_cons, RpT.length b]
  | [], d :: ds, r => by cases r
  | v :: vs, [], r => by cases r
theorem RpK.get' : ∀ {vs : List (Key × V)} {ds : List (Key × D)} {i : Nat} {k : Key} {v : V}, RpK K h G vs ds → vs[i]? = some (k, v) → ∃ d, ds[i]? = some (k, d) ∧ Rp K h G v d
  | [], [], i, k, v, _, e => by simp at e
  | x :: vs, y :: ds, 0, k, v, r, e => by
    cases r with
    | cons a b =>
      have e' := Option.some.inj (show some _ = some (k, v) from e)
      cases e'
      exact ⟨_, rfl, a⟩
  | x :: vs, y :: ds, i + 1, k, v, r, e => by
    cases r with
    | cons a b =>
      obtain ⟨d, h1, h2⟩ := RpK.get' (i := i) (k := k) (v := v) b (by simpa using e)
      exact ⟨d, by simpa using h1, h2⟩
  | [], d :: ds, _, _, _, r, _ => by cases r
  | v :: vs, [], _, _, _, r, _ => by cases r
theorem RpT.get' : ∀ {vs : List (List Key × V)} {ds : List (List Key × D)} {i : Nat} {k : List Key} {v : V}, RpT K h G vs ds → vs[i]? = some (k, v) → ∃ d, ds[i]? = some (k, d) ∧ Rp K h G v d
  | [], [], i, k, v, _, e => by simp at e
  | x :: vs, y :: ds, 0, k, v, r, e => by
    cases r with
    | cons a b =>
      have e' := Option.some.inj (show some _ = some (k, v) from e)
      cases e'
      exact ⟨_, rfl, a⟩
  | x :: vs, y :: ds, i + 1, k, v, r, e => by
    cases r with
    | cons a b =>
      obtain ⟨d, h1, h2⟩ := RpT.get' (i := i) (k := k) (v := v) b (by simpa using e)
      exact ⟨d, by simpa using h1, h2⟩
  | [], d :: ds, _, _, _, r, _ => by cases r
  | v :: vs, [], _, _, _, r, _ => by cases r
end

theorem tqT {K : PySem.W.Frag} {G H : Hp} {a : Addr} {vs : List V} {ds : List D} (e : Ex G H) (h : Tp G a vs ds) : SqT K H a vs := .inl (ex_rd e h.rd)
theorem tq {K : PySem.W.Frag} {G H : Hp} {a : Addr} {vs : List V} (e : Ex G H) (h : G a = some (.tup vs)) : SqT K H a vs := st_of (e _ _ h)
theorem lq {K : PySem.W.Frag} {G H : Hp} {a : Addr} {vs : List V} (e : Ex G H) (h : G a = some (.lst vs)) : SqL K H a vs := sq_of (e _ _ h)
/-! ### dicts of data, by keys of any kind -/
section
variable {κ : Type} [DecidableEq κ]
def dGet (kvs : List (κ × D)) (k : κ) : Option D := (kvs.find? fun kv => decide (kv.1 = k)).map (·.2)
def dPut (kvs : List (κ × D)) (k : κ) (v : D) : List (κ × D) :=
  if (kvs.any fun kv => decide (kv.1 = k)) = true then kvs.map (fun kv => if kv.1 = k then (kv.1, v) else kv) else kvs ++ [(k, v)]
end
section
variable {K : PySem.W.Frag} {h : Hnd} {G : Hp}
theorem RpK.any (k : Key) : ∀ {vs : List (Key × V)} {ds : List (Key × D)}, RpK K h G vs ds → (vs.any fun kv => decide (kv.1 = k)) = (ds.any fun kv => decide (kv.1 = k))
  | [], [], _ => rfl
  | x :: vs, y :: ds, r => by cases r with | cons a b => rw [List.any_cons, List.any_cons, RpK.any k b]
  | [], d :: ds, r => by cases r
  | v :: vs, [], r => by cases r
theorem RpK.find (k : Key) : ∀ {vs : List (Key × V)} {ds : List (Key × D)}, RpK K h G vs ds → (valV vs k = none ∧ dGet ds k = none) ∨ ∃ v d, valV vs k = some v ∧ dGet ds k = some d ∧ Rp K h G v d
  | [], [], _ => .inl ⟨rfl, rfl⟩
  | x :: vs, y :: ds, r => by
    cases r with
    | @cons k' v _ d _ a b =>
      by_cases e : k' = k
      · refine .inr ⟨v, d, valV_pos e, ?_, a⟩
        simp [dGet, List.find?_cons, e]
      · rw [valV_neg e]
        have e2 : dGet ((k', d) :: ds) k = dGet ds k := by simp [dGet, List.find?_cons, e]
        rw [e2]
        exact RpK.find k b
  | [], d :: ds, r => by cases r
  | v :: vs, [], r => by cases r
theorem RpK.rep (k : Key) {v : V} {d : D} (q : Rp K h G v d) : ∀ {vs : List (Key × V)} {ds : List (Key × D)}, RpK K h G vs ds →
    RpK K h G (vs.map fun kv => if kv.1 = k then (kv.1, v) else kv) (ds.map fun kv => if kv.1 = k then (kv.1, d) else kv)
  | [], [], _ => .nil
  | x :: vs, y :: ds, r => by
    cases r with
    | @cons k' v' _ d' _ a b =>
      rw [List.map_cons, List.map_cons]
      by_cases e : k' = k
      · rw [if_pos e, if_pos e]; exact .cons q (RpK.rep k q b)
      · rw [if_neg e, if_neg e]; exact .cons a (RpK.rep k q b)
  | [], d :: ds, r => by cases r
  | v :: vs, [], r => by cases r
theorem RpK.snoc {k : Key} {v : V} {d : D} (q : Rp K h G v d) : ∀ {vs : List (Key × V)} {ds : List (Key × D)}, RpK K h G vs ds → RpK K h G (vs ++ [(k, v)]) (ds ++ [(k, d)])
  | [], [], _ => .cons q .nil
  | x :: vs, y :: ds, r => by cases r with | cons a b => exact .cons a (RpK.snoc q b)
  | [], d :: ds, r => by cases r
  | v :: vs, [], r => by cases r
theorem RpK.put (k : Key) {v : V} {d : D} (q : Rp K h G v d) {vs : List (Key × V)} {ds : List (Key × D)} (r : RpK K h G vs ds) : RpK K h G (putK vs k v) (dPut ds k d) := by
  unfold putK dPut
  rw [r.any k]
  split
  · exact r.rep k q
  · exact r.snoc q
theorem RpT.any (k : List Key) : ∀ {vs : List (List Key × V)} {ds : List (List Key × D)}, RpT K h G vs ds → (vs.any fun kv => decide (kv.1 = k)) = (ds.any fun kv => decide (kv.1 = k))
  | [], [], _ => rfl
  | x :: vs, y :: ds, r => by cases r with | cons a b => rw [List.any_cons, List.any_cons, RpT.any k b]
  | [], d :: ds, r => by cases r
  | v :: vs, [], r => by cases r
theorem RpT.find (k : List Key) : ∀ {vs : List (List Key × V)} {ds : List (List Key × D)}, RpT K h G vs ds → (valV vs k = none ∧ dGet ds k = none) ∨ ∃ v d, valV vs k = some v ∧ dGet ds k = some d ∧ Rp K h G v d
  | [], [], _ => .inl ⟨rfl, rfl⟩
  | x :: vs, y :: ds, r => by
    cases r with
    | @cons k' v _ d _ a b =>
      by_cases e : k' = k
      · refine .inr ⟨v, d, valV_pos e, ?_, a⟩
        simp [dGet, List.find?_cons, e]
      · rw [valV_neg e]
        have e2 : dGet ((k', d) :: ds) k = dGet ds k := by simp [dGet, List.find?_cons, e]
        rw [e2]
        exact RpT.find k b
  | [], d :: ds, r => by cases r
  | v :: vs, [], r => by cases r
theorem RpT.rep (k : List Key) {v : V} {d : D} (q : Rp K h G v d) : ∀ {vs : List (List Key × V)} {ds : List (List Key × D)}, RpT K h G vs ds →
    RpT K h G (vs.map fun kv => if kv.1 = k then (kv.1, v) else kv) (ds.map fun kv => if kv.1 = k then (kv.1, d) else kv)
  | [], [], _ => .nil
  | x :: vs, y :: ds, r => by
    cases r with
    | @cons k' v' _ d' _ a b =>
      rw [List.map_cons, List.map_cons]
      by_cases e : k' = k
      · rw [if_pos e, if_pos e]; exact .cons q (RpT.rep k q b)
      · rw [if_neg e, if_neg e]; exact .cons a (RpT.rep k q b)
  | [], d :: ds, r => by cases r
  | v :: vs, [], r => by cases r
theorem RpT.snoc {k : List Key} {v : V} {d : D} (q : Rp K h G v d) : ∀ {vs : List (List Key × V)} {ds : List (List Key × D)}, RpT K h G vs ds → RpT K h G (vs ++ [(k, v)]) (ds ++ [(k, d)])
  | [], [], _ => .cons q .nil
  | x :: vs, y :: ds, r => by cases r with | cons a b => exact .cons a (RpT.snoc q b)
  | [], d :: ds, r => by cases r
  | v :: vs, [], r => by cases r
theorem RpT.put (k : List Key) {v : V} {d : D} (q : Rp K h G v d) {vs : List (List Key × V)} {ds : List (List Key × D)} (r : RpT K h G vs ds) : RpT K h G (putK vs k v) (dPut ds k d) := by
  unfold putK dPut
  rw [r.any k]
  split
  · exact r.rep k q
  · exact r.snoc q
end


/-! ### the state by data -/
structure Par where
  K : PySem.W.Frag
  h : Hnd
  H0 : Hp
  G0 : Hp
inductive Cell where
  | d (x : D) | ol (xs : List D) | ok (kvs : List (Key × D)) | ot (kvs : List (List Key × D)) | rw (a : Addr) (o : HO)
  /-- locked while it is walked -/
  | lk (kvs : List (Key × D)) | lt (kvs : List (List Key × D))
  /-- an object that is being made -/
  | oi (b C : Addr) (fs : List (Str × D))
def Cell.isOwn : Cell → Bool
  | .d _ => false
  | _ => true
abbrev Rho := List (Option Cell)

/-- the hand: cells, at, the rest, the count -/
def Hand (K : PySem.W.Frag) (G H : Hp) (h : Hnd) : Prop := ∃ (ns : List Int) (i r n : Int), H h.a = some (.lst [.ref h.c, .int i, .int r, .int n]) ∧ G h.c = some (.lst (ns.map V.int)) ∧ ns.length ≤ 63 ∧ 0 ≤ i ∧ 0 ≤ r ∧ 0 ≤ n
structure Mem (p : Par) (G H : Hp) : Prop where
  sub : Ex G H
  gh : G p.h.a = none
  base : ∀ a o, a ≠ p.h.a → (∀ ps, o ≠ .tbl ps) → p.H0 a = some o → H a = some o
  g0 : Ex p.G0 G
  new : ∀ a o, G a = some o → p.G0 a = some o ∨ Nil (p.H0 a) ∨ ((∃ xs, o = .tup xs) ∧ p.H0 a = some o)
  hand : Hand p.K G H p.h
  gt : ∀ a ps, G a ≠ some (.tbl ps)
  tab : LamX.Tabs p.h.T H
/-- evaluation: what the heaps G, H become -/
abbrev Stp (p : Par) (G H G' H' : Hp) : Prop := Mem ⟨p.K, p.h, H, G⟩ G' H'
/-- no tuple, no table, nothing but what is written -/
structure NT (o : HO) : Prop where
  tup : ∀ xs, o ≠ .tup xs
  tbl : ∀ ps, o ≠ .tbl ps
  ext : ∀ f, o ≠ .ext f
theorem NT.lst {xs : List V} : NT (.lst xs) := ⟨(by intro _ z; cases z), (by intro _ z; cases z), (by intro _ z; cases z)⟩
theorem NT.dK {xs : List (Key × V)} : NT (.dK xs) := ⟨(by intro _ z; cases z), (by intro _ z; cases z), (by intro _ z; cases z)⟩
theorem NT.dT {xs : List (List Key × V)} : NT (.dT xs) := ⟨(by intro _ z; cases z), (by intro _ z; cases z), (by intro _ z; cases z)⟩
theorem NT.frz {od : Obj} {u : HO} : NT (.frz od u) := ⟨(by intro _ z; cases z), (by intro _ z; cases z), (by intro _ z; cases z)⟩
theorem NT.ins {C dx : Addr} {vs : List (Str × V)} : NT (.ins C dx vs) := ⟨(by intro _ z; cases z), (by intro _ z; cases z), (by intro _ z; cases z)⟩
/-- what a table tells of stays, where nothing but a list, a dict, an object is written -/
theorem tabs_upd {T : List (Addr × Str)} {H : Hp} {a : Addr} {o : HO} (t : LamX.Tabs T H) (h : H a = none ∨ ∃ u, H a = some u ∧ NT u) : LamX.Tabs T (upd H a o) := by
  have ne : ∀ {b : Addr} {u : HO}, H b = some u → ((∃ ps, u = .tbl ps) ∨ ∃ f, u = .ext f) → b ≠ a := fun {b u} e k z => by
    rw [z] at e
    rcases h with h | ⟨v, h, n⟩
    · rw [h] at e; cases e
    · rw [h] at e
      cases e
      rcases k with ⟨ps, k⟩ | ⟨f, k⟩
      · exact n.tbl ps k
      · exact n.ext f k
  intro p hp
  obtain ⟨ps, h1, h2, h3⟩ := t p hp
  refine ⟨ps, by rw [upd_ne (ne h1 (.inl ⟨ps, rfl⟩))]; exact h1, h2, fun pos cv hc => ?_⟩
  obtain ⟨c, e1, e2⟩ := h3 pos cv hc
  exact ⟨c, e1, by rw [upd_ne (ne e2 (.inr ⟨_, rfl⟩))]; exact e2⟩
def Own (p : Par) (G : Hp) (a : Addr) : Prop := G a = none ∧ Nil (p.H0 a) ∧ a ≠ p.h.a
def Slot (p : Par) (G H : Hp) (sv : Option V) : Cell → Prop
  | .d x => ∃ v, sv = some v ∧ Rp p.K p.h G v x
  | .ol xs => ∃ a vs, sv = some (.ref a) ∧ Own p G a ∧ H a = some (.lst vs) ∧ RpL p.K p.h G vs xs
  | .ok kvs => ∃ a vs, sv = some (.ref a) ∧ Own p G a ∧ H a = some (.dK vs) ∧ RpK p.K p.h G vs kvs
  | .ot kvs => ∃ a vs, sv = some (.ref a) ∧ Own p G a ∧ H a = some (.dT vs) ∧ RpT p.K p.h G vs kvs
  | .rw a o => sv = some (.ref a) ∧ Own p G a ∧ H a = some o ∧ NT o
  | .lk kvs => ∃ a od vs, sv = some (.ref a) ∧ Own p G a ∧ H a = some (.frz od (.dK vs)) ∧ RpK p.K p.h G vs kvs
  | .lt kvs => ∃ a od vs, sv = some (.ref a) ∧ Own p G a ∧ H a = some (.frz od (.dT vs)) ∧ RpT p.K p.h G vs kvs
  | .oi b C fs => ∃ a dx vs, sv = some (.ref a) ∧ Own p G a ∧ H a = some (.ins C dx vs) ∧ RpF p.K p.h G vs fs ∧ a = b ∧ ClsF p.K C fs
structure Hold (p : Par) (ρ : Rho) (G : Hp) (σ : L2.St) (H : Hp) : Prop where
  mem : Mem p G H
  len : σ.length = ρ.length
  slot : ∀ (i : Nat) (c : Cell), ρ[i]? = some (some c) → ∃ sv, σ[i]? = some sv ∧ Slot p G H sv c
  sep : ∀ (i j : Nat) (c c' : Cell) (a : Addr), ρ[i]? = some (some c) → c.isOwn = true → ρ[j]? = some (some c') → c'.isOwn = true → σ[i]? = some (some (.ref a)) → σ[j]? = some (some (.ref a)) → i = j

theorem Ex.none_of {G H : Hp} (e : Ex G H) {a : Addr} (h : H a = none) : G a = none := Evl.fresh_back e h
theorem Hand.mono {K : PySem.W.Frag} {G G' H H' : Hp} {h : Hnd} (x : Hand K G H h) (e : Ex G G') (q : H' h.a = H h.a) : Hand K G' H' h := by
  obtain ⟨ns, i, r, n, h1, h2, h3⟩ := x
  exact ⟨ns, i, r, n, by rw [q]; exact h1, e _ _ h2, h3⟩
theorem Hand.some {K : PySem.W.Frag} {G H : Hp} {h : Hnd} (x : Hand K G H h) : ∃ xs, H h.a = some (.lst xs) := by
  obtain ⟨ns, i, r, n, h1, _⟩ := x
  exact ⟨_, h1⟩

section
variable {p : Par} {G H G1 H1 G2 H2 : Hp} {ρ : Rho} {σ : L2.St}
theorem Mem.refl (m : Mem p G H) : Stp p G H G H := ⟨m.sub, m.gh, fun _ _ _ _ e => e, fun _ _ e => e, fun _ _ e => .inl e, m.hand, m.gt, m.tab⟩
/-- behind an evaluation -/
theorem Mem.step (m : Mem p G H) (s : Stp p G H G1 H1) : Mem p G1 H1 where
  sub := s.sub
  gh := s.gh
  base := fun a o n t e => s.base a o n t (m.base a o n t e)
  g0 := fun a o e => s.g0 a o (m.g0 a o e)
  new := fun a o e => by
    by_cases ha : a = p.h.a
    · rw [ha, s.gh] at e; cases e
    rcases s.new a o e with q | q | ⟨t, q⟩
    · exact m.new a o q
    · right; left
      intro o' z
      refine Classical.byContradiction fun nt => ?_
      exact nt (q o' (m.base a o' ha (fun ps e => nt ⟨ps, e⟩) z))
    · by_cases z : Nil (p.H0 a)
      · exact .inr (.inl z)
      · have : ∃ o', p.H0 a = some o' ∧ ∀ ps, o' ≠ .tbl ps := Classical.byContradiction fun k => z fun o' e => Classical.byContradiction fun nt => k ⟨o', e, fun ps e => nt ⟨ps, e⟩⟩
        obtain ⟨o', z1, z2⟩ := this
        have h1 := m.base a o' ha z2 z1
        have q' : H a = some o := q
        rw [q'] at h1; cases h1
        exact .inr (.inr ⟨t, z1⟩)
  hand := s.hand
  gt := s.gt
  tab := s.tab
theorem Stp.trans (s : Stp p G H G1 H1) (t : Stp p G1 H1 G2 H2) : Stp p G H G2 H2 := Mem.step (p := ⟨p.K, p.h, H, G⟩) s t
theorem Stp.ex (s : Stp p G H G1 H1) : Ex G G1 := s.g0
theorem Slot.step {sv : Option V} {c : Cell} (x : Slot p G H sv c) (s : Stp p G H G1 H1) : Slot p G1 H1 sv c := by
  have own : ∀ {a o}, NT o → Own p G a → H a = some o → Own p G1 a ∧ H1 a = some o := fun {a o} nt q e => by
    refine ⟨⟨?_, q.2⟩, s.base a o q.2.2 nt.tbl e⟩
    cases z : G1 a with
    | none => rfl
    | some u =>
      rcases s.new a u z with r | r | ⟨⟨xs, t⟩, r⟩
      · have r' : G a = some u := r
        rw [q.1] at r'; cases r'
      · obtain ⟨ps, e'⟩ := r o e
        exact (nt.tbl ps e').elim
      · have r' : H a = some u := r
        rw [e] at r'; cases r'
        exact (nt.tup xs t).elim
  cases c with
  | d x => obtain ⟨v, h1, h2⟩ := x; exact ⟨v, h1, rmono h2 s.ex⟩
  | ol xs => obtain ⟨a, vs, h1, h2, h3, h4⟩ := x; obtain ⟨o1, o2⟩ := own NT.lst h2 h3; exact ⟨a, vs, h1, o1, o2, lmono h4 s.ex⟩
  | ok xs => obtain ⟨a, vs, h1, h2, h3, h4⟩ := x; obtain ⟨o1, o2⟩ := own NT.dK h2 h3; exact ⟨a, vs, h1, o1, o2, RpK.mono s.ex _ _ h4⟩
  | ot xs => obtain ⟨a, vs, h1, h2, h3, h4⟩ := x; obtain ⟨o1, o2⟩ := own NT.dT h2 h3; exact ⟨a, vs, h1, o1, o2, RpT.mono s.ex _ _ h4⟩
  | rw a o => obtain ⟨h1, h2, h3, h4⟩ := x; obtain ⟨o1, o2⟩ := own h4 h2 h3; exact ⟨h1, o1, o2, h4⟩
  | lk xs => obtain ⟨a, od, vs, h1, h2, h3, h4⟩ := x; obtain ⟨o1, o2⟩ := own NT.frz h2 h3; exact ⟨a, od, vs, h1, o1, o2, RpK.mono s.ex _ _ h4⟩
  | lt xs => obtain ⟨a, od, vs, h1, h2, h3, h4⟩ := x; obtain ⟨o1, o2⟩ := own NT.frz h2 h3; exact ⟨a, od, vs, h1, o1, o2, RpT.mono s.ex _ _ h4⟩
  | oi _ C xs => obtain ⟨a, od, vs, h1, h2, h3, h4⟩ := x; obtain ⟨o1, o2⟩ := own NT.ins h2 h3; exact ⟨a, od, vs, h1, o1, o2, RpF.mono s.ex _ _ h4.1, h4.2⟩
theorem Hold.step (h : Hold p ρ G σ H) (s : Stp p G H G1 H1) : Hold p ρ G1 σ H1 :=
  ⟨h.mem.step s, h.len, fun i c e => by obtain ⟨sv, h1, h2⟩ := h.slot i c e; exact ⟨sv, h1, h2.step s⟩, h.sep⟩
/-- a new object, known from now on -/
theorem Mem.grow (m : Mem p G H) {a : Addr} {o : HO} (n : H a = none) (nt : ∀ ps, o ≠ .tbl ps := by intro _ z; cases z) : Stp p G H (upd G a o) (upd H a o) where
  sub := fun b u e => by
    by_cases hb : b = a
    · subst hb; rw [upd_same] at e ⊢; exact e
    · rw [upd_ne hb] at e ⊢; exact m.sub b u e
  gh := by
    obtain ⟨u, hu⟩ := m.hand.some
    show upd G a o p.h.a = none
    rw [upd_ne (ne_of_none hu n)]
    exact m.gh
  base := fun b u _ _ e => by
    show upd H a o b = some u
    rw [upd_ne (ne_of_none e n)]
    exact e
  g0 := fun b u e => by
    show upd G a o b = some u
    rw [upd_ne (ne_of_none (m.sub b u e) n)]
    exact e
  new := fun b u e => by
    by_cases hb : b = a
    · subst hb; exact .inr (.inl (Nil.no n))
    · rw [upd_ne hb] at e; exact .inl e
  hand := by
    obtain ⟨u, hu⟩ := m.hand.some
    exact m.hand.mono (fun b u e => by rw [upd_ne (ne_of_none (m.sub b u e) n)]; exact e) (upd_ne (ne_of_none hu n))
  gt := fun b ps e => by
    by_cases hb : b = a
    · subst hb; rw [upd_same] at e; exact nt ps (Option.some.inj e)
    · rw [upd_ne hb] at e; exact m.gt b ps e
  tab := tabs_upd m.tab (.inl n)
/-- a new object, not known -/
theorem Mem.growO (m : Mem p G H) {a : Addr} {o : HO} (n : H a = none) : Stp p G H G (upd H a o) where
  sub := fun b u e => by
    rw [upd_ne (ne_of_none (m.sub b u e) n)]; exact m.sub b u e
  gh := m.gh
  base := fun b u _ _ e => by
    show upd H a o b = some u
    rw [upd_ne (ne_of_none e n)]
    exact e
  g0 := fun b u e => e
  new := fun b u e => .inl e
  hand := by
    obtain ⟨u, hu⟩ := m.hand.some
    exact m.hand.mono (fun b u e => e) (upd_ne (ne_of_none hu n))
  gt := m.gt
  tab := tabs_upd m.tab (.inl n)
theorem Mem.nilFresh (m : Mem p G H) {a : Addr} (n : Nil (H a)) : Own p G a := by
  refine ⟨?_, fun o' z => ?_, ?_⟩
  · cases z : G a with
    | none => rfl
    | some u =>
      obtain ⟨ps, e⟩ := n u (m.sub a u z)
      exact (m.gt a ps (by rw [z, e])).elim
  · refine Classical.byContradiction fun nt => ?_
    by_cases ha : a = p.h.a
    · obtain ⟨u, hu⟩ := m.hand.some
      obtain ⟨ps, e⟩ := n _ (by rw [ha]; exact hu)
      cases e
    · exact nt (n o' (m.base a o' ha (fun ps e => nt ⟨ps, e⟩) z))
  · intro ha
    obtain ⟨u, hu⟩ := m.hand.some
    obtain ⟨ps, e⟩ := n _ (by rw [ha]; exact hu)
    cases e
theorem Mem.fresh (m : Mem p G H) {a : Addr} (n : H a = none) : Own p G a := m.nilFresh (Nil.no n)

theorem Hold.setD (h : Hold p ρ G σ H) {i : Nat} {v : V} {x : D} (r : Rp p.K p.h G v x) : Hold p (ρ.set i (some (.d x))) G (σ.set i (some v)) H := by
  refine ⟨h.mem, by rw [List.length_set, List.length_set]; exact h.len, fun j c e => ?_, fun j k c c' a e1 o1 e2 o2 e3 e4 => ?_⟩
  · by_cases hj : i = j
    · subst hj
      by_cases hi : i < ρ.length
      · rw [List.getElem?_set_self hi] at e
        cases e
        refine ⟨some v, by rw [List.getElem?_set_self (by rw [h.len]; exact hi)], v, rfl, r⟩
      · rw [List.getElem?_eq_none (by rw [List.length_set]; omega)] at e; cases e
    · rw [List.getElem?_set_ne hj] at e
      obtain ⟨sv, h1, h2⟩ := h.slot j c e
      exact ⟨sv, by rw [List.getElem?_set_ne hj]; exact h1, h2⟩
  · have ne : ∀ {m : Nat} {c : Cell}, (ρ.set i (some (.d x)))[m]? = some (some c) → c.isOwn = true → i ≠ m := fun {m c} e o z => by
      subst z
      by_cases hi : i < ρ.length
      · rw [List.getElem?_set_self hi] at e
        cases e
        cases o
      · rw [List.getElem?_eq_none (by rw [List.length_set]; omega)] at e; cases e
    have n1 := ne e1 o1
    have n2 := ne e2 o2
    rw [List.getElem?_set_ne n1] at e1 e3
    rw [List.getElem?_set_ne n2] at e2 e4
    exact h.sep j k c c' a e1 o1 e2 o2 e3 e4
theorem Cell.own_ref {c : Cell} {sv : Option V} (x : Slot p G H sv c) (o : c.isOwn = true) : ∃ a u, sv = some (.ref a) ∧ Own p G a ∧ H a = some u ∧ NT u := by
  cases c with
  | d x => cases o
  | ol xs => obtain ⟨a, vs, h1, h2, h3, _⟩ := x; exact ⟨a, _, h1, h2, h3, NT.lst⟩
  | ok xs => obtain ⟨a, vs, h1, h2, h3, _⟩ := x; exact ⟨a, _, h1, h2, h3, NT.dK⟩
  | ot xs => obtain ⟨a, vs, h1, h2, h3, _⟩ := x; exact ⟨a, _, h1, h2, h3, NT.dT⟩
  | rw a u => obtain ⟨h1, h2, h3, h4⟩ := x; exact ⟨a, _, h1, h2, h3, h4⟩
  | lk xs => obtain ⟨a, od, vs, h1, h2, h3, _⟩ := x; exact ⟨a, _, h1, h2, h3, NT.frz⟩
  | lt xs => obtain ⟨a, od, vs, h1, h2, h3, _⟩ := x; exact ⟨a, _, h1, h2, h3, NT.frz⟩
  | oi _ C xs => obtain ⟨a, od, vs, h1, h2, h3, _⟩ := x; exact ⟨a, _, h1, h2, h3, NT.ins⟩
theorem Slot.nt {c : Cell} {a : Addr} {o : HO} (x : Slot p G H (some (.ref a)) c) (ho : c.isOwn = true) (e : H a = some o) : NT o := by
  obtain ⟨b, u, e1, _, e3, e4⟩ := Cell.own_ref x ho
  cases e1
  rw [e] at e3
  cases e3
  exact e4
/-- a slot is given an object that no other slot owns -/
theorem Hold.setO (h : Hold p ρ G σ H) {i : Nat} {a : Addr} {c : Cell} (x : Slot p G H (some (.ref a)) c) (hf : ∀ (j : Nat) (c' : Cell), ρ[j]? = some (some c') → c'.isOwn = true → σ[j]? = some (some (.ref a)) → j = i) :
    Hold p (ρ.set i (some c)) G (σ.set i (some (.ref a))) H := by
  refine ⟨h.mem, by rw [List.length_set, List.length_set]; exact h.len, fun j c' e => ?_, fun j k c1 c2 b e1 o1 e2 o2 e3 e4 => ?_⟩
  · by_cases hj : i = j
    · subst hj
      by_cases hi : i < ρ.length
      · rw [List.getElem?_set_self hi] at e
        cases e
        exact ⟨some (.ref a), by rw [List.getElem?_set_self (by rw [h.len]; exact hi)], x⟩
      · rw [List.getElem?_eq_none (by rw [List.length_set]; omega)] at e; cases e
    · rw [List.getElem?_set_ne hj] at e
      obtain ⟨sv, h1, h2⟩ := h.slot j c' e
      exact ⟨sv, by rw [List.getElem?_set_ne hj]; exact h1, h2⟩
  · have at_i : ∀ {b}, (σ.set i (some (V.ref a)))[i]? = some (some (.ref b)) → b = a := fun {b} e => by
      by_cases hi : i < σ.length
      · rw [List.getElem?_set_self hi] at e; cases e; rfl
      · rw [List.getElem?_eq_none (by rw [List.length_set]; omega)] at e; cases e
    by_cases hj : i = j
    · by_cases hk : i = k
      · exact hj.symm.trans hk
      · subst hj
        have := at_i e3
        subst this
        rw [List.getElem?_set_ne hk] at e2 e4
        exact absurd (hf k c2 e2 o2 e4).symm hk
    · by_cases hk : i = k
      · subst hk
        have := at_i e4
        subst this
        rw [List.getElem?_set_ne hj] at e1 e3
        exact absurd (hf j c1 e1 o1 e3).symm hj
      · rw [List.getElem?_set_ne hj] at e1 e3
        rw [List.getElem?_set_ne hk] at e2 e4
        exact h.sep j k c1 c2 b e1 o1 e2 o2 e3 e4
theorem Hold.setNew (h : Hold p ρ G σ H) {i : Nat} {a : Addr} {c : Cell} (s : Stp p G H G1 H1) (n : Nil (H a)) (x : Slot p G1 H1 (some (.ref a)) c) : Hold p (ρ.set i (some c)) G1 (σ.set i (some (.ref a))) H1 :=
  (h.step s).setO x fun j c' e o q => by
    obtain ⟨sv, h1, h2⟩ := h.slot j c' e
    obtain ⟨b, u, e1, _, e3⟩ := Cell.own_ref h2 o
    rw [h1] at q
    rw [e1] at q
    cases q
    obtain ⟨ps, e⟩ := n _ e3.1
    exact (e3.2.tbl ps e).elim
/-- what slot i owns is changed -/
theorem Hold.write (h : Hold p ρ G σ H) {i : Nat} {c c' : Cell} {a : Addr} {o : HO} (e : ρ[i]? = some (some c)) (ho : c.isOwn = true) (q : σ[i]? = some (some (.ref a))) (ow : Own p G a) (x : Slot p G (upd H a o) (some (.ref a)) c') :
    Hold p (ρ.set i (some c')) G σ (upd H a o) := by
  have kn : ∃ u, H a = some u ∧ NT u := by
    obtain ⟨sv, h1, h2⟩ := h.slot i c e
    obtain ⟨b, u, e1, _, e3, e4⟩ := Cell.own_ref h2 ho
    rw [h1, e1] at q
    cases q
    exact ⟨u, e3, e4⟩
  have m : Mem p G (upd H a o) := ⟨fun b u z => by rw [upd_ne (ne_of_none z ow.1)]; exact h.mem.sub b u z, h.mem.gh, fun b u n t z => by rw [upd_ne (nil_ne ow.2.1 z t)]; exact h.mem.base b u n t z, h.mem.g0, h.mem.new,
    h.mem.hand.mono (fun _ _ z => z) (upd_ne (Ne.symm ow.2.2)), h.mem.gt, tabs_upd h.mem.tab (.inr kn)⟩
  refine ⟨m, by rw [List.length_set]; exact h.len, fun j c1 e1 => ?_, fun j k c1 c2 b e1 o1 e2 o2 e3 e4 => ?_⟩
  · by_cases hj : i = j
    · subst hj
      rw [List.getElem?_set_self (List.getElem?_eq_some_iff.mp e).1] at e1
      cases e1
      exact ⟨_, q, x⟩
    · rw [List.getElem?_set_ne hj] at e1
      obtain ⟨sv, h1, h2⟩ := h.slot j c1 e1
      refine ⟨sv, h1, ?_⟩
      have far : c1.isOwn = true → ∀ b, sv = some (.ref b) → b ≠ a := fun o1 b eb z => by
        subst z
        rw [eb] at h1
        exact hj (h.sep i j c c1 b e ho e1 o1 q h1)
      cases c1 with
      | d x => exact h2
      | ol xs => obtain ⟨b, vs, h3, h4, h5, h6⟩ := h2; exact ⟨b, vs, h3, h4, by rw [upd_ne (far rfl b h3)]; exact h5, h6⟩
      | ok xs => obtain ⟨b, vs, h3, h4, h5, h6⟩ := h2; exact ⟨b, vs, h3, h4, by rw [upd_ne (far rfl b h3)]; exact h5, h6⟩
      | ot xs => obtain ⟨b, vs, h3, h4, h5, h6⟩ := h2; exact ⟨b, vs, h3, h4, by rw [upd_ne (far rfl b h3)]; exact h5, h6⟩
      | rw b u => obtain ⟨h3, h4, h5, h6⟩ := h2; exact ⟨h3, h4, by rw [upd_ne (far rfl b h3)]; exact h5, h6⟩
      | lk xs => obtain ⟨b, od, vs, h3, h4, h5, h6⟩ := h2; exact ⟨b, od, vs, h3, h4, by rw [upd_ne (far rfl b h3)]; exact h5, h6⟩
      | lt xs => obtain ⟨b, od, vs, h3, h4, h5, h6⟩ := h2; exact ⟨b, od, vs, h3, h4, by rw [upd_ne (far rfl b h3)]; exact h5, h6⟩
      | oi _ C xs => obtain ⟨b, od, vs, h3, h4, h5, h6⟩ := h2; exact ⟨b, od, vs, h3, h4, by rw [upd_ne (far rfl b h3)]; exact h5, h6⟩
  · have own : ∀ {m : Nat} {c1 : Cell}, (ρ.set i (some c'))[m]? = some (some c1) → c1.isOwn = true → ∃ c2, ρ[m]? = some (some c2) ∧ c2.isOwn = true := fun {m c1} e1 o1 => by
      by_cases hm : i = m
      · subst hm; exact ⟨c, e, ho⟩
      · rw [List.getElem?_set_ne hm] at e1; exact ⟨c1, e1, o1⟩
    obtain ⟨d1, f1, g1⟩ := own e1 o1
    obtain ⟨d2, f2, g2⟩ := own e2 o2
    exact h.sep j k d1 d2 b f1 g1 f2 g2 e3 e4
/-- what slot i owns is from now on known and no longer changed -/
theorem Hold.freeze (h : Hold p ρ G σ H) {i : Nat} {c : Cell} {a : Addr} {o : HO} {x : D} (e : ρ[i]? = some (some c)) (ho : c.isOwn = true) (q : σ[i]? = some (some (.ref a))) (ow : Own p G a) (ha : H a = some o) (r : Rp p.K p.h (upd G a o) (.ref a) x) :
    Hold p (ρ.set i (some (.d x))) (upd G a o) σ H ∧ Ex G (upd G a o) := by
  have ex : Ex G (upd G a o) := fun b u z => by rw [upd_ne (ne_of_none z ow.1)]; exact z
  have m : Mem p (upd G a o) H := ⟨fun b u z => by
      by_cases hb : b = a
      · subst hb; rw [upd_same] at z; cases z; exact ha
      · rw [upd_ne hb] at z; exact h.mem.sub b u z, by rw [upd_ne (Ne.symm ow.2.2)]; exact h.mem.gh, h.mem.base, fun b u z => ex b u (h.mem.g0 b u z), fun b u z => by
      by_cases hb : b = a
      · subst hb; exact .inr (.inl ow.2.1)
      · rw [upd_ne hb] at z; exact h.mem.new b u z, h.mem.hand.mono ex rfl, fun b ps z => by
      by_cases hb : b = a
      · subst hb
        rw [upd_same] at z
        obtain ⟨sv, h1, h2⟩ := h.slot i c e
        obtain ⟨b', u, e1, _, e3, e4⟩ := Cell.own_ref h2 ho
        rw [h1, e1] at q
        cases q
        rw [e3] at ha
        cases ha
        exact e4.tbl ps (Option.some.inj z)
      · rw [upd_ne hb] at z; exact h.mem.gt b ps z, h.mem.tab⟩
  refine ⟨⟨m, by rw [List.length_set]; exact h.len, fun j c1 e1 => ?_, fun j k c1 c2 b e1 o1 e2 o2 e3 e4 => ?_⟩, ex⟩
  · by_cases hj : i = j
    · subst hj
      rw [List.getElem?_set_self (List.getElem?_eq_some_iff.mp e).1] at e1
      cases e1
      exact ⟨_, q, _, rfl, r⟩
    · rw [List.getElem?_set_ne hj] at e1
      obtain ⟨sv, h1, h2⟩ := h.slot j c1 e1
      refine ⟨sv, h1, ?_⟩
      have far : c1.isOwn = true → ∀ b, sv = some (.ref b) → Own p G b → Own p (upd G a o) b := fun o1 b eb ob => by
        refine ⟨?_, ob.2⟩
        rw [upd_ne]
        · exact ob.1
        · intro z
          subst z
          rw [eb] at h1
          exact hj (h.sep i j c c1 b e ho e1 o1 q h1)
      cases c1 with
      | d x => obtain ⟨v, h3, h4⟩ := h2; exact ⟨v, h3, rmono h4 ex⟩
      | ol xs => obtain ⟨b, vs, h3, h4, h5, h6⟩ := h2; exact ⟨b, vs, h3, far rfl b h3 h4, h5, lmono h6 ex⟩
      | ok xs => obtain ⟨b, vs, h3, h4, h5, h6⟩ := h2; exact ⟨b, vs, h3, far rfl b h3 h4, h5, RpK.mono ex _ _ h6⟩
      | ot xs => obtain ⟨b, vs, h3, h4, h5, h6⟩ := h2; exact ⟨b, vs, h3, far rfl b h3 h4, h5, RpT.mono ex _ _ h6⟩
      | rw b u => obtain ⟨h3, h4, h5⟩ := h2; exact ⟨h3, far rfl b h3 h4, h5⟩
      | lk xs => obtain ⟨b, od, vs, h3, h4, h5, h6⟩ := h2; exact ⟨b, od, vs, h3, far rfl b h3 h4, h5, RpK.mono ex _ _ h6⟩
      | lt xs => obtain ⟨b, od, vs, h3, h4, h5, h6⟩ := h2; exact ⟨b, od, vs, h3, far rfl b h3 h4, h5, RpT.mono ex _ _ h6⟩
      | oi _ C xs => obtain ⟨b, od, vs, h3, h4, h5, h6⟩ := h2; exact ⟨b, od, vs, h3, far rfl b h3 h4, h5, RpF.mono ex _ _ h6.1, h6.2⟩
  · have own : ∀ {m : Nat} {c1 : Cell}, (ρ.set i (some (.d x)))[m]? = some (some c1) → c1.isOwn = true → ρ[m]? = some (some c1) := fun {m c1} e1 o1 => by
      by_cases hm : i = m
      · subst hm
        rw [List.getElem?_set_self (List.getElem?_eq_some_iff.mp e).1] at e1
        cases e1; cases o1
      · rw [List.getElem?_set_ne hm] at e1; exact e1
    exact h.sep j k c1 c2 b (own e1 o1) o1 (own e2 o2) o2 e3 e4
/-- a slot is forgotten -/
theorem Hold.drop (h : Hold p ρ G σ H) (i : Nat) : Hold p (ρ.set i none) G σ H := by
  have un : ∀ {j : Nat} {c : Cell}, (ρ.set i none)[j]? = some (some c) → ρ[j]? = some (some c) := fun {j c} e => by
    by_cases hj : i = j
    · subst hj
      by_cases hi : i < ρ.length
      · rw [List.getElem?_set_self hi] at e; cases e
      · rw [List.getElem?_eq_none (by rw [List.length_set]; omega)] at e; cases e
    · rw [List.getElem?_set_ne hj] at e; exact e
  exact ⟨h.mem, by rw [List.length_set]; exact h.len, fun j c e => h.slot j c (un e), fun j k c c' a e1 o1 e2 o2 => h.sep j k c c' a (un e1) o1 (un e2) o2⟩
theorem Hold.forget (h : Hold p ρ G σ H) (i : Nat) (v : Option V) : Hold p (ρ.set i none) G (σ.set i v) H := by
  have un : ∀ {j : Nat} {c : Cell}, (ρ.set i none)[j]? = some (some c) → i ≠ j ∧ ρ[j]? = some (some c) := fun {j c} e => by
    by_cases hj : i = j
    · subst hj
      by_cases hi : i < ρ.length
      · rw [List.getElem?_set_self hi] at e; cases e
      · rw [List.getElem?_eq_none (by rw [List.length_set]; omega)] at e; cases e
    · rw [List.getElem?_set_ne hj] at e; exact ⟨hj, e⟩
  refine ⟨h.mem, by rw [List.length_set, List.length_set]; exact h.len, fun j c e => ?_, fun j k c c' a e1 o1 e2 o2 e3 e4 => ?_⟩
  · obtain ⟨n, e⟩ := un e
    rw [List.getElem?_set_ne n]
    exact h.slot j c e
  · obtain ⟨n1, e1⟩ := un e1
    obtain ⟨n2, e2⟩ := un e2
    rw [List.getElem?_set_ne n1] at e3
    rw [List.getElem?_set_ne n2] at e4
    exact h.sep j k c c' a e1 o1 e2 o2 e3 e4
end


/-! ### judgements: what must be true of the data so that a piece of the body runs to what is wanted -/
def WE (p : Par) (ρ : Rho) (te : TE) (Q : D → Prop) : Prop := ∀ G σ H, Hold p ρ G σ H → ∀ Qv : VK, (∀ d v G' H', Q d → Stp p G H G' H' → Rp p.K p.h G' v d → Qv v H') → te σ H Qv
def WT (p : Par) (ρ : Rho) (tt : TT) (Q : Bool → Prop) : Prop := ∀ G σ H, Hold p ρ G σ H → ∀ Qv : Bool → Hp → Prop, (∀ b G' H', Q b → Stp p G H G' H' → Qv b H') → tt σ H Qv
def WA (p : Par) (ρ : Rho) (ta : TA) (Q : List D → Prop) : Prop := ∀ G σ H, Hold p ρ G σ H → ∀ Qv : List V → Hp → Prop, (∀ ds vs G' H', Q ds → Stp p G H G' H' → RpL p.K p.h G' vs ds → Qv vs H') → ta σ H Qv
def WO (p : Par) (ρ : Rho) (to : TO) (Q : Option Int → Prop) : Prop := ∀ G σ H, Hold p ρ G σ H → ∀ Qv : Option Int → Hp → Prop, (∀ o G' H', Q o → Stp p G H G' H' → Qv o H') → to σ H Qv
/-- a new object that nobody else knows -/
def WF (p : Par) (ρ : Rho) (te : TE) (Q : Cell → Prop) : Prop := ∀ G σ H, Hold p ρ G σ H → ∀ Qv : VK, (∀ c a G' H', Q c → c.isOwn = true → Stp p G H G' H' → Nil (H a) → Slot p G' H' (some (.ref a)) c → Qv (.ref a) H') → te σ H Qv
/-- an operation on values -/
def RO (p : Par) (r : R2) (x y : D) (Q : D → Prop) : Prop := ∀ G H v w, Mem p G H → Rp p.K p.h G v x → Rp p.K p.h G w y → ∀ Qv : VK, (∀ d u G' H', Q d → Stp p G H G' H' → Rp p.K p.h G' u d → Qv u H') → r v w H Qv
def RU (p : Par) (r : V → Hp → VK → Prop) (x : D) (Q : D → Prop) : Prop := ∀ G H v, Mem p G H → Rp p.K p.h G v x → ∀ Qv : VK, (∀ d u G' H', Q d → Stp p G H G' H' → Rp p.K p.h G' u d → Qv u H') → r v H Qv
def RC (p : Par) (r : List V → Hp → VK → Prop) (xs : List D) (Q : D → Prop) : Prop := ∀ G H vs, Mem p G H → RpL p.K p.h G vs xs → ∀ Qv : VK, (∀ d u G' H', Q d → Stp p G H G' H' → Rp p.K p.h G' u d → Qv u H') → r vs H Qv
structure Post where
  n : Rho → Prop
  r : D → Prop
  b : Rho → Prop := fun _ => False
  c : Rho → Prop := fun _ => False
def WS (p : Par) (ρ : Rho) (ts : TS) (P : Post) : Prop := ∀ G σ H, Hold p ρ G σ H → ∀ E : Ends,
  (∀ ρ' G' σ' H', P.n ρ' → Ex G G' → Hold p ρ' G' σ' H' → E.nx σ' H') → (∀ d v G' H', P.r d → Mem p G' H' → Rp p.K p.h G' v d → E.rt v H') →
  (∀ ρ' G' σ' H', P.b ρ' → Ex G G' → Hold p ρ' G' σ' H' → E.bk σ' H') → (∀ ρ' G' σ' H', P.c ρ' → Ex G G' → Hold p ρ' G' σ' H' → E.ct σ' H') → ts E σ H
def WG (p : Par) (ρ : Rho) (g : TG) (x : D) (N : Rho → Prop) : Prop := ∀ G σ H v, Hold p ρ G σ H → Rp p.K p.h G v x → ∀ Qs : L2.St → Hp → Prop, (∀ ρ' G' σ' H', N ρ' → Ex G G' → Hold p ρ' G' σ' H' → Qs σ' H') → g v σ H Qs
def WGs (p : Par) (ρ : Rho) (g : TGs) (xs : List D) (N : Rho → Prop) : Prop := ∀ G σ H vs, Hold p ρ G σ H → RpL p.K p.h G vs xs → ∀ Qs : L2.St → Hp → Prop, (∀ ρ' G' σ' H', N ρ' → Ex G G' → Hold p ρ' G' σ' H' → Qs σ' H') → g vs σ H Qs

section
variable {p : Par} {ρ : Rho} {Q : D → Prop} {ta tb te : TE} {tt tu : TT}
theorem WE.imp {Q' : D → Prop} (h : WE p ρ te Q') (k : ∀ d, Q' d → Q d) : WE p ρ te Q := fun G σ H hh Qv q => h G σ H hh Qv fun d v G' H' z => q d v G' H' (k d z)
theorem WT.imp {Q Q' : Bool → Prop} (h : WT p ρ tt Q') (k : ∀ d, Q' d → Q d) : WT p ρ tt Q := fun G σ H hh Qv q => h G σ H hh Qv fun d G' H' z => q d G' H' (k d z)
theorem WA.imp {ta : TA} {Q Q' : List D → Prop} (h : WA p ρ ta Q') (k : ∀ d, Q' d → Q d) : WA p ρ ta Q := fun G σ H hh Qv q => h G σ H hh Qv fun d v G' H' z => q d v G' H' (k d z)
theorem WS.imp {ts : TS} {P P' : Post} (h : WS p ρ ts P') (n : ∀ d, P'.n d → P.n d) (r : ∀ d, P'.r d → P.r d) (b : ∀ d, P'.b d → P.b d) (c : ∀ d, P'.c d → P.c d) : WS p ρ ts P := fun G σ H hh E kn kr kb kc =>
  h G σ H hh E (fun ρ' G' σ' H' z => kn ρ' G' σ' H' (n _ z)) (fun d v G' H' z => kr d v G' H' (r _ z)) (fun ρ' G' σ' H' z => kb ρ' G' σ' H' (b _ z)) (fun ρ' G' σ' H' z => kc ρ' G' σ' H' (c _ z))

/-! ### expressions -/
theorem we_var {i : Nat} {x : D} (e : ρ[i]? = some (some (.d x))) (q : Q x) : WE p ρ (tVar i) Q := fun G σ H h Qv k => by
  obtain ⟨sv, h1, v, h2, h3⟩ := h.slot i _ e
  subst h2
  exact ⟨v, h1, k x v G H q h.mem.refl h3⟩
theorem we_int {i : Int} (q : Q (.int i)) : WE p ρ (tC (.int i)) Q := fun G σ H h Qv k => k _ _ G H q h.mem.refl (.int i)
theorem we_bl {i : Bool} (q : Q (.bl i)) : WE p ρ (tC (.bl i)) Q := fun G σ H h Qv k => k _ _ G H q h.mem.refl (.bl i)
theorem we_non (q : Q .non) : WE p ρ (tC .non) Q := fun G σ H h Qv k => k _ _ G H q h.mem.refl .non
theorem we_str {i : Str} (q : Q (.str i)) : WE p ρ (tC (.str i)) Q := fun G σ H h Qv k => k _ _ G H q h.mem.refl (.str i)
theorem we_raw {v : V} (q : Q (.raw v)) : WE p ρ (tC v) Q := fun G σ H h Qv k => k _ _ G H q h.mem.refl (.raw v)
theorem we_op {r : R2} (h : WE p ρ ta fun x => WE p ρ tb fun y => RO p r x y Q) : WE p ρ (tOp r ta tb) Q := fun G σ H hh Qv k =>
  h G σ H hh _ fun x v G1 H1 hx s1 r1 => hx G1 σ H1 (hh.step s1) _ fun y w G2 H2 hy s2 r2 =>
    hy G2 H2 v w ((hh.step s1).step s2).mem (rmono r1 s2.ex) r2 Qv fun d u G3 H3 q s3 r3 => k d u G3 H3 q ((s1.trans s2).trans s3) r3
theorem we_un {r : V → Hp → VK → Prop} (h : WE p ρ ta fun x => RU p r x Q) : WE p ρ (tUn r ta) Q := fun G σ H hh Qv k =>
  h G σ H hh _ fun x v G1 H1 hx s1 r1 => hx G1 H1 v (hh.step s1).mem r1 Qv fun d u G3 H3 q s3 r3 => k d u G3 H3 q (s1.trans s3) r3
theorem we_cb {r : List V → Hp → VK → Prop} {ta : TA} (h : WA p ρ ta fun xs => RC p r xs Q) : WE p ρ (tCB r ta) Q := fun G σ H hh Qv k =>
  h G σ H hh _ fun x v G1 H1 hx s1 r1 => hx G1 H1 v (hh.step s1).mem r1 Qv fun d u G3 H3 q s3 r3 => k d u G3 H3 q (s1.trans s3) r3
theorem wa_nil {Q : List D → Prop} (q : Q []) : WA p ρ tNil Q := fun G σ H hh Qv k => k [] [] G H q hh.mem.refl .nil
theorem wa_cons {Q : List D → Prop} {tr : TA} (h : WE p ρ te fun x => WA p ρ tr fun xs => Q (x :: xs)) : WA p ρ (tCons te tr) Q := fun G σ H hh Qv k =>
  h G σ H hh _ fun x v G1 H1 hx s1 r1 => hx G1 σ H1 (hh.step s1) _ fun xs vs G2 H2 q s2 r2 => k (x :: xs) (v :: vs) G2 H2 q (s1.trans s2) (.cons (rmono r1 s2.ex) r2)

/-! ### scalars -/
/-- a scalar value as data -/
def inj : V → D
  | .non => .non
  | .bl b => .bl b
  | .int i => .int i
  | .str x => .str x
  | v => .raw v
theorem rp_inj {K : PySem.W.Frag} {h : Hnd} {G : Hp} : ∀ v : V, Rp K h G v (inj v)
  | .non => .non
  | .bl b => .bl b
  | .int i => .int i
  | .str x => .str x
  | .byt b => .raw _
  | .flt b => .raw _
  | .ref a => .raw _
  | .ty n => .raw _
theorem rp_int {K : PySem.W.Frag} {h : Hnd} {G : Hp} {v : V} {i : Int} (r : Rp K h G v (.int i)) : v = .int i := by cases r; rfl
theorem rp_bl {K : PySem.W.Frag} {h : Hnd} {G : Hp} {v : V} {i : Bool} (r : Rp K h G v (.bl i)) : v = .bl i := by cases r; rfl
theorem rp_str {K : PySem.W.Frag} {h : Hnd} {G : Hp} {v : V} {i : Str} (r : Rp K h G v (.str i)) : v = .str i := by cases r; rfl
theorem rp_non {K : PySem.W.Frag} {h : Hnd} {G : Hp} {v : V} (r : Rp K h G v .non) : v = .non := by cases r; rfl
theorem we_I0 {g : Int → Int → V} (h : WE p ρ ta fun x => ∃ i, x = .int i ∧ WE p ρ tb fun y => ∃ j, y = .int j ∧ Q (inj (g i j))) : WE p ρ (tOp (rI0 g) ta tb) Q :=
  we_op (h.imp fun x ⟨i, e, h⟩ => h.imp fun y ⟨j, e2, q⟩ => fun G H v w m r1 r2 Qv k => by
    subst e e2
    exact ⟨i, j, rp_int r1, rp_int r2, k _ _ G H q m.refl (rp_inj _)⟩)
theorem we_I {C : Int → Int → Prop} {g : Int → Int → V} (h : WE p ρ ta fun x => ∃ i, x = .int i ∧ WE p ρ tb fun y => ∃ j, y = .int j ∧ C i j ∧ Q (inj (g i j))) : WE p ρ (tOp (rI C g) ta tb) Q :=
  we_op (h.imp fun x ⟨i, e, h⟩ => h.imp fun y ⟨j, e2, c, q⟩ => fun G H v w m r1 r2 Qv k => by
    subst e e2
    exact ⟨i, j, rp_int r1, rp_int r2, c, k _ _ G H q m.refl (rp_inj _)⟩)
theorem we_U {g : Int → V} (h : WE p ρ ta fun x => ∃ i, x = .int i ∧ Q (inj (g i))) : WE p ρ (tUn (rU g) ta) Q :=
  we_un (h.imp fun x ⟨i, e, q⟩ => fun G H v m r1 Qv k => by
    subst e
    exact ⟨i, rp_int r1, k _ _ G H q m.refl (rp_inj _)⟩)
theorem we_notV (h : WE p ρ ta fun x => ∃ b, x = .bl b ∧ Q (.bl (!b))) : WE p ρ (tNotV ta) Q := fun G σ H hh Qv k =>
  h G σ H hh _ fun x v G1 H1 ⟨b, e, q⟩ s1 r1 => by
    subst e
    exact ⟨b, rp_bl r1, k _ _ G1 H1 q s1 (.bl _)⟩
theorem we_andV (h : WE p ρ ta fun x => ∃ b, x = .bl b ∧ (b = true → WE p ρ tb Q) ∧ (b = false → Q (.bl false))) : WE p ρ (tAndV ta tb) Q := fun G σ H hh Qv k =>
  h G σ H hh _ fun x v G1 H1 ⟨b, e, q1, q2⟩ s1 r1 => by
    subst e
    refine ⟨b, rp_bl r1, ?_⟩
    cases b with
    | true => rw [if_pos rfl]; exact q1 rfl G1 σ H1 (hh.step s1) Qv fun d u G2 H2 q s2 r2 => k d u G2 H2 q (s1.trans s2) r2
    | false => rw [if_neg (by decide)]; exact k _ _ G1 H1 (q2 rfl) s1 (.bl _)
theorem we_orV (h : WE p ρ ta fun x => ∃ b, x = .bl b ∧ (b = false → WE p ρ tb Q) ∧ (b = true → Q (.bl true))) : WE p ρ (tOrV ta tb) Q := fun G σ H hh Qv k =>
  h G σ H hh _ fun x v G1 H1 ⟨b, e, q1, q2⟩ s1 r1 => by
    subst e
    refine ⟨b, rp_bl r1, ?_⟩
    cases b with
    | false => rw [if_neg (by decide)]; exact q1 rfl G1 σ H1 (hh.step s1) Qv fun d u G2 H2 q s2 r2 => k d u G2 H2 q (s1.trans s2) r2
    | true => rw [if_pos rfl]; exact k _ _ G1 H1 (q2 rfl) s1 (.bl _)
theorem we_if (h : WT p ρ tt fun b => if b = true then WE p ρ ta Q else WE p ρ tb Q) : WE p ρ (tIf tt ta tb) Q := fun G σ H hh Qv k =>
  h G σ H hh _ fun b G1 H1 q s1 => by
    cases b with
    | true => rw [if_pos rfl] at q ⊢; exact q G1 σ H1 (hh.step s1) Qv fun d u G2 H2 q s2 r2 => k d u G2 H2 q (s1.trans s2) r2
    | false => rw [if_neg (by decide)] at q ⊢; exact q G1 σ H1 (hh.step s1) Qv fun d u G2 H2 q s2 r2 => k d u G2 H2 q (s1.trans s2) r2
/-! ### tests -/
variable {R : Bool → Prop}
theorem wt_B (h : WE p ρ te fun x => ∃ b, x = .bl b ∧ R b) : WT p ρ (tB te) R := fun G σ H hh Qv k =>
  h G σ H hh _ fun x v G1 H1 ⟨b, e, q⟩ s1 r1 => by subst e; exact ⟨b, rp_bl r1, k b G1 H1 q s1⟩
theorem wt_T (h : WE p ρ te fun x => ∃ b, x = .bl b ∧ R b) : WT p ρ (tTest te) R := fun G σ H hh Qv k =>
  h G σ H hh _ fun x v G1 H1 ⟨b, e, q⟩ s1 r1 => by subst e; exact ⟨b, rp_bl r1, k b G1 H1 q s1⟩
theorem wt_not (h : WT p ρ tt fun b => R (!b)) : WT p ρ (tNot tt) R := fun G σ H hh Qv k => h G σ H hh _ fun b G1 H1 q s1 => k (!b) G1 H1 q s1
theorem wt_and (h : WT p ρ tt fun b => (b = true → WT p ρ tu R) ∧ (b = false → R false)) : WT p ρ (tAnd tt tu) R := fun G σ H hh Qv k => h G σ H hh _ fun b G1 H1 ⟨q1, q2⟩ s1 => by
  cases b with
  | true => show tu σ H1 Qv; exact q1 rfl G1 σ H1 (hh.step s1) Qv fun d G2 H2 q s2 => k d G2 H2 q (s1.trans s2)
  | false => show Qv false H1; exact k false G1 H1 (q2 rfl) s1
theorem wt_or (h : WT p ρ tt fun b => (b = false → WT p ρ tu R) ∧ (b = true → R true)) : WT p ρ (tOr tt tu) R := fun G σ H hh Qv k => h G σ H hh _ fun b G1 H1 ⟨q1, q2⟩ s1 => by
  cases b with
  | false => show tu σ H1 Qv; exact q1 rfl G1 σ H1 (hh.step s1) Qv fun d G2 H2 q s2 => k d G2 H2 q (s1.trans s2)
  | true => show Qv true H1; exact k true G1 H1 (q2 rfl) s1
theorem wt_yes (h : R true) : WT p ρ tYes R := fun G σ H hh Qv k => k true G H h hh.mem.refl
end

/-! ### tuples, lists -/
theorem sz {n : Nat} (h : n ≤ 4000000) : n ≤ sizeLine := Nat.le_trans h (by rw [sizeLine_eq]; decide)
section
variable {p : Par} {ρ : Rho} {Q : D → Prop} {ta tb te : TE} {tt tu : TT}
theorem we_tup {ta : TA} (h : WA p ρ ta fun ds => ds.length ≤ 4000000 ∧ Q (.tup ds)) : WE p ρ (tTup ta) Q := fun G σ H hh Qv k =>
  h G σ H hh _ fun ds vs G1 H1 ⟨hl, q⟩ s1 r1 => ⟨sz (by rw [r1.length]; exact hl), fun a ha => k _ _ _ _ q (s1.trans ((hh.step s1).mem.grow ha)) (.tup upd_same (lmono r1 ((hh.step s1).mem.grow (o := .tup vs) ha).ex))⟩
end
theorem Mem.backN {p : Par} {G H G1 H1 : Hp} {a : Addr} (m : Mem p G H) (s : Stp p G H G1 H1) (n : Nil (H1 a)) : Nil (H a) := fun u z => by
  refine Classical.byContradiction fun nt => ?_
  by_cases hb : a = p.h.a
  · obtain ⟨u', hu⟩ := s.hand.some
    obtain ⟨ps, e⟩ := n _ (by rw [hb]; exact hu)
    cases e
  · exact nt (n u (s.base a u hb (fun ps e => nt ⟨ps, e⟩) z))
theorem Mem.back {p : Par} {G H G1 H1 : Hp} {a : Addr} (m : Mem p G H) (s : Stp p G H G1 H1) (n : H1 a = none) : Nil (H a) := m.backN s (Nil.no n)
/-- frozen -/
def Cell.toD : Cell → D
  | .d x => x
  | .ol xs => .lst xs
  | .ok kvs => .dK kvs
  | .ot kvs => .dT kvs
  | .rw a _ => .raw (.ref a)
  | .lk kvs => .dK kvs
  | .lt kvs => .dT kvs
  | .oi _ C kvs => .ins C kvs
theorem Mem.know {p : Par} {G H : Hp} {a : Addr} {o : HO} (m : Mem p G H) (ow : Own p G a) (e : H a = some o) (nt : ∀ ps, o ≠ .tbl ps) : Mem p (upd G a o) H ∧ Ex G (upd G a o) := by
  have ex : Ex G (upd G a o) := fun b u z => by rw [upd_ne (ne_of_none z ow.1)]; exact z
  exact ⟨⟨fun b u z => by
      by_cases hb : b = a
      · subst hb; rw [upd_same] at z; cases z; exact e
      · rw [upd_ne hb] at z; exact m.sub b u z, by rw [upd_ne (Ne.symm ow.2.2)]; exact m.gh, m.base, fun b u z => ex b u (m.g0 b u z), fun b u z => by
      by_cases hb : b = a
      · subst hb; exact .inr (.inl ow.2.1)
      · rw [upd_ne hb] at z; exact m.new b u z, m.hand.mono ex rfl, fun b ps z => by
      by_cases hb : b = a
      · subst hb; rw [upd_same] at z; exact nt ps (Option.some.inj z)
      · rw [upd_ne hb] at z; exact m.gt b ps z, m.tab⟩, ex⟩
theorem Slot.toD {p : Par} {G H : Hp} {a : Addr} {c : Cell} (x : Slot p G H (some (.ref a)) c) (ho : c.isOwn = true) : ∃ o, H a = some o ∧ Own p G a ∧ Rp p.K p.h (upd G a o) (.ref a) c.toD := by
  have ex : ∀ {o : HO}, Own p G a → Ex G (upd G a o) := fun {o} ow b u z => by rw [upd_ne (ne_of_none z ow.1)]; exact z
  cases c with
  | d x => cases ho
  | ol xs => obtain ⟨b, vs, h1, h2, h3, h4⟩ := x; cases h1; exact ⟨_, h3, h2, .lst upd_same (lmono h4 (ex h2))⟩
  | ok xs => obtain ⟨b, vs, h1, h2, h3, h4⟩ := x; cases h1; exact ⟨_, h3, h2, .dK (.inl upd_same) (RpK.mono (ex h2) _ _ h4)⟩
  | ot xs => obtain ⟨b, vs, h1, h2, h3, h4⟩ := x; cases h1; exact ⟨_, h3, h2, .dT (.inl upd_same) (RpT.mono (ex h2) _ _ h4)⟩
  | rw b o => obtain ⟨h1, h2, h3, _⟩ := x; cases h1; exact ⟨_, h3, h2, .raw _⟩
  | lk xs => obtain ⟨b, od, vs, h1, h2, h3, h4⟩ := x; cases h1; exact ⟨_, h3, h2, .dK (.inr ⟨od, upd_same⟩) (RpK.mono (ex h2) _ _ h4)⟩
  | lt xs => obtain ⟨b, od, vs, h1, h2, h3, h4⟩ := x; cases h1; exact ⟨_, h3, h2, .dT (.inr ⟨od, upd_same⟩) (RpT.mono (ex h2) _ _ h4)⟩
  | oi _ C xs => obtain ⟨b, od, vs, h1, h2, h3, h4⟩ := x; cases h1; exact ⟨_, h3, h2, .ins upd_same (RpF.mono (ex h2) _ _ h4.1) h4.2.2⟩
section
variable {p : Par} {ρ : Rho} {Q : D → Prop} {ta tb te : TE} {tt tu : TT}
theorem we_F (h : WF p ρ te fun c => Q c.toD) : WE p ρ te Q := fun G σ H hh Qv k =>
  h G σ H hh _ fun c a G1 H1 q ho s1 n x => by
    have m1 := (hh.step s1).mem
    -- told of the callee's own view: a is new to H
    obtain ⟨o, e, ow, r⟩ := x.toD ho
    have ow2 : Own ⟨p.K, p.h, H, G⟩ G1 a := ⟨ow.1, n, ow.2.2⟩
    exact k _ _ _ _ q (Mem.know s1 ow2 e (x.nt ho e).tbl).1 r
theorem wf_lst {Q : Cell → Prop} {ta : TA} (h : WA p ρ ta fun ds => ds.length ≤ 4000000 ∧ Q (.ol ds)) : WF p ρ (tLst ta) Q := fun G σ H hh Qv k =>
  h G σ H hh _ fun ds vs G1 H1 ⟨hl, q⟩ s1 r1 => ⟨sz (by rw [r1.length]; exact hl), fun a ha => by
    have m1 := (hh.step s1).mem
    exact k _ a _ _ q rfl (s1.trans (m1.growO ha)) (hh.mem.back s1 ha) ⟨a, vs, rfl, m1.fresh ha, upd_same, r1⟩⟩
theorem we_lst {ta : TA} (h : WA p ρ ta fun ds => ds.length ≤ 4000000 ∧ Q (.lst ds)) : WE p ρ (tLst ta) Q := we_F (wf_lst h)
theorem wf_dK {Q : Cell → Prop} (h : Q (.ok [])) : WF p ρ tDNewK Q := fun G σ H hh Qv k a ha => k _ a _ _ h rfl (hh.mem.growO ha) (Nil.no ha) ⟨a, [], rfl, hh.mem.fresh ha, upd_same, .nil⟩
theorem wf_dT {Q : Cell → Prop} (h : Q (.ot [])) : WF p ρ tDNewT Q := fun G σ H hh Qv k a ha => k _ a _ _ h rfl (hh.mem.growO ha) (Nil.no ha) ⟨a, [], rfl, hh.mem.fresh ha, upd_same, .nil⟩

/-! ### subscripts -/
theorem atI_rp {G : Hp} {vs : List V} {ds : List D} {i : Int} {d : D} (r : RpL p.K p.h G vs ds) (e : atI ds i = some d) : ∃ v, atI vs i = some v ∧ Rp p.K p.h G v d := by
  unfold atI at e ⊢
  rw [r.length]
  cases z : ixN ds.length i with
  | none => rw [z] at e; cases e
  | some j =>
    rw [z] at e
    obtain ⟨v, h1, h2⟩ := r.get (i := j) (d := d) e
    exact ⟨v, h1, h2⟩
theorem we_ixT (h : WE p ρ ta fun x => ∃ ds, x = .tup ds ∧ WE p ρ tb fun y => ∃ i d, y = .int i ∧ atI ds i = some d ∧ Q d) : WE p ρ (tOp (rIxT p.K) ta tb) Q :=
  we_op (h.imp fun x ⟨ds, e, h⟩ => h.imp fun y ⟨i, d, e2, c, q⟩ => fun G H v w m r1 r2 Qv k => by
    subst e e2
    obtain ⟨a, vs, ev, hs, hl⟩ := r1.tup_inv
    obtain ⟨u, h1, h2⟩ := atI_rp hl c
    exact ⟨a, vs, i, u, ev, rp_int r2, tqT m.sub hs, h1, k _ _ G H q m.refl h2⟩)
theorem we_ixL (h : WE p ρ ta fun x => ∃ ds, x = .lst ds ∧ WE p ρ tb fun y => ∃ i d, y = .int i ∧ atI ds i = some d ∧ Q d) : WE p ρ (tOp (rIxL p.K) ta tb) Q :=
  we_op (h.imp fun x ⟨ds, e, h⟩ => h.imp fun y ⟨i, d, e2, c, q⟩ => fun G H v w m r1 r2 Qv k => by
    subst e e2
    obtain ⟨a, vs, ev, hs, hl⟩ := r1.lst_inv
    obtain ⟨u, h1, h2⟩ := atI_rp hl c
    exact ⟨a, vs, i, u, ev, rp_int r2, lq m.sub hs, h1, k _ _ G H q m.refl h2⟩)
/-- an item of a list that slot i owns -/
theorem we_ixO {i : Nat} {xs : List D} (e : ρ[i]? = some (some (.ol xs))) (h : WE p ρ tb fun y => ∃ i d, y = .int i ∧ atI xs i = some d ∧ Q d) : WE p ρ (tOp (rIxL p.K) (tVar i) tb) Q := fun G σ H hh Qv k => by
  obtain ⟨sv, h1, a, vs, h2, _, _, _⟩ := hh.slot i _ e
  subst h2
  refine ⟨.ref a, h1, h G σ H hh _ fun y w G1 H1 ⟨j, d, e2, c, q⟩ s1 r1 => ?_⟩
  obtain ⟨sv', h1', a', vs', h2', h3, h4, h5⟩ := (hh.step s1).slot i _ e
  subst h2'
  rw [h1] at h1'
  cases h1'
  subst e2
  obtain ⟨u, g1, g2⟩ := atI_rp h5 c
  exact ⟨a, vs', j, u, rfl, rp_int r1, sq_of h4, g1, k _ _ G1 H1 q s1 g2⟩
/-! ### len -/
theorem call_len_rc {xs : List D} (h : ∃ ds, (xs = [.lst ds] ∨ xs = [.tup ds]) ∧ Q (.int ds.length)) : RC p (fun xs H Q => ∃ q ys, xs = [.ref q] ∧ (SqL p.K H q ys ∨ SqT p.K H q ys) ∧ Q (.int ys.length) H) xs Q := fun G H vs m r Qv k => by
  obtain ⟨ds, e | e, q⟩ := h
  · subst e
    cases r with
    | cons r rn =>
      cases rn
      obtain ⟨a, us, ev, hs, hl⟩ := r.lst_inv
      subst ev
      refine ⟨a, us, rfl, .inl (lq m.sub hs), k _ _ G H q m.refl ?_⟩
      rw [hl.length]; exact .int _
  · subst e
    cases r with
    | cons r rn =>
      cases rn
      obtain ⟨a, us, ev, hs, hl⟩ := r.tup_inv
      subst ev
      refine ⟨a, us, rfl, .inr (tqT m.sub hs), k _ _ G H q m.refl ?_⟩
      rw [hl.length]; exact .int _
theorem we_len (h : WE p ρ te fun x => ∃ ds, (x = .lst ds ∨ x = .tup ds) ∧ Q (.int ds.length)) : WE p ρ (tCB (fun xs H Q => ∃ q ys, xs = [.ref q] ∧ (SqL p.K H q ys ∨ SqT p.K H q ys) ∧ Q (.int ys.length) H) (tCons te tNil)) Q :=
  we_cb (wa_cons (h.imp fun x ⟨ds, e, q⟩ => wa_nil (call_len_rc ⟨ds, by rcases e with e | e; exact .inl (by rw [e]); exact .inr (by rw [e]), q⟩)))
theorem we_lenO {i : Nat} {xs : List D} (e : ρ[i]? = some (some (.ol xs))) (q : Q (.int xs.length)) : WE p ρ (tCB (fun xs H Q => ∃ q ys, xs = [.ref q] ∧ (SqL p.K H q ys ∨ SqT p.K H q ys) ∧ Q (.int ys.length) H) (tCons (tVar i) tNil)) Q := fun G σ H hh Qv k => by
  obtain ⟨sv, h1, a, vs, h2, _, h4, h5⟩ := hh.slot i _ e
  subst h2
  refine ⟨.ref a, h1, a, vs, rfl, .inl (sq_of h4), ?_⟩
  rw [h5.length]
  exact k _ _ G H q hh.mem.refl (.int _)
/-! ### calls of built-ins of ints -/
theorem we_int1 (h : WE p ρ te fun x => ∃ i, x = .int i ∧ Q (.int i)) : WE p ρ (tCB (fun xs H Q => (∃ i, xs = [V.int i] ∧ Q (.int i) H) ∨ ∃ k, xs = [V.bl k] ∧ Q (.int (if k then 1 else 0)) H) (tCons te tNil)) Q :=
  we_cb (wa_cons (h.imp fun x ⟨i, e, q⟩ => wa_nil fun G H vs m r Qv k => by
    subst e
    cases r with
    | cons r rn => cases rn; cases r; exact .inl ⟨i, rfl, k _ _ G H q m.refl (.int _)⟩))
def absI (i : Int) : Int := if i < 0 then -i else i
def maxI (i j : Int) : Int := if j > i then j else i
def minI (i j : Int) : Int := if j < i then j else i
theorem absI_nn (i : Int) : 0 ≤ absI i := by unfold absI; split <;> omega
theorem absI_eq (i : Int) : absI i = (i.natAbs : Int) := by unfold absI; split <;> omega
theorem we_abs (h : WE p ρ te fun x => ∃ i, x = .int i ∧ Q (.int (absI i))) : WE p ρ (tCB (fun xs H Q => ∃ i, xs = [V.int i] ∧ Q (.int (if i < 0 then -i else i)) H) (tCons te tNil)) Q :=
  we_cb (wa_cons (h.imp fun x ⟨i, e, q⟩ => wa_nil fun G H vs m r Qv k => by
    subst e
    cases r with
    | cons r rn => cases rn; cases r; exact ⟨i, rfl, k _ _ G H q m.refl (.int _)⟩))
theorem we_max2 (h : WE p ρ ta fun x => ∃ i, x = .int i ∧ WE p ρ tb fun y => ∃ j, y = .int j ∧ Q (.int (maxI i j))) : WE p ρ (tCB (fun xs H Q => ∃ i j, xs = [V.int i, V.int j] ∧ Q (.int (if j > i then j else i)) H) (tCons ta (tCons tb tNil))) Q :=
  we_cb (wa_cons (h.imp fun x ⟨i, e, h⟩ => wa_cons (h.imp fun y ⟨j, e2, q⟩ => wa_nil fun G H vs m r Qv k => by
    subst e e2
    cases r with
    | cons r rn => cases rn with | cons r2 rn => cases rn; cases r; cases r2; exact ⟨i, j, rfl, k _ _ G H q m.refl (.int _)⟩)))
theorem we_min2 (h : WE p ρ ta fun x => ∃ i, x = .int i ∧ WE p ρ tb fun y => ∃ j, y = .int j ∧ Q (.int (minI i j))) : WE p ρ (tCB (fun xs H Q => ∃ i j, xs = [V.int i, V.int j] ∧ Q (.int (if j < i then j else i)) H) (tCons ta (tCons tb tNil))) Q :=
  we_cb (wa_cons (h.imp fun x ⟨i, e, h⟩ => wa_cons (h.imp fun y ⟨j, e2, q⟩ => wa_nil fun G H vs m r Qv k => by
    subst e e2
    cases r with
    | cons r rn => cases rn with | cons r2 rn => cases rn; cases r; cases r2; exact ⟨i, j, rfl, k _ _ G H q m.refl (.int _)⟩)))
theorem we_gcd (h : WE p ρ ta fun x => ∃ i, x = .int i ∧ WE p ρ tb fun y => ∃ j, y = .int j ∧ Q (.int ((Nat.gcd i.natAbs j.natAbs : Nat) : Int))) : WE p ρ (tCB rGcd (tCons ta (tCons tb tNil))) Q :=
  we_cb (wa_cons (h.imp fun x ⟨i, e, h⟩ => wa_cons (h.imp fun y ⟨j, e2, q⟩ => wa_nil fun G H vs m r Qv k => by
    subst e e2
    cases r with
    | cons r rn => cases rn with | cons r2 rn => cases rn; cases r; cases r2; exact ⟨i, j, rfl, k _ _ G H q m.refl (.int _)⟩)))
/-- == and != of scalars -/
def D.sc : D → Bool
  | .non => true | .bl _ => true | .int _ => true | .str _ => true | _ => false
theorem we_eqI (h : WE p ρ ta fun x => ∃ i, x = .int i ∧ WE p ρ tb fun y => ∃ j, y = .int j ∧ Q (.bl (decide (i = j)))) : WE p ρ (tOp rEq ta tb) Q :=
  we_op (h.imp fun x ⟨i, e, h⟩ => h.imp fun y ⟨j, e2, q⟩ => fun G H v w m r1 r2 Qv k => by
    subst e e2
    rw [rp_int r1, rp_int r2]
    refine ⟨rfl, ?_⟩
    have z : decide (V.int i = V.int j) = decide (i = j) := by
      by_cases e : i = j
      · subst e; simp
      · rw [decide_eq_false e, decide_eq_false fun q => e (V.int.inj q)]
    rw [z]
    exact k _ _ G H q m.refl (.bl _))
theorem we_neI (h : WE p ρ ta fun x => ∃ i, x = .int i ∧ WE p ρ tb fun y => ∃ j, y = .int j ∧ Q (.bl (!decide (i = j)))) : WE p ρ (tOp rNe ta tb) Q :=
  we_op (h.imp fun x ⟨i, e, h⟩ => h.imp fun y ⟨j, e2, q⟩ => fun G H v w m r1 r2 Qv k => by
    subst e e2
    rw [rp_int r1, rp_int r2]
    refine ⟨rfl, ?_⟩
    have z : decide (V.int i = V.int j) = decide (i = j) := by
      by_cases e : i = j
      · subst e; simp
      · rw [decide_eq_false e, decide_eq_false fun q => e (V.int.inj q)]
    rw [z]
    exact k _ _ G H q m.refl (.bl _))
end

theorem Ex.rfl' {G : Hp} : Ex G G := fun _ _ e => e
theorem ex_tr {A B C : Hp} (a : Ex A B) (b : Ex B C) : Ex A C := fun x o e => b x o (a x o e)

/-! ### statements -/
section
variable {p : Par} {ρ : Rho} {Q : D → Prop} {ta tb te td ty : TE} {tt tu : TT} {P : Post} {ts tv : TS}
theorem ws_next (h : P.n ρ) : WS p ρ tNext P := fun G σ H hh E kn kr kb kc => kn ρ G σ H h Ex.rfl' hh
theorem ws_break (h : P.b ρ) : WS p ρ tBreak P := fun G σ H hh E kn kr kb kc => kb ρ G σ H h Ex.rfl' hh
theorem ws_cont (h : P.c ρ) : WS p ρ tCont P := fun G σ H hh E kn kr kb kc => kc ρ G σ H h Ex.rfl' hh
theorem ws_never (h : False) : WS p ρ ts P := h.elim
theorem ws_seq (h : WS p ρ ts { P with n := fun ρ' => WS p ρ' tv P }) : WS p ρ (tSeq ts tv) P := fun G σ H hh E kn kr kb kc =>
  h G σ H hh { E with nx := tv E } (fun ρ' G' σ' H' z e hh' => z G' σ' H' hh' E (fun ρ2 G2 σ2 H2 z2 e2 => kn ρ2 G2 σ2 H2 z2 (ex_tr e e2)) kr (fun ρ2 G2 σ2 H2 z2 e2 => kb ρ2 G2 σ2 H2 z2 (ex_tr e e2)) (fun ρ2 G2 σ2 H2 z2 e2 => kc ρ2 G2 σ2 H2 z2 (ex_tr e e2))) kr kb kc
theorem ws_drop (h : WE p ρ te fun _ => P.n ρ) : WS p ρ (tDrop te) P := fun G σ H hh E kn kr kb kc => h G σ H hh _ fun d v G' H' z s r => kn ρ G' σ H' z s.ex (hh.step s)
theorem ws_ret (h : WE p ρ te P.r) : WS p ρ (tRet te) P := fun G σ H hh E kn kr kb kc => h G σ H hh _ fun d v G' H' z s r => kr d v G' H' z (hh.step s).mem r
theorem ws_retN (h : P.r .non) : WS p ρ tRetN P := fun G σ H hh E kn kr kb kc => kr .non .non G H h hh.mem .non
theorem ws_if (h : WT p ρ tt fun b => if b = true then WS p ρ ts P else WS p ρ tv P) : WS p ρ (tIfS tt ts tv) P := fun G σ H hh E kn kr kb kc =>
  h G σ H hh _ fun b G1 H1 q s1 => by
    cases b with
    | true =>
      rw [if_pos rfl] at q ⊢
      exact q G1 σ H1 (hh.step s1) E (fun ρ2 G2 σ2 H2 z2 e2 => kn ρ2 G2 σ2 H2 z2 (ex_tr s1.ex e2)) kr (fun ρ2 G2 σ2 H2 z2 e2 => kb ρ2 G2 σ2 H2 z2 (ex_tr s1.ex e2)) (fun ρ2 G2 σ2 H2 z2 e2 => kc ρ2 G2 σ2 H2 z2 (ex_tr s1.ex e2))
    | false =>
      rw [if_neg (by decide)] at q ⊢
      exact q G1 σ H1 (hh.step s1) E (fun ρ2 G2 σ2 H2 z2 e2 => kn ρ2 G2 σ2 H2 z2 (ex_tr s1.ex e2)) kr (fun ρ2 G2 σ2 H2 z2 e2 => kb ρ2 G2 σ2 H2 z2 (ex_tr s1.ex e2)) (fun ρ2 G2 σ2 H2 z2 e2 => kc ρ2 G2 σ2 H2 z2 (ex_tr s1.ex e2))
/-! ### targets -/
theorem wg_name {i : Nat} {x : D} {N : Rho → Prop} (h : N (ρ.set i (some (.d x)))) : WG p ρ (gName i) x N := fun G σ H v hh r Qs k => k _ G _ H h Ex.rfl' (hh.setD r)
theorem wgs_nil {xs : List D} {N : Rho → Prop} (h : xs = [] ∧ N ρ) : WGs p ρ gNil xs N := fun G σ H vs hh r Qs k => by
  obtain ⟨e, h⟩ := h
  subst e
  cases r
  exact ⟨rfl, k _ G σ H h Ex.rfl' hh⟩
theorem wgs_cons {g : TG} {gs : TGs} {xs : List D} {N : Rho → Prop} (h : ∃ x r, xs = x :: r ∧ WG p ρ g x fun ρ' => WGs p ρ' gs r N) : WGs p ρ (gCons g gs) xs N := fun G σ H vs hh r Qs k => by
  obtain ⟨x, xr, e, h⟩ := h
  subst e
  cases r with
  | @cons v vs _ _ a b =>
    exact ⟨v, vs, rfl, h G σ H v hh a _ fun ρ1 G1 σ1 H1 z e1 hh1 => z G1 σ1 H1 vs hh1 (lmono b e1) Qs fun ρ2 G2 σ2 H2 z2 e2 => k ρ2 G2 σ2 H2 z2 (ex_tr e1 e2)⟩
theorem wg_tup {n : Nat} {gs : TGs} {x : D} {N : Rho → Prop} (h : ∃ xs, x = .tup xs ∧ xs.length = n ∧ WGs p ρ gs xs N) : WG p ρ (gTup p.K n gs) x N := fun G σ H v hh r Qs k => by
  obtain ⟨xs, e, hl, h⟩ := h
  subst e
  obtain ⟨a, vs, ev, hs, hr⟩ := r.tup_inv
  exact ⟨a, vs, ev, tqT hh.mem.sub hs, by rw [hr.length]; exact hl, h G σ H vs hh hr Qs k⟩
theorem ws_asgG {g : TG} (h : WE p ρ te fun x => WG p ρ g x P.n) : WS p ρ (tAsg te g) P := fun G σ H hh E kn kr kb kc =>
  h G σ H hh _ fun d v G' H' z s r => z G' σ H' v (hh.step s) r E.nx fun ρ2 G2 σ2 H2 z2 e2 => kn ρ2 G2 σ2 H2 z2 (ex_tr s.ex e2)
theorem ws_asg {i : Nat} (h : WE p ρ te fun x => P.n (ρ.set i (some (.d x)))) : WS p ρ (tAsg te (gName i)) P := ws_asgG (h.imp fun _ z => wg_name z)
/-- a new list, a new dict, from now on the slot's own -/
theorem ws_asgF {i : Nat} (h : WF p ρ te fun c => P.n (ρ.set i (some c))) : WS p ρ (tAsg te (gName i)) P := fun G σ H hh E kn kr kb kc =>
  h G σ H hh _ fun c a G' H' z ho s n x => kn _ G' _ H' z s.ex (hh.setNew s n x)
/-- x = y, both names of one object that y owned: x owns it from now on, y is forgotten -/
theorem ws_move {i j : Nat} {c : Cell} (e : ρ[j]? = some (some c)) (ho : c.isOwn = true) (h : P.n ((ρ.set j none).set i (some c))) : WS p ρ (tAsg (tVar j) (gName i)) P := fun G σ H hh E kn kr kb kc => by
  obtain ⟨sv, h1, h2⟩ := hh.slot j _ e
  obtain ⟨a, u, h3, h4, h5⟩ := Cell.own_ref h2 ho
  subst h3
  refine ⟨.ref a, h1, kn _ G _ H h Ex.rfl' ((hh.drop j).setO h2 fun m c' em o q => ?_)⟩
  by_cases hm : j = m
  · subst hm
    rw [List.getElem?_set_self (List.getElem?_eq_some_iff.mp e).1] at em
    cases em
  · rw [List.getElem?_set_ne hm] at em
    exact absurd (hh.sep j m c c' a e ho em o h1 q) hm
/-- what slot i owns is from now on plain data -/
theorem ws_freeze (i : Nat) {c : Cell} (e : ρ[i]? = some (some c)) (ho : c.isOwn = true) (h : WS p (ρ.set i (some (.d c.toD))) ts P) : WS p ρ ts P := fun G σ H hh E kn kr kb kc => by
  obtain ⟨sv, h1, h2⟩ := hh.slot i _ e
  obtain ⟨a, u, h3, _, _⟩ := Cell.own_ref h2 ho
  subst h3
  obtain ⟨o, ha, ow, r⟩ := h2.toD ho
  obtain ⟨hh2, ex⟩ := hh.freeze e ho h1 ow ha r
  exact h _ σ H hh2 E (fun ρ2 G2 σ2 H2 z2 e2 => kn ρ2 G2 σ2 H2 z2 (ex_tr ex e2)) kr (fun ρ2 G2 σ2 H2 z2 e2 => kb ρ2 G2 σ2 H2 z2 (ex_tr ex e2)) (fun ρ2 G2 σ2 H2 z2 e2 => kc ρ2 G2 σ2 H2 z2 (ex_tr ex e2))
theorem we_freeze (i : Nat) {c : Cell} (e : ρ[i]? = some (some c)) (ho : c.isOwn = true) (h : WS p (ρ.set i (some (.d c.toD))) (tRet te) P) : WS p ρ (tRet te) P := ws_freeze i e ho h
theorem ws_drop1 (i : Nat) (h : WS p (ρ.set i none) ts P) : WS p ρ ts P := fun G σ H hh => h G σ H (hh.drop i)
theorem ws_par {i j : Nat} {ta : TA} (h : WA p ρ ta fun ds => ∃ x y, ds = [x, y] ∧ P.n ((ρ.set i (some (.d x))).set j (some (.d y)))) : WS p ρ (tPar i j ta) P := fun G σ H hh E kn kr kb kc =>
  h G σ H hh _ fun ds vs G' H' ⟨x, y, e, z⟩ s r => by
    subst e
    cases r with
    | @cons v _ _ _ r1 rn => cases rn with | @cons w _ _ _ r2 rn => cases rn; exact ⟨v, w, rfl, kn _ G' _ H' z s.ex (((hh.step s).setD r1).setD r2)⟩
theorem ws_aug {i : Nat} {f : Int → Int → Int} {a : Int} (e : ρ[i]? = some (some (.d (.int a)))) (h : WE p ρ te fun y => ∃ b, y = .int b ∧ P.n (ρ.set i (some (.d (.int (f a b)))))) : WS p ρ (tAug i te (ipI f)) P := fun G σ H hh E kn kr kb kc => by
  obtain ⟨sv, h1, v, h2, r⟩ := hh.slot i _ e
  subst h2
  cases r
  exact ⟨_, h1, h G σ H hh _ fun d w G' H' ⟨b, eb, z⟩ s r => by
    subst eb
    exact ⟨a, b, rfl, rp_int r, kn _ G' _ H' z s.ex ((hh.step s).setD (.int _))⟩⟩
/-- xs.append(e), xs slot i's own -/
theorem ws_append {i : Nat} {xs : List D} (e : ρ[i]? = some (some (.ol xs))) (hl : xs.length < 4000000) (h : WE p ρ te fun x => P.n (ρ.set i (some (.ol (xs ++ [x]))))) : WS p ρ (tDrop (tBM p.K "list" rAppend (tVar i) (tCons te tNil))) P := fun G σ H hh E kn kr kb kc => by
  obtain ⟨sv, h1, a, vs, h2, ow, h4, h5⟩ := hh.slot i _ e
  subst h2
  refine ⟨.ref a, h1, Or.inl ⟨rfl, vs, sq_of h4⟩, h G σ H hh _ fun d w G' H' z s r => ?_⟩
  obtain ⟨sv', h1', a', vs', h2', ow', h4', h5'⟩ := (hh.step s).slot i _ e
  subst h2'
  rw [h1] at h1'
  cases h1'
  have hz := h5'.length
  exact ⟨a, vs', w, rfl, rfl, h4', by rw [sizeLine_eq]; omega, kn _ G' σ _ z s.ex ((hh.step s).write e rfl h1 ow' ⟨a, _, rfl, ow', upd_same, h5'.append (.cons r .nil)⟩)⟩

/-! ### dicts that a slot owns -/
/-- a key as data -/
def kD : Key → D
  | .inl i => .int i
  | .inr x => .str x
theorem kD_rp {G : Hp} {v : V} : ∀ {k : Key}, Rp p.K p.h G v (kD k) → v = kV k
  | .inl i, r => by cases r; rfl
  | .inr x, r => by cases r; rfl
theorem rp_kD {G : Hp} : ∀ {k : Key}, Rp p.K p.h G (kV k) (kD k)
  | .inl i => .int i
  | .inr x => .str x
/-- d[k] = e -/
theorem ws_dput {i : Nat} {kvs : List (Key × D)} (e : ρ[i]? = some (some (.ok kvs))) (hl : kvs.length < 4000000) (h : WE p ρ te fun x => WE p ρ ty fun y => ∃ k, y = kD k ∧ P.n (ρ.set i (some (.ok (dPut kvs k x))))) : WS p ρ (sDPut (tVar i) ty te) P := fun G σ H hh E kn kr kb kc =>
  h G σ H hh _ fun x v G1 H1 q1 s1 r1 => by
    obtain ⟨sv, h1, a, vs, h2, ow, h4, h5⟩ := (hh.step s1).slot i _ e
    subst h2
    refine ⟨.ref a, h1, q1 G1 σ H1 (hh.step s1) _ fun y w G2 H2 ⟨k, ek, z⟩ s2 r2 => ?_⟩
    subst ek
    have hh2 := (hh.step s1).step s2
    obtain ⟨sv', h1', a', vs', h2', ow', h4', h5'⟩ := hh2.slot i _ e
    subst h2'
    rw [h1] at h1'
    cases h1'
    have hz := h5'.length
    refine ⟨a, _, rfl, .inl ⟨vs', k, h4', kD_rp r2, by rw [sizeLine_eq]; omega, rfl⟩, kn _ G2 σ _ z (ex_tr s1.ex s2.ex) (hh2.write e rfl h1 ow' ⟨a, _, rfl, ow', upd_same, h5'.put k (rmono r1 s2.ex)⟩)⟩
theorem dget_own {i : Nat} {kvs : List (Key × D)} {G : Hp} {σ : L2.St} {H : Hp} (hh : Hold p ρ G σ H) (e : ρ[i]? = some (some (.ok kvs))) : ∃ a vs, σ[i]? = some (some (.ref a)) ∧ H a = some (.dK vs) ∧ RpK p.K p.h G vs kvs := by
  obtain ⟨sv, h1, a, vs, h2, ow, h4, h5⟩ := hh.slot i _ e
  subst h2
  exact ⟨a, vs, h1, h4, h5⟩
/-- d[k], there -/
theorem we_dget {i : Nat} {kvs : List (Key × D)} (e : ρ[i]? = some (some (.ok kvs))) (h : WE p ρ ty fun y => ∃ k x, y = kD k ∧ dGet kvs k = some x ∧ Q x) : WE p ρ (tDGet (tVar i) ty) Q := fun G σ H hh Qv kk => by
  obtain ⟨a, vs, h1, _, _⟩ := dget_own hh e
  refine ⟨.ref a, h1, h G σ H hh _ fun y w G1 H1 ⟨k, x, ey, ex, q⟩ s1 r1 => ?_⟩
  subst ey
  obtain ⟨a', vs', h1', h2', h3'⟩ := dget_own (hh.step s1) e
  rw [h1] at h1'
  cases h1'
  rcases h3'.find k with ⟨_, z⟩ | ⟨v, d, z1, z2, z3⟩
  · rw [ex] at z; cases z
  · rw [ex] at z2; cases z2
    exact ⟨a, v, rfl, .inl ⟨vs', k, .inl h2', kD_rp r1, z1.symm⟩, kk _ _ G1 H1 q s1 z3⟩
/-- k in d, k not in d -/
theorem we_din {i : Nat} {kvs : List (Key × D)} (e : ρ[i]? = some (some (.ok kvs))) (h : WE p ρ ty fun y => ∃ k, y = kD k ∧ Q (.bl (dGet kvs k).isSome)) : WE p ρ (tDIn ty (tVar i)) Q := fun G σ H hh Qv kk =>
  h G σ H hh _ fun y w G1 H1 ⟨k, ey, q⟩ s1 r1 => by
    subst ey
    obtain ⟨a, vs, h1, h2, h3⟩ := dget_own (hh.step s1) e
    refine ⟨.ref a, h1, a, valV vs k, rfl, .inl ⟨vs, k, .inl h2, kD_rp r1, rfl⟩, ?_⟩
    have z : (valV vs k).isSome = (dGet kvs k).isSome := by
      rcases h3.find k with ⟨z1, z2⟩ | ⟨v, d, z1, z2, _⟩ <;> rw [z1, z2] <;> rfl
    rw [z]
    exact kk _ _ G1 H1 q s1 (.bl _)
theorem we_dnotin {i : Nat} {kvs : List (Key × D)} (e : ρ[i]? = some (some (.ok kvs))) (h : WE p ρ ty fun y => ∃ k, y = kD k ∧ Q (.bl (!(dGet kvs k).isSome))) : WE p ρ (tDNotIn ty (tVar i)) Q := fun G σ H hh Qv kk =>
  h G σ H hh _ fun y w G1 H1 ⟨k, ey, q⟩ s1 r1 => by
    subst ey
    obtain ⟨a, vs, h1, h2, h3⟩ := dget_own (hh.step s1) e
    refine ⟨.ref a, h1, a, valV vs k, rfl, .inl ⟨vs, k, .inl h2, kD_rp r1, rfl⟩, ?_⟩
    have z : (valV vs k).isSome = (dGet kvs k).isSome := by
      rcases h3.find k with ⟨z1, z2⟩ | ⟨v, d, z1, z2, _⟩ <;> rw [z1, z2] <;> rfl
    rw [z]
    exact kk _ _ G1 H1 q s1 (.bl _)
/-- d.get(k, x) -/
theorem we_dget2 {i : Nat} {kvs : List (Key × D)} {tx : TE} (e : ρ[i]? = some (some (.ok kvs))) (h : WE p ρ ty fun y => ∃ k, y = kD k ∧ WE p ρ tx fun x => Q ((dGet kvs k).getD x)) : WE p ρ (tDGet2 (tVar i) ty tx) Q := fun G σ H hh Qv kk => by
  obtain ⟨a, vs, h1, h2, h3⟩ := dget_own hh e
  refine ⟨.ref a, h1, a, rfl, .inl ⟨vs, .inl h2⟩, h G σ H hh _ fun y w G1 H1 ⟨k, ey, q⟩ s1 r1 => q G1 σ H1 (hh.step s1) _ fun x u G2 H2 q2 s2 r2 => ?_⟩
  subst ey
  obtain ⟨a', vs', h1', h2', h3'⟩ := dget_own ((hh.step s1).step s2) e
  rw [h1] at h1'
  cases h1'
  refine ⟨valV vs' k, .inl ⟨vs', k, .inl h2', kD_rp r1, rfl⟩, ?_⟩
  rcases h3'.find k with ⟨z1, z2⟩ | ⟨v, d, z1, z2, z3⟩
  · rw [z1]; rw [z2] at q2; exact kk _ _ G2 H2 q2 (s1.trans s2) r2
  · rw [z1]; rw [z2] at q2; exact kk _ _ G2 H2 q2 (s1.trans s2) z3

/-! ### loops -/
theorem ws_while (I : Nat → Rho → Prop) (m0 : Nat) (h0 : I m0 ρ)
    (hs : ∀ m ρ', I m ρ' → WT p ρ' tt fun b => if b = true then WS p ρ' ts ⟨fun ρ2 => ∃ m', m' < m ∧ I m' ρ2, P.r, P.n, fun ρ2 => ∃ m', m' < m ∧ I m' ρ2⟩ else P.n ρ') : WS p ρ (tWhile tt ts) P := fun G σ H hh E kn kr kb kc => by
  refine ⟨fun m σ' H' => ∃ ρ' G', I m ρ' ∧ Ex G G' ∧ Hold p ρ' G' σ' H', ⟨m0, ρ, G, h0, Ex.rfl', hh⟩, ?_⟩
  rintro m σ' H' ⟨ρ', G', hi, e, hh'⟩
  refine hs m ρ' hi G' σ' H' hh' _ fun b G1 H1 q s1 => ?_
  cases b with
  | false =>
    rw [if_neg (by decide)] at q ⊢
    exact kn ρ' G1 σ' H1 q (ex_tr e s1.ex) (hh'.step s1)
  | true =>
    rw [if_pos rfl] at q ⊢
    refine ⟨fun σ2 H2 => ∃ m', m' < m ∧ ∃ ρ2 G2, I m' ρ2 ∧ Ex G G2 ∧ Hold p ρ2 G2 σ2 H2, fun σ2 H2 ⟨m', l, z⟩ => ⟨m', l, z⟩, ?_⟩
    exact q G1 σ' H1 (hh'.step s1) _ (fun ρ2 G2 σ2 H2 ⟨m', l, z⟩ e2 hh2 => ⟨m', l, ρ2, G2, z, ex_tr (ex_tr e s1.ex) e2, hh2⟩) kr (fun ρ2 G2 σ2 H2 z e2 hh2 => kn ρ2 G2 σ2 H2 z (ex_tr (ex_tr e s1.ex) e2) hh2)
      (fun ρ2 G2 σ2 H2 ⟨m', l, z⟩ e2 hh2 => ⟨m', l, ρ2, G2, z, ex_tr (ex_tr e s1.ex) e2, hh2⟩)
/-- for over a range: the item is lo + k -/
theorem for_rng {g : TG} {lo : Int} {n : Nat} {G : Hp} {σ : L2.St} {H : Hp} {E : Ends} (I : Nat → Rho → Prop) (h0 : I 0 ρ) (hh : Hold p ρ G σ H)
    (hs : ∀ k ρ', k < n → I k ρ' → WG p ρ' g (.int (lo + (k : Int))) fun ρ2 => WS p ρ2 ts ⟨I (k + 1), P.r, P.n, I (k + 1)⟩) (hd : ∀ ρ', I n ρ' → P.n ρ')
    (kn : ∀ ρ' G' σ' H', P.n ρ' → Ex G G' → Hold p ρ' G' σ' H' → E.nx σ' H') (kr : ∀ d v G' H', P.r d → Mem p G' H' → Rp p.K p.h G' v d → E.rt v H') :
    ∃ W : Nat → Nat → L2.St → Hp → Prop, (∃ m, W 0 m σ H) ∧ ∀ i m σ H, W i m σ H →
      ((Itr lo n).stop i H ∧ E.nx σ H) ∨ ((Itr lo n).go i H ∧ ∃ N : L2.St → Hp → Prop, (∀ σ' H', N σ' H' → ∃ m', m' < m ∧ W (i + 1) m' σ' H') ∧ ∀ x H', (Itr lo n).yld i H x H' → g x σ H' fun σ2 H2 => ts { E with nx := N, ct := N, bk := E.nx } σ2 H2) :=
  for_range (lo := lo) (n := n) (fun k σ' H' => ∃ ρ' G', I k ρ' ∧ Ex G G' ∧ Hold p ρ' G' σ' H') ⟨ρ, G, h0, Ex.rfl', hh⟩ (fun k σ' H' hk ⟨ρ', G', hi, e, hh'⟩ =>
    hs k ρ' hk hi G' σ' H' _ hh' (.int _) _ fun ρ2 G2 σ2 H2 z e2 hh2 => z G2 σ2 H2 hh2 _ (fun ρ3 G3 σ3 H3 z3 e3 hh3 => ⟨ρ3, G3, z3, ex_tr (ex_tr e e2) e3, hh3⟩) kr (fun ρ3 G3 σ3 H3 z3 e3 hh3 => kn ρ3 G3 σ3 H3 z3 (ex_tr (ex_tr e e2) e3) hh3)
      (fun ρ3 G3 σ3 H3 z3 e3 hh3 => ⟨ρ3, G3, z3, ex_tr (ex_tr e e2) e3, hh3⟩)) fun σ' H' ⟨ρ', G', hi, e, hh'⟩ => kn ρ' G' σ' H' (hd ρ' hi) e hh'
theorem ws_for1 {g : TG} {ta : TA} (h : WA p ρ ta fun ds => ∃ n : Int, ds = [.int n] ∧ n < 2 ^ 62 ∧ -(2 ^ 62) ≤ n ∧ ∃ I : Nat → Rho → Prop, I 0 ρ ∧
    (∀ k ρ', k < n.toNat → I k ρ' → WG p ρ' g (.int (k : Int)) fun ρ2 => WS p ρ2 ts ⟨I (k + 1), P.r, P.n, I (k + 1)⟩) ∧ ∀ ρ', I n.toNat ρ' → P.n ρ') : WS p ρ (tFor (iRng1 ta) g ts) P := fun G σ H hh E kn kr kb kc =>
  h G σ H hh _ fun ds vs G' H' ⟨n, e, l1, l2, I, h0, hs, hd⟩ s r => by
    subst e
    cases r with
    | cons r rn =>
      cases rn; cases r
      refine ⟨n, rfl, l2, l1, for_rng (P := P) I h0 (hh.step s) (fun k ρ' hk hi => ?_) hd (fun ρ2 G2 σ2 H2 z2 e2 => kn ρ2 G2 σ2 H2 z2 (ex_tr s.ex e2)) kr⟩
      rw [Int.zero_add]
      exact hs k ρ' hk hi
theorem ws_for2 {g : TG} {ta : TA} (h : WA p ρ ta fun ds => ∃ lo n : Int, ds = [.int lo, .int n] ∧ (-(2 ^ 62) ≤ lo ∧ lo < 2 ^ 62 ∧ -(2 ^ 62) ≤ n ∧ n < 2 ^ 62) ∧ ∃ I : Nat → Rho → Prop, I 0 ρ ∧
    (∀ k ρ', k < (n - lo).toNat → I k ρ' → WG p ρ' g (.int (lo + (k : Int))) fun ρ2 => WS p ρ2 ts ⟨I (k + 1), P.r, P.n, I (k + 1)⟩) ∧ ∀ ρ', I (n - lo).toNat ρ' → P.n ρ') : WS p ρ (tFor (iRng2 ta) g ts) P := fun G σ H hh E kn kr kb kc =>
  h G σ H hh _ fun ds vs G' H' ⟨lo, n, e, l, I, h0, hs, hd⟩ s r => by
    subst e
    cases r with
    | cons r rn =>
      cases rn with
      | cons r2 rn =>
        cases rn; cases r; cases r2
        exact ⟨lo, n, rfl, l, for_rng (P := P) I h0 (hh.step s) hs hd (fun ρ2 G2 σ2 H2 z2 e2 => kn ρ2 G2 σ2 H2 z2 (ex_tr s.ex e2)) kr⟩
theorem ws_forL {g : TG} (h : WE p ρ te fun x => ∃ xs, x = .lst xs ∧ ∃ I : Nat → Rho → Prop, I 0 ρ ∧
    (∀ k x ρ', xs[k]? = some x → I k ρ' → WG p ρ' g x fun ρ2 => WS p ρ2 ts ⟨I (k + 1), P.r, P.n, I (k + 1)⟩) ∧ ∀ ρ', I xs.length ρ' → P.n ρ') : WS p ρ (tFor (iList p.K te) g ts) P := fun G σ H hh E kn kr kb kc =>
  h G σ H hh _ fun x v G0 H0 ⟨xs, e, I, h0, hs, hd⟩ s r => by
    subst e
    obtain ⟨a, vs, ev, hq, hl⟩ := r.lst_inv
    have hh0 := hh.step s
    refine ⟨a, ev, ⟨vs, lq hh0.mem.sub hq⟩, for_list (xs := vs) (fun k σ' H' => ∃ ρ' G', I k ρ' ∧ Ex G0 G' ∧ Hold p ρ' G' σ' H') ⟨ρ, G0, h0, Ex.rfl', hh0⟩ (fun k σ' H' _ ⟨ρ', G', hi, e, hh'⟩ => lq hh'.mem.sub (e _ _ hq)) (fun k x σ' H' hk ⟨ρ', G', hi, e, hh'⟩ => ?_)
      fun σ' H' ⟨ρ', G', hi, e, hh'⟩ => kn ρ' G' σ' H' (hd ρ' (by rw [← hl.length]; exact hi)) (ex_tr s.ex e) hh'⟩
    obtain ⟨d, hd1, hd2⟩ := hl.get' hk
    exact hs k d ρ' hd1 hi G' σ' H' _ hh' (rmono hd2 e) _ fun ρ2 G2 σ2 H2 z e2 hh2 => z G2 σ2 H2 hh2 _ (fun ρ3 G3 σ3 H3 z3 e3 hh3 => ⟨ρ3, G3, z3, ex_tr (ex_tr e e2) e3, hh3⟩) kr (fun ρ3 G3 σ3 H3 z3 e3 hh3 => kn ρ3 G3 σ3 H3 z3 (ex_tr s.ex (ex_tr (ex_tr e e2) e3)) hh3)
      (fun ρ3 G3 σ3 H3 z3 e3 hh3 => ⟨ρ3, G3, z3, ex_tr (ex_tr e e2) e3, hh3⟩)
theorem ws_forT {g : TG} (h : WE p ρ te fun x => ∃ xs, x = .tup xs ∧ ∃ I : Nat → Rho → Prop, I 0 ρ ∧
    (∀ k x ρ', xs[k]? = some x → I k ρ' → WG p ρ' g x fun ρ2 => WS p ρ2 ts ⟨I (k + 1), P.r, P.n, I (k + 1)⟩) ∧ ∀ ρ', I xs.length ρ' → P.n ρ') : WS p ρ (tFor (iTup p.K te) g ts) P := fun G σ H hh E kn kr kb kc =>
  h G σ H hh _ fun x v G0 H0 ⟨xs, e, I, h0, hs, hd⟩ s r => by
    subst e
    obtain ⟨a, vs, ev, hq, hl⟩ := r.tup_inv
    have hh0 := hh.step s
    refine ⟨a, ev, ⟨vs, tqT hh0.mem.sub hq⟩, for_tup (xs := vs) (fun k σ' H' => ∃ ρ' G', I k ρ' ∧ Ex G0 G' ∧ Hold p ρ' G' σ' H') ⟨ρ, G0, h0, Ex.rfl', hh0⟩ (fun k σ' H' _ ⟨ρ', G', hi, e, hh'⟩ => tqT hh'.mem.sub (Tp.ex e hq)) (fun k x σ' H' hk ⟨ρ', G', hi, e, hh'⟩ => ?_)
      fun σ' H' ⟨ρ', G', hi, e, hh'⟩ => kn ρ' G' σ' H' (hd ρ' (by rw [← hl.length]; exact hi)) (ex_tr s.ex e) hh'⟩
    obtain ⟨d, hd1, hd2⟩ := hl.get' hk
    exact hs k d ρ' hd1 hi G' σ' H' _ hh' (rmono hd2 e) _ fun ρ2 G2 σ2 H2 z e2 hh2 => z G2 σ2 H2 hh2 _ (fun ρ3 G3 σ3 H3 z3 e3 hh3 => ⟨ρ3, G3, z3, ex_tr (ex_tr e e2) e3, hh3⟩) kr (fun ρ3 G3 σ3 H3 z3 e3 hh3 => kn ρ3 G3 σ3 H3 z3 (ex_tr s.ex (ex_tr (ex_tr e e2) e3)) hh3)
      (fun ρ3 G3 σ3 H3 z3 e3 hh3 => ⟨ρ3, G3, z3, ex_tr (ex_tr e e2) e3, hh3⟩)
end


/-! ### defs -/
/-- a def's promise by data: from S ds R it hands back some d with R d -/
def spD (K : PySem.W.Frag) (S : List D → (D → Prop) → Prop) : Sp := fun vs H Q _ => ∃ h G ds R, RpL K h G vs ds ∧ Mem ⟨K, h, H, G⟩ G H ∧ S ds R ∧ ∀ d v G' H', R d → Mem ⟨K, h, H, G⟩ G' H' → Rp K h G' v d → Q v H'
def rho0 (N : List Str) (ds : List D) : Rho := ds.map (fun d => some (.d d)) ++ List.replicate (N.length - ds.length) none
theorem hold0 {p : Par} {N : List Str} {G H : Hp} {vs : List V} {ds : List D} (m : Mem p G H) (r : RpL p.K p.h G vs ds) : Hold p (rho0 N ds) G (L2.start N vs) H := by
  have hl := r.length
  refine ⟨m, by simp [rho0, L2.start, hl], fun i c e => ?_, fun i j c c' a e1 o1 e2 o2 e3 e4 => ?_⟩
  · unfold rho0 at e
    unfold L2.start
    by_cases hi : i < ds.length
    · rw [List.getElem?_append_left (by rw [List.length_map]; exact hi), List.getElem?_map, List.getElem?_eq_getElem hi] at e
      cases e
      obtain ⟨v, h1, h2⟩ := r.get (List.getElem?_eq_getElem hi)
      refine ⟨some v, ?_, v, rfl, h2⟩
      rw [List.getElem?_append_left (by rw [List.length_map, hl]; exact hi), List.getElem?_map, h1] <;> rfl
    · rw [List.getElem?_append_right (by rw [List.length_map]; omega)] at e
      rw [List.getElem?_replicate] at e
      split at e <;> cases e
  · exfalso
    have dd : ∀ {i : Nat} {c : Cell}, (rho0 N ds)[i]? = some (some c) → c.isOwn = true → False := fun {i c} e o => by
      unfold rho0 at e
      by_cases hi : i < ds.length
      · rw [List.getElem?_append_left (by rw [List.length_map]; exact hi), List.getElem?_map, List.getElem?_eq_getElem hi] at e
        cases e
        cases o
      · rw [List.getElem?_append_right (by rw [List.length_map]; omega)] at e
        rw [List.getElem?_replicate] at e
        split at e <;> cases e
    exact dd e1 o1
/-- where a def of the text stands -/
structure Src (K : PySem.W.Frag) (mg : Str → Option Value) (x : Str) (st : Stmt) : Prop where
  ex : ∃ f fd, mg x = some (.ref f) ∧ Fun K x x st f fd
/-- a def that keeps the promise S, by at most level k -/
structure Dfn (P : Program) (w : World) (K : PySem.W.Frag) (mg : Str → Option Value) (base : Heap) (k : Nat) (x : Str) (ps : List Str) (S : List D → (D → Prop) → Prop) : Prop where
  ex : ∃ f fd, mg x = some (.ref f) ∧ PySem.W.keepIn K (.ref f) = true ∧ FnOk P w K mg base CX0 k f fd ps (spD K S) ∧ Binds K fd ps []
theorem Dfn.mono {P : Program} {w : World} {K : PySem.W.Frag} {mg : Str → Option Value} {base : Heap} {j k : Nat} {x : Str} {ps : List Str} {S : List D → (D → Prop) → Prop} (F : Dfn P w K mg base j x ps S) (h : j ≤ k) : Dfn P w K mg base k x ps S := by
  obtain ⟨f, fd, h1, h2, h3, h4⟩ := F.ex
  exact ⟨f, fd, h1, h2, h3.mono h, h4⟩
theorem Dfn.imp {P : Program} {w : World} {K : PySem.W.Frag} {mg : Str → Option Value} {base : Heap} {k : Nat} {x : Str} {ps : List Str} {S S' : List D → (D → Prop) → Prop} (F : Dfn P w K mg base k x ps S) (h : ∀ ds R, S' ds R → S ds R) : Dfn P w K mg base k x ps S' := by
  obtain ⟨f, fd, h1, h2, h3, h4⟩ := F.ex
  exact ⟨f, fd, h1, h2, h3.imp fun vs H Q E ⟨hd, G, ds, R, a, b, c, d⟩ => ⟨hd, G, ds, R, a, b, h ds R c, d⟩, h4⟩
def retP (R : D → Prop) : Post := ⟨fun _ => R .non, R, fun _ => False, fun _ => False⟩
section
variable {P : Program} {w : World} {K : PySem.W.Frag} {mg : Str → Option Value} {base : Heap}
theorem mkD {x : Str} {st : Stmt} {N ps : List Str} {k : Nat} {S : List D → (D → Prop) → Prop} (F : Src K mg x st) (sc : FnScope N ps (defScope st))
    (hb : ∀ (kV doc pm : Value) (an : Option Addr) (cdv ct : Value) (us : List Value), us.length = ps.length → bindArgs (PySem.W.fnOf x x (defArgs st) (defBody st) (defScope st) .none kV doc pm an cdv ct) ⟨us, []⟩ = pure (ps.zip us))
    (len : ∀ ds R, S ds R → ds.length = ps.length)
    (body : ∀ (f : Addr) (cdv : Value) (A : Around) (outer : List Env) (s : Shared) (H : Hp) (E : XK), Room k (A.deeper (envOfC x (defScope st) s.heap.objs.size f cdv)) →
      ∃ t, PSs (cxOf CX0 P w K mg base N x (defScope st) f cdv A outer s H E).nox (defBody st) t ∧ ∀ (h : Hnd) (H0 G0 : Hp) ds R, S ds R → WS ⟨K, h, H0, G0⟩ (rho0 N ds) t (retP R)) : Dfn P w K mg base (k + 1) x ps S := by
  obtain ⟨f, fd, hm, F⟩ := F.ex
  refine ⟨f, fd, hm, F.kp, F.ok sc (fun vs H Q E h => ?_) (fun cdv A outer s H vs Q E hr h => ?_), F.binds hb⟩
  · obtain ⟨hd, G, ds, R, r, m, hs, q⟩ := h
    rw [r.length]
    exact len ds R hs
  · obtain ⟨hd, G, ds, R, r, m, hs, q⟩ := h
    obtain ⟨t, ht, hw⟩ := body f cdv A outer s H E hr
    refine ⟨t, ht, hw hd H G ds R hs G _ H (hold0 m r) _ (fun ρ' G' σ' H' z e hh => q .non .non G' H' z hh.mem .non) (fun d v G' H' z m' r' => q d v G' H' z m' r') (fun _ _ _ _ z => z.elim) fun _ _ _ _ z => z.elim⟩
/-- a def handled by its own reading -/
theorem mkS {x : Str} {st : Stmt} {N ps : List Str} {k : Nat} {S : List D → (D → Prop) → Prop} (F : Src K mg x st) (sc : FnScope N ps (defScope st))
    (hb : ∀ (kV doc pm : Value) (an : Option Addr) (cdv ct : Value) (us : List Value), us.length = ps.length → bindArgs (PySem.W.fnOf x x (defArgs st) (defBody st) (defScope st) .none kV doc pm an cdv ct) ⟨us, []⟩ = pure (ps.zip us))
    (len : ∀ ds R, S ds R → ds.length = ps.length)
    (body : ∀ (f : Addr) (cdv : Value) (A : Around) (outer : List Env) (s : Shared) (H : Hp) (E : XK), Room k (A.deeper (envOfC x (defScope st) s.heap.objs.size f cdv)) →
      ∃ t, PSs (cxOf CX0 P w K mg base N x (defScope st) f cdv A outer s H E).nox (defBody st) t ∧ ∀ vs Q, spD K S vs H Q E → t { nx := fun _ H' => Q .non H', rt := Q } (L2.start N vs) H) : Dfn P w K mg base (k + 1) x ps S := by
  obtain ⟨f, fd, hm, F⟩ := F.ex
  refine ⟨f, fd, hm, F.kp, F.ok sc (fun vs H Q E h => ?_) (fun cdv A outer s H vs Q E hr h => ?_), F.binds hb⟩
  · obtain ⟨hd, G, ds, R, r, m, hs, q⟩ := h
    rw [r.length]
    exact len ds R hs
  · obtain ⟨t, ht, hw⟩ := body f cdv A outer s H E hr
    exact ⟨t, ht, hw vs Q h⟩
end
section
variable {X : Cx} {x : Str} {p pos : Pos} {e : Expr} {es : List Expr} {t : TA} {k : Nat} {ps : List Str} {S : List D → (D → Prop) → Prop}
theorem pe_callD (F : Dfn X.prog X.w X.K X.mg X.base k x ps S) (hr : Room k X.A) (ha : PA X (e :: es) t) (hg : Gl X x := by rfl) (hdb : (x == ("__debug__" : Str)) = false := by decide)
    (he : starEach (e :: es) X.env = (false, eval e X.env) :: starEach es X.env := by rfl) (hpl : (backTo pos (starEach es X.env)).any (·.1) = false := by rfl) : PE X (.Call (.Name x p) (e :: es) [] pos) (tCall (spD X.K S) [] E0 t) := by
  obtain ⟨f, fd, h1, h2, h3, h4⟩ := F.ex
  exact pe_call h3 hr hg h1 h2 h4 .nil pass0 ha hdb he hpl
theorem pe_call0D (F : Dfn X.prog X.w X.K X.mg X.base k x ps S) (hr : Room k X.A) (hg : Gl X x := by rfl) (hdb : (x == ("__debug__" : Str)) = false := by decide) : PE X (.Call (.Name x p) [] [] pos) (tCall (spD X.K S) [] E0 tNil) := by
  obtain ⟨f, fd, h1, h2, h3, h4⟩ := F.ex
  exact pe_call0 h3 hr hg h1 h2 h4 .nil pass0 hdb
end
section
variable {p : Par} {ρ : Rho} {Q : D → Prop} {ta tb te tl th : TE} {tt tu : TT} {P : Post} {ts tv : TS}
theorem we_call {S : List D → (D → Prop) → Prop} {ta : TA} {E : XK} (h : WA p ρ ta fun ds => S ds Q) : WE p ρ (tCall (spD p.K S) [] E ta) Q := fun G σ H hh Qv k =>
  h G σ H hh _ fun ds vs G1 H1 q s1 r1 => by
    rw [List.append_nil]
    have hh1 := hh.step s1
    exact ⟨p.h, G1, ds, Q, r1, hh1.mem.refl, q, fun d v G' H' z m r => k d v G' H' z (s1.trans m) r⟩

/-! ### slices, sums of tuples and lists -/
def cutD {α : Type} (xs : List α) (lo hi : Option Int) : List α := (xs.drop (HT.sIx xs.length 0 lo)).take (HT.sIx xs.length xs.length hi - HT.sIx xs.length 0 lo)
theorem cut_rp {G : Hp} {vs : List V} {ds : List D} (r : RpL p.K p.h G vs ds) (lo hi : Option Int) : RpL p.K p.h G (cutV vs lo hi) (cutD ds lo hi) := by
  unfold cutV cutD
  rw [r.length]
  exact (r.drop _).take _
theorem cut_whole {α : Type} {xs : List α} {lo hi : Option Int} (h : HT.sIx xs.length 0 lo = 0 ∧ HT.sIx xs.length xs.length hi = xs.length) : cutD xs lo hi = xs := by
  unfold cutD
  rw [h.1, h.2]
  simp
theorem wo_none {Q : Option Int → Prop} (q : Q none) : WO p ρ tNoPart Q := fun G σ H hh Qv k => k none G H q hh.mem.refl
theorem wo_some {Q : Option Int → Prop} (h : WE p ρ te fun x => ∃ i, x = .int i ∧ Q (some i)) : WO p ρ (tPart te) Q := fun G σ H hh Qv k => h G σ H hh _ fun x v G1 H1 ⟨i, e, q⟩ s r => by
  subst e
  exact ⟨i, rp_int r, k _ G1 H1 q s⟩
/-- t[lo:hi] of a tuple -/
theorem we_slT {tl th : TO} (h : WE p ρ te fun x => ∃ xs, x = .tup xs ∧ WO p ρ tl fun lo => WO p ρ th fun hi => Q (.tup (cutD xs lo hi))) : WE p ρ (tSl (rSlA p.K) te tl th) Q := fun G σ H hh Qv k =>
  h G σ H hh _ fun x v G1 H1 ⟨xs, e, q1⟩ s1 r1 => q1 G1 σ H1 (hh.step s1) _ fun lo G2 H2 q2 s2 => q2 G2 σ H2 ((hh.step s1).step s2) _ fun hi G3 H3 q3 s3 => by
    subst e
    obtain ⟨a, vs, ev, hs, hl⟩ := r1.tup_inv
    have hh3 := ((hh.step s1).step s2).step s3
    have ex := ex_tr s2.ex s3.ex
    refine ⟨a, vs, ev, tqT hh3.mem.sub (Tp.ex ex hs), fun hw => ?_, fun hw q hq => ?_⟩
    · rw [hl.length] at hw
      have q3' : Q (.tup (cutD xs lo hi)) := q3
      rw [cut_whole hw] at q3'
      exact k _ _ G3 H3 q3' ((s1.trans s2).trans s3) ((Tp.ex ex hs).rp (lmono hl ex))
    · exact k _ _ _ _ q3 (((s1.trans s2).trans s3).trans (hh3.mem.grow hq)) (.tup upd_same (lmono (cut_rp (lmono hl ex) lo hi) (hh3.mem.grow (o := .tup (cutV vs lo hi)) hq).ex))
/-- xs[lo:hi] of a list: a new one -/
theorem wf_slL {Q : Cell → Prop} {tl th : TO} (h : WE p ρ te fun x => ∃ xs, x = .lst xs ∧ WO p ρ tl fun lo => WO p ρ th fun hi => Q (.ol (cutD xs lo hi))) : WF p ρ (tSl (rSlL p.K) te tl th) Q := fun G σ H hh Qv k =>
  h G σ H hh _ fun x v G1 H1 ⟨xs, e, q1⟩ s1 r1 => q1 G1 σ H1 (hh.step s1) _ fun lo G2 H2 q2 s2 => q2 G2 σ H2 ((hh.step s1).step s2) _ fun hi G3 H3 q3 s3 => by
    subst e
    obtain ⟨a, vs, ev, hs, hl⟩ := r1.lst_inv
    have hh3 := ((hh.step s1).step s2).step s3
    have ex := ex_tr s2.ex s3.ex
    refine ⟨a, vs, ev, lq hh3.mem.sub (ex _ _ hs), fun q hq => ?_⟩
    have s := (s1.trans s2).trans s3
    exact k _ q _ _ q3 rfl (s.trans (hh3.mem.growO hq)) (hh.mem.back s hq) ⟨q, _, rfl, hh3.mem.fresh hq, upd_same, cut_rp (lmono hl ex) lo hi⟩
theorem we_slL {tl th : TO} (h : WE p ρ te fun x => ∃ xs, x = .lst xs ∧ WO p ρ tl fun lo => WO p ρ th fun hi => Q (.lst (cutD xs lo hi))) : WE p ρ (tSl (rSlL p.K) te tl th) Q := we_F (wf_slL h)
/-- t + u of tuples -/
theorem we_catT (h : WE p ρ ta fun x => ∃ xs, x = .tup xs ∧ WE p ρ tb fun y => ∃ ys, y = .tup ys ∧ xs.length + ys.length ≤ 4000000 ∧ Q (.tup (xs ++ ys))) : WE p ρ (tOp (rCatA p.K) ta tb) Q :=
  we_op (h.imp fun x ⟨xs, e, h⟩ => h.imp fun y ⟨ys, e2, hz, q⟩ => fun G H v w m r1 r2 Qv k => by
    subst e e2
    obtain ⟨a, vs, ev, hs, hl⟩ := r1.tup_inv
    obtain ⟨b, ws, ew, ht, hm⟩ := r2.tup_inv
    refine ⟨a, b, vs, ws, ev, ew, tqT m.sub hs, tqT m.sub ht, sz (by rw [hl.length, hm.length]; exact hz), fun e0 => ?_, fun _ e0 => ?_, fun _ _ q' hq => ?_⟩
    · subst e0
      have z := hl.length
      cases xs with
      | nil => exact k _ _ G H q m.refl (ht.rp hm)
      | cons x xs => cases z
    · subst e0
      have z := hm.length
      cases ys with
      | nil => rw [List.append_nil] at q; exact k _ _ G H q m.refl (hs.rp hl)
      | cons x xs => cases z
    · exact k _ _ _ _ q (m.grow hq) (.tup upd_same (lmono (hl.append hm) (m.grow (o := .tup (vs ++ ws)) hq).ex)))
/-- xs + ys of lists: a new one -/
theorem wf_catL {Q : Cell → Prop} (h : WE p ρ ta fun x => ∃ xs, x = .lst xs ∧ WE p ρ tb fun y => ∃ ys, y = .lst ys ∧ xs.length + ys.length ≤ 4000000 ∧ Q (.ol (xs ++ ys))) :
    WF p ρ (tOp rCat ta tb) Q := fun G σ H hh Qv k =>
  h G σ H hh _ fun x v G1 H1 ⟨xs, e, q1⟩ s1 r1 => q1 G1 σ H1 (hh.step s1) _ fun y w G2 H2 ⟨ys, e2, hz, q⟩ s2 r2 => by
    subst e e2
    obtain ⟨a, vs, ev, hs, hl⟩ := r1.lst_inv
    obtain ⟨b, ws, ew, ht, hm⟩ := r2.lst_inv
    have hh2 := (hh.step s1).step s2
    have s := s1.trans s2
    refine ⟨a, b, vs, ws, ev, ew, hh2.mem.sub _ _ (s2.ex _ _ hs), hh2.mem.sub _ _ ht, sz (by rw [hl.length, hm.length]; exact hz), fun q' hq => ?_⟩
    exact k _ q' _ _ q rfl (s.trans (hh2.mem.growO hq)) (hh.mem.back s hq) ⟨q', _, rfl, hh2.mem.fresh hq, upd_same, (lmono hl s2.ex).append hm⟩
/-- tuple(xs) -/
theorem we_tupleOf (h : WE p ρ te fun x => ∃ xs, (x = .lst xs ∨ x = .tup xs) ∧ Q (.tup xs)) :
    WE p ρ (tCB (fun xs H Q => ∃ q ys, xs = [V.ref q] ∧ ((SqL p.K H q ys ∧ ∀ l, H l = none → Q (.ref l) (upd H l (.tup ys))) ∨ (SqT p.K H q ys ∧ Q (.ref q) H))) (tCons te tNil)) Q :=
  we_cb (wa_cons (h.imp fun x ⟨xs, e, q⟩ => wa_nil fun G H vs m r Qv k => by
    cases r with
    | cons r rn =>
      cases rn
      rcases e with e | e
      · subst e
        obtain ⟨a, us, ev, hs, hl⟩ := r.lst_inv
        subst ev
        exact ⟨a, us, rfl, .inl ⟨lq m.sub hs, fun l hq => k _ _ _ _ q (m.grow hq) (.tup upd_same (lmono hl (m.grow (o := .tup us) hq).ex))⟩⟩
      · subst e
        obtain ⟨a, us, ev, hs, hl⟩ := r.tup_inv
        subst ev
        exact ⟨a, us, rfl, .inr ⟨tqT m.sub hs, k _ _ G H q m.refl (hs.rp hl)⟩⟩))
/-- list(xs): a new one -/
theorem wf_listOf {Q : Cell → Prop} (h : WE p ρ te fun x => ∃ xs, (x = .lst xs ∨ x = .tup xs) ∧ Q (.ol xs)) :
    WF p ρ (tCB (fun xs H Q => ∃ q ys, xs = [V.ref q] ∧ (SqL p.K H q ys ∨ SqT p.K H q ys) ∧ ∀ l, H l = none → Q (.ref l) (upd H l (.lst ys))) (tCons te tNil)) Q := fun G σ H hh Qv k =>
  h G σ H hh _ fun x v G1 H1 ⟨xs, e, q⟩ s1 r1 => by
    have hh1 := hh.step s1
    rcases e with e | e
    · subst e
      obtain ⟨a, us, ev, hs, hl⟩ := r1.lst_inv
      subst ev
      exact ⟨a, us, rfl, .inl (lq hh1.mem.sub hs), fun l hq => k _ l _ _ q rfl (s1.trans (hh1.mem.growO hq)) (hh.mem.back s1 hq) ⟨l, _, rfl, hh1.mem.fresh hq, upd_same, hl⟩⟩
    · subst e
      obtain ⟨a, us, ev, hs, hl⟩ := r1.tup_inv
      subst ev
      exact ⟨a, us, rfl, .inr (tqT hh1.mem.sub hs), fun l hq => k _ l _ _ q rfl (s1.trans (hh1.mem.growO hq)) (hh.mem.back s1 hq) ⟨l, _, rfl, hh1.mem.fresh hq, upd_same, hl⟩⟩
end

/-! ### comprehensions -/
def wipeR (ρ : Rho) : List Nat → Rho
  | [] => ρ
  | v :: vs => (wipeR ρ vs).set v none
section
variable {p : Par} {ρ : Rho} {te : TE} {tt : TT} {g : TG}
theorem Hold.wipe {G H : Hp} {σ : L2.St} (hh : Hold p ρ G σ H) : ∀ vs : List Nat, Hold p (wipeR ρ vs) G (L2.wipe σ vs) H
  | [] => hh
  | v :: vs => (Hold.wipe hh vs).forget v none
theorem wipe_get {σ : L2.St} {j : Nat} : ∀ {vs : List Nat}, (L2.wipe σ vs)[j]? = if j ∈ vs then (if j < σ.length then some none else none) else σ[j]?
  | [] => by simp [L2.wipe]
  | v :: vs => by
    have ih := wipe_get (σ := σ) (j := j) (vs := vs)
    show ((L2.wipe σ vs).set v none)[j]? = _
    by_cases hv : v = j
    · subst hv
      rw [if_pos (by simp)]
      by_cases hl : v < σ.length
      · rw [if_pos hl, List.getElem?_set_self (by rw [L2.wipe_length]; exact hl)]
      · rw [if_neg hl, List.getElem?_eq_none (by rw [List.length_set, L2.wipe_length]; omega)]
    · rw [List.getElem?_set_ne hv, ih]
      by_cases hm : j ∈ vs
      · rw [if_pos hm, if_pos (List.mem_cons_of_mem _ hm)]
      · rw [if_neg hm, if_neg (fun z => by rcases List.mem_cons.mp z with e | e; exact hv e.symm; exact hm e)]
theorem wipe_set {σ : L2.St} {j : Nat} {x : Option V} {vs : List Nat} (h : j ∈ vs) : L2.wipe (σ.set j x) vs = L2.wipe σ vs := by
  refine List.ext_getElem? fun i => ?_
  rw [wipe_get, wipe_get, List.length_set]
  by_cases hm : i ∈ vs
  · rw [if_pos hm, if_pos hm]
  · rw [if_neg hm, if_neg hm, List.getElem?_set_ne (fun z => hm (by rw [← z]; exact h))]
theorem wipe_wipe {σ : L2.St} {vs : List Nat} : L2.wipe (L2.wipe σ vs) vs = L2.wipe σ vs := by
  refine List.ext_getElem? fun i => ?_
  rw [wipe_get, wipe_get, L2.wipe_length]
  by_cases hm : i ∈ vs
  · rw [if_pos hm, if_pos hm]
  · rw [if_neg hm, if_neg hm]
/-- a target that stores into the slots vs alone -/
def WGp (p : Par) (vs : List Nat) (ρ : Rho) (g : TG) (x : D) (N : Rho → Prop) : Prop := ∀ G σ H v, Hold p ρ G σ H → Rp p.K p.h G v x → ∀ Qs : L2.St → Hp → Prop, (∀ ρ' σ', N ρ' → Hold p ρ' G σ' H → L2.wipe σ' vs = L2.wipe σ vs → Qs σ' H) → g v σ H Qs
def WGps (p : Par) (vs : List Nat) (ρ : Rho) (g : TGs) (xs : List D) (N : Rho → Prop) : Prop := ∀ G σ H us, Hold p ρ G σ H → RpL p.K p.h G us xs → ∀ Qs : L2.St → Hp → Prop, (∀ ρ' σ', N ρ' → Hold p ρ' G σ' H → L2.wipe σ' vs = L2.wipe σ vs → Qs σ' H) → g us σ H Qs
theorem wgp_name {vs : List Nat} {i : Nat} {x : D} {N : Rho → Prop} (hi : i ∈ vs) (h : N (ρ.set i (some (.d x)))) : WGp p vs ρ (gName i) x N := fun G σ H v hh r Qs k => k _ _ h (hh.setD r) (wipe_set hi)
theorem wgps_nil {vs : List Nat} {xs : List D} {N : Rho → Prop} (h : xs = [] ∧ N ρ) : WGps p vs ρ gNil xs N := fun G σ H us hh r Qs k => by
  obtain ⟨e, h⟩ := h
  subst e
  cases r
  exact ⟨rfl, k _ σ h hh rfl⟩
theorem wgps_cons {vs : List Nat} {g : TG} {gs : TGs} {xs : List D} {N : Rho → Prop} (h : ∃ x r, xs = x :: r ∧ WGp p vs ρ g x fun ρ' => WGps p vs ρ' gs r N) : WGps p vs ρ (gCons g gs) xs N := fun G σ H us hh r Qs k => by
  obtain ⟨x, xr, e, h⟩ := h
  subst e
  cases r with
  | @cons v us _ _ a b => exact ⟨v, us, rfl, h G σ H v hh a _ fun ρ1 σ1 z hh1 e1 => z G σ1 H us hh1 b Qs fun ρ2 σ2 z2 hh2 e2 => k ρ2 σ2 z2 hh2 (e2.trans e1)⟩
theorem wgp_tup {vs : List Nat} {n : Nat} {gs : TGs} {x : D} {N : Rho → Prop} (h : ∃ xs, x = .tup xs ∧ xs.length = n ∧ WGps p vs ρ gs xs N) : WGp p vs ρ (gTup p.K n gs) x N := fun G σ H v hh r Qs k => by
  obtain ⟨xs, e, hl, h⟩ := h
  subst e
  obtain ⟨a, us, ev, hs, hr⟩ := r.tup_inv
  exact ⟨a, us, ev, tqT hh.mem.sub hs, by rw [hr.length]; exact hl, h G σ H us hh hr Qs k⟩
theorem Stp.updO {G H G' H' : Hp} {a : Addr} {o : HO} (s : Stp p G H G' H') (n : H a = none) (ow : Own p G' a) (kn : ∃ u, H' a = some u ∧ NT u) : Stp p G H G' (upd H' a o) :=
  ⟨fun b u z => by rw [upd_ne (ne_of_none z ow.1)]; exact s.sub b u z, s.gh, fun b u hb t z => by
    show upd H' a o b = some u
    rw [upd_ne (ne_of_none z n)]
    exact s.base b u hb t z, s.g0, s.new, s.hand.mono (fun _ _ z => z) (upd_ne (Ne.symm ow.2.2)), s.gt, tabs_upd s.tab (.inr kn)⟩
theorem Own.step {G H G' H' : Hp} {a : Addr} {o : HO} (nt : NT o) (ow : Own p G a) (e : H a = some o) (s : Stp p G H G' H') : Own p G' a ∧ H' a = some o := by
  refine ⟨⟨?_, ow.2⟩, s.base a o ow.2.2 nt.tbl e⟩
  cases z : G' a with
  | none => rfl
  | some u =>
    rcases s.new a u z with r | r | ⟨⟨xs, t⟩, r⟩
    · have r' : G a = some u := r
      rw [ow.1] at r'; cases r'
    · obtain ⟨ps, e'⟩ := r o e
      exact (nt.tbl ps e').elim
    · have r' : H a = some u := r
      rw [e] at r'; cases r'
      exact (nt.tup xs t).elim
/-- what stands between two turns: the list at Dl holds acc -/
def Lc (p : Par) (G1 H1 : Hp) (Dl : Addr) (I : Nat → List D → Prop) (k : Nat) (H' : Hp) : Prop := ∃ acc av G', I k acc ∧ acc.length ≤ k ∧ Stp p G1 H1 G' H' ∧ H' Dl = some (.lst av) ∧ Own p G' Dl ∧ RpL p.K p.h G' av acc
theorem lc_turn {vs : List Nat} {G1 H1 H' : Hp} {σ : L2.St} {Dl : Addr} {I : Nat → List D → Prop} {k : Nat} {x : D} {v : V} (hh : Hold p ρ G1 σ H1) (hn : H1 Dl = none) (hk : k < 4000000) (L : Lc p G1 H1 Dl I k H')
    (hr : ∀ G', Stp p G1 H1 G' H' → ∃ G2, Stp p G' H' G2 H' ∧ Rp p.K p.h G2 v x)
    (h : ∀ acc, I k acc → acc.length ≤ k → WGp p vs (wipeR ρ vs) g x fun ρ2 => WT p ρ2 tt fun b => if b = true then WE p ρ2 te fun y => I (k + 1) (acc ++ [y]) else I (k + 1) acc) :
    g v (L2.wipe σ vs) H' fun σ2 H2 => L2.wipe σ2 vs = L2.wipe σ vs ∧ tt σ2 H2 fun b H3 =>
      if b = true then te σ2 H3 fun y H4 => ∃ acc, H4 Dl = some (.lst acc) ∧ acc.length < sizeLine ∧ Lc p G1 H1 Dl I (k + 1) (upd H4 Dl (.lst (acc ++ [y]))) else Lc p G1 H1 Dl I (k + 1) H3 := by
  obtain ⟨acc, av, G0, hi, hl, s0, e0, ow0, r0⟩ := L
  obtain ⟨G', s00, rx⟩ := hr G0 s0
  have s := s0.trans s00
  obtain ⟨ow, e⟩ := Own.step NT.lst ow0 e0 s00
  have r := lmono r0 s00.ex
  refine h acc hi hl G' _ H' v ((hh.step s).wipe vs) rx _ fun ρ2 σ2 z hh2 ew => ⟨by rw [ew, wipe_wipe], z G' σ2 H' hh2 _ fun b G2 H2 q s2 => ?_⟩
  obtain ⟨ow2, e2⟩ := Own.step NT.lst ow e s2
  cases b with
  | false =>
    rw [if_neg (by decide)] at q ⊢
    exact ⟨acc, av, G2, q, Nat.le_succ_of_le hl, s.trans s2, e2, ow2, lmono r s2.ex⟩
  | true =>
    rw [if_pos rfl] at q ⊢
    refine q G2 σ2 H2 (hh2.step s2) _ fun d y G3 H3 q3 s3 r3 => ?_
    obtain ⟨ow3, e3⟩ := Own.step NT.lst ow2 e2 s3
    have hz := r.length
    refine ⟨av, e3, by rw [sizeLine_eq]; omega, acc ++ [d], av ++ [y], G3, q3, by rw [List.length_append, List.length_singleton]; omega, ((s.trans s2).trans s3).updO hn ow3 ⟨_, e3, NT.lst⟩, upd_same, ow3, (lmono r (ex_tr s2.ex s3.ex)).append (.cons r3 .nil)⟩
theorem lc_start {G1 H1 : Hp} {σ : L2.St} {Dl : Addr} {I : Nat → List D → Prop} (hh : Hold p ρ G1 σ H1) (hn : H1 Dl = none) (h0 : I 0 []) : Lc p G1 H1 Dl I 0 (upd H1 Dl (.lst [])) :=
  ⟨[], [], G1, h0, Nat.le_refl _, hh.mem.growO hn, upd_same, hh.mem.fresh hn, .nil⟩
theorem wf_lcL {tl : TE} {vs : List Nat} {Q : Cell → Prop} (h : WE p ρ tl fun x => ∃ xs, x = .lst xs ∧ xs.length ≤ 4000000 ∧ ∃ I : Nat → List D → Prop, I 0 [] ∧
    (∀ k x acc, xs[k]? = some x → I k acc → acc.length ≤ k → WGp p vs (wipeR ρ vs) g x fun ρ2 => WT p ρ2 tt fun b => if b = true then WE p ρ2 te fun y => I (k + 1) (acc ++ [y]) else I (k + 1) acc) ∧ ∀ acc, I xs.length acc → Q (.ol acc)) :
    WF p ρ (tLc (iList p.K tl) g tt te vs) Q := fun G σ H hh Qv kk =>
  h G σ H hh _ fun x v G1 H1 ⟨xs, e, hz, I, h0, hs, hd⟩ s1 r1 => by
    subst e
    obtain ⟨a, us, ev, hq, hl⟩ := r1.lst_inv
    have hh1 := hh.step s1
    refine ⟨a, ev, ⟨us, lq hh1.mem.sub hq⟩, fun Dl hn => lc_list (xs := us) (Lc p G1 H1 Dl I) (lc_start hh1 hn h0) (fun k H' _ L => ?_) (fun k y H' hk L => ?_) fun H' L => ?_⟩
    · obtain ⟨acc, av, G', _, _, s, _⟩ := L
      exact lq s.sub (s.ex _ _ hq)
    · obtain ⟨d, hd1, hd2⟩ := hl.get' hk
      have hk' : k < us.length := (List.getElem?_eq_some_iff.mp hk).1
      exact lc_turn hh1 hn (by have := hl.length; omega) L (fun G' s => ⟨G', (hh1.step s).mem.refl, rmono hd2 s.ex⟩) fun acc hi hle => hs k d acc hd1 hi hle
    · obtain ⟨acc, av, G', hi, _, s, e, ow, r⟩ := L
      rw [hl.length] at hi
      exact kk _ Dl G' H' (hd acc hi) rfl (s1.trans s) (hh.mem.back s1 hn) ⟨Dl, av, rfl, ow, e, r⟩
theorem wf_lcT {tl : TE} {vs : List Nat} {Q : Cell → Prop} (h : WE p ρ tl fun x => ∃ xs, x = .tup xs ∧ xs.length ≤ 4000000 ∧ ∃ I : Nat → List D → Prop, I 0 [] ∧
    (∀ k x acc, xs[k]? = some x → I k acc → acc.length ≤ k → WGp p vs (wipeR ρ vs) g x fun ρ2 => WT p ρ2 tt fun b => if b = true then WE p ρ2 te fun y => I (k + 1) (acc ++ [y]) else I (k + 1) acc) ∧ ∀ acc, I xs.length acc → Q (.ol acc)) :
    WF p ρ (tLc (iTup p.K tl) g tt te vs) Q := fun G σ H hh Qv kk =>
  h G σ H hh _ fun x v G1 H1 ⟨xs, e, hz, I, h0, hs, hd⟩ s1 r1 => by
    subst e
    obtain ⟨a, us, ev, hq, hl⟩ := r1.tup_inv
    have hh1 := hh.step s1
    refine ⟨a, ev, ⟨us, tqT hh1.mem.sub hq⟩, fun Dl hn => lc_tup (xs := us) (Lc p G1 H1 Dl I) (lc_start hh1 hn h0) (fun k H' _ L => ?_) (fun k y H' hk L => ?_) fun H' L => ?_⟩
    · obtain ⟨acc, av, G', _, _, s, _⟩ := L
      exact tqT s.sub (Tp.ex s.ex hq)
    · obtain ⟨d, hd1, hd2⟩ := hl.get' hk
      have hk' : k < us.length := (List.getElem?_eq_some_iff.mp hk).1
      exact lc_turn hh1 hn (by have := hl.length; omega) L (fun G' s => ⟨G', (hh1.step s).mem.refl, rmono hd2 s.ex⟩) fun acc hi hle => hs k d acc hd1 hi hle
    · obtain ⟨acc, av, G', hi, _, s, e, ow, r⟩ := L
      rw [hl.length] at hi
      exact kk _ Dl G' H' (hd acc hi) rfl (s1.trans s) (hh.mem.back s1 hn) ⟨Dl, av, rfl, ow, e, r⟩
theorem wf_lc1 {ta : TA} {vs : List Nat} {Q : Cell → Prop} (h : WA p ρ ta fun ds => ∃ n : Int, ds = [.int n] ∧ n ≤ 4000000 ∧ -(2 ^ 62) ≤ n ∧ ∃ I : Nat → List D → Prop, I 0 [] ∧
    (∀ k acc, k < n.toNat → I k acc → acc.length ≤ k → WGp p vs (wipeR ρ vs) g (.int (k : Int)) fun ρ2 => WT p ρ2 tt fun b => if b = true then WE p ρ2 te fun y => I (k + 1) (acc ++ [y]) else I (k + 1) acc) ∧ ∀ acc, I n.toNat acc → Q (.ol acc)) :
    WF p ρ (tLc (iRng1 ta) g tt te vs) Q := fun G σ H hh Qv kk =>
  h G σ H hh _ fun ds ws G1 H1 ⟨n, e, hz, hz2, I, h0, hs, hd⟩ s1 r1 => by
    subst e
    cases r1 with
    | cons r1 rn =>
      cases rn; cases r1
      have hh1 := hh.step s1
      refine ⟨n, rfl, hz2, by omega, fun Dl hn => lc_range (lo := 0) (n := n.toNat) (Lc p G1 H1 Dl I) (lc_start hh1 hn h0) (fun k H' hk L => ?_) fun H' L => ?_⟩
      · rw [Int.zero_add]
        exact lc_turn hh1 hn (by omega) L (fun G' s => ⟨G', (hh1.step s).mem.refl, .int _⟩) fun acc hi hle => hs k acc hk hi hle
      · obtain ⟨acc, av, G', hi, _, s, e, ow, r⟩ := L
        exact kk _ Dl G' H' (hd acc hi) rfl (s1.trans s) (hh.mem.back s1 hn) ⟨Dl, av, rfl, ow, e, r⟩
theorem wf_lc2 {ta : TA} {vs : List Nat} {Q : Cell → Prop} (h : WA p ρ ta fun ds => ∃ lo n : Int, ds = [.int lo, .int n] ∧ n - lo ≤ 4000000 ∧ (-(2 ^ 62) ≤ lo ∧ lo < 2 ^ 62 ∧ -(2 ^ 62) ≤ n ∧ n < 2 ^ 62) ∧ ∃ I : Nat → List D → Prop, I 0 [] ∧
    (∀ k acc, k < (n - lo).toNat → I k acc → acc.length ≤ k → WGp p vs (wipeR ρ vs) g (.int (lo + (k : Int))) fun ρ2 => WT p ρ2 tt fun b => if b = true then WE p ρ2 te fun y => I (k + 1) (acc ++ [y]) else I (k + 1) acc) ∧ ∀ acc, I (n - lo).toNat acc → Q (.ol acc)) :
    WF p ρ (tLc (iRng2 ta) g tt te vs) Q := fun G σ H hh Qv kk =>
  h G σ H hh _ fun ds ws G1 H1 ⟨lo, n, e, hz, hz2, I, h0, hs, hd⟩ s1 r1 => by
    subst e
    cases r1 with
    | cons r1 rn =>
      cases rn with
      | cons r2 rn =>
        cases rn; cases r1; cases r2
        have hh1 := hh.step s1
        refine ⟨lo, n, rfl, hz2, fun Dl hn => lc_range (lo := lo) (n := (n - lo).toNat) (Lc p G1 H1 Dl I) (lc_start hh1 hn h0) (fun k H' hk L => ?_) fun H' L => ?_⟩
        · exact lc_turn hh1 hn (by omega) L (fun G' s => ⟨G', (hh1.step s).mem.refl, .int _⟩) fun acc hi hle => hs k acc hk hi hle
        · obtain ⟨acc, av, G', hi, _, s, e, ow, r⟩ := L
          exact kk _ Dl G' H' (hd acc hi) rfl (s1.trans s) (hh.mem.back s1 hn) ⟨Dl, av, rfl, ow, e, r⟩
end
section
variable {p : Par}
/-- a tuple that stands in H may be taken into what is known -/
theorem Mem.learn {G H : Hp} {q : Addr} {xs : List V} (m : Mem p G H) (e : H q = some (.tup xs)) : ∃ G', Stp p G H G' H ∧ G' q = some (.tup xs) := by
  cases hg : G q with
  | some u =>
    have := m.sub q u hg
    rw [e] at this; cases this
    exact ⟨G, m.refl, hg⟩
  | none =>
    have hq2 : q ≠ p.h.a := fun z => by
      obtain ⟨ns, i', r', n', h1', _⟩ := m.hand
      rw [← z, e] at h1'
      cases h1'
    have ex : Ex G (upd G q (.tup xs)) := fun b u z => by rw [upd_ne (ne_of_none z hg)]; exact z
    refine ⟨upd G q (.tup xs), ⟨fun b u z => ?_, ?_, fun _ _ _ _ z => z, ex, fun b u z => ?_, m.hand.mono ex rfl, fun b ps z => ?_, m.tab⟩, upd_same⟩
    · by_cases hb : b = q
      · subst hb; rw [upd_same] at z; cases z; exact e
      · rw [upd_ne hb] at z; exact m.sub b u z
    · show upd G q (.tup xs) p.h.a = none
      rw [upd_ne (Ne.symm hq2)]; exact m.gh
    · by_cases hb : b = q
      · subst hb; rw [upd_same] at z; cases z; exact .inr (.inr ⟨⟨_, rfl⟩, e⟩)
      · rw [upd_ne hb] at z; exact .inl z
    · by_cases hb : b = q
      · subst hb; rw [upd_same] at z; cases z
      · rw [upd_ne hb] at z; exact m.gt b ps z
end
end Cal
set_option Elab.async false
set_option linter.all false
set_option maxRecDepth 100000
set_option maxHeartbeats 2000000
namespace Cal
open PySem L2 PyProof.Rows
open Evl (Ex ex_l ex_t ex_rd sq_of st_of)

/-! ### sum(d.values()) -/
section
variable {X : Cx} {o : Expr} {p pos apos mpos : Pos} {td : TE}
def tSumVals (td : TE) : TE := fun σ H Q => td σ H fun x H1 => ∃ a kvs is, x = V.ref a ∧ H1 a = some (.dK kvs) ∧ kvs.map (·.2) = is.map V.int ∧ Q (.int (List.sum is)) H1
theorem preSum_list : ∀ (is : List Int), PySem.preSum (fun i => is.getD i 0) is.length = is.sum
  | [] => rfl
  | x :: r => by
    have e := PySem.W.kdu_shift (fun i => (x :: r).getD i 0) r.length
    have ih := preSum_list r
    show PySem.preSum (fun i => (x :: r).getD i 0) (r.length + 1) = (x :: r).sum
    rw [e, List.sum_cons]
    have e2 : (fun i => (x :: r).getD (i + 1) 0) = fun i => r.getD i 0 := by funext i; simp
    rw [e2, ih]
    simp
theorem pe_sumVals (hc : X.calm = true) (hg : Gl X "sum") (hm : X.mg "sum" = none) (hd : PE X o td) (hbase : attributeBase o "values" X.env (eval o X.env) = eval o X.env := by rfl) (hline : (apos.endLine == mpos.line) = true := by rfl)
    (hse : starEach [Expr.Call (.Attribute o "values" apos) [] [] mpos] X.env = [(false, eval (Expr.Call (.Attribute o "values" apos) [] [] mpos) X.env)] := by rfl) :
    PE X (.Call (.Name "sum" p) [.Call (.Attribute o "values" apos) [] [] mpos] [] pos) (tSumVals td) := by
  refine ⟨fun pins s σ H Q I h => ?_⟩
  refine wpAny_Call_Name_kw (ld_blt I hg hm (u := .builtin "sum") (by first | rfl | decide +kernel) ?_ (by first | decide +kernel | decide) (by first | decide +kernel | decide))
  rw [hse]
  refine PySem.callWith_builtin1 (wpAny_Call_method0_late hbase hline (thn (hd.run pins s σ H _ I h) fun v s1 ⟨x, H1, I1, r1, a, kvs, is, ex, ha, hv, q⟩ => ?_))
  subst ex
  obtain rfl : v = Value.ref a := r1
  obtain ⟨_, hsys, vs, rel, dof⟩ := dk_of I1.hok ha
  obtain ⟨ep, dat⟩ := dof.dictAt
  have dat' := dat
  obtain ⟨ob, es, ho, ex, hdat, hko, hpr, hnd⟩ := dat'
  refine ⟨"dict", "dict.values", F.plainAttrs_dict, F.slot_dict_values, F.type_dict_values, ⟨ob, ho, ex.1⟩, fun b e => ?_, Calls.callWith_builtin rfl (PySem.evalArgs_none ?_)⟩
  · cases e
    exact ⟨ob, ho, ex.2.1⟩
  refine call_meetsIn F.slot_dict_values ⟨ob, ho, ex.1⟩ F.entry_dict_values (F.args_dict_values_1 _) (meets_dict_values (mixKind X.prog X.w) a hsys) ⟨⟨vs, dof⟩, ?_⟩
  have k1 : ∀ b u, s1.heap.get? b = some u → (s1.heap.push { cls := .type "dict_values", data := .fields #[.ref a] }).get? b = some u := fun b u e => Heap.get?_push_of_some _ e
  have dat1 : (s1.heap.push { cls := .type "dict_values", data := .fields #[.ref a] }).DictAt (mixKind X.prog X.w) a vs ep := dat.keep k1
  have hlv : vs.length = is.length := by
    have e1 := congrArg List.length hv
    rw [List.length_map, List.length_map] at e1
    rw [← e1]
    exact (KV.length rel).symm
  have hval : ∀ (i : Nat) (v : Value), (∃ k, vs[i]? = some (k, v)) → ∃ t, v = Value.int (is.getD i 0) t := fun i v ⟨k, hk⟩ => by
    obtain ⟨x, h1, h2⟩ := KV.at' rel hk
    have e1 : (kvs.map (·.2))[i]? = some x := by rw [List.getElem?_map, h1] <;> rfl
    rw [hv, List.getElem?_map] at e1
    obtain ⟨j, hj, e2⟩ := Option.map_eq_some_iff.mp e1
    subst e2
    obtain ⟨t, e3⟩ := h2
    refine ⟨t, ?_⟩
    rw [e3, List.getD_eq_getElem?_getD, hj] <;> rfl
  refine PySem.call_sum_walkAnyS ?_
  have K := PySem.W.kdl_values (prog := X.prog) (w := X.w) (knd := mixKind X.prog X.w) (r := s1.heap.objs.size) (d := a) (kvs := vs) (ep := ep)
  obtain ⟨oI, St, hit, W, st⟩ := K.iter X.A.in1 { s1 with heap := s1.heap.push { cls := .type "dict_values", data := .fields #[.ref a] } } (I.ok.hd hc) ⟨⟨_, Heap.get?_push_size _ rfl, rfl, rfl⟩, dat1⟩
  have hsz : (s1.heap.push { cls := .type "dict_values", data := .fields #[.ref a] }).objs.size = s1.heap.objs.size + 1 := Heap.size_push _ _
  have hlt : a < s1.heap.objs.size := Heap.lt_size ho
  refine hit _ _ ⟨(s1.heap.push { cls := .type "dict_values", data := .fields #[.ref a] }).objs.size, _, _, _, vs.length, _, _, (fun i => is.getD i 0), rfl, W.toS, st, fun b hb => ?_, hval, fun s' t' hm => ?_⟩
  · show b < ((s1.heap.push _).push oI).objs.size
    rw [Heap.size_push, Heap.size_push]
    rw [hsz] at hb
    rcases List.mem_cons.mp hb with e | hb
    · rw [e]
      exact Nat.lt_succ_self _
    · have e : b = a := List.mem_singleton.mp hb
      rw [e]
      exact Nat.lt_succ_of_lt (Nat.lt_succ_of_lt hlt)
  · have hk : ∀ b o, s1.heap.get? b = some o → s'.heap.get? b = some o := fun b o e =>
      hm.heap b o (fun hI => by
        have e1 : b = (s1.heap.push { cls := .type "dict_values", data := .fields #[.ref a] }).objs.size := List.mem_singleton.mp hI
        have e2 := Heap.lt_size e
        rw [hsz] at e1
        rw [e1] at e2
        exact absurd e2 (Nat.not_lt.mpr (Nat.le_succ _))) (Heap.get?_push_of_some _ (k1 b o e))
    rw [Moved.eq_with hm]
    have e : PySem.preSum (fun i => is.getD i 0) vs.length = is.sum := by rw [hlv]; exact preSum_list is
    rw [e]
    exact ⟨.int _, H1, I1.kept (t' := s'.toks) hk, ⟨t', rfl⟩, q⟩
end
section
variable {p : Par} {ρ : Rho} {Q : D → Prop} {ta tb te td ty : TE} {tt tu : TT} {P : Post} {ts tv : TS}
theorem RpK.vals {K : PySem.W.Frag} {h : Hnd} {G : Hp} : ∀ {vs : List (Key × V)} {ds : List (Key × D)} {is : List Int}, RpK K h G vs ds → ds.map (·.2) = is.map D.int → vs.map (·.2) = is.map V.int
  | [], [], [], _, _ => rfl
  | [], [], i :: is, _, e => by cases e
  | x :: vs, y :: ds, [], r, e => by cases e
  | x :: vs, y :: ds, i :: is, r, e => by
    cases r with
    | cons a b =>
      rw [List.map_cons, List.map_cons] at e
      injection e with e1 e2
      have e1' := e1
      subst e1'
      cases a
      rw [List.map_cons, List.map_cons, RpK.vals b e2]
  | [], d :: ds, _, r, _ => by cases r
  | v :: vs, [], _, r, _ => by cases r
theorem we_sumVals {i : Nat} {kvs : List (Key × D)} {is : List Int} (e : ρ[i]? = some (some (.ok kvs))) (he : kvs.map (·.2) = is.map D.int) (q : Q (.int is.sum)) : WE p ρ (tSumVals (tVar i)) Q := fun G σ H hh Qv k => by
  obtain ⟨a, vs, h1, h2, h3⟩ := dget_own hh e
  exact ⟨.ref a, h1, a, vs, is, rfl, h2, h3.vals he, k _ _ G H q hh.mem.refl (.int _)⟩
/-- {k: v} -/
theorem wf_disp1 {Q : Cell → Prop} {tk tx : TE} (h : WE p ρ tk fun y => ∃ k, y = kD k ∧ WE p ρ tx fun x => Q (.ok [(k, x)])) : WF p ρ (tDisp [(tk, tx)]) Q := fun G σ H hh Qv kk a ha => by
  have s0 := hh.mem.growO (o := .dK []) ha
  have hh0 := hh.step s0
  refine h G σ _ hh0 _ fun y w G1 H1 ⟨k, ey, q⟩ s1 r1 => q G1 σ H1 (hh0.step s1) _ fun x u G2 H2 q2 s2 r2 => ?_
  subst ey
  have ow := hh.mem.fresh ha
  obtain ⟨ow1, e1⟩ := Own.step NT.dK ow upd_same s1
  obtain ⟨ow2, e2⟩ := Own.step NT.dK ow1 e1 s2
  refine ⟨e2, [(k, u)], ?_, by show 1 ≤ 15; decide, ?_⟩
  · rw [kD_rp r1] <;> rfl
  · refine kk _ a G2 _ q2 rfl (Stp.updO ((s0.trans s1).trans s2) ha ow2 ⟨_, e2, NT.dK⟩) (Nil.no ha) ⟨a, _, rfl, ow2, upd_same, ?_⟩
    show RpK p.K p.h G2 (putK [] k u) [(k, x)]
    exact .cons r2 .nil
/-! ### dicts with tuple keys, a slot's own -/
theorem kDs_rp {G : Hp} : ∀ {ks : List Key} {vs : List V}, RpL p.K p.h G vs (ks.map kD) → vs = ks.map kV
  | [], [], _ => rfl
  | k :: ks, v :: vs, r => by
    cases r with
    | cons a b => rw [List.map_cons, kD_rp a, kDs_rp b]
  | [], v :: vs, r => by cases r
  | k :: ks, [], r => by cases r
theorem rp_kDs {G : Hp} : ∀ (ks : List Key), RpL p.K p.h G (ks.map kV) (ks.map kD)
  | [] => .nil
  | k :: ks => .cons rp_kD (rp_kDs ks)
theorem key_at {G H : Hp} {v : V} {ks : List Key} (e : Ex G H) (r : Rp p.K p.h G v (.tup (ks.map kD))) : ∃ b, v = .ref b ∧ H b = some (.tup (ks.map kV)) := by
  obtain ⟨a, vs, ev, h1, h2⟩ := r.tup_inv
  rw [kDs_rp h2] at h1
  rcases h1 with h1 | ⟨_, b, bs, z⟩
  · exact ⟨a, ev, e _ _ h1⟩
  · cases ks with
    | nil => cases z
    | cons k ks =>
      rw [List.map_cons, List.map_cons] at z
      cases k <;> cases z
theorem dgetT_own {i : Nat} {kvs : List (List Key × D)} {G : Hp} {σ : L2.St} {H : Hp} (hh : Hold p ρ G σ H) (e : ρ[i]? = some (some (.ot kvs))) : ∃ a vs, σ[i]? = some (some (.ref a)) ∧ H a = some (.dT vs) ∧ RpT p.K p.h G vs kvs := by
  obtain ⟨sv, h1, a, vs, h2, ow, h4, h5⟩ := hh.slot i _ e
  subst h2
  exact ⟨a, vs, h1, h4, h5⟩
theorem we_dgetT {i : Nat} {kvs : List (List Key × D)} (e : ρ[i]? = some (some (.ot kvs))) (h : WE p ρ ty fun y => ∃ k x, y = .tup (k.map kD) ∧ dGet kvs k = some x ∧ Q x) : WE p ρ (tDGet (tVar i) ty) Q := fun G σ H hh Qv kk => by
  obtain ⟨a, vs, h1, _, _⟩ := dgetT_own hh e
  refine ⟨.ref a, h1, h G σ H hh _ fun y w G1 H1 ⟨k, x, ey, ex, q⟩ s1 r1 => ?_⟩
  subst ey
  obtain ⟨a', vs', h1', h2', h3'⟩ := dgetT_own (hh.step s1) e
  rw [h1] at h1'
  cases h1'
  obtain ⟨b, eb, hb⟩ := key_at s1.sub r1
  rcases h3'.find k with ⟨_, z⟩ | ⟨v, d, z1, z2, z3⟩
  · rw [ex] at z; cases z
  · rw [ex] at z2; cases z2
    exact ⟨a, v, rfl, .inr ⟨vs', k, b, .inl h2', eb, hb, z1.symm⟩, kk _ _ G1 H1 q s1 z3⟩
theorem we_dinT {i : Nat} {kvs : List (List Key × D)} (e : ρ[i]? = some (some (.ot kvs))) (h : WE p ρ ty fun y => ∃ k : List Key, y = .tup (k.map kD) ∧ Q (.bl (dGet kvs k).isSome)) : WE p ρ (tDIn ty (tVar i)) Q := fun G σ H hh Qv kk =>
  h G σ H hh _ fun y w G1 H1 ⟨k, ey, q⟩ s1 r1 => by
    subst ey
    obtain ⟨a, vs, h1, h2, h3⟩ := dgetT_own (hh.step s1) e
    obtain ⟨b, eb, hb⟩ := key_at s1.sub r1
    refine ⟨.ref a, h1, a, valV vs k, rfl, .inr ⟨vs, k, b, .inl h2, eb, hb, rfl⟩, ?_⟩
    have z : (valV vs k).isSome = (dGet kvs k).isSome := by
      rcases h3.find k with ⟨z1, z2⟩ | ⟨v, d, z1, z2, _⟩ <;> rw [z1, z2] <;> rfl
    rw [z]
    exact kk _ _ G1 H1 q s1 (.bl _)
theorem we_dnotinT {i : Nat} {kvs : List (List Key × D)} (e : ρ[i]? = some (some (.ot kvs))) (h : WE p ρ ty fun y => ∃ k : List Key, y = .tup (k.map kD) ∧ Q (.bl (!(dGet kvs k).isSome))) : WE p ρ (tDNotIn ty (tVar i)) Q := fun G σ H hh Qv kk =>
  h G σ H hh _ fun y w G1 H1 ⟨k, ey, q⟩ s1 r1 => by
    subst ey
    obtain ⟨a, vs, h1, h2, h3⟩ := dgetT_own (hh.step s1) e
    obtain ⟨b, eb, hb⟩ := key_at s1.sub r1
    refine ⟨.ref a, h1, a, valV vs k, rfl, .inr ⟨vs, k, b, .inl h2, eb, hb, rfl⟩, ?_⟩
    have z : (valV vs k).isSome = (dGet kvs k).isSome := by
      rcases h3.find k with ⟨z1, z2⟩ | ⟨v, d, z1, z2, _⟩ <;> rw [z1, z2] <;> rfl
    rw [z]
    exact kk _ _ G1 H1 q s1 (.bl _)
theorem we_dget2T {i : Nat} {kvs : List (List Key × D)} {tx : TE} (e : ρ[i]? = some (some (.ot kvs))) (h : WE p ρ ty fun y => ∃ k : List Key, y = .tup (k.map kD) ∧ WE p ρ tx fun x => Q ((dGet kvs k).getD x)) : WE p ρ (tDGet2 (tVar i) ty tx) Q := fun G σ H hh Qv kk => by
  obtain ⟨a, vs, h1, h2, h3⟩ := dgetT_own hh e
  refine ⟨.ref a, h1, a, rfl, .inr ⟨vs, .inl h2⟩, h G σ H hh _ fun y w G1 H1 ⟨k, ey, q⟩ s1 r1 => q G1 σ H1 (hh.step s1) _ fun x u G2 H2 q2 s2 r2 => ?_⟩
  subst ey
  obtain ⟨a', vs', h1', h2', h3'⟩ := dgetT_own ((hh.step s1).step s2) e
  rw [h1] at h1'
  cases h1'
  obtain ⟨b, eb, hb⟩ := key_at s2.sub (rmono r1 s2.ex)
  refine ⟨valV vs' k, .inr ⟨vs', k, b, .inl h2', eb, hb, rfl⟩, ?_⟩
  rcases h3'.find k with ⟨z1, z2⟩ | ⟨v, d, z1, z2, z3⟩
  · rw [z1]; rw [z2] at q2; exact kk _ _ G2 H2 q2 (s1.trans s2) r2
  · rw [z1]; rw [z2] at q2; exact kk _ _ G2 H2 q2 (s1.trans s2) z3
theorem ws_dputT {i : Nat} {kvs : List (List Key × D)} (e : ρ[i]? = some (some (.ot kvs))) (hl : kvs.length < 4000000) (h : WE p ρ te fun x => WE p ρ ty fun y => ∃ k : List Key, y = .tup (k.map kD) ∧ P.n (ρ.set i (some (.ot (dPut kvs k x))))) : WS p ρ (sDPut (tVar i) ty te) P := fun G σ H hh E kn kr kb kc =>
  h G σ H hh _ fun x v G1 H1 q1 s1 r1 => by
    obtain ⟨sv, h1, a, vs, h2, ow, h4, h5⟩ := (hh.step s1).slot i _ e
    subst h2
    refine ⟨.ref a, h1, q1 G1 σ H1 (hh.step s1) _ fun y w G2 H2 ⟨k, ek, z⟩ s2 r2 => ?_⟩
    subst ek
    have hh2 := (hh.step s1).step s2
    obtain ⟨sv', h1', a', vs', h2', ow', h4', h5'⟩ := hh2.slot i _ e
    subst h2'
    rw [h1] at h1'
    cases h1'
    have hz := h5'.length
    obtain ⟨b, eb, hb⟩ := key_at s2.sub r2
    refine ⟨a, _, rfl, .inr ⟨vs', k, b, h4', eb, hb, by rw [sizeLine_eq]; omega, rfl⟩, kn _ G2 σ _ z (ex_tr s1.ex s2.ex) (hh2.write e rfl h1 ow' ⟨a, _, rfl, ow', upd_same, h5'.put k (rmono r1 s2.ex)⟩)⟩

/-! ### walks over a dict that a slot owns, locked meanwhile -/
theorem Hold.lock {G : Hp} {σ : L2.St} {H : Hp} (hh : Hold p ρ G σ H) {i : Nat} {c : Cell} {a : Addr} {o : HO} (e : ρ[i]? = some (some c)) (ho : c.isOwn = true) (q : σ[i]? = some (some (.ref a))) (ow : Own p G a) (nt : NT o) :
    Hold p (ρ.set i (some (.rw a o))) G σ (upd H a o) := hh.write e ho q ow ⟨rfl, ow, upd_same, nt⟩
theorem set_set {α : Type} (l : List α) (i : Nat) (a b : α) : (l.set i a).set i b = l.set i b := by simp
/-- for k, v in d.items(): .., d slot i's own; meanwhile nothing is known of slot i -/
theorem ws_items {i : Nat} {g : TG} {kvs : List (Key × D)} (e : ρ[i]? = some (some (.ok kvs))) (I : Nat → Rho → Prop) (hl : ∀ k ρ', I k ρ' → ρ'.length = ρ.length) (h0 : I 0 (ρ.set i none))
    (hs : ∀ (k : Nat) (key : Key) (x : D) (c : Cell) (ρ' : Rho), kvs[k]? = some (key, x) → I k ρ' → WG p (ρ'.set i (some c)) g (.tup [kD key, x]) fun ρ2 => WS p ρ2 ts ⟨fun ρ3 => ρ3[i]? = some (some c) ∧ I (k + 1) (ρ3.set i none), fun _ => False, fun _ => False, fun ρ3 => ρ3[i]? = some (some c) ∧ I (k + 1) (ρ3.set i none)⟩)
    (hd : ∀ ρ', I kvs.length ρ' → P.n (ρ'.set i (some (.ok kvs)))) : WS p ρ (tLock (tFor (iItems (tVar i)) g ts)) P := fun G σ H hh E kn kr kb kc => by
  obtain ⟨sv, h1, a, vs, h2, ow, h4, h5⟩ := hh.slot i _ e
  subst h2
  refine ⟨a, .dK vs, h4, trivial, fun od => ?_⟩
  have hi : i < ρ.length := (List.getElem?_eq_some_iff.mp e).1
  refine ⟨.ref a, h1, a, od, vs, rfl, upd_same, ?_⟩
  -- the word of the walk: slot i holds the locked dict
  have key : ∀ (k : Nat) (ρ' : Rho) (G' : Hp) (σ' : L2.St) (H' : Hp), I k ρ' → Ex G G' → Hold p (ρ'.set i (some (.rw a (.frz od (.dK vs))))) G' σ' H' → H' a = some (.frz od (.dK vs)) ∧ σ'[i]? = some (some (.ref a)) ∧ Own p G' a := fun k ρ' G' σ' H' hi' ex hh' => by
    obtain ⟨sv, q1, q2, q3, q4, _⟩ := hh'.slot i (.rw a (.frz od (.dK vs))) (by rw [List.getElem?_set_self (by rw [hl k ρ' hi']; exact hi)])
    subst q2
    exact ⟨q4, q1, q3⟩
  refine ⟨fun k m σ' H' => m = vs.length - k ∧ k ≤ vs.length ∧ ∃ ρ' G', I k ρ' ∧ Ex G G' ∧ Hold p (ρ'.set i (some (.rw a (.frz od (.dK vs))))) G' σ' H', ⟨vs.length, by simp, Nat.zero_le _, ρ.set i none, G, h0, Ex.rfl', by rw [set_set]; exact hh.lock e rfl h1 ow NT.frz⟩, ?_⟩
  rintro k m σ' H' ⟨rfl, hk, ρ', G', hi', ex, hh'⟩
  obtain ⟨w1, w2, w3⟩ := key k ρ' G' σ' H' hi' ex hh'
  by_cases hlt : k < vs.length
  · refine .inr ⟨⟨w1, hlt⟩, fun σ2 H2 => ∃ ρ2 G2, I (k + 1) ρ2 ∧ Ex G G2 ∧ Hold p (ρ2.set i (some (.rw a (.frz od (.dK vs))))) G2 σ2 H2, fun σ2 H2 z => ⟨vs.length - (k + 1), by omega, rfl, hlt, z⟩, fun x H2 y => ?_⟩
    obtain ⟨T, ky, v, hx, ex1, hT, eH⟩ := y
    subst ex1 eH
    obtain ⟨d, hd1, hd2⟩ := h5.get' hx
    have s := hh'.mem.grow (o := .tup [kV ky, v]) hT
    have r : Rp p.K p.h (upd G' T (.tup [kV ky, v])) (.ref T) (.tup [kD ky, d]) := .tup upd_same (.cons rp_kD (.cons (rmono (rmono hd2 ex) s.ex) .nil))
    have back : ∀ {ρ3 : Rho}, ρ3[i]? = some (some (.rw a (.frz od (.dK vs)))) → (ρ3.set i none).set i (some (.rw a (.frz od (.dK vs)))) = ρ3 := fun {ρ3} q => by
      rw [set_set]
      refine List.ext_getElem? fun j => ?_
      by_cases hj : i = j
      · subst hj
        rw [List.getElem?_set_self (List.getElem?_eq_some_iff.mp q).1, q]
      · rw [List.getElem?_set_ne hj]
    exact hs k ky d _ ρ' hd1 hi' _ σ' _ _ (hh'.step s) r _ fun ρ2 G2 σ2 H2 z e2 hh2 => z G2 σ2 H2 hh2 _
      (fun ρ3 G3 σ3 H3 ⟨z3, z4⟩ e3 hh3 => ⟨ρ3.set i none, G3, z4, ex_tr (ex_tr ex s.ex) (ex_tr e2 e3), by rw [back z3]; exact hh3⟩)
      (fun d v G3 H3 z3 _ _ => z3.elim) (fun _ _ _ _ z3 => z3.elim)
      (fun ρ3 G3 σ3 H3 ⟨z3, z4⟩ e3 hh3 => ⟨ρ3.set i none, G3, z4, ex_tr (ex_tr ex s.ex) (ex_tr e2 e3), by rw [back z3]; exact hh3⟩)
  · have ek : k = vs.length := by omega
    subst ek
    refine .inl ⟨⟨w1, Nat.le_refl _⟩, w1, ?_⟩
    have hh2 : Hold p ((ρ'.set i (some (.rw a (.frz od (.dK vs))))).set i (some (.ok kvs))) G' σ' (upd H' a (.dK vs)) :=
      hh'.write (c := .rw a (.frz od (.dK vs))) (by rw [List.getElem?_set_self (by rw [hl _ ρ' hi']; exact hi)]) rfl w2 w3 ⟨a, vs, rfl, w3, upd_same, RpK.mono ex _ _ h5⟩
    rw [set_set] at hh2
    exact kn _ G' σ' _ (hd ρ' (by rw [← h5.length]; exact hi')) ex hh2
end
/-! ### comprehensions over a dict that a slot owns -/
section
variable {p : Par} {ρ : Rho} {Q : D → Prop} {ta tb te td ty : TE} {tt tu : TT} {P : Post} {ts tv : TS} {g : TG}
theorem we_dgetLT {i : Nat} {kvs : List (List Key × D)} (e : ρ[i]? = some (some (.lt kvs))) (h : WE p ρ ty fun y => ∃ k x, y = .tup (k.map kD) ∧ dGet kvs k = some x ∧ Q x) : WE p ρ (tDGet (tVar i) ty) Q := fun G σ H hh Qv kk => by
  obtain ⟨sv, h1, a, od, vs, h2, _⟩ := hh.slot i _ e
  subst h2
  refine ⟨.ref a, h1, h G σ H hh _ fun y w G1 H1 ⟨k, x, ey, ex, q⟩ s1 r1 => ?_⟩
  subst ey
  obtain ⟨sv', h1', a', od', vs', h2', ow', h4', h5'⟩ := (hh.step s1).slot i _ e
  subst h2'
  rw [h1] at h1'
  cases h1'
  obtain ⟨b, eb, hb⟩ := key_at s1.sub r1
  rcases h5'.find k with ⟨_, z⟩ | ⟨v, d, z1, z2, z3⟩
  · rw [ex] at z; cases z
  · rw [ex] at z2; cases z2
    exact ⟨a, v, rfl, .inr ⟨vs', k, b, .inr ⟨_, h4'⟩, eb, hb, z1.symm⟩, kk _ _ G1 H1 q s1 z3⟩
theorem we_dgetLK {i : Nat} {kvs : List (Key × D)} (e : ρ[i]? = some (some (.lk kvs))) (h : WE p ρ ty fun y => ∃ k x, y = kD k ∧ dGet kvs k = some x ∧ Q x) : WE p ρ (tDGet (tVar i) ty) Q := fun G σ H hh Qv kk => by
  obtain ⟨sv, h1, a, od, vs, h2, _⟩ := hh.slot i _ e
  subst h2
  refine ⟨.ref a, h1, h G σ H hh _ fun y w G1 H1 ⟨k, x, ey, ex, q⟩ s1 r1 => ?_⟩
  subst ey
  obtain ⟨sv', h1', a', od', vs', h2', ow', h4', h5'⟩ := (hh.step s1).slot i _ e
  subst h2'
  rw [h1] at h1'
  cases h1'
  rcases h5'.find k with ⟨_, z⟩ | ⟨v, d, z1, z2, z3⟩
  · rw [ex] at z; cases z
  · rw [ex] at z2; cases z2
    exact ⟨a, v, rfl, .inl ⟨vs', k, .inr ⟨_, h4'⟩, kD_rp r1, z1.symm⟩, kk _ _ G1 H1 q s1 z3⟩
/-- the walk over the keys of a locked dict with tuple keys, told as a new list -/
theorem lcKeysT {i : Nat} {vs : List Nat} {kvs : List (List Key × D)} {G : Hp} {σ : L2.St} {H : Hp} {Qv : VK} {a : Addr} {od : Obj} {us : List (List Key × V)} (hh : Hold p ρ G σ H) (hq : σ[i]? = some (some (.ref a))) (ha : H a = some (.frz od (.dT us))) (oa : Own p G a) (hl : RpT p.K p.h G us kvs) (hz : kvs.length ≤ 4000000)
    (I : Nat → List D → Prop) (h0 : I 0 [])
    (hs : ∀ (k : Nat) (key : List Key) (x : D) acc, kvs[k]? = some (key, x) → I k acc → acc.length ≤ k → WGp p vs (wipeR ρ vs) g (.tup (key.map kD)) fun ρ2 => WT p ρ2 tt fun b => if b = true then WE p ρ2 te fun y => I (k + 1) (acc ++ [y]) else I (k + 1) acc)
    (kk : ∀ acc Dl G' H', I kvs.length acc → Stp p G H G' H' → H Dl = none → Slot p G' H' (some (.ref Dl)) (.ol acc) → Qv (.ref Dl) H') : tLc (iKeys (tVar i)) g tt te vs σ H Qv := by
  refine ⟨.ref a, hq, a, od, rfl, .inr ⟨us, ha, fun Dl hn => ?_⟩⟩
  refine ⟨fun k m H' => m = us.length - k ∧ k ≤ us.length ∧ Lc p G H Dl I k H', ⟨us.length, by simp, Nat.zero_le _, lc_start hh hn h0⟩, ?_⟩
  rintro k m H' ⟨rfl, hk, L⟩
  have hfrz : H' a = some (.frz od (.dT us)) := by
    obtain ⟨acc, av, G', _, _, s, _⟩ := L
    exact s.base a _ oa.2.2 NT.frz.tbl ha
  by_cases hlt : k < us.length
  · refine .inr ⟨⟨hfrz, hlt⟩, Lc p G H Dl I (k + 1), fun H2 z => ⟨us.length - (k + 1), by omega, rfl, hlt, z⟩, fun x H2 y => ?_⟩
    obtain ⟨eH, ky, v, q, hx, ex, hT⟩ := y
    subst ex eH
    obtain ⟨d, hd1, hd2⟩ := hl.get' hx
    have hlen := hl.length
    exact lc_turn hh hn (by omega) L (fun G' s => by
      obtain ⟨G2, s2, hq2⟩ := Mem.learn (p := p) (hh.step s).mem hT
      exact ⟨G2, s2, .tup hq2 (rp_kDs ky)⟩) fun acc hi hle => hs k ky d acc hd1 hi hle
  · have ek : k = us.length := by omega
    subst ek
    obtain ⟨acc, av, G', hi, _, s, e, ow, r⟩ := L
    exact .inl ⟨⟨hfrz, Nat.le_refl _⟩, kk acc Dl G' H' (by rw [← hl.length]; exact hi) s hn ⟨Dl, av, rfl, ow, e, r⟩⟩
/-- y = [.. for k in d ..], d slot i's own with tuple keys -/
theorem ws_lcKeysT {i j : Nat} {vs : List Nat} {kvs : List (List Key × D)} (e : ρ[i]? = some (some (.ot kvs))) (hz : kvs.length ≤ 4000000) (I : Nat → List D → Prop) (h0 : I 0 [])
    (hs : ∀ (k : Nat) (key : List Key) (x : D) acc, kvs[k]? = some (key, x) → I k acc → acc.length ≤ k → WGp p vs (wipeR (ρ.set i (some (.lt kvs))) vs) g (.tup (key.map kD)) fun ρ2 => WT p ρ2 tt fun b => if b = true then WE p ρ2 te fun y => I (k + 1) (acc ++ [y]) else I (k + 1) acc)
    (hd : ∀ acc, I kvs.length acc → P.n (ρ.set j (some (.ol acc)))) (hij : i ≠ j) : WS p ρ (tLock (tAsg (tLc (iKeys (tVar i)) g tt te vs) (gName j))) P := fun G σ H hh E kn kr kb kc => by
  obtain ⟨sv, h1, a, us, h2, ow, h4, h5⟩ := hh.slot i _ e
  subst h2
  refine ⟨a, .dT us, h4, trivial, fun od => ?_⟩
  have hi : i < ρ.length := (List.getElem?_eq_some_iff.mp e).1
  have hh1 : Hold p (ρ.set i (some (.lt kvs))) G σ (upd H a (.frz od (.dT us))) := hh.write e rfl h1 ow ⟨a, od, us, rfl, ow, upd_same, h5⟩
  refine lcKeysT hh1 h1 upd_same ow h5 hz I h0 hs fun acc Dl G' H' hacc s hn x => ?_
  have hfr : H' a = some (.frz od (.dT us)) := s.base a _ ow.2.2 NT.frz.tbl upd_same
  refine ⟨hfr, ?_⟩
  have hh2 := hh1.setNew (i := j) s (Nil.no hn) x
  have hlt : (ρ.set i (some (.lt kvs)) : Rho)[i]? = some (some (.lt kvs)) := List.getElem?_set_self hi
  have ow2 : Own p G' a := (Own.step NT.frz ow (upd_same (H := H) (o := .frz od (.dT us))) s).1
  have hh3 : Hold p (((ρ.set i (some (.lt kvs))).set j (some (.ol acc))).set i (some (.ot kvs))) G' (σ.set j (some (.ref Dl))) (upd H' a (.dT us)) :=
    hh2.write (c := .lt kvs) (by rw [List.getElem?_set_ne (Ne.symm hij)]; exact hlt) rfl (by rw [List.getElem?_set_ne (Ne.symm hij)]; exact h1) ow2 ⟨a, us, rfl, ow2, upd_same, RpT.mono s.ex _ _ h5⟩
  have er : (((ρ.set i (some (.lt kvs))).set j (some (.ol acc))).set i (some (.ot kvs))) = ρ.set j (some (.ol acc)) := by
    rw [List.set_comm _ _ (Ne.symm hij), set_set]
    congr 1
    refine List.ext_getElem? fun m => ?_
    by_cases hm : i = m
    · subst hm
      rw [List.getElem?_set_self hi, e]
    · rw [List.getElem?_set_ne hm]
  rw [er] at hh3
  exact kn _ G' _ _ (hd acc hacc) s.ex hh3
end
end Cal
set_option Elab.async false
set_option linter.all false
set_option maxRecDepth 100000
set_option maxHeartbeats 2000000
namespace Cal
open PySem L2 PyProof.Rows
open Evl (Ex ex_l ex_t ex_rd sq_of st_of)
/-! ### isinstance -/
def tyD : D → Option String
  | .non => some "NoneType" | .bl _ => some "bool" | .int _ => some "int" | .str _ => some "str" | .tup _ => some "tuple" | .lst _ => some "list" | .dK _ => some "dict" | _ => none
section
variable {p : Par} {ρ : Rho} {Q : D → Prop} {ta tb te td ty : TE} {tt tu : TT} {P : Post} {ts tv : TS} {g : TG}
theorem tyD_x {G H : Hp} {v : V} {t : String} (e : Ex G H) : ∀ {x : D}, Rp p.K p.h G v x → tyD x = some t → TyX p.K H v (.type t)
  | .non, r, h => by cases r; cases h; exact .base .non
  | .bl b, r, h => by cases r; cases h; exact .base (.bl b)
  | .int i, r, h => by cases r; cases h; exact .base (.int i)
  | .str x, r, h => by cases r; cases h; exact .base (.str x)
  | .tup xs, r, h => by
    cases h
    obtain ⟨a, vs, ev, h1, _⟩ := r.tup_inv
    subst ev
    rcases h1 with h1 | ⟨⟨ob, h1⟩, _⟩
    · exact .base (.tup (e _ _ h1))
    · exact .fTuple (e _ _ h1)
  | .lst xs, r, h => by
    cases h
    obtain ⟨a, vs, ev, h1, _⟩ := r.lst_inv
    subst ev
    exact .base (.lst (e _ _ h1))
  | .dK kvs, r, h => by
    cases h
    cases r with
    | dK q _ =>
      rcases ex_rd e q with q | ⟨o, q⟩
      · exact .base (.dK q)
      · exact .fDict q
  | .hand, _, h => by cases h
  | .dT _, _, h => by cases h
  | .raw _, _, h => by cases h
  | .ptp _, _, h => by cases h
  | .exc _, _, h => by cases h
  | .ins _ _, _, h => by cases h
theorem we_isi {T : String} (h : WE p ρ te fun x => ∃ t b, tyD x = some t ∧ kitB t T = some b ∧ Q (.bl b)) : WE p ρ (tCB (rIsi p.K) (tCons te (tCons (tC (.ty T)) tNil))) Q := fun G σ H hh Qv k =>
  h G σ H hh _ fun x v G1 H1 ⟨t, b, e1, e2, q⟩ s r => ⟨v, .ty T, .type t, .type T, b, rfl, .ty T, tyD_x s.sub r e1, kit_ty e2, k _ _ G1 H1 q s (.bl _)⟩
end
theorem kb_int_int : kitB "int" "int" = some true := by decide +kernel
theorem kb_bool_int : kitB "bool" "int" = some true := by decide +kernel
theorem kb_tuple_int : kitB "tuple" "int" = some false := by decide +kernel
theorem kb_list_int : kitB "list" "int" = some false := by decide +kernel
theorem kb_str_int : kitB "str" "int" = some false := by decide +kernel
theorem kb_none_int : kitB "NoneType" "int" = some false := by decide +kernel
theorem kb_dict_int : kitB "dict" "int" = some false := by decide +kernel
theorem kb_int_bool : kitB "int" "bool" = some false := by decide +kernel
theorem kb_bool_bool : kitB "bool" "bool" = some true := by decide +kernel
theorem kb_tuple_bool : kitB "tuple" "bool" = some false := by decide +kernel
theorem kb_list_bool : kitB "list" "bool" = some false := by decide +kernel
theorem kb_str_bool : kitB "str" "bool" = some false := by decide +kernel
theorem kb_none_bool : kitB "NoneType" "bool" = some false := by decide +kernel
theorem kb_dict_bool : kitB "dict" "bool" = some false := by decide +kernel
theorem kb_int_tuple : kitB "int" "tuple" = some false := by decide +kernel
theorem kb_bool_tuple : kitB "bool" "tuple" = some false := by decide +kernel
theorem kb_tuple_tuple : kitB "tuple" "tuple" = some true := by decide +kernel
theorem kb_list_tuple : kitB "list" "tuple" = some false := by decide +kernel
theorem kb_str_tuple : kitB "str" "tuple" = some false := by decide +kernel
theorem kb_none_tuple : kitB "NoneType" "tuple" = some false := by decide +kernel
theorem kb_dict_tuple : kitB "dict" "tuple" = some false := by decide +kernel
theorem kb_int_list : kitB "int" "list" = some false := by decide +kernel
theorem kb_int_dict : kitB "int" "dict" = some false := by decide +kernel

/-! ### ints -/
theorem ix0 {α : Type} {xs : List α} {n : Nat} {x : α} (h : xs[n]? = some x) : atI xs (n : Int) = some x := by
  unfold atI ixN
  have hl : n < xs.length := (List.getElem?_eq_some_iff.mp h).1
  rw [if_pos (by omega), if_pos (by omega)]
  simpa using h
theorem atI_of {α : Type} {xs : List α} {i : Int} (h0 : 0 ≤ i) (h : i < xs.length) : ∃ x, atI xs i = some x ∧ xs[i.toNat]? = some x := by
  have hl : i.toNat < xs.length := by omega
  refine ⟨xs[i.toNat], ?_, List.getElem?_eq_getElem hl⟩
  unfold atI ixN
  rw [if_pos h0, if_pos h]
  exact List.getElem?_eq_getElem hl
/-- products of ints below 2 ^ 500000 -/
theorem mulOk {i j : Int} (hi : i.natAbs < 2 ^ 499999) (hj : j.natAbs < 2 ^ 499999) : CMulW i j := wide_mul (a := 499999) (b := 499999) hi hj (by decide) (by decide) (by decide)
theorem mulS {i j : Int} (a b : Nat) (hi : i.natAbs < 2 ^ a) (hj : j.natAbs < 2 ^ b) (h0 : 0 < a) (h1 : 0 < b) (h : a + b ≤ 1000000) : CMulW i j := wide_mul hi hj h0 h1 h
theorem big {n : Nat} {k : Nat} (h : n < 18446744073709551616) (hk : 64 ≤ k) : n < 2 ^ k := Nat.lt_of_lt_of_le (show n < 2 ^ 64 from h) (Nat.pow_le_pow_right (by decide) hk)
theorem natAbs_lt {i : Int} {n : Nat} (h1 : -(n : Int) < i) (h2 : i < n) : i.natAbs < n := by omega
/-- products of ints below 2 ^ 64 -/
theorem mul64 {i j : Int} (hi : i.natAbs < 18446744073709551616) (hj : j.natAbs < 18446744073709551616) : CMulW i j := mulS 64 64 hi hj (by decide) (by decide) (by decide)
theorem div64 {j : Int} (i : Int) (h : 0 < j) (hj : j < 18446744073709551616) : CDivW i j := by
  refine wide_div (b := 64) h ?_ (by decide) (by decide)
  have e : (2 : Nat) ^ 64 = 18446744073709551616 := by decide
  rw [e]
  omega
/-- a product: one side below 2 ^ 64, or both together not too long -/
def CMulA (i j : Int) : Prop := (-18446744073709551616 < i ∧ i < 18446744073709551616) ∨ (-18446744073709551616 < j ∧ j < 18446744073709551616) ∨ CMulW i j
def CDivA (_ j : Int) : Prop := 0 < j ∧ (j < 18446744073709551616 ∨ j.natAbs.log2 < 9000)
theorem op_mulA {X : Cx} : OpR X (binaryOp .Mult) (rI CMulA fun i j => .int (i * j)) := by
  intro pins s σ H x y v u Q I rx ry h
  obtain ⟨i, j, ex, ey, c, q⟩ := h
  have e : (2 : Int) ^ 64 = 18446744073709551616 := by decide
  rcases c with c | c | c
  · exact op_mul pins s σ H x y v u Q I rx ry ⟨i, j, ex, ey, .inl (by rw [e]; exact c), q⟩
  · exact op_mul pins s σ H x y v u Q I rx ry ⟨i, j, ex, ey, .inr (by rw [e]; exact c), q⟩
  · exact op_mulW pins s σ H x y v u Q I rx ry ⟨i, j, ex, ey, c, q⟩
theorem op_divA {X : Cx} : OpR X (binaryOp .FloorDiv) (rI CDivA fun i j => .int (i / j)) := by
  intro pins s σ H x y v u Q I rx ry h
  obtain ⟨i, j, ex, ey, ⟨c1, c2⟩, q⟩ := h
  refine op_fdivW pins s σ H x y v u Q I rx ry ⟨i, j, ex, ey, ?_, q⟩
  rcases c2 with c | c
  · exact div64 i c1 c
  · exact ⟨c1, c⟩
/-! ### the hand -/
section
variable {p : Par} {ρ : Rho} {Q : D → Prop} {ta tb te td ty : TE} {tt tu : TT} {P : Post} {ts tv : TS} {g : TG}
theorem we_hand0 (h : WE p ρ ta fun x => x = .hand ∧ ∀ ns : List Int, ns.length ≤ 63 → Q (.lst (ns.map D.int))) : WE p ρ (tOp (rIxL p.K) ta (tC (.int 0))) Q := fun G σ H hh Qv k =>
  h G σ H hh _ fun x v G1 H1 ⟨e, q⟩ s1 r1 => by
    subst e
    cases r1
    obtain ⟨ns, i, r, n, h1, h2, h3, _⟩ := s1.hand
    exact ⟨p.h.a, _, 0, .ref p.h.c, rfl, rfl, sq_of h1, rfl, k _ _ G1 H1 (q ns h3) s1 (.lst h2 (RpL.ofInts ns))⟩
theorem we_handN {j : Int} (hj : j = 1 ∨ j = 2 ∨ j = 3) (h : WE p ρ ta fun x => x = .hand ∧ ∀ i : Int, 0 ≤ i → Q (.int i)) : WE p ρ (tOp (rIxL p.K) ta (tC (.int j))) Q := fun G σ H hh Qv k =>
  h G σ H hh _ fun x v G1 H1 ⟨e, q⟩ s1 r1 => by
    subst e
    cases r1
    obtain ⟨ns, i, r, n, h1, h2, h3, h4, h5, h6⟩ := s1.hand
    rcases hj with e | e | e
    · subst e; exact ⟨p.h.a, _, 1, .int i, rfl, rfl, sq_of h1, rfl, k _ _ G1 H1 (q i h4) s1 (.int _)⟩
    · subst e; exact ⟨p.h.a, _, 2, .int r, rfl, rfl, sq_of h1, rfl, k _ _ G1 H1 (q r h5) s1 (.int _)⟩
    · subst e; exact ⟨p.h.a, _, 3, .int n, rfl, rfl, sq_of h1, rfl, k _ _ G1 H1 (q n h6) s1 (.int _)⟩
theorem Hold.handed {G : Hp} {σ : L2.St} {H H' : Hp} (hh : Hold p ρ G σ H) (hne : ∀ a, a ≠ p.h.a → H' a = H a) (hd : Hand p.K G H' p.h) : Hold p ρ G σ H' := by
  refine ⟨⟨fun b u z => ?_, hh.mem.gh, fun b u n t z => by rw [hne b n]; exact hh.mem.base b u n t z, hh.mem.g0, hh.mem.new, hd, hh.mem.gt, fun q hq => ?_⟩, hh.len, fun j c e => ?_, hh.sep⟩
  · rw [hne b (fun y => by rw [y, hh.mem.gh] at z; cases z)]; exact hh.mem.sub b u z
  · obtain ⟨xs, hx⟩ := hh.mem.hand.some
    have ne : ∀ {b : Addr} {u : HO}, H b = some u → (∀ ys, u ≠ .lst ys) → H' b = some u := fun {b u} e t => by
      rw [hne b (fun z => by rw [z, hx] at e; exact t xs (Option.some.inj e).symm)]
      exact e
    obtain ⟨ps, h1, h2, h3⟩ := hh.mem.tab q hq
    refine ⟨ps, ne h1 (fun ys z => by cases z), h2, fun pos cv hc => ?_⟩
    obtain ⟨c, e1, e2⟩ := h3 pos cv hc
    exact ⟨c, e1, ne e2 (fun ys z => by unfold LamX.CodeO at z; cases z)⟩
  · obtain ⟨sv, h1, h2⟩ := hh.slot j c e
    refine ⟨sv, h1, ?_⟩
    cases c with
    | d x => exact h2
    | ol xs => obtain ⟨b, vs, h3, h4, h5, h6⟩ := h2; exact ⟨b, vs, h3, h4, by rw [hne b h4.2.2]; exact h5, h6⟩
    | ok xs => obtain ⟨b, vs, h3, h4, h5, h6⟩ := h2; exact ⟨b, vs, h3, h4, by rw [hne b h4.2.2]; exact h5, h6⟩
    | ot xs => obtain ⟨b, vs, h3, h4, h5, h6⟩ := h2; exact ⟨b, vs, h3, h4, by rw [hne b h4.2.2]; exact h5, h6⟩
    | rw b u => obtain ⟨h3, h4, h5, h6⟩ := h2; exact ⟨h3, h4, by rw [hne b h4.2.2]; exact h5, h6⟩
    | lk xs => obtain ⟨b, od, vs, h3, h4, h5, h6⟩ := h2; exact ⟨b, od, vs, h3, h4, by rw [hne b h4.2.2]; exact h5, h6⟩
    | lt xs => obtain ⟨b, od, vs, h3, h4, h5, h6⟩ := h2; exact ⟨b, od, vs, h3, h4, by rw [hne b h4.2.2]; exact h5, h6⟩
    | oi _ C xs => obtain ⟨b, od, vs, h3, h4, h5, h6⟩ := h2; exact ⟨b, od, vs, h3, h4, by rw [hne b h4.2.2]; exact h5, h6⟩
theorem ws_handN {j : Int} (hj : j = 1 ∨ j = 2 ∨ j = 3) (h : WE p ρ te fun y => ∃ i, y = .int i ∧ 0 ≤ i ∧ WE p ρ ta fun x => x = .hand ∧ P.n ρ) : WS p ρ (tAsg te (gSub ta (tC (.int j)) rSetL)) P := fun G σ H hh E kn kr kb kc =>
  h G σ H hh _ fun y w G1 H1 ⟨z, e, hz, q⟩ s1 r1 => q G1 σ H1 (hh.step s1) _ fun x v G2 H2 ⟨e2, q2⟩ s2 r2 => by
    subst e e2
    cases r1
    cases r2
    have hh2 := (hh.step s1).step s2
    obtain ⟨ns, i, r, n, h1, h2, h3, h4, h5, h6⟩ := s2.hand
    have go : ∀ (jn : Nat) (xs' : List V), Hand p.K G2 (upd H2 p.h.a (.lst xs')) p.h → E.nx σ (upd H2 p.h.a (.lst xs')) := fun jn xs' hd =>
      kn ρ G2 σ _ q2 (ex_tr s1.ex s2.ex) (hh2.handed (fun a ha => upd_ne ha) hd)
    rcases hj with e | e | e
    · subst e
      exact ⟨p.h.a, _, 1, 1, rfl, rfl, h1, rfl, go 1 _ ⟨ns, z, r, n, upd_same, h2, h3, hz, h5, h6⟩⟩
    · subst e
      exact ⟨p.h.a, _, 2, 2, rfl, rfl, h1, rfl, go 2 _ ⟨ns, i, z, n, upd_same, h2, h3, h4, hz, h6⟩⟩
    · subst e
      exact ⟨p.h.a, _, 3, 3, rfl, rfl, h1, rfl, go 3 _ ⟨ns, i, r, z, upd_same, h2, h3, h4, h5, hz⟩⟩
end
/-! ### chains, truth -/
section
variable {p : Par} {ρ : Rho} {Q : D → Prop} {ta tb tc te td ty : TE} {tt tu : TT} {P : Post} {ts tv : TS} {g : TG}
theorem we_chain {f f' : Int → Int → Bool} (h : WE p ρ ta fun x => ∃ i, x = .int i ∧ WE p ρ tb fun y => ∃ j, y = .int j ∧ (f i j = true → WE p ρ tc fun z => ∃ k, z = .int k ∧ Q (.bl (f' j k))) ∧ (f i j = false → Q (.bl false))) :
    WE p ρ (tChain (rI0 fun i j => .bl (f i j)) (rI0 fun i j => .bl (f' i j)) ta tb tc) Q := fun G σ H hh Qv k =>
  h G σ H hh _ fun x v G1 H1 ⟨i, e1, h2⟩ s1 r1 => h2 G1 σ H1 (hh.step s1) _ fun y w G2 H2 ⟨j, e2, q1, q2⟩ s2 r2 => by
    subst e1 e2
    refine ⟨i, j, rp_int r1, rp_int r2, f i j, rfl, ?_⟩
    cases hb : f i j with
    | false => rw [if_neg (by decide)]; exact k _ _ G2 H2 (q2 hb) (s1.trans s2) (.bl _)
    | true =>
      rw [if_pos rfl]
      refine q1 hb G2 σ H2 ((hh.step s1).step s2) _ fun z u G3 H3 ⟨l, e3, q⟩ s3 r3 => ?_
      subst e3
      exact ⟨j, l, rp_int r2, rp_int r3, k _ _ G3 H3 q ((s1.trans s2).trans s3) (.bl _)⟩
end
/-! ### kinds -/
def isIB : D → Bool | .int _ => true | .bl _ => true | _ => false
def isBl : D → Bool | .bl _ => true | _ => false
def isI : D → Bool | .int _ => true | _ => false
def isTu : D → Bool | .tup _ => true | _ => false
def isLs : D → Bool | .lst _ => true | _ => false
theorem kb_int : ∀ {x : D} {t : String}, tyD x = some t → kitB t "int" = some (isIB x)
  | .non, _, h => by cases h; exact kb_none_int
  | .bl _, _, h => by cases h; exact kb_bool_int
  | .int _, _, h => by cases h; exact kb_int_int
  | .str _, _, h => by cases h; exact kb_str_int
  | .tup _, _, h => by cases h; exact kb_tuple_int
  | .lst _, _, h => by cases h; exact kb_list_int
  | .dK _, _, h => by cases h; exact kb_dict_int
  | .hand, _, h => by cases h
  | .dT _, _, h => by cases h
  | .raw _, _, h => by cases h
  | .ptp _, _, h => by cases h
  | .exc _, _, h => by cases h
  | .ins _ _, _, h => by cases h
theorem kb_bool : ∀ {x : D} {t : String}, tyD x = some t → kitB t "bool" = some (isBl x)
  | .non, _, h => by cases h; exact kb_none_bool
  | .bl _, _, h => by cases h; exact kb_bool_bool
  | .int _, _, h => by cases h; exact kb_int_bool
  | .str _, _, h => by cases h; exact kb_str_bool
  | .tup _, _, h => by cases h; exact kb_tuple_bool
  | .lst _, _, h => by cases h; exact kb_list_bool
  | .dK _, _, h => by cases h; exact kb_dict_bool
  | .hand, _, h => by cases h
  | .dT _, _, h => by cases h
  | .raw _, _, h => by cases h
  | .ptp _, _, h => by cases h
  | .exc _, _, h => by cases h
  | .ins _ _, _, h => by cases h
theorem kb_tuple : ∀ {x : D} {t : String}, tyD x = some t → kitB t "tuple" = some (isTu x)
  | .non, _, h => by cases h; exact kb_none_tuple
  | .bl _, _, h => by cases h; exact kb_bool_tuple
  | .int _, _, h => by cases h; exact kb_int_tuple
  | .str _, _, h => by cases h; exact kb_str_tuple
  | .tup _, _, h => by cases h; exact kb_tuple_tuple
  | .lst _, _, h => by cases h; exact kb_list_tuple
  | .dK _, _, h => by cases h; exact kb_dict_tuple
  | .hand, _, h => by cases h
  | .dT _, _, h => by cases h
  | .raw _, _, h => by cases h
  | .ptp _, _, h => by cases h
  | .exc _, _, h => by cases h
  | .ins _ _, _, h => by cases h
/-! ### more built-ins -/
section
variable {p : Par} {ρ : Rho} {Q : D → Prop} {ta tb tc te td ty : TE} {tt tu : TT} {P : Post} {ts tv : TS} {g : TG}
theorem we_isiT {A B : String} (h : WE p ρ te fun x => ∃ t a b, tyD x = some t ∧ kitB t A = some a ∧ kitB t B = some b ∧ Q (.bl (a || b))) : WE p ρ (tCB (rIsiT p.K) (tCons te (tCons (tTup (tCons (tC (.ty A)) (tCons (tC (.ty B)) tNil))) tNil))) Q := fun G σ H hh Qv k =>
  h G σ H hh _ fun x v G1 H1 ⟨t, a, b, e1, e2, e3, q⟩ s r => ⟨sz (Nat.le_of_ble_eq_true rfl), fun tp hp => by
    have s2 := (hh.step s).mem.grow (o := .tup [.ty A, .ty B]) hp
    refine ⟨v, tp, [.ty A, .ty B], .type t, [.type A, .type B], a || b, rfl, upd_same, .cons (.ty A) (.cons (.ty B) .nil), tyD_x s2.sub (rmono r s2.ex) e1, ?_, k _ _ _ _ q (s.trans s2) (.bl _)⟩
    refine kitAny_cons (kit_ty e2) (fun ha => ?_) (fun ha => by rw [ha]; rfl)
    rw [ha]
    refine kitAny_cons (kit_ty e3) (fun hb => ?_) (fun hb => by rw [hb]; rfl)
    rw [hb]
    exact kitAny_nil⟩
theorem we_eqB (h : WE p ρ ta fun x => ∃ i, x = .bl i ∧ WE p ρ tb fun y => ∃ j, y = .bl j ∧ Q (.bl (i == j))) : WE p ρ (tOp rEq ta tb) Q :=
  we_op (h.imp fun x ⟨i, e, h⟩ => h.imp fun y ⟨j, e2, q⟩ => fun G H v w m r1 r2 Qv k => by
    subst e e2
    rw [rp_bl r1, rp_bl r2]
    refine ⟨rfl, ?_⟩
    rw [dec_bl]
    exact k _ _ G H q m.refl (.bl _))
theorem we_sum (h : WE p ρ te fun x => ∃ ns : List Int, x = .lst (ns.map D.int) ∧ Q (.int ns.sum)) : WE p ρ (tCB (rSum p.K) (tCons te tNil)) Q :=
  we_cb (wa_cons (h.imp fun x ⟨ns, e, q⟩ => wa_nil fun G H vs m r Qv k => by
    subst e
    cases r with
    | cons r rn =>
      cases rn
      obtain ⟨a, us, ev, hs, hl⟩ := r.lst_inv
      subst ev
      rw [hl.ints] at hs
      exact ⟨a, ns, rfl, lq m.sub hs, k _ _ G H q m.refl (.int _)⟩))
end
/-! ### the law's own start -/
/-- a def by a promise of its own -/
structure DfnR (P : Program) (w : World) (K : PySem.W.Frag) (mg : Str → Option Value) (base : Heap) (k : Nat) (x : Str) (ps : List Str) (sp : Sp) : Prop where
  ex : ∃ f fd, mg x = some (.ref f) ∧ PySem.W.keepIn K (.ref f) = true ∧ FnOk P w K mg base CX0 k f fd ps sp ∧ Binds K fd ps []
section
variable {X : Cx} {x : Str} {p pos : Pos} {e : Expr} {es : List Expr} {t : TA} {k : Nat} {ps : List Str} {sp : Sp}
theorem pe_callR (F : DfnR X.prog X.w X.K X.mg X.base k x ps sp) (hr : Room k X.A) (ha : PA X (e :: es) t) (hg : Gl X x := by rfl) (hdb : (x == ("__debug__" : Str)) = false := by decide)
    (he : starEach (e :: es) X.env = (false, eval e X.env) :: starEach es X.env := by rfl) (hpl : (backTo pos (starEach es X.env)).any (·.1) = false := by rfl) : PE X (.Call (.Name x p) (e :: es) [] pos) (tCall sp [] E0 t) := by
  obtain ⟨f, fd, h1, h2, h3, h4⟩ := F.ex
  exact pe_call h3 hr hg h1 h2 h4 .nil pass0 ha hdb he hpl
end
section
variable {P : Program} {w : World} {K : PySem.W.Frag} {mg : Str → Option Value} {base : Heap}
theorem mkR {x : Str} {st : Stmt} {N ps : List Str} {k : Nat} {sp : Sp} (F : Src K mg x st) (sc : FnScope N ps (defScope st))
    (hb : ∀ (kV doc pm : Value) (an : Option Addr) (cdv ct : Value) (us : List Value), us.length = ps.length → bindArgs (PySem.W.fnOf x x (defArgs st) (defBody st) (defScope st) .none kV doc pm an cdv ct) ⟨us, []⟩ = pure (ps.zip us))
    (len : ∀ vs H Q E, sp vs H Q E → vs.length = ps.length)
    (body : ∀ (f : Addr) (cdv : Value) (A : Around) (outer : List Env) (s : Shared) (H : Hp) (E : XK), Room k (A.deeper (envOfC x (defScope st) s.heap.objs.size f cdv)) →
      ∃ t, PSs (cxOf CX0 P w K mg base N x (defScope st) f cdv A outer s H E).nox (defBody st) t ∧ ∀ vs Q, sp vs H Q E → t { nx := fun _ H' => Q .non H', rt := Q } (L2.start N vs) H) : DfnR P w K mg base (k + 1) x ps sp := by
  obtain ⟨f, fd, hm, F⟩ := F.ex
  refine ⟨f, fd, hm, F.kp, F.ok sc len (fun cdv A outer s H vs Q E hr h => ?_), F.binds hb⟩
  obtain ⟨t, ht, hw⟩ := body f cdv A outer s H E hr
  exact ⟨t, ht, hw vs Q h⟩
end
/-- _law_hand's promise -/
def spHand (K : PySem.W.Frag) : Sp := fun vs H Q _ => ∃ (a : Addr) (ns : List Int), vs = [.ref a] ∧ SqL K H a (ns.map V.int) ∧ ns.length ≤ 63 ∧
  ∀ (h c : Addr) (H' : Hp), Ex H H' → h ≠ c → H' h = some (.lst [.ref c, .int 0, .int 0, .int 0]) → H' c = some (.lst (ns.map V.int)) → Q (.ref h) H'
def spLaw (K : PySem.W.Frag) : Sp := fun vs H Q _ => ∃ (a : Addr) (ns : List Int), vs = [.ref a] ∧ SqL K H a (ns.map V.int) ∧ ns.length ≤ 63 ∧ ∀ H', Q (.bl true) H'
def lawP : Post := ⟨fun _ => False, fun d => d = .bl true, fun _ => False, fun _ => False⟩
theorem law_go {K : PySem.W.Frag} {H : Hp} {h c : Addr} {T : List (Addr × Str)} {ns : List Int} {σ : L2.St} {ts : TS} {E : Ends} (ρ : Rho) (hne : h ≠ c) (hl : ns.length ≤ 63) (hh : H h = some (.lst [.ref c, .int 0, .int 0, .int 0])) (hc : H c = some (.lst (ns.map V.int)))
    (len : σ.length = ρ.length) (hρ : ∀ (i : Nat) (x : Cell), ρ[i]? = some (some x) → x = .d .hand ∧ σ[i]? = some (some (.ref h))) (hw : ∀ H0 G0, WS ⟨K, ⟨h, c, T⟩, H0, G0⟩ ρ ts lawP) (hE : ∀ H', E.rt (.bl true) H') (hT : LamX.Tabs T H) : ts E σ H := by
  let G : Hp := fun a => if a = h then none else match H a with
    | some (.tbl _) => none
    | o => o
  have hG : ∀ a o, G a = some o → H a = some o ∧ a ≠ h ∧ ∀ ps, o ≠ .tbl ps := fun a o e => by
    by_cases ha : a = h
    · have : G a = none := if_pos ha
      rw [this] at e; cases e
    · have : G a = match H a with
          | some (.tbl _) => none
          | o => o := if_neg ha
      rw [this] at e
      split at e
      · cases e
      · rename_i x
        exact ⟨e, ha, fun ps z => by subst z; exact x _ e⟩
  have hGc : G c = some (.lst (ns.map V.int)) := by
    have : G c = match H c with
          | some (.tbl _) => none
          | o => o := if_neg (Ne.symm hne)
    rw [this, hc]
  have m : Mem ⟨K, ⟨h, c, T⟩, H, G⟩ G H := ⟨fun a o e => (hG a o e).1, if_pos rfl, fun _ _ _ _ e => e, fun _ _ e => e, fun _ _ e => .inl e, ⟨ns, 0, 0, 0, hh, hGc, hl, by omega, by omega, by omega⟩, fun a ps e => (hG a _ e).2.2 ps rfl, hT⟩
  refine hw H G G σ H ⟨m, len, fun i x e => ?_, fun i j x x' a e1 o1 e2 o2 _ _ => ?_⟩ E (fun _ _ _ _ z => z.elim) (fun d v G' H' z _ r => ?_) (fun _ _ _ _ z => z.elim) fun _ _ _ _ z => z.elim
  · obtain ⟨rfl, q⟩ := hρ i x e
    exact ⟨_, q, _, rfl, .hand⟩
  · obtain ⟨rfl, _⟩ := hρ i x e1
    cases o1
  · have z' : d = .bl true := z
    subst z'
    rw [rp_bl r]
    exact hE H'
/-- behind a statement what slot i owns is plain data -/
theorem ws_endfreeze {p : Par} {ρ : Rho} {ts : TS} {P : Post} (i : Nat) (h : WS p ρ ts { P with n := fun ρ' => ∃ c, ρ'[i]? = some (some c) ∧ c.isOwn = true ∧ P.n (ρ'.set i (some (.d c.toD))) }) : WS p ρ ts P := fun G σ H hh E kn kr kb kc =>
  h G σ H hh E (fun ρ' G' σ' H' ⟨c, e, ho, z⟩ ex hh' => by
    obtain ⟨sv, h1, h2⟩ := hh'.slot i _ e
    obtain ⟨a, u, h3, _, _⟩ := Cell.own_ref h2 ho
    subst h3
    obtain ⟨o, ha, ow, r⟩ := h2.toD ho
    obtain ⟨hh2, ex2⟩ := hh'.freeze e ho h1 ow ha r
    exact kn _ _ σ' H' z (ex_tr ex ex2) hh2) kr kb kc
theorem law_go1T {K : PySem.W.Frag} {H : Hp} {h c a : Addr} {T : List (Addr × Str)} {ns : List Int} {ts : TS} {E : Ends} (k : Nat) (hne : h ≠ c) (hl : ns.length ≤ 63) (hh : H h = some (.lst [.ref c, .int 0, .int 0, .int 0])) (hc : H c = some (.lst (ns.map V.int)))
    (hw : ∀ H0 G0, WS ⟨K, ⟨h, c, T⟩, H0, G0⟩ (none :: some (.d .hand) :: List.replicate k none) ts lawP) (hE : ∀ H', E.rt (.bl true) H') (hT : LamX.Tabs T H) : ts E (some (.ref a) :: some (.ref h) :: List.replicate k none) H := by
  refine law_go (none :: some (.d .hand) :: List.replicate k none) hne hl hh hc (by simp) (fun i x e => ?_) hw hE hT
  match i, e with
  | 0, e => simp at e
  | 1, e =>
    simp only [List.getElem?_cons_succ, List.getElem?_cons_zero, Option.some.injEq] at e
    subst e
    exact ⟨rfl, rfl⟩
  | i + 2, e =>
    simp only [List.getElem?_cons_succ, List.getElem?_replicate] at e
    split at e <;> cases e
theorem law_go1 {K : PySem.W.Frag} {H : Hp} {h c a : Addr} {ns : List Int} {ts : TS} {E : Ends} (k : Nat) (hne : h ≠ c) (hl : ns.length ≤ 63) (hh : H h = some (.lst [.ref c, .int 0, .int 0, .int 0])) (hc : H c = some (.lst (ns.map V.int)))
    (hw : ∀ H0 G0, WS ⟨K, ⟨h, c, []⟩, H0, G0⟩ (none :: some (.d .hand) :: List.replicate k none) ts lawP) (hE : ∀ H', E.rt (.bl true) H') : ts E (some (.ref a) :: some (.ref h) :: List.replicate k none) H :=
  law_go1T (T := []) k hne hl hh hc hw hE (fun _ z => nomatch z)
/-! ### the rules with the written part by its name -/
section
variable {X : Cx} {K0 : PySem.W.Frag}
theorem ix_tupK (hK : X.K = K0) : IxR X (rIxT K0) := hK ▸ ix_tup
theorem ix_listK (hK : X.K = K0) : IxR X (rIxL K0) := hK ▸ ix_list
theorem sl_tupK (hK : X.K = K0) : SlR X (rSlA K0) := hK ▸ sl_tupA
theorem sl_listK (hK : X.K = K0) : SlR X (rSlL K0) := hK ▸ sl_list
theorem op_catK (hK : X.K = K0) : OpR X (binaryOp .Add) (rCatA K0) := hK ▸ op_catA
theorem op_eqK (hK : X.K = K0) (hu : X.A.units + 64 < cLine) : OpR X (compareOp .Eq) (rEqD K0) := hK ▸ op_eqD hu
theorem op_neK (hK : X.K = K0) (hu : X.A.units + 64 < cLine) : OpR X (compareOp .NotEq) (rNeD K0) := hK ▸ op_neD hu
theorem call_lenK (hK : X.K = K0) : CallR X (.builtin "len") (fun xs H Q => ∃ q ys, xs = [V.ref q] ∧ (SqL K0 H q ys ∨ SqT K0 H q ys) ∧ Q (.int ys.length) H) := hK ▸ call_len_seq
theorem call_tupleK (hK : X.K = K0) : CallR X (.type "tuple") (fun xs H Q => ∃ q ys, xs = [V.ref q] ∧ ((SqL K0 H q ys ∧ ∀ l, H l = none → Q (.ref l) (upd H l (.tup ys))) ∨ (SqT K0 H q ys ∧ Q (.ref q) H))) := hK ▸ call_tuple_of
theorem call_listK (hK : X.K = K0) : CallR X (.type "list") (fun xs H Q => ∃ q ys, xs = [V.ref q] ∧ (SqL K0 H q ys ∨ SqT K0 H q ys) ∧ ∀ l, H l = none → Q (.ref l) (upd H l (.lst ys))) := hK ▸ call_list_of
theorem call_isiK0 (hK : X.K = K0) : CallR X (.builtin "isinstance") (rIsi K0) := hK ▸ call_isi
theorem call_isiTK (hK : X.K = K0) : CallR X (.builtin "isinstance") (rIsiT K0) := hK ▸ call_isiT
theorem cr_sumK (hK : X.K = K0) (hc : X.calm = true) : CallR X (.builtin "sum") (rSum K0) := hK ▸ cr_sum hc
variable {x : Str} {p pos : Pos} {e : Expr} {es : List Expr} {t : TA} {k : Nat} {ps : List Str} {S : List D → (D → Prop) → Prop}
theorem pe_callK0 (hK : X.K = K0) (F : Dfn X.prog X.w K0 X.mg X.base k x ps S) (hr : Room k X.A) (ha : PA X (e :: es) t) (hg : Gl X x := by rfl) (hdb : (x == ("__debug__" : Str)) = false := by decide)
    (he : starEach (e :: es) X.env = (false, eval e X.env) :: starEach es X.env := by rfl) (hpl : (backTo pos (starEach es X.env)).any (·.1) = false := by rfl) : PE X (.Call (.Name x p) (e :: es) [] pos) (tCall (spD K0 S) [] E0 t) := by
  subst hK
  exact pe_callD F hr ha hg hdb he hpl
theorem pe_call00 (hK : X.K = K0) (F : Dfn X.prog X.w K0 X.mg X.base k x ps S) (hr : Room k X.A) (hg : Gl X x := by rfl) (hdb : (x == ("__debug__" : Str)) = false := by decide) : PE X (.Call (.Name x p) [] [] pos) (tCall (spD K0 S) [] E0 tNil) := by
  subst hK
  exact pe_call0D F hr hg hdb
variable {tg l : Expr} {tl : TE}
theorem pi_listK (hK : X.K = K0) (hl : PE X l tl) : PI X tg l (iList K0 tl) := by subst hK; exact pi_list hl
theorem pi_tupK (hK : X.K = K0) (hl : PE X l tl) : PI X tg l (iTup K0 tl) := by subst hK; exact pi_tup hl
end
end Cal
set_option Elab.async false
set_option linter.all false
set_option maxRecDepth 100000
set_option maxHeartbeats 4000000
namespace Cal
open PySem L2 PyProof.Rows
section
variable {X : Cx} {x : Str} {C : Addr} {e : Expr} {es : List Expr} {ta : TA} {te : TE} {p p1 p2 pos : Pos}
/-- C.__init__(e, ..) of a class of the program that has ValueError's own __init__ -/
theorem pe_cinit {pl : Sem Bool} (hm : X.mg x = some (.ref C)) (hga : PySem.W.specialIn X.K (.ref C) "__getattribute__" = some (some (.builtin "type.__getattribute__"))) (hr : PySem.W.readsIn X.K C (.type "type") = true)
    (hv : PySem.W.findCls X.K (.ref C) (.type "type") "__init__" = some (.val (.builtin "ValueError.__init__"))) (ha : PA X (e :: es) ta) (hg : Gl X x := by rfl) (hdb : (x == ("__debug__" : Str)) = false := by decide)
    (hc : eval (.Call (.Attribute (.Name x p1) "__init__" p2) (e :: es) [] pos) X.env = (do let ov ← eval (.Name x p1) X.env; standAt p2.atName; let (f, first) ← holding [ov] (getMethod ov "__init__" pl); callWith pos f first (backTo pos (starEach (e :: es) X.env)) (backToKw pos (keywordEach [] X.env))) := by rfl)
    (he : starEach (e :: es) X.env = (false, eval e X.env) :: starEach es X.env := by rfl) (hpl : (backTo pos (starEach es X.env)).any (·.1) = false := by rfl) : PE X (.Call (.Attribute (.Name x p1) "__init__" p2) (e :: es) [] pos) (tVeI X.K ta) := by
  refine ⟨fun pins s σ H Q I h => PySem.W.methodCall_KW (ld_glob I hg hm ?_ hdb) hc⟩
  refine PySem.W.method_cls I.kIn hga (PySem.W.cls_value I.kIn hr hv rfl ?_)
  show wpAny _ _ (callWith pos (Value.builtin "ValueError.__init__") [] (backTo pos (starEach (e :: es) X.env)) []) _ _ _
  refine PyProof.Rows.callWith_method1 (thn (ha.run pos pins _ σ H _ ((I.tok _).tok _) h) fun us s1 hh => ?_) he hpl
  obtain ⟨vs, H1, I1, r1, a, C', ws, ev, hl, T, ea, q⟩ := hh
  subst ev
  cases r1 with
  | @cons _ u0 _ ur ra rw' =>
    have eu : u0 = Value.ref a := ra
    subst eu
    exact oinit_ok T I1 ea (by rw [← Paired.length rw', sizeLine_eq]; omega) fun s' J => ⟨.non, H1, J, rfl, q⟩

/-- behind C(): the exception, that has no dict, is let go -/
theorem mk_endN {X : Cx} {pins : List (Addr × Obj)} {σ : L2.St} {H1 H2 : Hp} {Q : XK} {hp hp2 h2 : Heap} {g1 g2 : Array GenState} {d1 d2 : Drawn} {t1 t2 : Nat} {os1 os2 : OsState} {a C : Addr} (T : Raises X (.ref C)) (I1 : Inv X pins σ H1 ⟨hp, g1, d1, t1, os1⟩)
    (ha : hp.objs.size ≤ a) (k : ∀ b o, hp.get? b = some o → hp2.get? b = some o) (un : Un (frs X.stack) [] (upd H1 a (exo a C none)) H2 hp2 h2) (hok : HOk X.prog X.w H2 h2) (ho : os2 = os1) (hb : AllBare g2) (ea : H2 a = some (exo a C none)) (q : Q (.ref C) none (del H2 a)) :
    MkP X pins σ Q (.ref a) ⟨h2, g2, d2, t2, os2⟩ := by
  obtain ⟨t0, hoe⟩ := exo_at hok ea
  have hn : H1 a = none := I1.hok.fresh ha
  obtain ⟨G, gk0, ge0⟩ := restrict h2 fun b => decide (b ≠ a)
  have gk : ∀ b, b ≠ a → G.get? b = h2.get? b := fun b hb' => gk0 b (decide_eq_true hb')
  have ge : G.get? a = none := ge0 a (by simp)
  have nha : ∀ {b : Addr} {o : Obj}, hp.get? b = some o → b ≠ a := fun {b o} z => Nat.ne_of_lt (Nat.lt_of_lt_of_le (Heap.lt_size z) ha)
  have up : ∀ {b : Addr}, b ≠ a → H1 b = none → upd H1 a (exo a C none) b = none := fun {b} hb' n => (upd_ne hb').trans n
  have U : Un (frs X.stack) [] H1 (del H2 a) hp G := by
    constructor
    · intro b o z n hf hx; rw [gk b (nha z)]; exact un.keep b o (k b o z) (up (nha z) n) hf hx
    · intro b o z n hf hx; rw [gk b (nha z)]; exact un.slot b o (k b o z) (up (nha z) n) hf hx
    · intro b o z n hx; rw [del_ne (nha z)]; exact un.free b o (k b o z) (up (nha z) n) hx
    · intro b o z hx; rw [gk b (nha z)]; exact un.there b o (k b o z) hx
    · intro b xs z; rw [del_ne (ne_of_none z hn)]; exact un.tups b xs ((upd_ne (ne_of_none z hn)).trans z)
    · intro b o v z; rw [del_ne (ne_of_none z hn)]; exact un.frzs b o v ((upd_ne (ne_of_none z hn)).trans z)
    · intro b ps z; rw [del_ne (ne_of_none z hn)]; exact un.tbls b ps ((upd_ne (ne_of_none z hn)).trans z)
  have hok3 : HOk X.prog X.w (del H2 a) G := by
    intro b o z
    have hba : b ≠ a := fun e' => by rw [e', del_same] at z; cases z
    rw [del_ne hba] at z
    have noa : ∀ {c : Addr}, H2 c = some (.own b) → c ≠ a := fun {c} hc => at_ne ea hc exo_own
    refine (hok b o z).stay (fun c v hc y => ?_) (fun c hc => (del_ne (noa hc)).trans hc) fun c xs hc => (del_ne (at_ne ea hc exo_tup)).trans hc
    have hca : c ≠ a := by rcases hc with rfl | hc <;> first | exact hba | exact noa hc
    rw [gk c hca]; exact y
  have J : Inv X pins σ (del H2 a) ⟨G, g2, d2, t2, os2⟩ := I1.call' (ch := []) ho U hok3 hb fun b z => absurd z (by simp)
  refine ⟨a, _, _, ⟨G, g2, d2, t2, os2⟩, _, .ref C, none, rfl, J, fun b o z => ?_, ge, hoe, ⟨rfl, rfl⟩, rfl, rfl, del_same, rfl, hb, T, q⟩
  by_cases hba : b = a
  · rw [hba, ge] at z; cases z
  · exact (gk b hba).symm.trans z
/-- C() of an own exception class whose __init__ keeps nothing -/
def tMk0 (C : Addr) (sp : Sp) : L2.St → Hp → XK → Prop := fun _ H Q => ∀ a, H a = none → sp [.ref a] (upd H a (exo a C none)) (fun v H2 => v = .non ∧ H2 a = some (exo a C none) ∧ Q (.ref C) none (del H2 a)) E0
theorem pmk_oe0 {CX : CXT} {fI : Addr} {k : Nat} {fd : FuncData} {ps : List Str} {sp : Sp} (T : OexC X.K C) (iC : PySem.W.findIn X.K (.ref C) "__init__" = some (some (.ref fI))) (tI : PySem.W.typeIn X.K (.ref fI) = some (.type "function"))
    (F1 : FnOk X.prog X.w X.K X.mg X.base CX k fI fd ps sp) (hr : Room (k + 1) X.A) (hb : Binds X.K fd ps []) (hx : Passes CX X E0) (hm : X.mg x = some (.ref C)) (hg : Gl X x := by rfl) (hdb : (x == ("__debug__" : Str)) = false := by decide) :
    PMk X (.Call (.Name x p) [] [] pos) (tMk0 C sp) := by
  intro pins s σ H Q I h
  obtain ⟨nm, q, N, bs, bm, sn, sub, ab, col, dd, k0, k1, k2, k3, k5, hC, hbm⟩ := T.cls
  refine wpAny_Call_Name_kw (ld_glob I hg hm ?_ hdb)
  refine PySem.W.callWith_K0 I.kIn T.kC ?_
  show wpAny _ _ (call (.ref C) []) _ _ _
  obtain ⟨hp, g, dr, tk, os⟩ := s
  have hsz : hp.objs.size ≤ hp.objs.size + 1 := Nat.le_succ _
  have hq := h (hp.objs.size + 1) (I.hok.fresh hsz)
  have kk : ∀ b o, hp.get? b = some o → ((hp.push (PySem.W.kdv_tup [])).push (PySem.HandSPX.excO C hp.objs.size)).get? b = some o := fun b o e' => Heap.get?_push_of_some _ (Heap.get?_push_of_some _ e')
  have hget : ((hp.push (PySem.W.kdv_tup [])).push (PySem.HandSPX.excO C hp.objs.size)).get? (hp.objs.size + 1) = some (PySem.HandSPX.excO C hp.objs.size) := by heap_get
  have I2 : Inv X pins σ (upd H (hp.objs.size + 1) (exo (hp.objs.size + 1) C none)) ⟨(hp.push (PySem.W.kdv_tup [])).push (PySem.HandSPX.excO C hp.objs.size), g, dr, tk, os⟩ := I.laid (t' := tk) kk hsz (exo_ok hget)
  have r2 : Vals [V.ref (hp.objs.size + 1)] [Value.ref (hp.objs.size + 1)] := .cons rfl .nil
  have hl : ([Value.ref (hp.objs.size + 1)] ++ []).length = ps.length := (F1.len _ _ _ _ hq)
  refine wpAny_call (PySem.HandSPX.call_own F.excBase_ValueError (fun Y => PySem.HandSPX.refsVE_contains Y bm hbm) (I.kIn _ _ hC) (PySem.W.looks_findIn I.kIn iC) (fun self => PySem.W.bind_fn I.kIn self tI) (Nat.zero_le _)
    (codeAny_mono (F1.run _ X.stack _ _ ⟨[Value.ref (hp.objs.size + 1)], []⟩ [Value.ref (hp.objs.size + 1)] _ _ E0 (hr.make C [] []) (I2.env0.make C [] []) (hb _ [Value.ref (hp.objs.size + 1)] I2.kIn hl) r2 hq) fun r s' hq' => ?_))
  cases r with
  | error er => exact hx pins σ _ _ er s' I2 hq'
  | ok fl =>
    cases fl with
    | ret u =>
      obtain ⟨v, H2, os2, bare2, un2, hok2, rv, ev, ea, q2⟩ := hq'
      subst ev
      obtain ⟨h2, g2, d2, t2, os'⟩ := s'
      exact ⟨rv, mk_endN (raises_own T.exC T.tyC) I hsz kk un2 hok2 os2 bare2 ea q2⟩
    | next => exact False.elim hq'
    | brk => exact False.elim hq'
    | cont => exact False.elim hq'
end
end Cal
set_option Elab.async false
set_option linter.all false
set_option maxRecDepth 100000
set_option maxHeartbeats 4000000
namespace Cal
open PySem L2 PyProof.Rows
open Evl (Ex)
/-! ### outcomes: a value, or an error of the class of a name with its fields -/
inductive Out where
  | ok (d : D) | ex (x : Str) (fs : List (Str × D))
  /-- a new object that nobody else knows -/
  | new (c : Cell)
def Out.cas (Q : D → Prop) (X : Str → List (Str × D) → Prop) : Out → Prop
  | .ok d => Q d
  | .ex x fs => X x fs
  | .new c => Q c.toD
/-- only what is new is handed back -/
def Out.casN (Q : Cell → Prop) (X : Str → List (Str × D) → Prop) : Out → Prop
  | .ok _ => False
  | .ex x fs => X x fs
  | .new c => Q c
/-- the dict of an error -/
def XR (K : PySem.W.Frag) (h : Hnd) (G : Hp) (d : Option Addr) (fs : List (Str × D)) : Prop :=
  (fs = [] ∧ d = none) ∨ ∃ dd vfs, d = some dd ∧ G dd = some (.xd vfs) ∧ vfs.map (·.1) = fs.map (·.1) ∧ RpL K h G (vfs.map (·.2)) (fs.map (·.2)) ∧ fs ≠ []
theorem XR.mono {K : PySem.W.Frag} {h : Hnd} {G G' : Hp} {d : Option Addr} {fs : List (Str × D)} (x : XR K h G d fs) (e : Ex G G') : XR K h G' d fs := by
  rcases x with x | ⟨dd, vfs, h1, h2, h3, h4⟩
  · exact .inl x
  · exact .inr ⟨dd, vfs, h1, e _ _ h2, h3, lmono h4.1 e, h4.2⟩
theorem lookup_if {α : Type} (f g : Str) (y : α) (fs : List (Str × α)) : ((f, y) :: fs).lookup g = if g = f then some y else fs.lookup g := by
  by_cases h : g = f
  · rw [if_pos h, h]; simp [List.lookup]
  · have e : (g == f) = false := by simpa using h
    rw [if_neg h]; simp [List.lookup, e]
theorem lookup_of {K : PySem.W.Frag} {h : Hnd} {G : Hp} {f : Str} {y : D} : ∀ {vfs : List (Str × V)} {fs : List (Str × D)}, vfs.map (·.1) = fs.map (·.1) → RpL K h G (vfs.map (·.2)) (fs.map (·.2)) → fs.lookup f = some y → ∃ v, vfs.lookup f = some v ∧ Rp K h G v y
  | [], [], _, _, e => by cases e
  | [], p :: fs, e, _, _ => by cases e
  | p :: vfs, [], e, _, _ => by cases e
  | (g, v) :: vfs, (g', d) :: fs, e, r, l => by
    have e1 : g = g' := (List.cons.inj e).1
    have e2 := (List.cons.inj e).2
    subst e1
    cases r with
    | cons a b =>
      rw [lookup_if] at l ⊢
      by_cases hf : f = g
      · rw [if_pos hf] at l ⊢
        cases l
        exact ⟨v, rfl, a⟩
      · rw [if_neg hf] at l ⊢
        exact lookup_of e2 b l
/-- what is wished of the errors that leave a piece of a body -/
def XW (mg : Str → Option Value) (p : Par) (Xp : Rho → Str → List (Str × D) → Prop) (W : WX) : Prop := ∀ ρ G σ H x fs C d, Xp ρ x fs → mg x = some (.ref C) → Hold p ρ G σ H → XR p.K p.h G d fs → W (.ref C) d σ H
/-- the promise of a def that may raise -/
def spX (K : PySem.W.Frag) (mg : Str → Option Value) (S : List D → (Out → Prop) → Prop) : Sp := fun vs H Q E => ∃ h G ds R, RpL K h G vs ds ∧ Mem ⟨K, h, H, G⟩ G H ∧ S ds R ∧ (∀ d v G' H', R (.ok d) → Mem ⟨K, h, H, G⟩ G' H' → Rp K h G' v d → Q v H') ∧
  (∀ c a G' H', R (.new c) → c.isOwn = true → Mem ⟨K, h, H, G⟩ G' H' → Slot ⟨K, h, H, G⟩ G' H' (some (.ref a)) c → Q (.ref a) H') ∧ ∀ x fs C d G' H', R (.ex x fs) → mg x = some (.ref C) → Mem ⟨K, h, H, G⟩ G' H' → XR K h G' d fs → E (.ref C) d H'
/-- as WS, with what is handed back new -/
def WSO (p : Par) (ρ : Rho) (ts : TS) (P : Post) (O : Cell → Prop) : Prop := ∀ G σ H, Hold p ρ G σ H → ∀ E : Ends,
  (∀ ρ' G' σ' H', P.n ρ' → Ex G G' → Hold p ρ' G' σ' H' → E.nx σ' H') → (∀ d v G' H', P.r d → Mem p G' H' → Rp p.K p.h G' v d → E.rt v H') →
  (∀ ρ' G' σ' H', P.b ρ' → Ex G G' → Hold p ρ' G' σ' H' → E.bk σ' H') → (∀ ρ' G' σ' H', P.c ρ' → Ex G G' → Hold p ρ' G' σ' H' → E.ct σ' H') →
  (∀ c a G' H', O c → c.isOwn = true → Mem p G' H' → Slot p G' H' (some (.ref a)) c → E.rt (.ref a) H') → ts E σ H
theorem WS.o {p : Par} {ρ : Rho} {ts : TS} {P : Post} {O : Cell → Prop} (h : WS p ρ ts P) : WSO p ρ ts P O := fun G σ H hh E kn kr kb kc _ => h G σ H hh E kn kr kb kc
theorem wso_seq {p : Par} {ρ : Rho} {ts tv : TS} {P : Post} {O : Cell → Prop} (h : WS p ρ ts { P with n := fun ρ' => WSO p ρ' tv P O, r := P.r }) : WSO p ρ (tSeq ts tv) P O := fun G σ H hh E kn kr kb kc ko =>
  h G σ H hh { E with nx := tv E } (fun ρ' G' σ' H' z e hh' => z G' σ' H' hh' E (fun ρ2 G2 σ2 H2 z2 e2 => kn ρ2 G2 σ2 H2 z2 (ex_tr e e2)) kr (fun ρ2 G2 σ2 H2 z2 e2 => kb ρ2 G2 σ2 H2 z2 (ex_tr e e2)) (fun ρ2 G2 σ2 H2 z2 e2 => kc ρ2 G2 σ2 H2 z2 (ex_tr e e2)) ko) kr kb kc
theorem wso_retF {p : Par} {ρ : Rho} {te : TE} {P : Post} {O : Cell → Prop} (h : WF p ρ te O) : WSO p ρ (tRet te) P O := fun G σ H hh E kn kr kb kc ko =>
  h G σ H hh _ fun c a G' H' z ho s n x => ko c a G' H' z ho (hh.step s).mem x
theorem wso_freeze {p : Par} {ρ : Rho} {ts : TS} {P : Post} {O : Cell → Prop} (i : Nat) {c : Cell} (e : ρ[i]? = some (some c)) (ho : c.isOwn = true) (h : WSO p (ρ.set i (some (.d c.toD))) ts P O) : WSO p ρ ts P O := fun G σ H hh E kn kr kb kc ko => by
  obtain ⟨sv, h1, h2⟩ := hh.slot i _ e
  obtain ⟨a, u, e1, ow, e3⟩ := Cell.own_ref h2 ho
  subst e1
  obtain ⟨o, e4, _, r⟩ := h2.toD ho
  obtain ⟨hh', ex⟩ := hh.freeze e ho h1 ow e4 r
  exact h _ σ H hh' E (fun ρ' G' σ' H' z e' => kn ρ' G' σ' H' z (ex_tr ex e')) kr (fun ρ' G' σ' H' z e' => kb ρ' G' σ' H' z (ex_tr ex e')) (fun ρ' G' σ' H' z e' => kc ρ' G' σ' H' z (ex_tr ex e')) ko
theorem Slot.up {p : Par} {G H G' H' : Hp} {a : Addr} {c : Cell} (m : Mem p G H) (x : Slot ⟨p.K, p.h, H, G⟩ G' H' (some (.ref a)) c) (ho : c.isOwn = true) : Slot p G' H' (some (.ref a)) c ∧ Nil (H a) := by
  have up : ∀ {b : Addr}, Own ⟨p.K, p.h, H, G⟩ G' b → Own p G' b := fun {b} o => ⟨o.1, (m.nilFresh o.2.1).2.1, o.2.2⟩
  cases c with
  | d x => cases ho
  | ol xs => obtain ⟨b, vs, h1, h2, h3⟩ := x; cases h1; exact ⟨⟨a, vs, rfl, up h2, h3⟩, h2.2.1⟩
  | ok xs => obtain ⟨b, vs, h1, h2, h3⟩ := x; cases h1; exact ⟨⟨a, vs, rfl, up h2, h3⟩, h2.2.1⟩
  | ot xs => obtain ⟨b, vs, h1, h2, h3⟩ := x; cases h1; exact ⟨⟨a, vs, rfl, up h2, h3⟩, h2.2.1⟩
  | rw b o => obtain ⟨h1, h2, h3⟩ := x; cases h1; exact ⟨⟨rfl, up h2, h3⟩, h2.2.1⟩
  | lk xs => obtain ⟨b, od, vs, h1, h2, h3⟩ := x; cases h1; exact ⟨⟨a, od, vs, rfl, up h2, h3⟩, h2.2.1⟩
  | lt xs => obtain ⟨b, od, vs, h1, h2, h3⟩ := x; cases h1; exact ⟨⟨a, od, vs, rfl, up h2, h3⟩, h2.2.1⟩
  | oi _ C xs => obtain ⟨b, od, vs, h1, h2, h3⟩ := x; cases h1; exact ⟨⟨a, od, vs, rfl, up h2, h3⟩, h2.2.1⟩
structure DfnX (P : Program) (w : World) (K : PySem.W.Frag) (mg : Str → Option Value) (base : Heap) (k : Nat) (x : Str) (ps : List Str) (S : List D → (Out → Prop) → Prop) : Prop where
  ex : ∃ f fd, mg x = some (.ref f) ∧ PySem.W.keepIn K (.ref f) = true ∧ FnOk P w K mg base (L2.CX P w) k f fd ps (spX K mg S) ∧ Binds K fd ps []
section
variable {P : Program} {w : World} {K : PySem.W.Frag} {mg : Str → Option Value} {base : Heap}
theorem DfnX.mono {j k : Nat} {x : Str} {ps : List Str} {S : List D → (Out → Prop) → Prop} (F : DfnX P w K mg base j x ps S) (h : j ≤ k) : DfnX P w K mg base k x ps S := by
  obtain ⟨f, fd, h1, h2, h3, h4⟩ := F.ex
  exact ⟨f, fd, h1, h2, h3.mono h, h4⟩
theorem DfnX.imp {k : Nat} {x : Str} {ps : List Str} {S S' : List D → (Out → Prop) → Prop} (F : DfnX P w K mg base k x ps S) (h : ∀ ds R, S' ds R → S ds R) : DfnX P w K mg base k x ps S' := by
  obtain ⟨f, fd, h1, h2, h3, h4⟩ := F.ex
  exact ⟨f, fd, h1, h2, h3.imp fun vs H Q E ⟨hd, G, ds, R, a, b, c, d⟩ => ⟨hd, G, ds, R, a, b, h ds R c, d⟩, h4⟩
/-- a def that raises nothing, among those that may -/
theorem Dfn.toX {k : Nat} {x : Str} {ps : List Str} {S : List D → (D → Prop) → Prop} (F : Dfn P w K mg base k x ps S) : DfnX P w K mg base k x ps fun ds R => S ds fun d => R (.ok d) := by
  obtain ⟨f, fd, h1, h2, h3, h4⟩ := F.ex
  refine ⟨f, fd, h1, h2, ⟨fun vs H Q E ⟨hd, G, ds, R, a, b, c, d, eo, e⟩ => h3.len vs H Q E ⟨hd, G, ds, _, a, b, c, d⟩, fun A outer s H args us vs Q E hr he hb hv ⟨hd, G, ds, R, a, b, c, d, eo, e⟩ => ?_⟩, h4⟩
  refine codeAny_mono (h3.run A outer s H args us vs Q E hr he hb hv ⟨hd, G, ds, _, a, b, c, d⟩) fun r s' q => ?_
  cases r with
  | error z => exact (show False from q).elim
  | ok fl =>
    cases fl with
    | ret u => exact q
    | next => exact (show False from q).elim
    | brk => exact (show False from q).elim
    | cont => exact (show False from q).elim
theorem mkX {x : Str} {st : Stmt} {N ps : List Str} {k : Nat} {S : List D → (Out → Prop) → Prop} (F : Src K mg x st) (sc : FnScope N ps (defScope st))
    (hb : ∀ (kV doc pm : Value) (an : Option Addr) (cdv ct : Value) (us : List Value), us.length = ps.length → bindArgs (PySem.W.fnOf x x (defArgs st) (defBody st) (defScope st) .none kV doc pm an cdv ct) ⟨us, []⟩ = pure (ps.zip us))
    (len : ∀ ds R, S ds R → ds.length = ps.length)
    (body : ∀ (f : Addr) (cdv : Value) (A : Around) (outer : List Env) (s : Shared) (H : Hp) (E : XK), Room k (A.deeper (envOfC x (defScope st) s.heap.objs.size f cdv)) →
      ∃ t, PSs (cxOf (L2.CX P w) P w K mg base N x (defScope st) f cdv A outer s H E) (defBody st) t ∧ ∀ (h : Hnd) (H0 G0 : Hp) ds R, S ds R → XW mg ⟨K, h, H0, G0⟩ (fun _ x fs => R (.ex x fs)) (fun cls d _ H => E cls d H) → WSO ⟨K, h, H0, G0⟩ (rho0 N ds) t (retP fun d => R (.ok d)) fun c => R (.new c)) :
    DfnX P w K mg base (k + 1) x ps S := by
  obtain ⟨f, fd, hm, F⟩ := F.ex
  refine ⟨f, fd, hm, F.kp, F.okX sc (fun vs H Q E h => ?_) (fun cdv A outer s H vs Q E hr h => ?_), F.binds hb⟩
  · obtain ⟨hd, G, ds, R, r, m, hs, q⟩ := h
    rw [r.length]; exact len ds R hs
  · obtain ⟨hd, G, ds, R, r, m, hs, q, qo, qx⟩ := h
    obtain ⟨t, ht, hw⟩ := body f cdv A outer s H E hr
    exact ⟨t, ht, hw hd H G ds R hs (fun ρ G' σ H' x fs C d z hm hh xr => qx x fs C d G' H' z hm hh.mem xr) G _ H (hold0 m r) _ (fun ρ' G' σ' H' z e hh => q .non .non G' H' z hh.mem .non) (fun d v G' H' z m' r' => q d v G' H' z m' r') (fun _ _ _ _ z => z.elim) (fun _ _ _ _ z => z.elim) fun c a G' H' z ho m' x => qo c a G' H' z ho m' x⟩
end
section
variable {X : Cx} {x : Str} {p pos : Pos} {e : Expr} {es : List Expr} {t : TA} {k : Nat} {ps : List Str} {S : List D → (Out → Prop) → Prop} {W : WX}
theorem pe_callX (F : DfnX X.prog X.w X.K X.mg X.base k x ps S) (hr : Room k X.A) (tk : Takes X W) (ha : PA X (e :: es) t) (hg : Gl X x := by rfl) (hdb : (x == ("__debug__" : Str)) = false := by decide)
    (he : starEach (e :: es) X.env = (false, eval e X.env) :: starEach es X.env := by rfl) (hpl : (backTo pos (starEach es X.env)).any (·.1) = false := by rfl) : PE X (.Call (.Name x p) (e :: es) [] pos) (tCallS (spX X.K X.mg S) (L2.WE W) t) := by
  obtain ⟨f, fd, h1, h2, h3, h4⟩ := F.ex
  exact pe_callS h3 hr hg h1 h2 h4 (fun σ => passAt tk σ) ha hdb he hpl
end
section
variable {p : Par} {ρ : Rho} {Q : D → Prop} {ta tb te tl th : TE} {tt tu : TT} {P : Post} {ts tv : TS} {mg : Str → Option Value} {Xp : Rho → Str → List (Str × D) → Prop} {W : WX}
theorem we_callX {S : List D → (Out → Prop) → Prop} {ta : TA} (hW : XW mg p Xp W) (h : WA p ρ ta fun ds => S ds (Out.cas Q (Xp ρ))) : WE p ρ (tCallS (spX p.K mg S) (L2.WE W) ta) Q := fun G σ H hh Qv k =>
  h G σ H hh _ fun ds vs G1 H1 q s1 r1 => by
    have hh1 := hh.step s1
    exact ⟨p.h, G1, ds, _, r1, hh1.mem.refl, q, fun d v G' H' z m r => k d v G' H' z (s1.trans m) r, fun c a G' H' z ho m x => by
      obtain ⟨x', n⟩ := x.up hh1.mem ho
      have hh2 := hh1.step m
      obtain ⟨o, e4, ow, r⟩ := x'.toD ho
      obtain ⟨o2, e5, ow2, _⟩ := x.toD ho
      have m2 := Mem.know (p := ⟨p.K, p.h, H1, G1⟩) m ow2 e4 (x'.nt ho e4).tbl
      exact k _ _ _ _ z (s1.trans m2.1) r, fun x fs C d G' H' z hm m xr => hW ρ G' σ H' x fs C d z hm (hh1.step m) xr⟩
theorem wf_callX {S : List D → (Out → Prop) → Prop} {Qc : Cell → Prop} {ta : TA} (hW : XW mg p Xp W) (h : WA p ρ ta fun ds => S ds (Out.casN Qc (Xp ρ))) : WF p ρ (tCallS (spX p.K mg S) (L2.WE W) ta) Qc := fun G σ H hh Qv k =>
  h G σ H hh _ fun ds vs G1 H1 q s1 r1 => by
    have hh1 := hh.step s1
    exact ⟨p.h, G1, ds, _, r1, hh1.mem.refl, q, fun d v G' H' z m r => z.elim, fun c a G' H' z ho m x => by
      obtain ⟨x', n⟩ := x.up hh1.mem ho
      exact k c a G' H' z ho (s1.trans m) (hh.mem.backN s1 n) x', fun x fs C d G' H' z hm m xr => hW ρ G' σ H' x fs C d z hm (hh1.step m) xr⟩

/-! ### errors that are made -/
/-- __init__ of a class with one field -/
def spI1 (C : Addr) (f : Str) : Sp := fun vs H Q _ => ∃ a y, vs = [.ref a, y] ∧ H a = some (exo a C none) ∧ ∀ dx, H dx = none → dx ≠ a → Q .non (upd (upd H dx (exd dx [(f, y)])) a (exo a C (some dx)))
/-- .. with none -/
def spI0 (C : Addr) : Sp := fun vs H Q _ => ∃ a, vs = [.ref a] ∧ H a = some (exo a C none) ∧ Q .non H
theorem ws_raise1 {x : Str} {C : Addr} {f : Str} (hW : XW mg p Xp W) (hm : mg x = some (.ref C)) (h : WE p ρ te fun y => Xp ρ x [(f, y)]) : WS p ρ (fun _ σ H => tMkO C (spI1 C f) [] (tCons te tNil) σ H fun cls d H' => W cls d σ H') P := fun G σ H hh E kn kr kb kc => by
  refine h G σ H hh _ fun d v G1 H1 hx s1 r1 => ?_
  have hh1 := hh.step s1
  refine ⟨by show 1 ≤ 1000; decide, fun a ha => ⟨a, v, rfl, upd_same, fun dx hdx hne => ⟨rfl, dx, [(f, v)], upd_same, ?_, ?_, ?_⟩⟩⟩
  · rw [upd_ne hne, upd_same]
  · rw [upd_ne hne] at hdx; exact hdx
  · rw [upd_ne hne] at hdx
    have e : upd (del (upd (upd (upd H1 a (exo a C none)) dx (exd dx [(f, v)])) a (exo a C (some dx))) a) dx (.xd [(f, v)]) = upd H1 dx (.xd [(f, v)]) := by
      funext b
      by_cases hb : b = dx
      · rw [hb, upd_same, upd_same]
      · rw [upd_ne hb, upd_ne hb]
        by_cases hba : b = a
        · rw [hba, del_same, ha]
        · rw [del_ne hba, upd_ne hba, upd_ne hb, upd_ne hba]
    rw [e]
    have g := hh1.mem.grow (o := .xd [(f, v)]) hdx
    exact hW ρ _ σ _ x [(f, d)] C (some dx) hx hm (hh1.step g) (.inr ⟨dx, [(f, v)], rfl, upd_same, rfl, .cons (rmono r1 g.ex) .nil, fun z => by cases z⟩)
theorem ws_raise0 {x : Str} {C : Addr} (hW : XW mg p Xp W) (hm : mg x = some (.ref C)) (h : Xp ρ x []) : WS p ρ (fun _ σ H => tMk0 C (spI0 C) σ H fun cls d H' => W cls d σ H') P := fun G σ H hh E kn kr kb kc => by
  refine fun a ha => ⟨a, rfl, upd_same, rfl, upd_same, ?_⟩
  have e : del (upd H a (exo a C none)) a = H := by
    funext b
    by_cases hba : b = a
    · rw [hba, del_same, ha]
    · rw [del_ne hba, upd_ne hba]
  rw [e]
  exact hW ρ G σ H x [] C none h hm hh (.inl ⟨rfl, rfl⟩)
/-! ### errors that are caught -/
/-- with what is known from some state on -/
def WSg (p : Par) (G1 : Hp) (ρ : Rho) (ts : TS) (P : Post) : Prop := ∀ G σ H, Ex G1 G → Hold p ρ G σ H → ∀ E : Ends,
  (∀ ρ' G' σ' H', P.n ρ' → Ex G G' → Hold p ρ' G' σ' H' → E.nx σ' H') → (∀ d v G' H', P.r d → Mem p G' H' → Rp p.K p.h G' v d → E.rt v H') →
  (∀ ρ' G' σ' H', P.b ρ' → Ex G G' → Hold p ρ' G' σ' H' → E.bk σ' H') → (∀ ρ' G' σ' H', P.c ρ' → Ex G G' → Hold p ρ' G' σ' H' → E.ct σ' H') → ts E σ H
theorem WS.g {G1 : Hp} (h : WS p ρ ts P) : WSg p G1 ρ ts P := fun G σ H _ hh E kn kr kb kc => h G σ H hh E kn kr kb kc
/-- a suite that hands back -/
def outP (R : D → Prop) : Post := ⟨fun _ => False, R, fun _ => False, fun _ => False⟩
theorem ws_try_as {tb : WX → TS} {tsu : Addr → Value → Option Addr → TS} {Wout : WX} {c : Value} {i : Nat} (Xb : Rho → Str → List (Str × D) → Prop) (hc : ∀ ρ' x fs C, Xb ρ' x fs → mg x = some (.ref C) → PySem.W.exmOne p.K (.ref C) c = some true)
    (hb : ∀ W, XW mg p Xb W → WS p ρ (tb W) P) (hs : ∀ ρ' x fs a C d G1, Xb ρ' x fs → mg x = some (.ref C) → XR p.K p.h G1 d fs → WSg p G1 (ρ'.set i (some (.d (.raw (.ref a))))) (tsu a (.ref C) d) (outP P.r)) :
    WS p ρ (fun D σ H => tb (wAs p.K c i tsu Wout D) D σ H) P := fun G σ H hh D kn kr kb kc => by
  refine hb (wAs p.K c i tsu Wout D) (fun ρ' G' σ' H' x fs C d z hm hh' xr => ⟨true, hc ρ' x fs C z hm, fun _ a na => ?_, fun q => Bool.noConfusion q⟩) G σ H hh D kn kr kb kc
  exact hs ρ' x fs a C d G' z hm xr G' _ H' (fun _ _ e => e) (hh'.setD (.raw (.ref a))) _ (fun _ _ _ _ z => z.elim) kr (fun _ _ _ _ z => z.elim) fun _ _ _ _ z => z.elim
theorem wso_try_as {tb : WX → TS} {tsu : Addr → Value → Option Addr → TS} {Wout : WX} {c : Value} {i : Nat} {O : Cell → Prop} (Xb : Rho → Str → List (Str × D) → Prop) (hc : ∀ ρ' x fs C, Xb ρ' x fs → mg x = some (.ref C) → PySem.W.exmOne p.K (.ref C) c = some true)
    (hb : ∀ W, XW mg p Xb W → WSO p ρ (tb W) P O) (hs : ∀ ρ' x fs a C d G1, Xb ρ' x fs → mg x = some (.ref C) → XR p.K p.h G1 d fs → WSg p G1 (ρ'.set i (some (.d (.raw (.ref a))))) (tsu a (.ref C) d) (outP P.r)) :
    WSO p ρ (fun D σ H => tb (wAs p.K c i tsu Wout D) D σ H) P O := fun G σ H hh D kn kr kb kc ko => by
  refine hb (wAs p.K c i tsu Wout D) (fun ρ' G' σ' H' x fs C d z hm hh' xr => ⟨true, hc ρ' x fs C z hm, fun _ a na => ?_, fun q => Bool.noConfusion q⟩) G σ H hh D kn kr kb kc ko
  exact hs ρ' x fs a C d G' z hm xr G' _ H' (fun _ _ e => e) (hh'.setD (.raw (.ref a))) _ (fun _ _ _ _ z => z.elim) kr (fun _ _ _ _ z => z.elim) fun _ _ _ _ z => z.elim
theorem ws_try_only {tb : WX → TS} {tsu : Addr → Value → Option Addr → TS} {Wout : WX} {c : Value} (Xb : Rho → Str → List (Str × D) → Prop) (hc : ∀ ρ' x fs C, Xb ρ' x fs → mg x = some (.ref C) → PySem.W.exmOne p.K (.ref C) c = some true)
    (hb : ∀ W, XW mg p Xb W → WS p ρ (tb W) P) (hs : ∀ ρ' x fs a C d G1, Xb ρ' x fs → mg x = some (.ref C) → XR p.K p.h G1 d fs → WSg p G1 ρ' (tsu a (.ref C) d) (outP P.r)) :
    WS p ρ (fun D σ H => tb (wOnly p.K c tsu Wout D) D σ H) P := fun G σ H hh D kn kr kb kc => by
  refine hb (wOnly p.K c tsu Wout D) (fun ρ' G' σ' H' x fs C d z hm hh' xr => ⟨true, hc ρ' x fs C z hm, fun _ a na => ?_, fun q => Bool.noConfusion q⟩) G σ H hh D kn kr kb kc
  exact hs ρ' x fs a C d G' z hm xr G' _ H' (fun _ _ e => e) hh' _ (fun _ _ _ _ z => z.elim) kr (fun _ _ _ _ z => z.elim) fun _ _ _ _ z => z.elim
/-- return e.f -/
theorem wsg_retf {G1 : Hp} {R : D → Prop} {a C : Addr} {d : Option Addr} {f : Str} {i : Nat} {fs : List (Str × D)} {y : D} (e : ρ[i]? = some (some (.d (.raw (.ref a))))) (xr : XR p.K p.h G1 d fs) (hf : fs.lookup f = some y) (hR : R y) :
    WSg p G1 ρ (tRet (tXf a (.ref C) d C f (tVar i))) (outP R) := fun G σ H ex hh E kn kr kb kc => by
  obtain ⟨sv, h1, v, h2, h3⟩ := hh.slot i _ e
  subst h2
  have hv : v = .ref a := by cases h3; rfl
  subst hv
  rcases xr.mono ex with ⟨rfl, _⟩ | ⟨dd, vfs, q1, q2, q3, q4⟩
  · cases hf
  · obtain ⟨v, l1, l2⟩ := lookup_of q3 q4.1 hf
    exact ⟨_, h1, rfl, rfl, dd, vfs, v, q1, hh.mem.sub _ _ q2, l1, kr y v G H hR hh.mem l2⟩
end
end Cal
set_option Elab.async false
set_option linter.all false
set_option maxRecDepth 100000
set_option maxHeartbeats 4000000
namespace Cal
open PySem L2 PyProof.Rows
open Evl (Ex)
/-! ### the classes of errors in the text -/
/-- an error class with its __init__ -/
structure XSrc (K : PySem.W.Frag) (mg : Str → Option Value) (x : Str) (fl : List Str) (st : Stmt) (q : Str) : Prop where
  ex : ∃ C fI fd, mg x = some (.ref C) ∧ OexC K C ∧ PySem.W.findIn K (.ref C) "__init__" = some (some (.ref fI)) ∧ PySem.W.typeIn K (.ref fI) = some (.type "function") ∧ Fun K "__init__" q st fI fd ∧
    PySem.W.exmOne K (.ref C) (.ref C) = some true ∧ XfC K C ∧ ∀ f, f ∈ fl → PySem.W.findIn K (.ref C) f = some none
/-- a class that has ValueError's own __init__ -/
structure XBase (K : PySem.W.Frag) (mg : Str → Option Value) (x : Str) : Prop where
  ex : ∃ C, mg x = some (.ref C) ∧ PySem.W.specialIn K (.ref C) "__getattribute__" = some (some (.builtin "type.__getattribute__")) ∧ PySem.W.readsIn K C (.type "type") = true ∧
    PySem.W.findCls K (.ref C) (.type "type") "__init__" = some (.val (.builtin "ValueError.__init__"))
/-- an error of a class is what a clause that names the class takes -/
theorem exm_same {K : PySem.W.Frag} {C : Addr} (h1 : PySem.W.subIn K (.ref C) (.type "BaseException") = some true) (h2 : PySem.W.isClsIn K C = true) (h3 : PySem.W.typeIn K (.ref C) = some (.type "type")) (h4 : PySem.W.subIn K (.ref C) (.ref C) = some true) : PySem.W.exmOne K (.ref C) (.ref C) = some true := by
  have h2' : (PySem.W.clsIn K C).isSome = true := h2
  have e1 : (PySem.W.subIn K (.ref C) (.type "BaseException") == some true) = true := by rw [h1]; rfl
  have e2 : ((PySem.W.clsIn K C).isSome && PySem.W.typeIn K (.ref C) == some (.type "type")) = true := by rw [h2', h3]; rfl
  refine Eq.trans (b := if (PySem.W.subIn K (.ref C) (.type "BaseException") == some true) = true then (if ((PySem.W.clsIn K C).isSome && PySem.W.typeIn K (.ref C) == some (.type "type")) = true then PySem.W.subIn K (.ref C) (.ref C) else none) else none) rfl ?_
  rw [if_pos e1, if_pos e2, h4]
/-- an error class that can be made: sp its __init__'s promise -/
structure XDef (P : Program) (w : World) (K : PySem.W.Frag) (mg : Str → Option Value) (base : Heap) (k : Nat) (x : Str) (fl : List Str) (sp : Addr → Sp) (C : Addr) : Prop where
  gC : mg x = some (.ref C)
  ox : OexC K C
  te : PySem.W.exmOne K (.ref C) (.ref C) = some true
  xf : XfC K C
  no : ∀ f, f ∈ fl → PySem.W.findIn K (.ref C) f = some none
  ini : ∃ fI fd ps, PySem.W.findIn K (.ref C) "__init__" = some (some (.ref fI)) ∧ PySem.W.typeIn K (.ref fI) = some (.type "function") ∧ FnOk P w K mg base CX0 k fI fd ps (sp C) ∧ Binds K fd ps []
section
variable {P : Program} {w : World} {K : PySem.W.Frag} {mg : Str → Option Value} {base : Heap}
theorem xdef1 {x q f y : Str} {m : PySem.Str} {st : Stmt} (S : XSrc K mg x [f] st q) (B : XBase K mg b) (sc : FnScope ["self", y] ["self", y] (defScope st))
    (hb : ∀ (kV doc pm : Value) (an : Option Addr) (cdv ct : Value) (us : List Value), us.length = 2 → bindArgs (PySem.W.fnOf "__init__" q (defArgs st) (defBody st) (defScope st) .none kV doc pm an cdv ct) ⟨us, []⟩ = pure ((["self", y] : List Str).zip us))
    (body : ∀ (C f' : Addr) (cdv : Value) (A : Around) (outer : List Env) (s : Shared) (H : Hp) (E : XK), mg b = some (.ref C) → PySem.W.specialIn K (.ref C) "__getattribute__" = some (some (.builtin "type.__getattribute__")) → PySem.W.readsIn K C (.type "type") = true →
      PySem.W.findCls K (.ref C) (.type "type") "__init__" = some (.val (.builtin "ValueError.__init__")) →
      PSs (cxOf CX0 P w K mg base ["self", y] q (defScope st) f' cdv A outer s H E).nox (defBody st) (tSeq (tDrop (tVeI K (tCons (tVar 0) (tCons (tC (.str m)) tNil)))) (tOst K f (tVar 0) (tVar 1)))) :
    ∃ C, XDef P w K mg base 1 x [f] (fun C => spI1 C f) C := by
  obtain ⟨C, fI, fd, h1, h2, h3, h4, F, h6, h7, h8⟩ := S.ex
  obtain ⟨CB, b1, b2, b3, b4⟩ := B.ex
  refine ⟨C, h1, h2, h6, h7, h8, fI, fd, ["self", y], h3, h4, F.ok sc (fun vs H Q E h => ?_) (fun cdv A outer s H vs Q E hr h => ⟨_, body CB fI cdv A outer s H E b1 b2 b3 b4, ?_⟩), F.binds hb⟩
  · obtain ⟨a, z, rfl, _⟩ := h; rfl
  · obtain ⟨a, z, rfl, ha, hQ⟩ := h
    have hn := h8 f (List.mem_singleton.mpr rfl)
    refine ⟨_, rfl, a, C, [.str m], rfl, by show 1 ≤ 1000; decide, h2, ha, ?_⟩
    refine ⟨_, rfl, _, rfl, a, C, rfl, h2, hn, .inl ⟨ha, fun dx n1 n2 => hQ dx n1 n2⟩⟩
theorem xdef0 {x q : Str} {m : PySem.Str} {st : Stmt} (S : XSrc K mg x [] st q) (B : XBase K mg b) (sc : FnScope ["self"] ["self"] (defScope st))
    (hb : ∀ (kV doc pm : Value) (an : Option Addr) (cdv ct : Value) (us : List Value), us.length = 1 → bindArgs (PySem.W.fnOf "__init__" q (defArgs st) (defBody st) (defScope st) .none kV doc pm an cdv ct) ⟨us, []⟩ = pure ((["self"] : List Str).zip us))
    (body : ∀ (C f' : Addr) (cdv : Value) (A : Around) (outer : List Env) (s : Shared) (H : Hp) (E : XK), mg b = some (.ref C) → PySem.W.specialIn K (.ref C) "__getattribute__" = some (some (.builtin "type.__getattribute__")) → PySem.W.readsIn K C (.type "type") = true →
      PySem.W.findCls K (.ref C) (.type "type") "__init__" = some (.val (.builtin "ValueError.__init__")) →
      PSs (cxOf CX0 P w K mg base ["self"] q (defScope st) f' cdv A outer s H E).nox (defBody st) (tDrop (tVeI K (tCons (tVar 0) (tCons (tC (.str m)) tNil))))) :
    ∃ C, XDef P w K mg base 1 x [] (fun C => spI0 C) C := by
  obtain ⟨C, fI, fd, h1, h2, h3, h4, F, h6, h7, h8⟩ := S.ex
  obtain ⟨CB, b1, b2, b3, b4⟩ := B.ex
  refine ⟨C, h1, h2, h6, h7, h8, fI, fd, ["self"], h3, h4, F.ok sc (fun vs H Q E h => ?_) (fun cdv A outer s H vs Q E hr h => ⟨_, body CB fI cdv A outer s H E b1 b2 b3 b4, ?_⟩), F.binds hb⟩
  · obtain ⟨a, rfl, _⟩ := h; rfl
  · obtain ⟨a, rfl, ha, hQ⟩ := h
    exact ⟨_, rfl, a, C, [.str m], rfl, by show 1 ≤ 1000; decide, h2, ha, hQ⟩
end
section
variable {X : Cx} {x : Str} {C : Addr} {fl : List Str} {f : Str} {k : Nat} {W : WX} {e : Expr} {te : TE} {p p1 pos pos' : Pos}
/-- raise C(e) -/
theorem ps_rz1 (D : XDef X.prog X.w X.K X.mg X.base k x fl (fun C => spI1 C f) C) (hr : Room (k + 1) X.A) (tk : Takes X W) (he : PE X e te) (hc : X.calm = true := by rfl) (hg : Gl X x := by rfl) (hdb : (x == ("__debug__" : Str)) = false := by decide)
    (hs : starEach [e] X.env = (false, eval e X.env) :: starEach [] X.env := by rfl) : PS X (.Raise (some (.Call (.Name x p) [e] [] pos)) none pos') (fun _ σ H => tMkO C (spI1 C f) [] (tCons te tNil) σ H fun cls d H' => W cls d σ H') := by
  obtain ⟨fI, fd, ps, h1, h2, h3, h4⟩ := D.ini
  exact ps_raise hc tk (pmk_oex D.ox h1 h2 h3 hr h4 .nil pass0 hg D.gC (pa_cons he pa_nil hs) hdb hs rfl)
/-- raise C() -/
theorem ps_rz0 (D : XDef X.prog X.w X.K X.mg X.base k x fl (fun C => spI0 C) C) (hr : Room (k + 1) X.A) (tk : Takes X W) (hc : X.calm = true := by rfl) (hg : Gl X x := by rfl) (hdb : (x == ("__debug__" : Str)) = false := by decide) :
    PS X (.Raise (some (.Call (.Name x p) [] [] pos)) none pos') (fun _ σ H => tMk0 C (spI0 C) σ H fun cls d H' => W cls d σ H') := by
  obtain ⟨fI, fd, ps, h1, h2, h3, h4⟩ := D.ini
  exact ps_raise hc tk (pmk_oe0 D.ox h1 h2 h3 hr h4 pass0 D.gC hg hdb)
end
end Cal
set_option Elab.async false
set_option linter.all false
set_option maxRecDepth 100000
set_option maxHeartbeats 4000000
namespace Cal
open PySem L2 PyProof.Rows
open Evl (Ex)
/-! ### loops over reversed(..), enumerate(..), zip(..) of lists; xs[::-1] -/
theorem for_any {T : It} {n : Nat} {g : TG} {tb : TS} {D : Ends} {σ : L2.St} {H : Hp} (Pv : Nat → L2.St → Hp → Prop) (h0 : Pv 0 σ H) (hgo : ∀ i σ H, i < n → Pv i σ H → T.go i H) (hst : ∀ σ H, Pv n σ H → T.stop n H)
    (hs : ∀ i x σ H H', i < n → Pv i σ H → T.yld i H x H' → g x σ H' fun σ2 H2 => tb { D with nx := Pv (i + 1), ct := Pv (i + 1), bk := D.nx } σ2 H2) (hd : ∀ σ H, Pv n σ H → D.nx σ H) :
    ∃ W : Nat → Nat → L2.St → Hp → Prop, (∃ m, W 0 m σ H) ∧ ∀ i m σ H, W i m σ H →
      (T.stop i H ∧ D.nx σ H) ∨ (T.go i H ∧ ∃ N : L2.St → Hp → Prop, (∀ σ' H', N σ' H' → ∃ m', m' < m ∧ W (i + 1) m' σ' H') ∧ ∀ x H', T.yld i H x H' → g x σ H' fun σ2 H2 => tb { D with nx := N, ct := N, bk := D.nx } σ2 H2) := by
  refine ⟨fun i m σ H => m = n - i ∧ i ≤ n ∧ Pv i σ H, ⟨n, rfl, Nat.zero_le _, h0⟩, fun i m σ H ⟨e, hi, q⟩ => ?_⟩
  by_cases hlt : i < n
  · exact .inr ⟨hgo i σ H hlt q, Pv (i + 1), fun σ' H' q' => ⟨n - (i + 1), by omega, rfl, hlt, q'⟩, fun x H' y => hs i x σ H H' hlt q y⟩
  · have hi' : i = n := by omega
    subst hi'
    exact .inl ⟨hst σ H q, hd σ H q⟩
section
variable {p : Par} {ρ : Rho} {Q : D → Prop} {ta tb te tl th : TE} {tt tu : TT} {P : Post} {ts tv : TS}
theorem ws_forRev {g : TG} {ta : TA} (h : WA p ρ ta fun ds => ∃ xs, ds = [.lst xs] ∧ ∃ I : Nat → Rho → Prop, I 0 ρ ∧
    (∀ k x ρ', xs.reverse[k]? = some x → I k ρ' → WG p ρ' g x fun ρ2 => WS p ρ2 ts ⟨I (k + 1), P.r, P.n, I (k + 1)⟩) ∧ ∀ ρ', I xs.length ρ' → P.n ρ') : WS p ρ (tFor (iRev p.K ta) g ts) P := fun G σ H hh E kn kr kb kc =>
  h G σ H hh _ fun ds vs0 G0 H0 ⟨xs, e, I, h0, hs, hd⟩ s r => by
    subst e
    cases r with
    | cons r rn =>
    cases rn
    obtain ⟨a, vs, ev, hq, hl⟩ := r.lst_inv
    subst ev
    have hh0 := hh.step s
    have hn := hl.length
    have sq : ∀ {G' H'}, Ex G0 G' → Ex G' H' → SqL p.K H' a vs := fun e1 e2 => lq e2 (e1 _ _ hq)
    refine ⟨a, vs, rfl, lq hh0.mem.sub hq, for_any (n := vs.length) (fun k σ' H' => ∃ ρ' G', I k ρ' ∧ Ex G0 G' ∧ Hold p ρ' G' σ' H') ⟨ρ, G0, h0, Ex.rfl', hh0⟩ (fun k σ' H' hk ⟨ρ', G', hi, e, hh'⟩ => ?_) (fun σ' H' _ => Nat.le_refl _) (fun k x σ' H' H2 hk ⟨ρ', G', hi, e, hh'⟩ hy => ?_) fun σ' H' ⟨ρ', G', hi, e, hh'⟩ => kn ρ' G' σ' H' (hd ρ' (by rw [← hn]; exact hi)) (ex_tr s.ex e) hh'⟩
    · exact ⟨hk, vs, vs[vs.length - 1 - k], sq e hh'.mem.sub, List.getElem?_eq_getElem (by omega)⟩
    · obtain ⟨e2, hx⟩ := hy
      subst e2
      have hx' := hx vs (sq e hh'.mem.sub)
      obtain ⟨d, hd1, hd2⟩ := hl.get' hx'
      refine hs k d ρ' ?_ hi G' σ' _ _ hh' (rmono hd2 e) _ fun ρ2 G2 σ2 H2 z e2 hh2 => z G2 σ2 H2 hh2 _ (fun ρ3 G3 σ3 H3 z3 e3 hh3 => ⟨ρ3, G3, z3, ex_tr (ex_tr e e2) e3, hh3⟩) kr (fun ρ3 G3 σ3 H3 z3 e3 hh3 => kn ρ3 G3 σ3 H3 z3 (ex_tr s.ex (ex_tr (ex_tr e e2) e3)) hh3)
        (fun ρ3 G3 σ3 H3 z3 e3 hh3 => ⟨ρ3, G3, z3, ex_tr (ex_tr e e2) e3, hh3⟩)
      rw [List.getElem?_reverse (by omega), ← hn]
      exact hd1
theorem ws_forEnum {g : TG} {ta : TA} (h : WA p ρ ta fun ds => ∃ xs, ds = [.lst xs] ∧ ∃ I : Nat → Rho → Prop, I 0 ρ ∧
    (∀ k x ρ', xs[k]? = some x → I k ρ' → WG p ρ' g (.tup [.int (k : Int), x]) fun ρ2 => WS p ρ2 ts ⟨I (k + 1), P.r, P.n, I (k + 1)⟩) ∧ ∀ ρ', I xs.length ρ' → P.n ρ') : WS p ρ (tFor (iEnum p.K ta) g ts) P := fun G σ H hh E kn kr kb kc =>
  h G σ H hh _ fun ds vs0 G0 H0 ⟨xs, e, I, h0, hs, hd⟩ s r => by
    subst e
    cases r with
    | cons r rn =>
    cases rn
    obtain ⟨a, vs, ev, hq, hl⟩ := r.lst_inv
    subst ev
    have hh0 := hh.step s
    have hn := hl.length
    have sq : ∀ {G' H'}, Ex G0 G' → Ex G' H' → SqL p.K H' a vs := fun e1 e2 => lq e2 (e1 _ _ hq)
    refine ⟨a, vs, rfl, lq hh0.mem.sub hq, for_any (n := vs.length) (fun k σ' H' => ∃ ρ' G', I k ρ' ∧ Ex G0 G' ∧ Hold p ρ' G' σ' H') ⟨ρ, G0, h0, Ex.rfl', hh0⟩ (fun k σ' H' hk ⟨ρ', G', hi, e, hh'⟩ => ?_) (fun σ' H' ⟨ρ', G', hi, e, hh'⟩ => ⟨vs, sq e hh'.mem.sub, Nat.le_refl _⟩) (fun k x σ' H' H2 hk ⟨ρ', G', hi, e, hh'⟩ hy => ?_) fun σ' H' ⟨ρ', G', hi, e, hh'⟩ => kn ρ' G' σ' H' (hd ρ' (by rw [← hn]; exact hi)) (ex_tr s.ex e) hh'⟩
    · exact ⟨vs, vs[k], sq e hh'.mem.sub, List.getElem?_eq_getElem hk⟩
    · obtain ⟨T, x', e1, hT, e2, hx⟩ := hy
      subst e1 e2
      have hx' := hx vs (sq e hh'.mem.sub)
      obtain ⟨d, hd1, hd2⟩ := hl.get' hx'
      have gr := hh'.mem.grow (o := .tup [.int (k : Int), x']) hT
      have e4 := ex_tr e gr.ex
      refine hs k d ρ' hd1 hi _ σ' _ _ (hh'.step gr) (.tup upd_same (.cons (.int _) (.cons (rmono hd2 e4) .nil))) _ fun ρ2 G2 σ2 H2 z e2 hh2 => z G2 σ2 H2 hh2 _ (fun ρ3 G3 σ3 H3 z3 e3 hh3 => ⟨ρ3, G3, z3, ex_tr (ex_tr e4 e2) e3, hh3⟩) kr
        (fun ρ3 G3 σ3 H3 z3 e3 hh3 => kn ρ3 G3 σ3 H3 z3 (ex_tr s.ex (ex_tr (ex_tr e4 e2) e3)) hh3) (fun ρ3 G3 σ3 H3 z3 e3 hh3 => ⟨ρ3, G3, z3, ex_tr (ex_tr e4 e2) e3, hh3⟩)
theorem wf_revL {Q : Cell → Prop} (h : WE p ρ te fun x => ∃ xs, x = .lst xs ∧ Q (.ol xs.reverse)) : WF p ρ (tRevL p.K te) Q := fun G σ H hh Qv k =>
  h G σ H hh _ fun x v G1 H1 ⟨xs, e, q⟩ s1 r1 => by
    subst e
    obtain ⟨a, vs, ev, hq, hl⟩ := r1.lst_inv
    have m1 := (hh.step s1).mem
    refine ⟨a, vs, ev, lq m1.sub hq, fun b hb => k _ b _ _ q rfl (s1.trans (m1.growO hb)) (hh.mem.back s1 hb) ⟨b, vs.reverse, rfl, m1.fresh hb, upd_same, ?_⟩⟩
    have rev : ∀ {us : List V} {es : List D}, RpL p.K p.h G1 us es → RpL p.K p.h G1 us.reverse es.reverse := by
      intro us
      induction us with
      | nil => intro es r; cases r; exact .nil
      | cons u us ih =>
        intro es r
        cases r with
        | cons a b => rw [List.reverse_cons, List.reverse_cons]; exact (ih b).append (.cons a .nil)
    exact rev hl
theorem we_revL (h : WE p ρ te fun x => ∃ xs, x = .lst xs ∧ Q (.lst xs.reverse)) : WE p ρ (tRevL p.K te) Q := we_F (wf_revL h)
end
end Cal
set_option Elab.async false
set_option linter.all false
set_option maxRecDepth 100000
set_option maxHeartbeats 4000000
namespace Cal
open PySem L2 PyProof.Rows
open Evl (Ex)
/-! ### comprehensions over zip(..), all(..), any(..), != of flags -/
theorem lc_any {J : It} {n : Nat} {g : TG} {tt : TT} {te : TE} {vs : List Nat} {σ : L2.St} {H1 : Hp} {Dl : Addr} {Qd : Hp → Prop} (Pv : Nat → Hp → Prop) (h0 : Pv 0 (upd H1 Dl (.lst []))) (hgo : ∀ i H, i < n → Pv i H → J.go i H) (hst : ∀ H, Pv n H → J.stop n H)
    (hs : ∀ i x H H', i < n → Pv i H → J.yld i H x H' → g x (L2.wipe σ vs) H' fun σ2 H2 => L2.wipe σ2 vs = L2.wipe σ vs ∧ tt σ2 H2 fun b H3 => if b = true then te σ2 H3 fun y H4 => ∃ acc, H4 Dl = some (.lst acc) ∧ acc.length < sizeLine ∧ Pv (i + 1) (upd H4 Dl (.lst (acc ++ [y]))) else Pv (i + 1) H3)
    (hd : ∀ H, Pv n H → Qd H) : ∃ W : Nat → Nat → Hp → Prop, (∃ m, W 0 m (upd H1 Dl (.lst []))) ∧ ∀ i m H, W i m H →
      (J.stop i H ∧ Qd H) ∨ (J.go i H ∧ ∃ Nx : Hp → Prop, (∀ H', Nx H' → ∃ m', m' < m ∧ W (i + 1) m' H') ∧ ∀ x H', J.yld i H x H' → g x (L2.wipe σ vs) H' fun σ2 H2 => L2.wipe σ2 vs = L2.wipe σ vs ∧ tt σ2 H2 fun b H3 =>
        if b = true then te σ2 H3 fun y H4 => ∃ acc, H4 Dl = some (.lst acc) ∧ acc.length < sizeLine ∧ Nx (upd H4 Dl (.lst (acc ++ [y]))) else Nx H3) := by
  refine ⟨fun i m H => m = n - i ∧ i ≤ n ∧ Pv i H, ⟨n, rfl, Nat.zero_le _, h0⟩, fun i m H ⟨e, hi, q⟩ => ?_⟩
  by_cases hlt : i < n
  · exact .inr ⟨hgo i H hlt q, Pv (i + 1), fun H' q' => ⟨n - (i + 1), by omega, rfl, hlt, q'⟩, fun x H' y => hs i x H H' hlt q y⟩
  · have hi' : i = n := by omega
    subst hi'
    exact .inl ⟨hst H q, hd H q⟩
section
variable {p : Par} {ρ : Rho} {Q : D → Prop} {ta tb te tl th : TE} {tt tu : TT} {P : Post} {ts tv : TS} {g : TG}
theorem lc_grow {G1 H1 H' : Hp} {σ : L2.St} {Dl T : Addr} {o : HO} {I : Nat → List D → Prop} {k : Nat} (hh : Hold p ρ G1 σ H1) (L : Lc p G1 H1 Dl I k H') (hT : H' T = none) : Lc p G1 H1 Dl I k (upd H' T o) := by
  obtain ⟨acc, av, G', hi, hle, s, e, ow, r⟩ := L
  exact ⟨acc, av, G', hi, hle, s.trans ((hh.step s).mem.growO hT), by rw [upd_ne (ne_of_none e hT)]; exact e, ow, r⟩
theorem wf_lcZip {ta : TA} {vs : List Nat} {Q : Cell → Prop} (h : WA p ρ ta fun ds => ∃ xs ys, (ds = [.lst xs, .lst ys] ∨ ds = [.tup xs, .tup ys]) ∧ xs.length = ys.length ∧ xs.length ≤ 4000000 ∧ ∃ I : Nat → List D → Prop, I 0 [] ∧
    (∀ k x y acc, xs[k]? = some x → ys[k]? = some y → I k acc → acc.length ≤ k → WGp p vs (wipeR ρ vs) g (.tup [x, y]) fun ρ2 => WT p ρ2 tt fun b => if b = true then WE p ρ2 te fun y => I (k + 1) (acc ++ [y]) else I (k + 1) acc) ∧ ∀ acc, I xs.length acc → Q (.ol acc)) :
    WF p ρ (tLc (RZ.iZipA p.K ta) g tt te vs) Q := fun G σ H hh Qv kk =>
  h G σ H hh _ fun ds vv G1 H1 ⟨xs, ys, e, hxy, hz, I, h0, hs, hd⟩ s1 r1 => by
    have hh1 := hh.step s1
    rcases e with e | e
    · subst e
      cases r1 with
      | cons r rn =>
      cases rn with
      | cons r' rn =>
      cases rn
      obtain ⟨a, us, ev, hq, hl⟩ := r.lst_inv
      obtain ⟨b, ws, ev', hq', hl'⟩ := r'.lst_inv
      subst ev ev'
      have n1 := hl.length
      have n2 := hl'.length
      have sq : ∀ {H' : Hp} {Dl : Addr} {k : Nat}, Lc p G1 H1 Dl I k H' → SqL p.K H' a us ∧ SqL p.K H' b ws := fun {H'} {Dl} {k} L => by
        obtain ⟨acc, av, G', _, _, s, _⟩ := L
        exact ⟨lq s.sub (s.ex _ _ hq), lq s.sub (s.ex _ _ hq')⟩
      refine ⟨a, b, us, ws, rfl, .inl ⟨lq hh1.mem.sub hq, lq hh1.mem.sub hq', fun Dl hn => lc_any (n := us.length) (Lc p G1 H1 Dl I) (lc_start hh1 hn h0) (fun k H' hk L => ?_) (fun H' L => ?_) (fun k v H' H2 hk L hy => ?_) fun H' L => ?_⟩⟩
      · obtain ⟨q1, q2⟩ := sq L
        exact ⟨us, ws, us[k], ws[k]'(by omega), q1, q2, List.getElem?_eq_getElem hk, List.getElem?_eq_getElem (by omega)⟩
      · obtain ⟨q1, q2⟩ := sq L
        exact ⟨us, ws, q1, q2, .inl (Nat.le_refl _)⟩
      · obtain ⟨q1, q2⟩ := sq L
        obtain ⟨T, x', y', e1, hT, e2, hx, hy'⟩ := hy
        subst e1 e2
        obtain ⟨dx, hx1, hx2⟩ := hl.get' (hx us q1)
        obtain ⟨dy, hy1, hy2⟩ := hl'.get' (hy' ws q2)
        refine lc_turn hh1 hn (by omega) (lc_grow hh1 L hT) (fun G' s => ?_) fun acc hi hle => hs k dx dy acc hx1 hy1 hi hle
        obtain ⟨G2, s2, hq2⟩ := Mem.learn (p := p) (hh1.step s).mem upd_same
        exact ⟨G2, s2, .tup hq2 (.cons (rmono hx2 (ex_tr s.ex s2.ex)) (.cons (rmono hy2 (ex_tr s.ex s2.ex)) .nil))⟩
      · obtain ⟨acc, av, G', hi, _, s, e, ow, r⟩ := L
        rw [n1] at hi
        exact kk _ Dl G' H' (hd acc hi) rfl (s1.trans s) (hh.mem.back s1 hn) ⟨Dl, av, rfl, ow, e, r⟩
    · subst e
      cases r1 with
      | cons r rn =>
      cases rn with
      | cons r' rn =>
      cases rn
      obtain ⟨a, us, ev, hq, hl⟩ := r.tup_inv
      obtain ⟨b, ws, ev', hq', hl'⟩ := r'.tup_inv
      subst ev ev'
      have n1 := hl.length
      have n2 := hl'.length
      have sq : ∀ {H' : Hp} {Dl : Addr} {k : Nat}, Lc p G1 H1 Dl I k H' → SqT p.K H' a us ∧ SqT p.K H' b ws := fun {H'} {Dl} {k} L => by
        obtain ⟨acc, av, G', _, _, s, _⟩ := L
        exact ⟨tqT s.sub (Tp.ex s.ex hq), tqT s.sub (Tp.ex s.ex hq')⟩
      refine ⟨a, b, us, ws, rfl, .inr ⟨tqT hh1.mem.sub hq, tqT hh1.mem.sub hq', fun Dl hn => lc_any (n := us.length) (Lc p G1 H1 Dl I) (lc_start hh1 hn h0) (fun k H' hk L => ?_) (fun H' L => ?_) (fun k v H' H2 hk L hy => ?_) fun H' L => ?_⟩⟩
      · obtain ⟨q1, q2⟩ := sq L
        exact ⟨us, ws, us[k], ws[k]'(by omega), q1, q2, List.getElem?_eq_getElem hk, List.getElem?_eq_getElem (by omega)⟩
      · obtain ⟨q1, q2⟩ := sq L
        exact ⟨us, ws, q1, q2, .inl (Nat.le_refl _)⟩
      · obtain ⟨q1, q2⟩ := sq L
        obtain ⟨T, x', y', e1, hT, e2, hx, hy'⟩ := hy
        subst e1 e2
        obtain ⟨dx, hx1, hx2⟩ := hl.get' (hx us q1)
        obtain ⟨dy, hy1, hy2⟩ := hl'.get' (hy' ws q2)
        refine lc_turn hh1 hn (by omega) (lc_grow hh1 L hT) (fun G' s => ?_) fun acc hi hle => hs k dx dy acc hx1 hy1 hi hle
        obtain ⟨G2, s2, hq2⟩ := Mem.learn (p := p) (hh1.step s).mem upd_same
        exact ⟨G2, s2, .tup hq2 (.cons (rmono hx2 (ex_tr s.ex s2.ex)) (.cons (rmono hy2 (ex_tr s.ex s2.ex)) .nil))⟩
      · obtain ⟨acc, av, G', hi, _, s, e, ow, r⟩ := L
        rw [n1] at hi
        exact kk _ Dl G' H' (hd acc hi) rfl (s1.trans s) (hh.mem.back s1 hn) ⟨Dl, av, rfl, ow, e, r⟩
theorem RpL.bls {K : PySem.W.Frag} {h : Hnd} {G : Hp} : ∀ {vs : List V} {bs : List Bool}, RpL K h G vs (bs.map D.bl) → vs = bs.map V.bl
  | [], [], _ => rfl
  | v :: vs, b :: bs, r => by
    cases r with
    | cons a c => cases a; rw [List.map_cons, RpL.bls c]
  | [], d :: ds, r => by cases r
  | v :: vs, [], r => by cases r
theorem we_all (h : WE p ρ te fun x => ∃ bs : List Bool, x = .lst (bs.map D.bl) ∧ Q (.bl (bs.all id))) : WE p ρ (tCB (rAll p.K) (tCons te tNil)) Q :=
  we_cb (wa_cons (h.imp fun x ⟨bs, e, q⟩ => wa_nil fun G H vs m r Qv k => by
    subst e
    cases r with
    | cons r rn =>
      cases rn
      obtain ⟨a, us, ev, hs, hl⟩ := r.lst_inv
      subst ev
      rw [hl.bls] at hs
      exact ⟨a, bs, rfl, lq m.sub hs, k _ _ G H q m.refl (.bl _)⟩))
theorem we_anyB (h : WE p ρ te fun x => ∃ bs : List Bool, x = .lst (bs.map D.bl) ∧ Q (.bl (bs.any id))) : WE p ρ (tCB (rAny p.K) (tCons te tNil)) Q :=
  we_cb (wa_cons (h.imp fun x ⟨bs, e, q⟩ => wa_nil fun G H vs m r Qv k => by
    subst e
    cases r with
    | cons r rn =>
      cases rn
      obtain ⟨a, us, ev, hs, hl⟩ := r.lst_inv
      subst ev
      rw [hl.bls] at hs
      exact ⟨a, bs, rfl, lq m.sub hs, k _ _ G H q m.refl (.bl _)⟩))
theorem we_neB (h : WE p ρ ta fun x => ∃ i, x = .bl i ∧ WE p ρ tb fun y => ∃ j, y = .bl j ∧ Q (.bl (!(i == j)))) : WE p ρ (tOp rNe ta tb) Q :=
  we_op (h.imp fun x ⟨i, e, h⟩ => h.imp fun y ⟨j, e2, q⟩ => fun G H v w m r1 r2 Qv k => by
    subst e e2
    rw [rp_bl r1, rp_bl r2]
    refine ⟨rfl, ?_⟩
    rw [dec_bl]
    exact k _ _ G H q m.refl (.bl _))
end
/-- nothing is promised -/
theorem Dfn.none {P : Program} {w : World} {K : PySem.W.Frag} {mg : Str → Option Value} {base : Heap} {x : Str} {st : Stmt} {ps : List Str} (F : Src K mg x st) (k : Nat)
    (hb : ∀ (kV doc pm : Value) (an : Option Addr) (cdv ct : Value) (us : List Value), us.length = ps.length → bindArgs (PySem.W.fnOf x x (defArgs st) (defBody st) (defScope st) .none kV doc pm an cdv ct) ⟨us, []⟩ = pure (ps.zip us)) :
    Dfn P w K mg base k x ps fun _ _ => False := by
  obtain ⟨f, fd, hm, F⟩ := F.ex
  exact ⟨f, fd, hm, F.kp, ⟨fun vs H Q E ⟨_, _, _, _, _, _, z, _⟩ => z.elim, fun A outer s H args us vs Q E _ _ _ _ ⟨_, _, _, _, _, _, z, _⟩ => z.elim⟩, F.binds hb⟩
/-! ### data that the laws compare -/
theorem kb_tuple_list : kitB "tuple" "list" = some false := by decide +kernel
theorem kb_list_list : kitB "list" "list" = some true := by decide +kernel
mutual
/-- whether two things are the same, tuples being no lists -/
def isD : D → D → Bool
  | .int i, .int j => decide (i = j)
  | .tup xs, .tup ys => isDL xs ys
  | .lst xs, .lst ys => isDL xs ys
  | _, _ => false
def isDL : List D → List D → Bool
  | [], [] => true
  | x :: xs, y :: ys => isD x y && isDL xs ys
  | _, _ => false
end
/-- of integers, tuples and lists, nested at most n deep, of like kinds at like places -/
inductive P2 : Nat → D → D → Prop
  | int (n : Nat) (i j : Int) : P2 n (.int i) (.int j)
  | tup {n : Nat} {xs ys : List D} : xs.length ≤ 4000000 → (xs.length = ys.length → ∀ (k : Nat) (x y : D), xs[k]? = some x → ys[k]? = some y → P2 n x y) → P2 (n + 1) (.tup xs) (.tup ys)
  | lst {n : Nat} {xs ys : List D} : xs.length ≤ 4000000 → (xs.length = ys.length → ∀ (k : Nat) (x y : D), xs[k]? = some x → ys[k]? = some y → P2 n x y) → P2 (n + 1) (.lst xs) (.lst ys)
theorem isDL_ne : ∀ {xs ys : List D}, xs.length ≠ ys.length → isDL xs ys = false
  | [], [], h => absurd rfl h
  | x :: xs, y :: ys, h => by
    rw [isDL, isDL_ne (xs := xs) (ys := ys) fun e => h (by rw [List.length_cons, List.length_cons, e]), Bool.and_false]
  | [], y :: ys, h => by rw [isDL]; all_goals (intros; simp_all)
  | x :: xs, [], h => by rw [isDL]; all_goals (intros; simp_all)
theorem isDL_all : ∀ {xs ys : List D}, xs.length = ys.length → isDL xs ys = ((xs.zip ys).map fun z => isD z.1 z.2).all id
  | [], [], _ => by rw [isDL]; rfl
  | x :: xs, y :: ys, h => by
    rw [isDL, isDL_all (by simpa using h)]
    rfl
  | [], y :: ys, h => by cases h
  | x :: xs, [], h => by cases h
mutual
theorem isD_self {n : Nat} : ∀ x : D, P2 n x x → isD x x = true
  | .int i, _ => by rw [isD]; exact decide_eq_true rfl
  | .tup xs, h => by
    rw [isD]
    cases h with
    | tup _ q => exact isDL_self xs (fun k x e => q rfl k x x e e)
  | .lst xs, h => by
    rw [isD]
    cases h with
    | lst _ q => exact isDL_self xs (fun k x e => q rfl k x x e e)
  | .non, h => by cases h
  | .bl _, h => by cases h
  | .str _, h => by cases h
  | .hand, h => by cases h
  | .dK _, h => by cases h
  | .dT _, h => by cases h
  | .raw _, h => by cases h
  | .ptp _, h => by cases h
  | .exc _, h => by cases h
  | .ins _ _, h => by cases h
theorem isDL_self {n : Nat} : ∀ xs : List D, (∀ (k : Nat) (x : D), xs[k]? = some x → P2 n x x) → isDL xs xs = true
  | [], _ => by rw [isDL]
  | x :: xs, h => by
    rw [isDL, isD_self x (h 0 x rfl), isDL_self xs fun k y e => h (k + 1) y (by simpa using e)]
    rfl
end
end Cal
set_option Elab.async false
set_option linter.all false
set_option maxRecDepth 100000
set_option maxHeartbeats 4000000
namespace Cal
open PySem L2 PyProof.Rows
open Evl (Ex sq_of)
section
variable {p : Par} {ρ : Rho} {Q : D → Prop} {ta tb te tl th : TE} {tt tu : TT} {P : Post} {ts tv : TS} {g : TG}
/-- xs.extend(ys), xs slot i's own -/
theorem ws_extend {i : Nat} {xs : List D} (e : ρ[i]? = some (some (.ol xs))) (h : WE p ρ te fun x => ∃ ys, x = .lst ys ∧ xs.length + ys.length ≤ 4000000 ∧ P.n (ρ.set i (some (.ol (xs ++ ys))))) :
    WS p ρ (tDrop (tBM p.K "list" rExtend (tVar i) (tCons te tNil))) P := fun G σ H hh E kn kr kb kc => by
  obtain ⟨sv, h1, a, vs, h2, ow, h4, h5⟩ := hh.slot i _ e
  subst h2
  refine ⟨.ref a, h1, Or.inl ⟨rfl, vs, sq_of h4⟩, h G σ H hh _ fun d w G' H' ⟨ys, ey, hl, z⟩ s r => ?_⟩
  subst ey
  obtain ⟨b, ws, ew, hb, hlr⟩ := r.lst_inv
  subst ew
  have hh' := hh.step s
  obtain ⟨sv', h1', a', vs', h2', ow', h4', h5'⟩ := hh'.slot i _ e
  subst h2'
  rw [h1] at h1'
  cases h1'
  have n1 := h5'.length
  have n2 := hlr.length
  exact ⟨a, b, vs', ws, rfl, rfl, h4', hh'.mem.sub _ _ hb, by rw [sizeLine_eq]; omega, kn _ G' σ _ z s.ex (hh'.write e rfl h1 ow' ⟨a, _, rfl, ow', upd_same, h5'.append hlr⟩)⟩
end
end Cal
set_option Elab.async false
set_option linter.all false
set_option maxRecDepth 100000
set_option maxHeartbeats 4000000
namespace Cal
open PySem L2 PyProof.Rows
open Evl (Ex sq_of)
section
variable {κ : Type} [DecidableEq κ]
theorem dPut_new {kvs : List (κ × D)} {k : κ} {v : D} (h : dGet kvs k = none) : dPut kvs k v = kvs ++ [(k, v)] := by
  unfold dPut
  rw [if_neg]
  intro z
  unfold dGet at h
  rw [Option.map_eq_none_iff, List.find?_eq_none] at h
  obtain ⟨x, hx, e⟩ := List.any_eq_true.mp z
  exact h x hx e
theorem dGet_new {kvs : List (κ × D)} {k : κ} {v : D} (h : dGet kvs k = none) : dGet (kvs ++ [(k, v)]) k = some v := by
  unfold dGet at h ⊢
  rw [Option.map_eq_none_iff] at h
  rw [List.find?_append, h]
  simp
theorem dGet_mem {kvs : List (κ × D)} {k : κ} {v : D} (h : dGet kvs k = some v) : (k, v) ∈ kvs := by
  unfold dGet at h
  obtain ⟨x, hx, e⟩ := Option.map_eq_some_iff.mp h
  have h1 := List.mem_of_find?_eq_some hx
  have h2 := List.find?_some hx
  have h3 : x.1 = k := of_decide_eq_true h2
  rw [← h3, ← e]
  exact h1
theorem dGet_no {kvs : List (κ × D)} {k : κ} (h : dGet kvs k = none) : k ∉ kvs.map (·.1) := by
  intro z
  obtain ⟨x, hx, e⟩ := List.mem_map.mp z
  unfold dGet at h
  rw [Option.map_eq_none_iff, List.find?_eq_none] at h
  exact h x hx (decide_eq_true e)
theorem dGet_not {kvs : List (κ × D)} {k : κ} (h : k ∉ kvs.map (·.1)) : dGet kvs k = none := by
  cases e : dGet kvs k with
  | none => rfl
  | some v => exact (h (List.mem_map.mpr ⟨_, dGet_mem e, rfl⟩)).elim
end
section
variable {p : Par} {ρ : Rho} {Q : D → Prop} {ta tb te tl th : TE} {tt tu : TT} {P : Post} {ts tv : TS} {g : TG}
/-- a, b, c, d = [], x, {}, {}: the dicts with tuples for keys -/
theorem ws_new4T {i j k l r0 : Nat} {x : D} (e : ρ[r0]? = some (some (.d x))) (h : P.n ((((ρ.set i (some (.ol []))).set j (some (.d x))).set k (some (.ot []))).set l (some (.ot [])))) :
    WS p ρ (tAsg (tTup (tCons (tLst tNil) (tCons (tVar r0) (tCons tDNewT (tCons tDNewT tNil))))) (gTup p.K 4 (gCons (gName i) (gCons (gName j) (gCons (gName k) (gCons (gName l) gNil)))))) P := fun G σ H hh E kn kr kb kc => by
  obtain ⟨sv, h1, v, h2, h3⟩ := hh.slot r0 _ e
  subst h2
  refine ⟨sz (Nat.zero_le _), fun a ha => ⟨v, h1, fun b hb c hc => ⟨sz (by show 4 ≤ 4000000; decide), fun t ht => ?_⟩⟩⟩
  have s1 := hh.mem.growO (o := .lst []) ha
  have h1 := hh.setNew (i := i) (c := .ol []) s1 (Nil.no ha) ⟨a, [], rfl, hh.mem.fresh ha, upd_same, .nil⟩
  have h2 := h1.setD (i := j) h3
  have s3 := h2.mem.growO (o := .dT []) hb
  have h4 := h2.setNew (i := k) (c := .ot []) s3 (Nil.no hb) ⟨b, [], rfl, h2.mem.fresh hb, upd_same, .nil⟩
  have s5 := h4.mem.growO (o := .dT []) hc
  have h6 := h4.setNew (i := l) (c := .ot []) s5 (Nil.no hc) ⟨c, [], rfl, h4.mem.fresh hc, upd_same, .nil⟩
  have h7 := h6.step (h6.mem.growO (o := .tup [.ref a, v, .ref b, .ref c]) ht)
  refine ⟨t, _, rfl, Evl.st_of upd_same, rfl, ⟨_, _, rfl, ⟨_, _, rfl, ⟨_, _, rfl, ⟨_, _, rfl, rfl, ?_⟩⟩⟩⟩⟩
  exact kn _ G _ _ h Ex.rfl' h7
end
end Cal
set_option Elab.async false
set_option linter.all false
set_option maxRecDepth 100000
set_option maxHeartbeats 4000000
namespace Cal
open PySem L2 PyProof.Rows
open Evl (Ex sq_of st_of)
/-! ### == and != of nested data -/
mutual
/-- as the data of the comparison of nested things (what has no such data: None) -/
def toPy : D → PyData
  | .non => .none
  | .bl b => .bool b
  | .int i => .int i
  | .str x => .str x
  | .tup xs => .tuple (toPyL xs)
  | .lst xs => .list (toPyL xs)
  | _ => .none
def toPyL : List D → List PyData
  | [] => []
  | x :: xs => toPy x :: toPyL xs
end
/-- None, flags, integers, texts, tuples and lists of such -/
inductive Cmp : D → Prop
  | non : Cmp .non
  | bl (b : Bool) : Cmp (.bl b)
  | int (i : Int) : Cmp (.int i)
  | str (x : Str) : Cmp (.str x)
  | tup {xs : List D} : (∀ x ∈ xs, Cmp x) → Cmp (.tup xs)
  | lst {xs : List D} : (∀ x ∈ xs, Cmp x) → Cmp (.lst xs)
section
variable {K : PySem.W.Frag} {h : Hnd} {G H : Hp}
mutual
theorem dp_of (e : Ex G H) : ∀ (x : D) (v : V), Cmp x → Rp K h G v x → Dp K H v (toPy x)
  | .non, _, _, r => by cases r; exact .non
  | .bl b, _, _, r => by cases r; exact .bl b
  | .int i, _, _, r => by cases r; exact .int i
  | .str x, _, _, r => by cases r; exact .str x
  | .tup xs, _, c, r => by
    obtain ⟨a, vs, ev, hs, hl⟩ := r.tup_inv
    subst ev
    rw [toPy]
    cases c with
    | tup cs => exact .tup (tqT e hs) (dpl_of e xs vs cs hl)
  | .lst xs, _, c, r => by
    obtain ⟨a, vs, ev, hs, hl⟩ := r.lst_inv
    subst ev
    rw [toPy]
    cases c with
    | lst cs => exact .lst (lq e hs) (dpl_of e xs vs cs hl)
  | .hand, _, c, _ => by cases c
  | .dK _, _, c, _ => by cases c
  | .dT _, _, c, _ => by cases c
  | .raw _, _, c, _ => by cases c
  | .ptp _, _, c, _ => by cases c
  | .exc _, _, c, _ => by cases c
  | .ins _ _, _, c, _ => by cases c
theorem dpl_of (e : Ex G H) : ∀ (xs : List D) (vs : List V), (∀ x ∈ xs, Cmp x) → RpL K h G vs xs → DpAll K H vs (toPyL xs)
  | [], _, _, r => by cases r; rw [toPyL]; exact .nil
  | x :: xs, _, c, r => by
    cases r with
    | cons a b =>
      rw [toPyL]
      exact .cons (dp_of e x _ (c x List.mem_cons_self) a) (dpl_of e xs _ (fun y hy => c y (List.mem_cons_of_mem _ hy)) b)
end
end
section
variable {p : Par} {ρ : Rho} {Q : D → Prop} {ta tb te tl th : TE} {tt tu : TT} {P : Post} {ts tv : TS} {g : TG}
theorem we_eqD (h : WE p ρ ta fun x => Cmp x ∧ SeqAt.shaped (toPy x) = true ∧ WE p ρ tb fun y => Cmp y ∧ SeqAt.shaped (toPy y) = true ∧ Q (.bl (PyData.eqv (toPy x) (toPy y)))) : WE p ρ (tOp (rEqD p.K) ta tb) Q :=
  we_op (h.imp fun x ⟨c1, s1, h⟩ => h.imp fun y ⟨c2, s2, q⟩ => fun G H v w m r1 r2 Qv k =>
    ⟨_, _, dp_of m.sub x v c1 r1, dp_of m.sub y w c2 r2, s1, s2, k _ _ G H q m.refl (.bl _)⟩)
theorem we_neD (h : WE p ρ ta fun x => Cmp x ∧ SeqAt.shaped (toPy x) = true ∧ WE p ρ tb fun y => Cmp y ∧ SeqAt.shaped (toPy y) = true ∧ Q (.bl (!PyData.eqv (toPy x) (toPy y)))) : WE p ρ (tOp (rNeD p.K) ta tb) Q :=
  we_op (h.imp fun x ⟨c1, s1, h⟩ => h.imp fun y ⟨c2, s2, q⟩ => fun G H v w m r1 r2 Qv k =>
    ⟨_, _, dp_of m.sub x v c1 r1, dp_of m.sub y w c2 r2, s1, s2, k _ _ G H q m.refl (.bl _)⟩)
/-- max(ns), min(ns) of a list of integers -/
theorem we_maxL (h : WE p ρ te fun x => ∃ ns : List Int, x = .lst (ns.map D.int) ∧ 0 < ns.length ∧ ∀ m, m ∈ ns → (∀ y, y ∈ ns → y ≤ m) → Q (.int m)) : WE p ρ (tCB (rMax p.K) (tCons te tNil)) Q :=
  we_cb (wa_cons (h.imp fun x ⟨ns, e, hn, q⟩ => wa_nil fun G H vs m r Qv k => by
    subst e
    cases r with
    | cons r rn =>
      cases rn
      obtain ⟨a, us, ev, hs, hl⟩ := r.lst_inv
      subst ev
      rw [hl.ints] at hs
      exact ⟨a, ns, rfl, lq m.sub hs, hn, fun z h1 h2 => k _ _ G H (q z h1 h2) m.refl (.int _)⟩))
theorem we_minL (h : WE p ρ te fun x => ∃ ns : List Int, x = .lst (ns.map D.int) ∧ 0 < ns.length ∧ ∀ m, m ∈ ns → (∀ y, y ∈ ns → m ≤ y) → Q (.int m)) : WE p ρ (tCB (rMin p.K) (tCons te tNil)) Q :=
  we_cb (wa_cons (h.imp fun x ⟨ns, e, hn, q⟩ => wa_nil fun G H vs m r Qv k => by
    subst e
    cases r with
    | cons r rn =>
      cases rn
      obtain ⟨a, us, ev, hs, hl⟩ := r.lst_inv
      subst ev
      rw [hl.ints] at hs
      exact ⟨a, ns, rfl, lq m.sub hs, hn, fun z h1 h2 => k _ _ G H (q z h1 h2) m.refl (.int _)⟩))
theorem any_toPy {x : D} {ys : List D} : ((toPyL ys).any fun z => PyData.eqv z (toPy x)) = ys.any fun y => PyData.eqv (toPy y) (toPy x) := by
  induction ys with
  | nil => rw [toPyL]; rfl
  | cons y ys ih => rw [toPyL, List.any_cons, List.any_cons, ih]
theorem we_inD (h : WE p ρ ta fun x => Cmp x ∧ SeqAt.shaped (toPy x) = true ∧ WE p ρ tb fun y => ∃ ys, y = .lst ys ∧ Cmp y ∧ SeqAt.shaped (toPy y) = true ∧ Q (.bl (ys.any fun z => PyData.eqv (toPy z) (toPy x)))) : WE p ρ (tOp (rInD p.K) ta tb) Q :=
  we_op (h.imp fun x ⟨c1, s1, h⟩ => h.imp fun y ⟨ys, ey, c2, s2, q⟩ => fun G H v w m r1 r2 Qv k => by
    subst ey
    have d2 := dp_of m.sub _ w c2 r2
    rw [toPy] at d2 s2
    refine ⟨_, _, dp_of m.sub x v c1 r1, d2, s1, s2, ?_⟩
    rw [any_toPy]
    exact k _ _ G H q m.refl (.bl _))
theorem we_notInD (h : WE p ρ ta fun x => Cmp x ∧ SeqAt.shaped (toPy x) = true ∧ WE p ρ tb fun y => ∃ ys, y = .lst ys ∧ Cmp y ∧ SeqAt.shaped (toPy y) = true ∧ Q (.bl (!ys.any fun z => PyData.eqv (toPy z) (toPy x)))) : WE p ρ (tOp (rNotInD p.K) ta tb) Q :=
  we_op (h.imp fun x ⟨c1, s1, h⟩ => h.imp fun y ⟨ys, ey, c2, s2, q⟩ => fun G H v w m r1 r2 Qv k => by
    subst ey
    have d2 := dp_of m.sub _ w c2 r2
    rw [toPy] at d2 s2
    refine ⟨_, _, dp_of m.sub x v c1 r1, d2, s1, s2, ?_⟩
    rw [any_toPy]
    exact k _ _ G H q m.refl (.bl _))
theorem rep_rp {G : Hp} {vs : List V} {ds : List D} (r : RpL p.K p.h G vs ds) : ∀ n : Nat, RpL p.K p.h G (List.replicate n vs).flatten (List.replicate n ds).flatten
  | 0 => .nil
  | n + 1 => by
    rw [List.replicate_succ, List.replicate_succ, List.flatten_cons, List.flatten_cons]
    exact r.append (rep_rp r n)
/-- xs * n -/
theorem we_repL (h : WE p ρ ta fun x => ∃ xs, x = .lst xs ∧ WE p ρ tb fun y => ∃ n : Int, y = .int n ∧ -(2 ^ 63) ≤ n ∧ n < 2 ^ 63 ∧ xs.length * n.toNat ≤ 4000000 ∧ Q (.lst (List.replicate n.toNat xs).flatten)) : WE p ρ (tOp rRep ta tb) Q :=
  we_op (h.imp fun x ⟨xs, ex, h⟩ => h.imp fun y ⟨n, ey, n1, n2, n3, q⟩ => fun G H v w m r1 r2 Qv k => by
    subst ex ey
    obtain ⟨a, vs, ev, hs, hl⟩ := r1.lst_inv
    subst ev
    have hz := hl.length
    refine ⟨a, n, vs, rfl, rp_int r2, m.sub _ _ hs, n1, n2, by rw [hz, sizeLine_eq]; omega, fun b hb => ?_⟩
    have g := m.grow (o := .lst (List.replicate n.toNat vs).flatten) hb
    exact k _ _ _ _ q g (.lst upd_same (lmono (rep_rp hl _) g.ex)))
theorem we_repT (h : WE p ρ ta fun x => ∃ xs, x = .tup xs ∧ xs ≠ [] ∧ xs.length ≤ 1000 ∧ WE p ρ tb fun y => ∃ n : Int, y = .int n ∧ 2 ≤ n ∧ n ≤ 1000 ∧ Q (.tup (List.replicate n.toNat xs).flatten)) : WE p ρ (tOp (rRepT p.K) ta tb) Q :=
  we_op (h.imp fun x ⟨xs, ex, hne, hxl, h⟩ => h.imp fun y ⟨n, ey, n1, n2, q⟩ => fun G H v w m r1 r2 Qv k => by
    subst ex ey
    obtain ⟨a, vs, ev, hs, hl⟩ := r1.tup_inv
    subst ev
    have hz := hl.length
    refine ⟨a, n, vs, rfl, rp_int r2, tqT m.sub hs, fun z => hne ?_, n1, n2, by omega, fun b hb => ?_⟩
    · rw [z] at hz
      exact List.length_eq_zero_iff.mp hz.symm
    · have g := m.grow (o := .tup (List.replicate n.toNat vs).flatten) hb
      exact k _ _ _ _ q g (.tup upd_same (lmono (rep_rp hl _) g.ex)))
end
section
variable {X : Cx} {K0 : PySem.W.Frag}
theorem cr_maxK (hK : X.K = K0) (hc : X.calm = true) : CallR X (.builtin "max") (rMax K0) := hK ▸ cr_max hc
theorem cr_minK (hK : X.K = K0) (hc : X.calm = true) : CallR X (.builtin "min") (rMin K0) := hK ▸ cr_min hc
theorem op_inDK (hK : X.K = K0) (hu : X.A.units + 65 < cLine) : OpR X (compareOp .In) (rInD K0) := hK ▸ op_inD hu
theorem op_notInDK (hK : X.K = K0) (hu : X.A.units + 65 < cLine) : OpR X (compareOp .NotIn) (rNotInD K0) := hK ▸ op_notInD hu
theorem op_repTK (hK : X.K = K0) : OpR X (binaryOp .Mult) (rRepT K0) := hK ▸ op_repT
theorem room65 {A : Around} {k : Nat} (hr : Room k A) : A.units + 65 < cLine := by have := hr.un; omega
end
end Cal
set_option Elab.async false
set_option linter.all false
set_option maxRecDepth 100000
set_option maxHeartbeats 4000000
namespace Cal
open PySem L2 PyProof.Rows
open Evl (Ex sq_of st_of)
/-! ### an owned list, lent to an expression that tells a scalar -/
theorem rp_sc {K : PySem.W.Frag} {h : Hnd} {G G' : Hp} {v : V} : ∀ {d : D}, d.sc = true → Rp K h G v d → Rp K h G' v d
  | .non, _, r => by cases r; exact .non
  | .bl b, _, r => by cases r; exact .bl b
  | .int i, _, r => by cases r; exact .int i
  | .str x, _, r => by cases r; exact .str x
  | .hand, h, _ => by cases h
  | .tup _, h, _ => by cases h
  | .lst _, h, _ => by cases h
  | .dK _, h, _ => by cases h
  | .dT _, h, _ => by cases h
  | .raw _, h, _ => by cases h
  | .ptp _, h, _ => by cases h
  | .exc _, h, _ => by cases h
  | .ins _ _, h, _ => by cases h
/-- no list of integers alone -/
def D.nonInt : List D → Bool
  | .tup _ :: _ => true | .lst _ :: _ => true | .non :: _ => true | .str _ :: _ => true | .bl _ :: _ => true | _ => false
theorem lent {p : Par} {ρ : Rho} {G G' H H' : Hp} {σ : L2.St} {a : Addr} {vs : List V} {xs : List D} (hh : Hold p ρ G σ H) (ow : Own p G a) (ha : H a = some (.lst vs)) (hl : RpL p.K p.h G vs xs) (hn : D.nonInt xs = true) (s : Stp p (upd G a (.lst vs)) H G' H') :
    Stp p G H (fun b => if b = a then none else G' b) H' := by
  have ne : ∀ {b : Addr} {o : HO}, (if b = a then none else G' b) = some o → b ≠ a ∧ G' b = some o := fun {b o} z => by
    by_cases hb : b = a
    · rw [if_pos hb] at z; cases z
    · rw [if_neg hb] at z; exact ⟨hb, z⟩
  refine ⟨fun b o z => s.sub b o (ne z).2, ?_, s.base, fun b o z => ?_, fun b o z => ?_, ?_, fun b ps z => s.gt b ps (ne z).2, s.tab⟩
  · show (if p.h.a = a then none else G' p.h.a) = none
    rw [if_neg (Ne.symm ow.2.2)]; exact s.gh
  · have hb : b ≠ a := ne_of_none z ow.1
    show (if b = a then none else G' b) = some o
    rw [if_neg hb]
    exact s.g0 b o ((upd_ne hb).trans z)
  · obtain ⟨hb, z2⟩ := ne z
    rcases s.new b o z2 with q | q
    · exact .inl ((upd_ne hb).symm.trans q)
    · exact .inr q
  · obtain ⟨ns, i, r, n, h1, h2, h3⟩ := s.hand
    have hc : p.h.c ≠ a := fun e => by
      obtain ⟨ns2, _, _, _, _, g2, _⟩ := hh.mem.hand
      rw [e, ow.1] at g2
      cases g2
    exact ⟨ns, i, r, n, h1, by show (if p.h.c = a then none else G' p.h.c) = _; rw [if_neg hc]; exact h2, h3⟩
section
variable {p : Par} {ρ : Rho} {Q : D → Prop} {ta tb te : TE} {tt tu : TT}
theorem we_lend (i : Nat) {xs : List D} (e : ρ[i]? = some (some (.ol xs))) (hn : D.nonInt xs = true) (h : WE p (ρ.set i (some (.d (.lst xs)))) te fun d => d.sc = true ∧ Q d) : WE p ρ te Q := fun G σ H hh Qv k => by
  obtain ⟨sv, h1, a, vs, h2, ow, h4, h5⟩ := hh.slot i _ e
  subst h2
  obtain ⟨hh', ex⟩ := hh.freeze e rfl h1 ow h4 (x := .lst xs) (.lst upd_same (lmono h5 fun b u z => by rw [upd_ne (ne_of_none z ow.1)]; exact z))
  refine h _ σ H hh' Qv fun d v G' H' ⟨hd, q⟩ s r => ?_
  exact k d v _ H' q (lent hh ow h4 h5 hn s) (rp_sc hd r)
theorem wt_lend (i : Nat) {xs : List D} {R : Bool → Prop} (e : ρ[i]? = some (some (.ol xs))) (hn : D.nonInt xs = true) (h : WT p (ρ.set i (some (.d (.lst xs)))) tt R) : WT p ρ tt R := fun G σ H hh Qv k => by
  obtain ⟨sv, h1, a, vs, h2, ow, h4, h5⟩ := hh.slot i _ e
  subst h2
  obtain ⟨hh', ex⟩ := hh.freeze e rfl h1 ow h4 (x := .lst xs) (.lst upd_same (lmono h5 fun b u z => by rw [upd_ne (ne_of_none z ow.1)]; exact z))
  exact h _ σ H hh' Qv fun b G' H' q s => k b _ H' q (lent hh ow h4 h5 hn s)
end
end Cal
set_option Elab.async false
set_option linter.all false
set_option maxRecDepth 100000
set_option maxHeartbeats 4000000
namespace Cal
open PySem L2 PyProof.Rows
open Evl (Ex sq_of st_of)
section
variable {p : Par} {ρ : Rho} {Q : D → Prop} {ta tb te tl th : TE} {tt tu : TT} {P : Post} {ts tv : TS} {g : TG}
/-- a comprehension over range(a, b, c) -/
theorem wf_lc3 {ta : TA} {vs : List Nat} {Q : Cell → Prop} (h : WA p ρ ta fun ds => ∃ (lo hi c : Int) (n : Nat), ds = [.int lo, .int hi, .int c] ∧ RgC lo hi c n ∧ n ≤ 4000000 ∧ ∃ I : Nat → List D → Prop, I 0 [] ∧
    (∀ k acc, k < n → I k acc → acc.length ≤ k → WGp p vs (wipeR ρ vs) g (.int (lo + (k : Nat) * c)) fun ρ2 => WT p ρ2 tt fun b => if b = true then WE p ρ2 te fun y => I (k + 1) (acc ++ [y]) else I (k + 1) acc) ∧ ∀ acc, I n acc → Q (.ol acc)) :
    WF p ρ (tLc (iRng3 ta) g tt te vs) Q := fun G σ H hh Qv kk =>
  h G σ H hh _ fun ds ws G1 H1 ⟨lo, hi, c, n, e, hc, hz, I, h0, hs, hd⟩ s1 r1 => by
    subst e
    cases r1 with
    | cons r1 rn =>
      cases rn with
      | cons r2 rn =>
        cases rn with
        | cons r3 rn =>
          cases rn; cases r1; cases r2; cases r3
          have hh1 := hh.step s1
          refine ⟨lo, hi, c, n, rfl, hc, fun Dl hn => lc_any (n := n) (Lc p G1 H1 Dl I) (lc_start hh1 hn h0) (fun k H' hk L => hk) (fun H' L => Nat.le_refl _) (fun k v H' H2 hk L hy => ?_) fun H' L => ?_⟩
          · obtain ⟨e1, e2⟩ := hy
            subst e1 e2
            exact lc_turn hh1 hn (by omega) L (fun G' s => ⟨G', (hh1.step s).mem.refl, .int _⟩) fun acc hi hle => hs k acc hk hi hle
          · obtain ⟨acc, av, G', hi, _, s, e, ow, r⟩ := L
            exact kk _ Dl G' H' (hd acc hi) rfl (s1.trans s) (hh.mem.back s1 hn) ⟨Dl, av, rfl, ow, e, r⟩
theorem fits {z : Int} (h : -9000000 ≤ z ∧ z ≤ 9000000) : Builtin.Range.rangeFitsLong z = true := by
  unfold Builtin.Range.rangeFitsLong
  rw [decide_eq_true (show -(2 ^ 63) ≤ z by omega), decide_eq_true (show z < 2 ^ 63 by omega)]
  rfl
theorem rgc2 (m : Nat) (h : m ≤ 4000000) : RgC 0 ((2 * m : Nat) : Int) 2 m := by
  have e : Builtin.Range.rangeSize 0 ((2 * m : Nat) : Int) 2 = m := by
    unfold Builtin.Range.rangeSize
    rw [if_pos (by decide)]
    split <;> omega
  refine ⟨by decide, by decide, ?_, e⟩
  unfold Builtin.Range.small
  rw [e, if_pos (by decide), fits (by omega), fits (by omega), fits (by omega), fits (by omega), fits (by omega), Bool.or_true]
  rfl
/-- whether an int is not 0 -/
theorem wt_truI {R : Bool → Prop} (h : WE p ρ te fun x => ∃ i : Int, x = .int i ∧ R (decide (i ≠ 0))) : WT p ρ (fun σ H Q => te σ H fun x H' => ∃ k, TruV p.K x H' k ∧ Q k H') R := fun G σ H hh Qv k =>
  h G σ H hh _ fun x v G1 H1 ⟨i, e, q⟩ s1 r1 => by
    subst e
    cases r1
    refine ⟨decide (i ≠ 0), ?_, k _ G1 H1 q s1⟩
    show decide (i ≠ 0) = (i != 0)
    by_cases hi : i = 0
    · rw [hi]; rfl
    · rw [decide_eq_true hi]; simpa using hi
/-- by way of what is known between -/
theorem ws_to (M : Rho → Prop) (h : WS p ρ ts ⟨M, P.r, P.b, P.c⟩) (k : ∀ ρ', M ρ' → P.n ρ') : WS p ρ ts P := fun G σ H hh E kn kr kb kc =>
  h G σ H hh E (fun ρ' G' σ' H' z e hh' => kn ρ' G' σ' H' (k ρ' z) e hh') kr kb kc
theorem band1 (x : Int) : Builtin.bitAnd x 1 = x % 2 := bitAnd_m1 x
end
end Cal
set_option Elab.async false
set_option linter.all false
set_option maxRecDepth 100000
set_option maxHeartbeats 4000000
namespace Cal
open PySem L2 PyProof.Rows
open Evl (Ex sq_of st_of)
section
variable {p : Par} {ρ : Rho} {Q : D → Prop} {ta tb te tl th : TE} {tt tu : TT} {P : Post} {ts tv : TS} {g : TG}
/-- a, b = two new things -/
theorem ws_newPair {i j : Nat} (h : WF p ρ ta fun c1 => WF p ρ tb fun c2 => P.n ((ρ.set i (some c1)).set j (some c2))) :
    WS p ρ (tAsg (tTup (tCons ta (tCons tb tNil))) (gTup p.K 2 (gCons (gName i) (gCons (gName j) gNil)))) P := fun G σ H hh E kn kr kb kc => by
  refine h G σ H hh _ fun c1 a G1 H1 q ho1 s1 n1 x1 => q G1 σ H1 (hh.step s1) _ fun c2 b G2 H2 q2 ho2 s2 n2 x2 => ⟨sz (by show 2 ≤ 4000000; decide), fun t ht => ?_⟩
  have h1 := hh.setNew (i := i) s1 n1 x1
  have h2 := h1.setNew (i := j) s2 n2 x2
  have h3 := h2.step (h2.mem.growO (o := .tup [.ref a, .ref b]) ht)
  exact ⟨t, _, rfl, Evl.st_of upd_same, rfl, ⟨_, _, rfl, ⟨_, _, rfl, rfl, kn _ G2 _ _ q2 (ex_tr s1.ex s2.ex) h3⟩⟩⟩
/-- a, b, c = [], x, {}: the dict with tuples for keys -/
theorem ws_new3T {i j l r0 : Nat} {x : D} (e : ρ[r0]? = some (some (.d x))) (h : P.n (((ρ.set i (some (.ol []))).set j (some (.d x))).set l (some (.ot [])))) :
    WS p ρ (tPar3 i j l (tCons (tLst tNil) (tCons (tVar r0) (tCons tDNewT tNil)))) P := fun G σ H hh E kn kr kb kc => by
  obtain ⟨sv, h1, v, h2, h3⟩ := hh.slot r0 _ e
  subst h2
  refine ⟨sz (Nat.zero_le _), fun a ha => ⟨v, h1, fun c hc => ?_⟩⟩
  have s1 := hh.mem.growO (o := .lst []) ha
  have h1 := hh.setNew (i := i) (c := .ol []) s1 (Nil.no ha) ⟨a, [], rfl, hh.mem.fresh ha, upd_same, .nil⟩
  have h2 := h1.setD (i := j) h3
  have s5 := h2.mem.growO (o := .dT []) hc
  have h6 := h2.setNew (i := l) (c := .ot []) s5 (Nil.no hc) ⟨c, [], rfl, h2.mem.fresh hc, upd_same, .nil⟩
  exact ⟨_, _, _, rfl, kn _ G _ _ h Ex.rfl' h6⟩
theorem RpL.last {K : PySem.W.Frag} {h : Hnd} {G : Hp} {vs : List V} {xs : List D} {x : D} (r : RpL K h G vs (xs ++ [x])) : ∃ v, vs[vs.length - 1]? = some v ∧ Rp K h G v x ∧ RpL K h G vs.dropLast xs := by
  have hl := r.length
  rw [List.length_append, List.length_singleton] at hl
  obtain ⟨v, h1, h2⟩ := r.get (i := xs.length) (d := x) (by rw [List.getElem?_append_right (Nat.le_refl _), Nat.sub_self]; rfl)
  refine ⟨v, by rw [hl, Nat.add_sub_cancel]; exact h1, h2, ?_⟩
  have h3 := r.take xs.length
  rw [List.take_append_of_le_length (Nat.le_refl _), List.take_length] at h3
  rw [List.dropLast_eq_take, hl, Nat.add_sub_cancel]
  exact h3
/-- b = [a.pop()] + .. -/
theorem ws_popcat {i j : Nat} {xs : List D} {x : D} (e : ρ[i]? = some (some (.ol (xs ++ [x])))) (h : WE p (ρ.set i (some (.ol xs))) tb fun y => ∃ ys, y = .lst ys ∧ ys.length < 4000000 ∧ P.n ((ρ.set i (some (.ol xs))).set j (some (.d (.lst (x :: ys)))))) :
    WS p ρ (tAsg (tOp rCat (tLst (tCons (tBM0 p.K "list" rPop (tVar i)) tNil)) tb) (gName j)) P := fun G σ H hh E kn kr kb kc => by
  obtain ⟨sv, h1, a, vs, h2, ow, h4, h5⟩ := hh.slot i _ e
  subst h2
  obtain ⟨v, hv, rv, rd⟩ := h5.last
  refine ⟨.ref a, h1, .inl ⟨rfl, vs, sq_of h4⟩, a, vs, v, rfl, rfl, h4, hv, sz (by show 1 ≤ 4000000; decide), fun b hb => ?_⟩
  have hh1 : Hold p (ρ.set i (some (.ol xs))) G σ (upd H a (.lst vs.dropLast)) := hh.write e rfl h1 ow ⟨a, _, rfl, ow, upd_same, rd⟩
  have g1 := hh1.mem.grow (o := .lst [v]) hb
  have hh2 := hh1.step g1
  refine h _ σ _ hh2 _ fun y w G3 H3 ⟨ys, ey, hz, hP⟩ s3 r3 => ?_
  subst ey
  obtain ⟨c, ws, ew, ht, hm⟩ := r3.lst_inv
  subst ew
  have hh3 := hh2.step s3
  have hb3 : H3 b = some (.lst [v]) := hh3.mem.sub _ _ (s3.ex _ _ upd_same)
  have hz2 := hm.length
  refine ⟨b, c, [v], ws, rfl, rfl, hb3, hh3.mem.sub _ _ ht, sz (by show 1 + ws.length ≤ 4000000; omega), fun q hq => ?_⟩
  have g4 := hh3.mem.grow (o := .lst ([v] ++ ws)) hq
  have hh4 := hh3.step g4
  have ex4 : Ex G (upd G3 q (.lst ([v] ++ ws))) := ex_tr (ex_tr g1.ex s3.ex) g4.ex
  exact kn _ _ _ _ hP ex4 (hh4.setD (.lst upd_same (.cons (rmono rv ex4) (lmono hm g4.ex))))
/-- <= of lists of ints -/
def rLeL (K : PySem.W.Frag) : R2 := fun x y H Q => ∃ (a b : Addr) (ns ms : List Int), x = .ref a ∧ y = .ref b ∧ SqL K H a (ns.map V.int) ∧ SqL K H b (ms.map V.int) ∧
  Q (.bl (SeqAt.firstLt (fun j => decide (ns.getD j 0 = ms.getD j 0)) (fun j => decide (ns.getD j 0 ≤ ms.getD j 0)) (decide (ns.length ≤ ms.length)) (List.range (min ns.length ms.length)))) H
/-- what stands in an array of ints -/
theorem arr_int {its : List Value} {ns : List Int} (r : IntsAre its ns) {j : Nat} (hj : j < its.toArray.size) : ∃ t, its.toArray[j] = .int (ns.getD j 0) t := IntsAre.int_at r _ _ (by
  rw [List.size_toArray] at hj
  simp [hj])
theorem eq_ints {A : Around} {s : Shared} (i j : Int) (t u : Tok) : SeqAt.EqAt A s (.int i t) (.int j u) (decide (i = j)) := by
  rw [show decide (i = j) = (i == j) by by_cases h : i = j <;> simp [h]]
  exact SeqAt.EqAt.int_int _ _ _ _
theorem op_leL {X : Cx} (hu : X.A.units < cLine) : OpR X (compareOp .LtE) (rLeL X.K) := by
  rintro pins s σ H x y v u Q I rx ry ⟨a, b, ns, ms, rfl, rfl, ha, hb, q⟩
  cases rx; cases ry
  rcases I.list ha with ⟨vs, rv, ⟨o, m, g1, g2, _, g4⟩, _⟩
  rcases I.list hb with ⟨ws, rw', ⟨o', m', k1, k2, _, k4⟩, _⟩
  have iv := Vals.ints rv
  have iw := Vals.ints rw'
  have lv : vs.toArray.size = ns.length := (List.size_toArray).trans iv.length
  have lw : ws.toArray.size = ms.length := (List.size_toArray).trans iw.length
  have le := SeqAt.RcOp.lists_le (e := fun j => decide (ns.getD j 0 = ms.getD j 0)) (r := fun j => decide (ns.getD j 0 ≤ ms.getD j 0)) ⟨o, g1, g2, m, g4⟩ ⟨o', k1, k2, m', k4⟩ hu
    (fun j h1 h2 => by
      rcases arr_int iv h1 with ⟨t, e1⟩
      rcases arr_int iw h2 with ⟨t', e2⟩
      rw [e1, e2]; exact eq_ints _ _ _ _)
    (fun j h1 h2 _ => by
      rcases arr_int iv h1 with ⟨t, e1⟩
      rcases arr_int iw h2 with ⟨t', e2⟩
      rw [e1, e2]; exact fun _ _ _ _ h => le_int h)
  rw [lv, lw] at le
  exact (le X.prog X.w X.xe (EP X pins σ Q) ⟨.bl _, H, I, rfl, q⟩ : wpAny (model X.prog X.w) X.A (compareOp .LtE (.ref a) (.ref b)) (EP X pins σ Q) X.xe s)
theorem roomU {A : Around} {k : Nat} (hr : Room k A) : A.units < cLine := by have := hr.un; omega
theorem op_leLK {X : Cx} {K0 : PySem.W.Frag} (hK : X.K = K0) (hu : X.A.units < cLine) : OpR X (compareOp .LtE) (rLeL K0) := hK ▸ op_leL hu
end
section
variable {p : Par} {ρ : Rho} {Q : D → Prop} {ta tb tc te tl th : TE} {tt tu : TT} {P : Post} {ts tv : TS} {g : TG}
def firstI (ns ms : List Int) : Bool := SeqAt.firstLt (fun j => decide (ns.getD j 0 = ms.getD j 0)) (fun j => decide (ns.getD j 0 ≤ ms.getD j 0)) (decide (ns.length ≤ ms.length)) (List.range (min ns.length ms.length))
/-- a <= b <= c of lists of ints -/
theorem we_chainL (h : WE p ρ ta fun x => ∃ ns : List Int, x = .lst (ns.map D.int) ∧ WE p ρ tb fun y => ∃ ms : List Int, y = .lst (ms.map D.int) ∧ (firstI ns ms = true → WE p ρ tc fun z => ∃ ks : List Int, z = .lst (ks.map D.int) ∧ Q (.bl (firstI ms ks))) ∧ (firstI ns ms = false → Q (.bl false))) :
    WE p ρ (tChain (rLeL p.K) (rLeL p.K) ta tb tc) Q := fun G σ H hh Qv k =>
  h G σ H hh _ fun x v G1 H1 ⟨ns, e1, h2⟩ s1 r1 => h2 G1 σ H1 (hh.step s1) _ fun y w G2 H2 ⟨ms, e2, q1, q2⟩ s2 r2 => by
    subst e1 e2
    obtain ⟨a, us, ev, hs, hl⟩ := r1.lst_inv
    obtain ⟨b, ws, ew, ht, hm⟩ := r2.lst_inv
    subst ev ew
    rw [hl.ints] at hs
    rw [hm.ints] at ht
    have hh2 := (hh.step s1).step s2
    refine ⟨a, b, ns, ms, rfl, rfl, lq hh2.mem.sub (s2.ex _ _ hs), lq hh2.mem.sub ht, firstI ns ms, rfl, ?_⟩
    cases hb : firstI ns ms with
    | false => rw [if_neg (by decide)]; exact k _ _ G2 H2 (q2 hb) (s1.trans s2) (.bl _)
    | true =>
      rw [if_pos rfl]
      refine q1 hb G2 σ H2 hh2 _ fun z u G3 H3 ⟨ks, e3, q⟩ s3 r3 => ?_
      subst e3
      obtain ⟨c, zs, ez, hu, hn⟩ := r3.lst_inv
      subst ez
      rw [hn.ints] at hu
      have hh3 := hh2.step s3
      exact ⟨b, c, ms, ks, rfl, rfl, lq hh3.mem.sub (s3.ex _ _ ht), lq hh3.mem.sub hu, k _ _ G3 H3 q ((s1.trans s2).trans s3) (.bl _)⟩
/-- a is not b, of flags -/
theorem we_isnotB (h : WE p ρ ta fun x => ∃ a, x = .bl a ∧ WE p ρ tb fun y => ∃ b, y = .bl b ∧ Q (.bl (!decide (a = b)))) : WE p ρ (tOp (fun x y H Q => ∃ a b, x = .bl a ∧ y = .bl b ∧ Q (.bl (!decide (a = b))) H) ta tb) Q :=
  we_op (h.imp fun x ⟨a, ex, h⟩ => h.imp fun y ⟨b, ey, q⟩ => fun G H v w m r1 r2 Qv k => by
    subst ex ey
    cases r1
    cases r2
    exact ⟨a, b, rfl, rfl, k _ _ G H q m.refl (.bl _)⟩)
end
end Cal
set_option Elab.async false
set_option linter.all false
set_option maxRecDepth 100000
set_option maxHeartbeats 4000000
namespace Cal
open PySem L2 PyProof.Rows
open Evl (Ex sq_of st_of)
/-! ### objects of a class of the program -/
def putD (f : Str) (y : D) : List (Str × D) → List (Str × D)
  | [] => [(f, y)]
  | (g, x) :: r => if g = f then (g, y) :: r else (g, x) :: putD f y r
section
variable {K : PySem.W.Frag} {h : Hnd} {G : Hp}
theorem RpF.length : ∀ {vs : List (Str × V)} {fs : List (Str × D)}, RpF K h G vs fs → vs.length = fs.length
  | [], [], _ => rfl
  | v :: vs, d :: ds, r => by cases r with | cons a b => rw [List.length_cons, List.length_cons, RpF.length b]
  | [], d :: ds, r => by cases r
  | v :: vs, [], r => by cases r
theorem RpF.lookup {f : Str} {y : D} : ∀ {vs : List (Str × V)} {fs : List (Str × D)}, RpF K h G vs fs → fs.lookup f = some y → ∃ v, vs.lookup f = some v ∧ Rp K h G v y
  | [], [], _, e => by cases e
  | v :: vs, d :: ds, r, e => by
    cases r with
    | @cons g v _ d _ a b =>
      rw [lookup_if] at e ⊢
      by_cases hg : f = g
      · rw [if_pos hg] at e ⊢
        cases e
        exact ⟨v, rfl, a⟩
      · rw [if_neg hg] at e ⊢
        exact RpF.lookup b e
  | [], d :: ds, r, _ => by cases r
  | v :: vs, [], r, _ => by cases r
theorem RpF.put {f : Str} {v : V} {y : D} (q : Rp K h G v y) : ∀ {vs : List (Str × V)} {fs : List (Str × D)}, RpF K h G vs fs → RpF K h G (putF f v vs) (putD f y fs)
  | [], [], _ => .cons q .nil
  | x :: vs, d :: ds, r => by
    cases r with
    | @cons g v' _ d' _ a b =>
      rw [putF, putD]
      by_cases hg : g = f
      · rw [if_pos hg, if_pos hg]; exact .cons q b
      · rw [if_neg hg, if_neg hg]; exact .cons a (RpF.put q b)
  | [], d :: ds, r => by cases r
  | v :: vs, [], r => by cases r
end
section
variable {p : Par} {ρ : Rho} {Q : D → Prop} {ta tb te tl th : TE} {tt tu : TT} {P : Post} {ts tv : TS} {g : TG}
theorem look_mem {f : Str} {y : D} : ∀ {fs : List (Str × D)}, fs.lookup f = some y → f ∈ fs.map (·.1)
  | [], e => by cases e
  | d :: ds, e => by
    rw [show d = (d.1, d.2) from rfl, lookup_if] at e
    by_cases h : f = d.1
    · rw [h]; exact List.mem_cons_self
    · rw [if_neg h] at e
      exact List.mem_cons_of_mem _ (look_mem e)
theorem putD_mem {f g : Str} {y : D} : ∀ {fs : List (Str × D)}, g ∈ (putD f y fs).map (·.1) → g = f ∨ g ∈ fs.map (·.1)
  | [], h => by
    rw [putD] at h
    exact .inl (List.mem_singleton.mp h)
  | d :: ds, h => by
    rw [show d = (d.1, d.2) from rfl, putD] at h
    by_cases hd : d.1 = f
    · rw [if_pos hd] at h
      exact .inr h
    · rw [if_neg hd] at h
      rcases List.mem_cons.mp h with h | h
      · exact .inr (by rw [h]; exact List.mem_cons_self)
      · rcases putD_mem h with h | h
        · exact .inl h
        · exact .inr (List.mem_cons_of_mem _ h)
/-- e.f -/
theorem we_fld {f : Str} (h : WE p ρ te fun x => ∃ C fs y, x = .ins C fs ∧ fs.lookup f = some y ∧ Q y) : WE p ρ (tFld p.K te f) Q := fun G σ H hh Qv k =>
  h G σ H hh _ fun x v G1 H1 ⟨C, fs, y, e, hl, q⟩ s1 r1 => by
    subst e
    cases r1 with
    | @ins a _ dx vf _ ha hr hk =>
      obtain ⟨w, w1, w2⟩ := hr.lookup hl
      exact ⟨a, C, dx, vf, w, rfl, s1.sub _ _ ha, hk.1, hk.2 f (look_mem hl), w1, k y w G1 H1 q s1 w2⟩
/-- self.f = e, of the object that is being made -/
theorem ws_sfld {i : Nat} {b C : Addr} {fs : List (Str × D)} {f : Str} (e : ρ[i]? = some (some (.oi b C fs))) (hc : Cls p.K C) (hn : NoAttr p.K C f) (hl : fs.length < 1000) (h : WE p ρ te fun y => P.n (ρ.set i (some (.oi b C (putD f y fs))))) :
    WS p ρ (sFld p.K (tVar i) te f) P := fun G σ H hh E kn kr kb kc =>
  h G σ H hh _ fun y v G1 H1 hP s1 r1 => by
    have hh1 := hh.step s1
    obtain ⟨sv, h1, a, dx, vs, h2, ow, h4, h5, h6⟩ := hh1.slot i _ e
    subst h2
    have hz := h5.length
    refine ⟨.ref a, h1, a, C, dx, vs, rfl, h4, hc, hn, by omega, kn _ G1 σ _ hP s1.ex ?_⟩
    exact hh1.write e rfl h1 ow ⟨a, dx, _, rfl, ow, upd_same, h5.put r1, h6.1, h6.2.1, fun g hg => by
      rcases putD_mem hg with z | z
      · rw [z]; exact hn
      · exact h6.2.2 g z⟩
end
/-- the promise of __init__: the arguments behind self, what the object is then, or an error -/
def spMk (K : PySem.W.Frag) (mg : Str → Option Value) (C : Addr) (S : Addr → List D → (Out → Prop) → Prop) : Sp := fun vs H Q E => ∃ h G H1 x dx us ds R, vs = .ref x :: us ∧ H = upd (upd H1 dx (.own x)) x (.ins C dx []) ∧ H1 x = none ∧ H1 dx = none ∧ dx ≠ x ∧
  RpL K h G us ds ∧ Mem ⟨K, h, H1, G⟩ G H1 ∧ S C ds R ∧ (∀ fs G' H', R (.ok (.ins C fs)) → Mem ⟨K, h, H1, G⟩ G' H' → Slot ⟨K, h, H1, G⟩ G' H' (some (.ref x)) (.oi x C fs) → Q .non H') ∧
  ∀ y fs C' d G' H', R (.ex y fs) → mg y = some (.ref C') → Mem ⟨K, h, H1, G⟩ G' H' → XR K h G' d fs → E (.ref C') d H'
structure MakX (P : Program) (w : World) (K : PySem.W.Frag) (mg : Str → Option Value) (base : Heap) (k : Nat) (x : Str) (C : Addr) (ps : List Str) (S : Addr → List D → (Out → Prop) → Prop) : Prop where
  ex : ∃ f fd, mg x = some (.ref C) ∧ Mk K C f ∧ FnOk P w K mg base (L2.CX P w) k f fd ps (spMk K mg C S) ∧ Binds K fd ps []
section
variable {X : Cx} {x : Str} {p pos : Pos} {e : Expr} {es : List Expr} {t : TA} {k : Nat} {ps : List Str} {C : Addr} {S : Addr → List D → (Out → Prop) → Prop}
/-- what raises nothing when it is made so -/
theorem pe_mk0 (F : MakX X.prog X.w X.K X.mg X.base k x C ps S) (hr : Room (k + 1) X.A) (ha : PA X (e :: es) t) (hg : Gl X x := by rfl) (hdb : (x == ("__debug__" : Str)) = false := by decide)
    (he : starEach (e :: es) X.env = (false, eval e X.env) :: starEach es X.env := by rfl) (hpl : (backTo pos (starEach es X.env)).any (·.1) = false := by rfl) : PE X (.Call (.Name x p) (e :: es) [] pos) (tMake C (spMk X.K X.mg C S) [] (fun _ _ _ => False) t) := by
  obtain ⟨f, fd, h1, h2, h3, h4⟩ := F.ex
  exact pe_make h2 h3 hr hg h1 h4 .nil (passes_call takes0 fun _ _ _ _ z => z) ha hdb he hpl
end
section
variable {p : Par} {ρ : Rho} {Q : D → Prop} {ta tb te tl th : TE} {tt tu : TT} {P : Post} {ts tv : TS} {g : TG} {mg : Str → Option Value}
theorem we_mk {C : Addr} {S : Addr → List D → (Out → Prop) → Prop} {ta : TA} (h : WA p ρ ta fun ds => S C ds (Out.cas Q fun _ _ => False)) : WE p ρ (tMake C (spMk p.K mg C S) [] (fun _ _ _ => False) ta) Q := fun G σ H hh Qv k =>
  h G σ H hh _ fun ds vs G1 H1 q s1 r1 x dx hx hdx hne => by
    have hh1 := hh.step s1
    refine ⟨p.h, G1, H1, x, dx, vs, ds, _, by rw [List.append_nil], rfl, hx, hdx, hne, r1, hh1.mem.refl, q, fun fs G' H' z m sl => ?_, fun y fs C' d G' H' z _ _ _ => z.elim⟩
    obtain ⟨x', n⟩ := sl.up hh1.mem rfl
    obtain ⟨o, e4, ow, r⟩ := x'.toD rfl
    obtain ⟨o2, e5, ow2, _⟩ := sl.toD rfl
    have m2 := Mem.know (p := ⟨p.K, p.h, H1, G1⟩) m ow2 e4 (x'.nt rfl e4).tbl
    exact ⟨rfl, k _ _ _ _ z (s1.trans m2.1) r⟩
end
section
variable {P : Program} {w : World} {K : PySem.W.Frag} {mg : Str → Option Value} {base : Heap}
/-- the first state of __init__: the object, and the arguments -/
theorem hold_self {N : List Str} {h : Hnd} {G H1 : Hp} {x dx C : Addr} {us : List V} {ds : List D} (hc : Cls K C) (hx : H1 x = none) (hdx : H1 dx = none) (hne : dx ≠ x) (m : Mem ⟨K, h, H1, G⟩ G H1) (r : RpL K h G us ds) (hN : us.length + 1 ≤ N.length) :
    Hold ⟨K, h, H1, G⟩ ((rho0 N (.non :: ds)).set 0 (some (.oi x C []))) G (L2.start N (.ref x :: us)) (upd (upd H1 dx (.own x)) x (.ins C dx [])) := by
  have m1 := m.growO (o := .own x) hdx
  have hx1 : upd H1 dx (HO.own x) x = none := by rw [upd_ne (Ne.symm hne)]; exact hx
  have hb : Hold ⟨K, h, H1, G⟩ (rho0 N (.non :: ds)) G (L2.start N (.non :: us)) H1 := hold0 m (.cons .non r)
  have hb1 := hb.step m1
  have s2 := hb1.mem.growO (o := .ins C dx []) hx1
  have h3 := hb1.setNew (i := 0) (c := .oi x C []) s2 (Nil.no hx1) ⟨x, dx, [], rfl, hb1.mem.fresh hx1, upd_same, .nil, rfl, hc, fun g hg => by cases hg⟩
  have e : (L2.start N (.non :: us)).set 0 (some (.ref x)) = L2.start N (.ref x :: us) := rfl
  rw [e] at h3
  exact h3
/-- a class with its __init__, and the names that its objects have for attributes -/
structure CSrc (K : PySem.W.Frag) (mg : Str → Option Value) (x : Str) (fl : List Str) (st : Stmt) (q : Str) : Prop where
  ex : ∃ C f fd, mg x = some (.ref C) ∧ Mk K C f ∧ Cls K C ∧ Fun K "__init__" q st f fd ∧ ∀ g, g ∈ fl → NoAttr K C g
theorem mkC {x q : Str} {fl : List Str} {st : Stmt} {N ps : List Str} {k : Nat} {S : Addr → List D → (Out → Prop) → Prop} (F : CSrc K mg x fl st q) (sc : FnScope N ps (defScope st))
    (hb : ∀ (kV doc pm : Value) (an : Option Addr) (cdv ct : Value) (us : List Value), us.length = ps.length → bindArgs (PySem.W.fnOf "__init__" q (defArgs st) (defBody st) (defScope st) .none kV doc pm an cdv ct) ⟨us, []⟩ = pure (ps.zip us))
    (len : ∀ C ds R, S C ds R → ds.length + 1 = ps.length) (hN : ps.length ≤ N.length)
    (body : ∀ (C b f : Addr) (cdv : Value) (A : Around) (outer : List Env) (s : Shared) (H : Hp) (E : XK), Cls K C → (∀ g, g ∈ fl → NoAttr K C g) → Room k (A.deeper (envOfC q (defScope st) s.heap.objs.size f cdv)) →
      ∃ t, PSs (cxOf (L2.CX P w) P w K mg base N q (defScope st) f cdv A outer s H E) (defBody st) t ∧ ∀ (h : Hnd) (H0 G0 : Hp) ds R, S C ds R → XW mg ⟨K, h, H0, G0⟩ (fun _ x fs => R (.ex x fs)) (fun cls d _ H => E cls d H) →
        WS ⟨K, h, H0, G0⟩ ((rho0 N (.non :: ds)).set 0 (some (.oi b C []))) t ⟨fun ρ => ∃ fs, ρ[0]? = some (some (.oi b C fs)) ∧ R (.ok (.ins C fs)), fun _ => False, fun _ => False, fun _ => False⟩) :
    ∃ C, mg x = some (.ref C) ∧ Cls K C ∧ (∀ g, g ∈ fl → NoAttr K C g) ∧ MakX P w K mg base (k + 1) x C ps S := by
  obtain ⟨C, f, fd, hm, hk, hc, F, hn⟩ := F.ex
  refine ⟨C, hm, hc, hn, f, fd, hm, hk, F.okX sc (fun vs H Q E z => ?_) (fun cdv A outer s H vs Q E hr z => ?_), F.binds hb⟩
  · obtain ⟨h, G, H1, a, dx, us, ds, R, rfl, _, _, _, _, r, _, hs, _⟩ := z
    rw [List.length_cons, r.length]
    exact len C ds R hs
  · obtain ⟨h, G, H1, a, dx, us, ds, R, rfl, rfl, hx, hdx, hne, r, m, hs, q, qx⟩ := z
    have hl := len C ds R hs
    have hz := r.length
    obtain ⟨t, ht, hw⟩ := body C a f cdv A outer s _ E hc hn hr
    refine ⟨t, ht, hw h H1 G ds R hs (fun ρ G' σ H' x fs C' d z hm' hh xr => qx x fs C' d G' H' z hm' hh.mem xr) G _ _ (hold_self hc hx hdx hne m r (by omega)) _ (fun ρ' G' σ' H' z e hh => ?_) (fun _ _ _ _ z => z.elim) (fun _ _ _ _ z => z.elim) fun _ _ _ _ z => z.elim⟩
    obtain ⟨fs, e0, hR⟩ := z
    obtain ⟨sv, e1, sl⟩ := hh.slot 0 _ e0
    obtain ⟨a', dx', vs', h2, ow, h4, h5, h6, h7⟩ := sl
    subst h6 h2
    exact q fs G' H' hR hh.mem ⟨a', dx', vs', rfl, ow, h4, h5, rfl, h7⟩
end
end Cal
set_option Elab.async false
set_option linter.all false
set_option maxRecDepth 100000
set_option maxHeartbeats 4000000
namespace PySem
open Sem (wp)
open AutoSeq1
/-- a list grows by what a tuple has, whatever else hangs on the tuple's object -/
theorem extTup {l b : Addr} {as bs : Array Value} {n m : Nat} {dd : Option Addr} {sl : Array (Option Value)} (h1 : ¬(!as.isEmpty && Builtin.List.listTooLong (as.size + bs.size)) = true) (h2 : as.size + bs.size ≤ sizeLine) :
    Meets (Builtin.«list.extend» ⟨[.ref l, .ref b], []⟩) (fun _ R s => s.heap.get? l = some { cls := .type "list", dict := none, data := .seq as n, slots := #[] } ∧ s.heap.get? b = some { cls := .type "tuple", dict := dd, data := .seq bs m, slots := sl } ∧
      R (.ok (.ret Value.none)) { s with heap := s.heap.update l (Obj.mapSeq fun x => x ++ bs), toks := s.toks }) :=
  .of_wp fun prog w A R ⟨hp, g, d, tk, os⟩ ⟨e1, e2, q⟩ => by
    have f2 := sub_tuple_tuple
    have f4 := sub_tuple_list
    have f3 := sub_list_list
    have f5 := sub_list_tuple
    have f1 := idx_int
    have hz : (as ++ bs).size ≤ sizeLine + 1 := by rw [Array.size_append]; omega
    have ha : as.size ≤ sizeLine := by omega
    wp_walk using (wpAny_updateSeq e1 rfl (hz := ha) (_hz' := hz)), wpAny_loadPart' e1, wpAny_loadPart' e2
    exact ⟨_, rfl, q⟩
theorem enNew {v : Value} {o : Obj} {J : Heap → Prop} (B : Begins v o J) :
    Meets (Builtin.«enumerate.__new__» ⟨[.type "enumerate", v], []⟩) (fun _ R s => J s.heap ∧
      R (.ok (.ret (.ref (s.heap.push o).objs.size))) { s with heap := (s.heap.push o).push { cls := .type "enumerate", data := .fields #[.none, .bool false, .ref s.heap.objs.size, rawInt 0, .none, .none] } }) :=
  .of_wp fun prog w A R ⟨hp, g, d, tk, os⟩ ⟨e1, q⟩ => by
    have hs := sub_enumerate
    have hi : ∀ {A' : Around} {E : Value → Shared → Prop} {Q : Value → Shared → Prop}, Q (.ref hp.objs.size) ⟨hp.push o, g, d, tk, os⟩ → wpAny (model prog w) A' (pyIter v) Q E ⟨hp, g, d, tk, os⟩ :=
      fun z => B.iter prog w _ _ ⟨hp, g, d, tk, os⟩ _ e1 z
    wp_walk using hi
    refine wpAny_stack_any fun st => wpAny_pure ?_
    split
    · rename_i c _ _ _ _ _
      cases (c == Value.type "enumerate") <;> (wp_walk using hi; exact ⟨_, rfl, q⟩)
    · wp_walk using hi
      exact ⟨_, rfl, q⟩
section
variable {prog : Program} {w : World} {A : Around} {E : Value → Shared → Prop} {s : Shared}
/-- enumerate(v): two new objects -/
theorem enBegin {v : Value} {o : Obj} {J : Heap → Prop} {Q : Value → Shared → Prop} (B : Begins v o J) (h1 : J s.heap)
    (h : ∀ h', IsEnum h' (s.heap.objs.size + 1) s.heap.objs.size 0 .none → h'.get? s.heap.objs.size = some o → (∀ b ob, s.heap.get? b = some ob → h'.get? b = some ob) → Q (.ref (s.heap.objs.size + 1)) { s with heap := h' }) :
    wpAny (model prog w) A (call (.type "enumerate") [v]) Q E s := by
  refine callType_new F.called_enumerate (by decide) (F.typeCall_enumerate_1 _) (F.newCall_enumerate_1 _) (fun obj => F.args_object_init_2 obj _) F.entry_enumerate_new (enNew B) ⟨h1, ?_⟩
  have hz : (s.heap.push o).objs.size = s.heap.objs.size + 1 := Heap.size_push ..
  have z := Heap.get?_push_size (s.heap.push o) (o := { cls := .type "enumerate", data := .fields #[.none, .bool false, .ref s.heap.objs.size, rawInt 0, .none, .none] }) rfl
  show _ ∧ _
  rw [hz] at z ⊢
  exact ⟨⟨_, z, rfl⟩, h _ z (Heap.get?_push_of_some _ (Heap.get?_push_size _ B.free)) fun b ob x => Heap.get?_push_of_some _ (Heap.get?_push_of_some _ x)⟩
end
end PySem
namespace Cal
open PySem L2 PyProof.Rows
open Evl (Ex sq_of st_of)
/-! ### xs.extend(t), t a tuple -/
def rExtT (K : PySem.W.Frag) : V → List V → Hp → VK → Prop := fun x us H Q => ∃ l b xs ys, x = .ref l ∧ us = [.ref b] ∧ H l = some (.lst xs) ∧ SqT K H b ys ∧ xs.length + ys.length ≤ sizeLine ∧ Q .non (upd H l (.lst (xs ++ ys)))
theorem mt_extT {X : Cx} {K0 : PySem.W.Frag} (hK : X.K = K0) : MtM X "list.extend" (rExtT K0) := by
  subst hK
  rintro pins s σ H x us v ws Q I rx rv ⟨l, b, xs, ys, rfl, rfl, hl, hb, hz, q⟩
  cases rx
  obtain ⟨u, rfl, ru⟩ := rv.one
  cases ru
  obtain ⟨_, as, n, ra, la, ea⟩ := I.lstM hl
  obtain ⟨bs, rb, ⟨⟨cl, dd, dt, sl⟩, eb, hc, m, hd⟩, _⟩ := I.tuple hb
  dsimp only at hc hd
  subst hc hd
  have n1 := ra.length
  have n2 := rb.length
  have hs : as.toArray.size + bs.toArray.size ≤ sizeLine := by rw [List.size_toArray, List.size_toArray]; omega
  refine call_meets F.slot_list_extend ⟨_, ea, rfl⟩ F.entry_list_extend (F.args_list_extend_2 _ _) (extTup (by rw [notLongL hs, Bool.and_false]; exact Bool.false_ne_true) hs) ⟨ea, eb, .non, _, I.lset (its' := as ++ bs) hl ea (by simp) (ra.append rb) ?_, rfl, q⟩
  rw [List.length_append]
  exact hz
section
variable {p : Par} {ρ : Rho} {Q : D → Prop} {ta tb te tl th : TE} {tt tu : TT} {P : Post} {ts tv : TS} {g : TG}
/-- xs.extend(t), xs slot i's own -/
theorem ws_extendT {i : Nat} {xs : List D} (e : ρ[i]? = some (some (.ol xs))) (h : WE p ρ te fun x => ∃ ys, x = .tup ys ∧ xs.length + ys.length ≤ 4000000 ∧ P.n (ρ.set i (some (.ol (xs ++ ys))))) :
    WS p ρ (tDrop (tBM p.K "list" (rExtT p.K) (tVar i) (tCons te tNil))) P := fun G σ H hh E kn kr kb kc => by
  obtain ⟨sv, h1, a, vs, h2, ow, h4, h5⟩ := hh.slot i _ e
  subst h2
  refine ⟨.ref a, h1, Or.inl ⟨rfl, vs, sq_of h4⟩, h G σ H hh _ fun d w G' H' ⟨ys, ey, hl, z⟩ s r => ?_⟩
  subst ey
  obtain ⟨b, ws, ew, hb, hlr⟩ := r.tup_inv
  subst ew
  have hh' := hh.step s
  obtain ⟨sv', h1', a', vs', h2', ow', h4', h5'⟩ := hh'.slot i _ e
  subst h2'
  rw [h1] at h1'
  cases h1'
  have n1 := h5'.length
  have n2 := hlr.length
  exact ⟨a, b, vs', ws, rfl, rfl, h4', tqT hh'.mem.sub hb, by rw [sizeLine_eq]; omega, kn _ G' σ _ z s.ex (hh'.write e rfl h1 ow' ⟨a, _, rfl, ow', upd_same, h5'.append hlr⟩)⟩
end
end Cal
set_option Elab.async false
set_option linter.all false
set_option maxRecDepth 100000
set_option maxHeartbeats 4000000
namespace Cal
open PySem L2 PyProof.Rows
open Evl (Ex sq_of st_of)
/-! ### enumerate of a tuple -/
/-- the tuple at a, each item behind its number in a new pair -/
def IteT (K : PySem.W.Frag) (a : Addr) : It :=
  ⟨fun i H => ∃ (xs : List V) (x : V), SqT K H a xs ∧ xs[i]? = some x, fun i H v H' => ∃ T x, v = .ref T ∧ H T = none ∧ H' = upd H T (.tup [.int (i : Nat), x]) ∧ ∀ xs, SqT K H a xs → xs[i]? = some x,
    fun i H => ∃ xs : List V, SqT K H a xs ∧ xs.length = i⟩
/-- a tuple's object is no other kind of object -/
theorem tup_apart {h : Heap} {a b : Addr} {xs : Array Value} {o : Obj} (ht : IsTup h a xs) (ho : h.get? b = some o) (hc : o.cls ≠ .type "tuple") : a ≠ b := fun z => by
  obtain ⟨o', e, c, _⟩ := ht
  rw [z, ho] at e
  cases e
  exact hc c
theorem turn_enT {P : Program} {w : World} {K : PySem.W.Frag} {elts : List Expr} {kk : Nat} {tpos : Pos} (a e it : Addr) :
    Turn P w K (.Tuple elts kk tpos) (IteT K a) [e, it] e fun i h => (∃ old, IsEnum h e it ((i : Nat) : Int) old) ∧ h.IsTupleIter it a i ∧ e ≠ it := by
  have two : ∀ {b : Addr}, b ∈ [e, it] → b = e ∨ b = it := fun hb => by simpa using hb
  have draws : ∀ {X : Cx} {pins : List (Addr × Obj)} {σ : L2.St} {H : Hp} {s : Shared} {i : Nat} {old : Value} {its : List Value}, Inv X pins σ H s → X.calm = true → IsEnum s.heap e it (i : Int) old → s.heap.IsTupleIter it a i → e ≠ it → IsTup s.heap a its.toArray →
      Draws X.prog X.w X.A.in1 it [it, a] its.toArray.size (fun i v => its.toArray[i]? = some v) (fun i h => h.IsTupleIter it a i ∧ h.IsTuple a its.toArray) ∧ e ∉ [it, a] := fun {X pins σ H s i old its} I hc he hi hne ht => by
    obtain ⟨o, ho, hcl, _⟩ := id hi
    have n1 : a ≠ it := tup_apart ht ho (by rw [hcl]; decide)
    have n2 : a ≠ e := tup_apart ht he (by show Value.type "enumerate" ≠ _; decide)
    refine ⟨Draws.tuple (A := X.A.in1) (show X.A.in1.handled = none from I.ok.hd hc) it a n1 its.toArray, fun hm => ?_⟩
    rcases List.mem_cons.mp hm with z | z
    · exact hne z
    · exact n2 (List.mem_singleton.mp z).symm
  refine ⟨List.mem_cons_self, ?_, ?_, ?_, ?_, ?_⟩
  · rintro i h ⟨⟨old, he⟩, ⟨o, ho, _, hd⟩, _⟩ b hb
    rcases two hb with z | z
    · rw [z]; exact ⟨_, he, fun v q => nomatch q⟩
    · rw [z]; exact ⟨o, ho, fun v q => by rw [hd] at q; cases q⟩
  · rintro i h h' ⟨⟨old, he⟩, hi, hne⟩ k
    exact ⟨⟨old, k e List.mem_cons_self _ he⟩, hi.at fun o q => k it (by simp) o q, hne⟩
  · rintro X rfl rfl rfl hc i pins s σ H E I hf ⟨⟨old, he⟩, hi, hne⟩ ⟨xs, x, hq, hx⟩
    obtain ⟨its, rv, ht, hz⟩ := I.tuple hq
    obtain ⟨u, hu, ru⟩ := rv.get hx
    obtain ⟨D, hef⟩ := draws I hc he hi hne ht
    have hlt : i < its.toArray.size := by rw [List.size_toArray]; exact (List.getElem?_eq_some_iff.mp hu).1
    have lte : e < s.heap.objs.size := Heap.lt_size he
    have lti : it < s.heap.objs.size := by obtain ⟨_, q, _⟩ := hi; exact Heap.lt_size q
    refine wpAny_pyNext_enum_itemD D he ⟨hi, ht⟩ hlt hne hef fun v h' tk hP ho hs hT _ hk => ?_
    have hv : v = u := by
      have z : its[i]? = some v := by simpa using hP
      rw [hu] at z; cases z; rfl
    subst hv
    refine ⟨_, rfl, wpAny_letOwnedTupleGo_enum (s := { s with heap := h', toks := tk + 1 }) ho fun h2 he2 sb => ?_⟩
    have hT2 : h2.get? s.heap.objs.size = some { cls := .type "tuple", data := .seq #[.int i tk, v] } := (sb.2 _ (Nat.ne_of_gt lte)).trans hT
    have new : ObjOk X.prog X.w (upd H s.heap.objs.size (.tup [.int (i : Nat), x])) h2 s.heap.objs.size (.tup [.int (i : Nat), x]) :=
      ⟨by show 2 ≤ sizeLine; decide, [.int i tk, v], .cons ⟨_, rfl⟩ (.cons ru .nil), ⟨_, hT2, rfl, _, rfl⟩⟩
    have I1 : Inv X pins σ (upd H s.heap.objs.size (.tup [.int (i : Nat), x])) { s with heap := h2, toks := tk + 1 } :=
      I.turnedNew (ch := [e, it]) (fun b ob hb q => (sb.2 b fun z => hb (by simp [z])).trans (hk b ob (fun z => hb (by simp [z])) (fun z => hb (by simp [z])) q)) hf (Nat.le_refl _) new
    have e1 : ((i + 1 : Nat) : Int) = (i : Int) + 1 := by omega
    refine ⟨.ref s.heap.objs.size, _, I1, rfl, ⟨_, x, rfl, I.hok.fresh (Nat.le_refl _), rfl, fun ys hy => by rw [I.tuple_inj hy hq]; exact hx⟩, ⟨⟨v, by rw [e1]; exact he2⟩, hs.1.at fun o q => (sb.2 it (Ne.symm hne)).trans q, hne⟩, fun b hb => ?_⟩
    have hb' : b < s.heap.objs.size := by
      rcases two hb with z | z
      · rw [z]; exact lte
      · rw [z]; exact lti
    rw [upd_ne (Nat.ne_of_lt hb')]
    exact (hf b hb).1
  · rintro X rfl rfl rfl hc i pins s σ H E I hf ⟨⟨old, he⟩, hi, hne⟩ ⟨xs, hq, hx⟩
    obtain ⟨its, rv, ht, hz⟩ := I.tuple hq
    obtain ⟨D, hef⟩ := draws I hc he hi hne ht
    have hl : its.toArray.size = i := by rw [List.size_toArray, ← rv.length]; exact hx
    obtain ⟨f0, f1, f2, f3, f4, f5⟩ := hf it (by simp)
    exact wpAny_pyNext_enum_endD D he ⟨hl ▸ hi, ht⟩ fun h' eb => ⟨rfl, I.turned (t' := s.toks) (fun b o hb q => eb b o hb q) f0 f1 f3 f4 f5⟩
  · rintro A i s Q E ⟨⟨_, he⟩, _⟩ h
    exact wpAny_pyIter_enum he h
def iEnumT (K : PySem.W.Frag) (ta : TA) : TI := fun σ H R => ta σ H fun vs H1 => ∃ a xs, vs = [.ref a] ∧ SqT K H1 a xs ∧ R (IteT K a) H1
theorem pi_enT {X : Cx} {K0 : PySem.W.Frag} {e : Expr} {ta : TA} {p pos tpos : Pos} {elts : List Expr} {kk : Nat} (hK : X.K = K0) (hg : Gl X "enumerate") (hm : X.mg "enumerate" = none) (ha : PA X [e] ta) (hs : starEach [e] X.env = [(false, eval e X.env)] := by rfl) :
    PI X (.Tuple elts kk tpos) (.Call (.Name "enumerate" p) [e] [] pos) (iEnumT K0 ta) := by
  subst hK
  refine ⟨fun pins s σ H R I h => Call_ (ld_blt I hg hm boot_enumerate (PyProof.Rows.callWith_type1 (thn (ha.run pos pins s σ H _ I h) fun us s1 ⟨vs, H1, I1, r1, a, xs, ex, hq, q⟩ => ?_) hs rfl))⟩
  subst ex
  obtain ⟨u, rfl, ru⟩ := r1.one
  cases ru
  obtain ⟨its, rv, ht, hz⟩ := I1.tuple hq
  refine enBegin (begins_tuple a its.toArray) ht fun h' he hi hk => wpAny_pyIter_enum he ?_
  refine ⟨s1.heap.objs.size + 1, [s1.heap.objs.size + 1, s1.heap.objs.size], _, _, H1, rfl, I1.kept (t' := s1.toks) hk, turn_enT a _ s1.heap.objs.size, ⟨⟨.none, he⟩, ⟨_, hi, rfl, rfl⟩, Nat.succ_ne_self _⟩, fun b hb => ?_, q⟩
  have hle : s1.heap.objs.size ≤ b := by
    rcases List.mem_cons.mp hb with z | z
    · rw [z]; exact Nat.le_add_right _ _
    · exact Nat.le_of_eq (List.mem_singleton.mp z).symm
  exact I1.fpOk hle (I1.hok.fresh hle)
end Cal
set_option Elab.async false
set_option linter.all false
set_option maxRecDepth 100000
set_option maxHeartbeats 4000000
namespace Cal
open PySem L2 PyProof.Rows
open Evl (Ex sq_of st_of)
/-! ### a list or a tuple, gone through; enumerate of a tuple -/
def iSeq (K : PySem.W.Frag) (tl : TE) : TI := fun σ H R => tl σ H fun x H1 => ∃ a, x = .ref a ∧ (((∃ xs, SqL K H1 a xs) ∧ R (Itl K a) H1) ∨ ((∃ xs, SqT K H1 a xs) ∧ R (Itt K a) H1))
theorem pi_seqK {X : Cx} {K0 : PySem.W.Frag} {tg l : Expr} {tl : TE} (hK : X.K = K0) (hl : PE X l tl) : PI X tg l (iSeq K0 tl) := by
  subst hK
  refine ⟨fun pins s σ H R I h => thn (hl.run pins s σ H _ I h) fun v s1 ⟨x, H1, I1, r1, a, e, q⟩ => ?_⟩
  subst e
  cases r1
  rcases q with ⟨⟨xs, hq⟩, q⟩ | ⟨⟨xs, hq⟩, q⟩
  · obtain ⟨its, rv, p, hz⟩ := I1.list hq
    exact wpAny_pyIter_list p.isList (pi_one (tk := s1.toks) I1 _ (turn_list a _) ⟨_, Heap.get?_push_size _ rfl, rfl, rfl⟩ q)
  · obtain ⟨its, rv, p, hz⟩ := I1.tuple hq
    exact wpAny_pyIter_tuple (show s1.heap.IsTuple a its.toArray from p) (pi_one (tk := s1.toks) I1 _ (turn_tuple a _) ⟨_, Heap.get?_push_size _ rfl, rfl, rfl⟩ q)
section
variable {p : Par} {ρ : Rho} {Q : D → Prop} {ta tb te tl th : TE} {tt tu : TT} {P : Post} {ts tv : TS} {g : TG}
theorem ws_forS {g : TG} (h : WE p ρ te fun x => ∃ xs, (x = .lst xs ∨ x = .tup xs) ∧ ∃ I : Nat → Rho → Prop, I 0 ρ ∧
    (∀ k x ρ', xs[k]? = some x → I k ρ' → WG p ρ' g x fun ρ2 => WS p ρ2 ts ⟨I (k + 1), P.r, P.n, I (k + 1)⟩) ∧ ∀ ρ', I xs.length ρ' → P.n ρ') : WS p ρ (tFor (iSeq p.K te) g ts) P := fun G σ H hh E kn kr kb kc =>
  h G σ H hh _ fun x v G0 H0 ⟨xs, e, I, h0, hs, hd⟩ s r => by
    have hh0 := hh.step s
    have turn : ∀ {vs : List V}, RpL p.K p.h G0 vs xs → ∀ k y σ' H', vs[k]? = some y → (∃ ρ' G', I k ρ' ∧ Ex G0 G' ∧ Hold p ρ' G' σ' H') →
        g y σ' H' fun σ2 H2 => ts { E with nx := fun σ3 H3 => ∃ ρ' G', I (k + 1) ρ' ∧ Ex G0 G' ∧ Hold p ρ' G' σ3 H3, ct := fun σ3 H3 => ∃ ρ' G', I (k + 1) ρ' ∧ Ex G0 G' ∧ Hold p ρ' G' σ3 H3, bk := E.nx } σ2 H2 := fun hl k y σ' H' hk ⟨ρ', G', hi, e, hh'⟩ => by
      obtain ⟨d, hd1, hd2⟩ := hl.get' hk
      exact hs k d ρ' hd1 hi G' σ' H' _ hh' (rmono hd2 e) _ fun ρ2 G2 σ2 H2 z e2 hh2 => z G2 σ2 H2 hh2 _ (fun ρ3 G3 σ3 H3 z3 e3 hh3 => ⟨ρ3, G3, z3, ex_tr (ex_tr e e2) e3, hh3⟩) kr (fun ρ3 G3 σ3 H3 z3 e3 hh3 => kn ρ3 G3 σ3 H3 z3 (ex_tr s.ex (ex_tr (ex_tr e e2) e3)) hh3)
        (fun ρ3 G3 σ3 H3 z3 e3 hh3 => ⟨ρ3, G3, z3, ex_tr (ex_tr e e2) e3, hh3⟩)
    rcases e with e | e
    · subst e
      obtain ⟨a, vs, ev, hq, hl⟩ := r.lst_inv
      exact ⟨a, ev, .inl ⟨⟨vs, lq hh0.mem.sub hq⟩, for_list (xs := vs) (fun k σ' H' => ∃ ρ' G', I k ρ' ∧ Ex G0 G' ∧ Hold p ρ' G' σ' H') ⟨ρ, G0, h0, Ex.rfl', hh0⟩ (fun k σ' H' _ ⟨ρ', G', hi, e, hh'⟩ => lq hh'.mem.sub (e _ _ hq)) (fun k x σ' H' hk hp => turn hl k x σ' H' hk hp)
        fun σ' H' ⟨ρ', G', hi, e, hh'⟩ => kn ρ' G' σ' H' (hd ρ' (by rw [← hl.length]; exact hi)) (ex_tr s.ex e) hh'⟩⟩
    · subst e
      obtain ⟨a, vs, ev, hq, hl⟩ := r.tup_inv
      exact ⟨a, ev, .inr ⟨⟨vs, tqT hh0.mem.sub hq⟩, for_tup (xs := vs) (fun k σ' H' => ∃ ρ' G', I k ρ' ∧ Ex G0 G' ∧ Hold p ρ' G' σ' H') ⟨ρ, G0, h0, Ex.rfl', hh0⟩ (fun k σ' H' _ ⟨ρ', G', hi, e, hh'⟩ => tqT hh'.mem.sub (Tp.ex e hq)) (fun k x σ' H' hk hp => turn hl k x σ' H' hk hp)
        fun σ' H' ⟨ρ', G', hi, e, hh'⟩ => kn ρ' G' σ' H' (hd ρ' (by rw [← hl.length]; exact hi)) (ex_tr s.ex e) hh'⟩⟩
theorem wf_lcS {tl : TE} {vs : List Nat} {Q : Cell → Prop} (h : WE p ρ tl fun x => ∃ xs, (x = .lst xs ∨ x = .tup xs) ∧ xs.length ≤ 4000000 ∧ ∃ I : Nat → List D → Prop, I 0 [] ∧
    (∀ k x acc, xs[k]? = some x → I k acc → acc.length ≤ k → WGp p vs (wipeR ρ vs) g x fun ρ2 => WT p ρ2 tt fun b => if b = true then WE p ρ2 te fun y => I (k + 1) (acc ++ [y]) else I (k + 1) acc) ∧ ∀ acc, I xs.length acc → Q (.ol acc)) :
    WF p ρ (tLc (iSeq p.K tl) g tt te vs) Q := fun G σ H hh Qv kk =>
  h G σ H hh _ fun x v G1 H1 ⟨xs, e, hz, I, h0, hs, hd⟩ s1 r1 => by
    have hh1 := hh.step s1
    rcases e with e | e
    · subst e
      obtain ⟨a, us, ev, hq, hl⟩ := r1.lst_inv
      refine ⟨a, ev, .inl ⟨⟨us, lq hh1.mem.sub hq⟩, fun Dl hn => lc_list (xs := us) (Lc p G1 H1 Dl I) (lc_start hh1 hn h0) (fun k H' _ L => ?_) (fun k y H' hk L => ?_) fun H' L => ?_⟩⟩
      · obtain ⟨acc, av, G', _, _, s, _⟩ := L
        exact lq s.sub (s.ex _ _ hq)
      · obtain ⟨d, hd1, hd2⟩ := hl.get' hk
        have hk' : k < us.length := (List.getElem?_eq_some_iff.mp hk).1
        exact lc_turn hh1 hn (by have := hl.length; omega) L (fun G' s => ⟨G', (hh1.step s).mem.refl, rmono hd2 s.ex⟩) fun acc hi hle => hs k d acc hd1 hi hle
      · obtain ⟨acc, av, G', hi, _, s, e, ow, r⟩ := L
        rw [hl.length] at hi
        exact kk _ Dl G' H' (hd acc hi) rfl (s1.trans s) (hh.mem.back s1 hn) ⟨Dl, av, rfl, ow, e, r⟩
    · subst e
      obtain ⟨a, us, ev, hq, hl⟩ := r1.tup_inv
      refine ⟨a, ev, .inr ⟨⟨us, tqT hh1.mem.sub hq⟩, fun Dl hn => lc_tup (xs := us) (Lc p G1 H1 Dl I) (lc_start hh1 hn h0) (fun k H' _ L => ?_) (fun k y H' hk L => ?_) fun H' L => ?_⟩⟩
      · obtain ⟨acc, av, G', _, _, s, _⟩ := L
        exact tqT s.sub (Tp.ex s.ex hq)
      · obtain ⟨d, hd1, hd2⟩ := hl.get' hk
        have hk' : k < us.length := (List.getElem?_eq_some_iff.mp hk).1
        exact lc_turn hh1 hn (by have := hl.length; omega) L (fun G' s => ⟨G', (hh1.step s).mem.refl, rmono hd2 s.ex⟩) fun acc hi hle => hs k d acc hd1 hi hle
      · obtain ⟨acc, av, G', hi, _, s, e, ow, r⟩ := L
        rw [hl.length] at hi
        exact kk _ Dl G' H' (hd acc hi) rfl (s1.trans s) (hh.mem.back s1 hn) ⟨Dl, av, rfl, ow, e, r⟩
theorem ws_forEnumT {g : TG} {ta : TA} (h : WA p ρ ta fun ds => ∃ xs, ds = [.tup xs] ∧ ∃ I : Nat → Rho → Prop, I 0 ρ ∧
    (∀ k x ρ', xs[k]? = some x → I k ρ' → WG p ρ' g (.tup [.int (k : Int), x]) fun ρ2 => WS p ρ2 ts ⟨I (k + 1), P.r, P.n, I (k + 1)⟩) ∧ ∀ ρ', I xs.length ρ' → P.n ρ') : WS p ρ (tFor (iEnumT p.K ta) g ts) P := fun G σ H hh E kn kr kb kc =>
  h G σ H hh _ fun ds vs0 G0 H0 ⟨xs, e, I, h0, hs, hd⟩ s r => by
    subst e
    cases r with
    | cons r rn =>
    cases rn
    obtain ⟨a, vs, ev, hq, hl⟩ := r.tup_inv
    subst ev
    have hh0 := hh.step s
    have hn := hl.length
    have sq : ∀ {G' H'}, Ex G0 G' → Ex G' H' → SqT p.K H' a vs := fun e1 e2 => tqT e2 (Tp.ex e1 hq)
    refine ⟨a, vs, rfl, tqT hh0.mem.sub hq, for_any (n := vs.length) (fun k σ' H' => ∃ ρ' G', I k ρ' ∧ Ex G0 G' ∧ Hold p ρ' G' σ' H') ⟨ρ, G0, h0, Ex.rfl', hh0⟩ (fun k σ' H' hk ⟨ρ', G', hi, e, hh'⟩ => ?_) (fun σ' H' ⟨ρ', G', hi, e, hh'⟩ => ⟨vs, sq e hh'.mem.sub, rfl⟩) (fun k x σ' H' H2 hk ⟨ρ', G', hi, e, hh'⟩ hy => ?_) fun σ' H' ⟨ρ', G', hi, e, hh'⟩ => kn ρ' G' σ' H' (hd ρ' (by rw [← hn]; exact hi)) (ex_tr s.ex e) hh'⟩
    · exact ⟨vs, vs[k], sq e hh'.mem.sub, List.getElem?_eq_getElem hk⟩
    · obtain ⟨T, x', e1, hT, e2, hx⟩ := hy
      subst e1 e2
      have hx' := hx vs (sq e hh'.mem.sub)
      obtain ⟨d, hd1, hd2⟩ := hl.get' hx'
      have gr := hh'.mem.grow (o := .tup [.int (k : Int), x']) hT
      have e4 := ex_tr e gr.ex
      refine hs k d ρ' hd1 hi _ σ' _ _ (hh'.step gr) (.tup upd_same (.cons (.int _) (.cons (rmono hd2 e4) .nil))) _ fun ρ2 G2 σ2 H2 z e2 hh2 => z G2 σ2 H2 hh2 _ (fun ρ3 G3 σ3 H3 z3 e3 hh3 => ⟨ρ3, G3, z3, ex_tr (ex_tr e4 e2) e3, hh3⟩) kr
        (fun ρ3 G3 σ3 H3 z3 e3 hh3 => kn ρ3 G3 σ3 H3 z3 (ex_tr s.ex (ex_tr (ex_tr e4 e2) e3)) hh3) (fun ρ3 G3 σ3 H3 z3 e3 hh3 => ⟨ρ3, G3, z3, ex_tr (ex_tr e4 e2) e3, hh3⟩)
end
end Cal
set_option Elab.async false
set_option linter.all false
set_option maxRecDepth 100000
set_option maxHeartbeats 4000000
namespace Cal
open PySem L2 PyProof.Rows
open Evl (Ex sq_of st_of)
section
variable {p : Par} {ρ : Rho} {Q : D → Prop} {ta tb te tl th : TE} {tt tu : TT} {P : Post} {ts tv : TS} {g : TG}
/-- a, b = two new things, neither of them captured -/
theorem ws_newPar {i j : Nat} (h : WF p ρ ta fun c1 => WF p ρ tb fun c2 => P.n ((ρ.set i (some c1)).set j (some c2))) :
    WS p ρ (tPar i j (tCons ta (tCons tb tNil))) P := fun G σ H hh E kn kr kb kc => by
  refine h G σ H hh _ fun c1 a G1 H1 q ho1 s1 n1 x1 => q G1 σ H1 (hh.step s1) _ fun c2 b G2 H2 q2 ho2 s2 n2 x2 => ?_
  exact ⟨_, _, rfl, kn _ G2 _ _ q2 (ex_tr s1.ex s2.ex) ((hh.setNew (i := i) s1 n1 x1).setNew (i := j) s2 n2 x2)⟩
end
end Cal
set_option Elab.async false
set_option linter.all false
set_option maxRecDepth 100000
set_option maxHeartbeats 4000000
namespace Cal
open PySem L2 PyProof.Rows HT
open Evl (Ex sq_of st_of)
/-! ### t[::-1], t a tuple -/
theorem filterMap_all {α β : Type} {f : α → Option β} {g : α → β} : ∀ {l : List α}, (∀ x ∈ l, f x = some (g x)) → l.filterMap f = l.map g
  | [], _ => rfl
  | x :: r, h => by
    rw [List.filterMap_cons, h x List.mem_cons_self, List.map_cons, filterMap_all fun y hy => h y (List.mem_cons_of_mem _ hy)]
theorem pickBack (xs : Array Value) : ((List.range xs.size).filterMap fun (k : Nat) => xs[(((xs.size : Int) - 1) + (k : Int) * (-1)).toNat]?) = xs.toList.reverse := by
  refine List.ext_getElem? fun i => ?_
  have e : ((List.range xs.size).filterMap fun (k : Nat) => xs[(((xs.size : Int) - 1) + (k : Int) * (-1)).toNat]?) = (List.range xs.size).map fun k => xs.toList.reverse.getD k .none := by
    refine filterMap_all fun k hk => ?_
    have hk := List.mem_range.mp hk
    have e1 : (((xs.size : Int) - 1) + (k : Int) * (-1)).toNat = xs.size - 1 - k := by omega
    rw [e1]
    show xs[xs.size - 1 - k]? = some (xs.toList.reverse.getD k .none)
    rw [List.getD_eq_getElem?_getD, List.getElem?_reverse (by rw [Array.length_toList]; exact hk), Array.length_toList, Array.getElem?_toList, Array.getElem?_eq_getElem (by omega)]
    rfl
  rw [e, List.getElem?_map]
  by_cases h : i < xs.size
  · rw [List.getElem?_range h]
    show some (xs.toList.reverse.getD i .none) = _
    rw [List.getD_eq_getElem?_getD, List.getElem?_eq_getElem (by rw [List.length_reverse, Array.length_toList]; exact h)]
    rfl
  · rw [List.getElem?_eq_none (by rw [List.length_range]; omega), List.getElem?_eq_none (by rw [List.length_reverse, Array.length_toList]; omega)]
    rfl
section
variable {prog : Program} {w : World} {A : Around} {E : Value → Shared → Prop} {s : Shared}
theorem slBack {sl : Addr} {vl vu vs : Value} {n : Nat} {Q : Int × Int × Nat → Shared → Prop} (hs : s.heap.IsSliceOf sl vl vu vs) (pl : IsPart vl none) (pu : IsPart vu none) (ps : IsPart vs (some (-1)))
    (h : Q ((n : Int) - 1, -1, n) s) : wpAny (model prog w) A (Builtin.Slice.sliceApplied (.ref sl) (pure (n : Int))) Q E s := by
  obtain ⟨o, ho, hc, hd⟩ := id hs
  unfold Builtin.Slice.sliceApplied Builtin.Slice.sliceFields
  refine wpAny_bind (wpAny_bind (wpAny_field ho hd (x := vl) rfl (wpAny_bind (wpAny_field ho hd (x := vu) rfl (wpAny_bind (wpAny_field ho hd (x := vs) rfl (wpAny_pure ?_)))))))
  refine wpAny_bind (slicePart_ ps ?_)
  show wpAny _ _ (if ((-1 : Int) == 0) = true then _ else _) _ _ s
  rw [if_neg (by decide)]
  refine wpAny_bind (slicePart_ pl (wpAny_bind (slicePart_ pu (wpAny_bind (wpAny_pure ?_)))))
  have e : Builtin.Slice.sliceAdjust none none (-1) (n : Int) = ((n : Int) - 1, -1) := by
    unfold Builtin.Slice.sliceAdjust
    simp
  show wpAny _ _ (match Builtin.Slice.sliceAdjust none none (-1) (n : Int) with | (lo, hi) => pure (lo, (-1 : Int), Builtin.Slice.slicePlaces lo hi (-1))) _ _ s
  rw [e]
  have e2 : Builtin.Slice.slicePlaces ((n : Int) - 1) (-1) (-1) = n := by
    unfold Builtin.Slice.slicePlaces
    simp
    try omega
  show wpAny _ _ (pure ((n : Int) - 1, (-1 : Int), Builtin.Slice.slicePlaces ((n : Int) - 1) (-1) (-1))) _ _ s
  rw [e2]
  exact wpAny_pure h
theorem getBack {t sl : Addr} {items : Array Value} {vl vu vs : Value} {Q : Value → Shared → Prop} (ht : IsTup s.heap t items) (hs : s.heap.IsSliceOf sl vl vu vs) (pl : IsPart vl none) (pu : IsPart vu none) (ps : IsPart vs (some (-1)))
    (h : Q (.ref s.heap.objs.size) { s with heap := s.heap.push { cls := .type "tuple", data := .seq items.toList.reverse.toArray } }) (hz : items.size ≤ sizeLine) : wpAny (model prog w) A (getItem (.ref t) (.ref sl)) Q E s := by
  have ok : sizeOk (.seq items.toList.reverse.toArray) := by
    show items.toList.reverse.toArray.size ≤ sizeLine
    rw [List.size_toArray, List.length_reverse, Array.length_toList]
    exact hz
  obtain ⟨o, ho, hc, hd⟩ := id hs
  have hT : s.TypeIs (.ref sl) "slice" := ⟨o, ho, hc⟩
  unfold getItem
  try with_reducible refine wpAny_holding ?_
  first | refine wpAny_bind (wpAny_pure ?_) | skip
  refine wpAny_bind (wpAny_sequenceKey ht.typeIs (by decide) ?_)
  refine wpAny_bind (wpAny_callSpecial?_slot (name := Str.ofString "__getitem__") ht.typeIs PyProof.Rows.slot_tuple_getitem (wpAny_call_entry PyProof.Rows.slot_tuple_getitem ht.typeIs entry_tuple_getitem ?_ (args_tuple_getitem _ _)))
  show wpAny _ _ (Builtin.Tuple.tupleItemsOf (.ref t) >>= _) _ _ s
  refine wpAny_bind (tupleItemsOf_ ht (wpAny_bind (wpAny_typeOf hT ?_)))
  rw [if_pos (by decide)]
  refine wpAny_bind (slBack hs pl pu ps ?_)
  have no : ¬ ((((items.size : Int) - 1) == 0 && (-1 : Int) == 1 && items.size == items.size) = true) := by
    rw [show ((-1 : Int) == 1) = false by decide, Bool.and_false, Bool.false_and]
    exact Bool.false_ne_true
  show wpAny _ _ (if (((items.size : Int) - 1) == 0 && (-1 : Int) == 1 && items.size == items.size) = true then _ else _) _ _ s
  rw [if_neg no, pickBack]
  first
    | exact wpAny_bind (m := Builtin.Tuple.tupleExact _) (wpAny_newObj_type (wpAny_pure ⟨_, rfl, wpAny_pure h⟩) ok)
    | exact wpAny_bind (m := Builtin.Tuple.tupleExact _) (wpAny_newObj_type (wpAny_bind (wpAny_pure (wpAny_pure ⟨_, rfl, wpAny_pure h⟩))) ok)
    | exact wpAny_bind (wpAny_bind (m := Builtin.Tuple.tupleExact _) (wpAny_newObj_type (wpAny_pure (wpAny_pure ⟨_, rfl, wpAny_pure h⟩)) ok))
    | exact wpAny_bind (wpAny_bind (m := Builtin.Tuple.tupleExact _) (wpAny_newObj_type (wpAny_pure ⟨_, rfl, wpAny_pure h⟩) ok))
end
/-- t[::-1], t a tuple -/
def tRevT (K : PySem.W.Frag) (te : TE) : TE := fun σ H Q => te σ H fun x H1 => ∃ a xs, x = .ref a ∧ SqT K H1 a xs ∧ ∀ p, H1 p = none → Q (.ref p) (upd H1 p (.tup xs.reverse))
theorem pe_revT {X : Cx} {K0 : PySem.W.Frag} {e : Expr} {te : TE} {k : Nat} {p1 p2 p3 pos : Pos} (hK : X.K = K0) (he : PE X e te) : PE X (.Subscript e (.Slice none none (some (.UnaryOp .USub (.Constant (.int 1) k p1) p2)) p3) pos) (tRevT K0 te) := by
  subst hK
  refine ⟨fun pins s σ H Q I h => Subscript_ (thn (he.run pins s σ H _ I h) fun v s1 ⟨x, H1, I1, r1, a, xs, ex, hx, q⟩ => ?_)⟩
  subst ex
  cases r1
  have hst : PO X (some (.UnaryOp .USub (.Constant (.int 1) k p1) p2)) (tPart (tUn (rU fun i => .int (-i)) (tC (.int 1)))) := po_some (pe_un un_neg pe_int)
  refine wpAny_Slice (thn (po_none.run pins s1 σ H1 (fun o H2 => o = none ∧ H2 = H1) I1 ⟨rfl, rfl⟩) fun vl s2 ⟨l, H2, I2, pl, el, e2⟩ => ?_)
  subst el e2
  refine thn (po_none.run pins s2 σ H2 (fun o H3 => o = none ∧ H3 = H2) I2 ⟨rfl, rfl⟩) fun vu s3 ⟨u, H3, I3, pu, eu, e3⟩ => ?_
  subst eu e3
  refine thn (hst.run pins s3 σ H3 (fun o H4 => o = some (-1) ∧ H4 = H3) I3 ⟨1, rfl, -1, rfl, rfl, rfl⟩) fun vs s4 ⟨o, H4, I4, ps, eo, e4⟩ => ?_
  subst eo e4
  have I5 : Inv X pins σ H4 { s4 with heap := s4.heap.push { cls := .type "slice", data := .fields #[vl, vu, vs] } } := I4.kept (t' := s4.toks) fun b ob q => Heap.get?_push_of_some _ q
  obtain ⟨its, r, ht, hz⟩ := I5.tuple hx
  have hlen := r.length
  show wpAny (model X.prog X.w) X.A (subscriptTail e (.Slice none none (some (.UnaryOp .USub (.Constant (.int 1) k p1) p2)) p3) (.ref a) (.ref s4.heap.objs.size)) (EP X pins σ Q) X.xe { s4 with heap := s4.heap.push { cls := .type "slice", data := .fields #[vl, vu, vs] } }
  refine tail_any (ops := [.ref a, .ref s4.heap.objs.size]) ht.typeIs (PyProof.Rows.slot_tuple_getitem.lookup) ?_ (by with_unfolding_all rfl)
  refine getBack ht (Heap.IsSliceOf.new _ vl vu vs) pl pu ps ?_ (by rw [List.size_toArray]; omega)
  refine ⟨.ref _, _, I5.laid (t' := s4.toks) (o := .tup xs.reverse) (fun b ob q => Heap.get?_push_of_some _ q) (Nat.le_refl _) ?_, rfl, q _ (I5.hok.fresh (Nat.le_refl _))⟩
  exact ⟨by rw [List.length_reverse]; exact hz, _, r.reverse, IsTup.new _ _⟩
section
variable {p : Par} {ρ : Rho} {Q : D → Prop} {ta tb te tl th : TE} {tt tu : TT} {P : Post} {ts tv : TS} {g : TG}
theorem RpL.rev {K : PySem.W.Frag} {h : Hnd} {G : Hp} : ∀ {us : List V} {es : List D}, RpL K h G us es → RpL K h G us.reverse es.reverse
  | [], [], _ => .nil
  | u :: us, e :: es, r => by
    cases r with
    | cons a b => rw [List.reverse_cons, List.reverse_cons]; exact (RpL.rev b).append (.cons a .nil)
  | [], e :: es, r => by cases r
  | u :: us, [], r => by cases r
theorem we_revT (h : WE p ρ te fun x => ∃ xs, x = .tup xs ∧ Q (.tup xs.reverse)) : WE p ρ (tRevT p.K te) Q := fun G σ H hh Qv k =>
  h G σ H hh _ fun x v G1 H1 ⟨xs, e, q⟩ s1 r1 => by
    subst e
    obtain ⟨a, vs, ev, hq, hl⟩ := r1.tup_inv
    have m1 := (hh.step s1).mem
    refine ⟨a, vs, ev, tqT m1.sub hq, fun b hb => ?_⟩
    have gr := m1.grow (o := .tup vs.reverse) hb
    exact k _ _ _ _ q (s1.trans gr) (.tup upd_same (lmono (RpL.rev hl) gr.ex))
end
end Cal
set_option Elab.async false
set_option linter.all false
set_option maxRecDepth 100000
set_option maxHeartbeats 4000000
namespace Cal
open PySem L2 PyProof.Rows
open Evl (Ex sq_of st_of)
section
variable {p : Par} {ρ : Rho} {Q : D → Prop} {ta tb te tl th : TE} {tt tu : TT} {P : Post} {ts tv : TS} {g : TG}
/-- i, j = a new thing, something -/
theorem ws_newParD {i j : Nat} (h : WF p ρ ta fun c1 => WE p ρ tb fun x => P.n ((ρ.set i (some c1)).set j (some (.d x)))) :
    WS p ρ (tPar i j (tCons ta (tCons tb tNil))) P := fun G σ H hh E kn kr kb kc => by
  refine h G σ H hh _ fun c1 a G1 H1 q ho1 s1 n1 x1 => q G1 σ H1 (hh.step s1) _ fun x v G2 H2 q2 s2 r2 => ?_
  exact ⟨_, _, rfl, kn _ G2 _ _ q2 (ex_tr s1.ex s2.ex) (((hh.setNew (i := i) s1 n1 x1).step s2).setD r2)⟩
end
/-! lists and tuples of ints as data of ==  -/
theorem py_intsC : ∀ xs : List Int, PyData.canLayAll0 (toPyL (xs.map D.int)) = true ∧ PyData.depthAll (toPyL (xs.map D.int)) = 0
  | [] => ⟨rfl, rfl⟩
  | x :: xs => by
    obtain ⟨h1, h2⟩ := py_intsC xs
    rw [List.map_cons, toPyL, toPy, PyData.canLayAll0, PyData.depthAll, PyData.canLay0, PyData.depth, h1, h2]
    exact ⟨rfl, rfl⟩
theorem lst_cmp (c : List Int) : Cmp (.lst (c.map D.int)) := .lst fun x hx => by
  obtain ⟨i, _, rfl⟩ := List.mem_map.mp hx
  exact .int i
theorem lst_shaped (c : List Int) : SeqAt.shaped (toPy (.lst (c.map D.int))) = true := by
  obtain ⟨h1, h2⟩ := py_intsC c
  unfold SeqAt.shaped
  rw [toPy, PyData.canLay0, h1, PyData.depth, h2]
  rfl
theorem eqv_self {x : D} (h : SeqAt.shaped (toPy x) = true) : PyData.eqv (toPy x) (toPy x) = true := SeqAt.eqv_refl _ (SeqAt.canLay_of_shaped h)
theorem tup2_shaped (c : List Int) (i : Int) : SeqAt.shaped (toPy (.tup [.tup (c.map D.int), .int i])) = true := by
  obtain ⟨h1, h2⟩ := py_intsC c
  unfold SeqAt.shaped
  rw [toPy, toPyL, toPyL, toPyL, toPy, toPy, PyData.canLay0, PyData.canLayAll0, PyData.canLayAll0, PyData.canLayAll0, PyData.canLay0, PyData.canLay0, h1, PyData.depth, PyData.depthAll, PyData.depthAll, PyData.depthAll, PyData.depth, PyData.depth, h2]
  rfl
theorem tup2_cmp (c : List Int) (i : Int) : Cmp (.tup [.tup (c.map D.int), .int i]) := .tup fun x hx => by
  simp only [List.mem_cons, List.not_mem_nil, or_false] at hx
  rcases hx with rfl | rfl
  · exact .tup fun x hx => by
      obtain ⟨i, _, rfl⟩ := List.mem_map.mp hx
      exact .int i
  · exact .int i
end Cal
set_option Elab.async false
set_option linter.all false
set_option maxRecDepth 100000
set_option maxHeartbeats 4000000
namespace Cal
open PySem L2 PyProof.Rows LamX
open Evl (Ex sq_of st_of)
/-! ### clauses and classes -/
/-- what a clause that names y, or isinstance with y, says of an error of x -/
structure XM (K : PySem.W.Frag) (mg : Str → Option Value) (x y : Str) (b : Bool) : Prop where
  m : ∀ C1 C2, mg x = some (.ref C1) → mg y = some (.ref C2) → PySem.W.exmOne K (.ref C1) (.ref C2) = some b ∧ PySem.W.kitOne K (.ref C1) (.ref C2) = some b
theorem xm_mk {K : PySem.W.Frag} {mg : Str → Option Value} {x y : Str} {b : Bool} {C1 C2 : Addr} (g1 : mg x = some (.ref C1)) (g2 : mg y = some (.ref C2)) (h1 : PySem.W.subIn K (.ref C2) (.type "BaseException") = some true) (h2 : PySem.W.isClsIn K C2 = true)
    (h3 : PySem.W.typeIn K (.ref C2) = some (.type "type")) (h4 : PySem.W.subIn K (.ref C1) (.ref C2) = some b) (h5 : b = true ∨ C1 ≠ C2) : XM K mg x y b := ⟨fun D1 D2 e1 e2 => by
  rw [g1] at e1
  rw [g2] at e2
  cases e1
  cases e2
  have q1 : (PySem.W.clsIn K C2).isSome = true := h2
  have q2 : ((PySem.W.clsIn K C2).isSome && PySem.W.typeIn K (.ref C2) == some (.type "type")) = true := by rw [q1, h3]; rfl
  have kc : PySem.W.kitCls K (.ref C1) (.ref C2) = some b := by
    refine Eq.trans (b := if ((PySem.W.clsIn K C2).isSome && PySem.W.typeIn K (.ref C2) == some (.type "type")) = true then PySem.W.subIn K (.ref C1) (.ref C2) else none) rfl ?_
    rw [if_pos q2, h4]
  refine ⟨?_, ?_⟩
  · unfold PySem.W.exmOne
    rw [if_pos (by rw [h1]; rfl)]
    exact kc
  · unfold PySem.W.kitOne
    by_cases hb : b = true
    · subst hb
      split
      · rfl
      · exact kc
    · rcases h5 with h5 | h5
      · exact (hb h5).elim
      · rw [if_neg (fun z => by
          have z' : Value.ref C1 = Value.ref C2 := by simpa using z
          cases z'
          exact h5 rfl)]
        exact kc⟩
/-! ### a def that calls what it is handed and says a word -/
/-- the word for each class of errors, and where nothing is raised -/
def TTw (mg : Str → Option Value) (wd : Str → Option Str) (ret : Str) : (XK → Hp → VK → Prop) → Hp → VK → Prop := fun tl H Q =>
  tl (fun cls _ H' => ∃ y C s, cls = .ref C ∧ mg y = some (.ref C) ∧ wd y = some s ∧ Q (.str s) H') H fun _ H' => Q (.str ret) H'
/-- the clauses lead an error of the class cls to the word s -/
def Leads (K : PySem.W.Frag) (cls : Value) (s : Str) : List (Addr × Str) → Prop
  | [] => False
  | (C, w) :: r => ∃ b, PySem.W.exmOne K cls (.ref C) = some b ∧ (b = true → s = w) ∧ (b = false → Leads K cls s r)
theorem leads_many {K : PySem.W.Frag} {Wout : WX} {D : Ends} {cls : Value} {d : Option Addr} {s : Str} {σ : L2.St} {H : Hp} (h : D.rt (.str s) H) : ∀ {cl : List (Addr × Str)}, Leads K cls s cl →
    wMany K Wout D (cl.map fun z => (Value.ref z.1, fun _ _ _ => tRet (tC (.str z.2)))) cls d σ H
  | [], l => l.elim
  | (C, w) :: r, ⟨b, e, l1, l2⟩ => ⟨b, e, fun hb a _ => by rw [← l1 hb]; exact h, fun hb => leads_many h (l2 hb)⟩
section
variable {X : Cx}
theorem words_give {Ng : List Str} {x a q ret : Str} {sg : Scope} {g : Addr} {cdg : Value} {h₀ : ExceptHandler} {hds : List ExceptHandler} {wd : Str → Option Str} {cl : List (Addr × Str)} {j : Nat} {p1 p2 p3 p5 p6 p8 : Pos}
    (hh : ∀ (s : Shared) (H : Hp), HdsOk (cxOf C8.CX0 X.prog X.w X.K X.mg X.base Ng x sg g cdg X.A X.stack s H C8.E0).nox (h₀ :: hds) (cl.map fun z => (Value.ref z.1, fun _ _ _ => tRet (tC (.str z.2)))))
    (hw : ∀ (y : Str) (C : Addr) (s : Str), X.mg y = some (.ref C) → wd y = some s → Leads X.K (.ref C) s cl) :
    GivesTo X Ng x sg g cdg [.Try [.Expr (.Call (.Name a p1) [] [] p2) p3] (h₀ :: hds) [] [] p8, .Return (some (.Constant (.str ret) j p5)) p6] a q (TTw X.mg wd ret) := by
  intro f c' s H Q tl act hc h
  refine ⟨_, pss_cons (ps_try_many (X := (cxOf C8.CX0 X.prog X.w X.K X.mg X.base Ng x sg g cdg X.A X.stack s H C8.E0).nox) (Wout := fun _ _ _ _ => False)
      (tb := fun W D σ H => ∃ Ech : XK, (∀ cls d σ' H', Ech cls d H' → W cls d σ' H') ∧ σ[0]? = some (some (.ref f)) ∧ H c' = some (CodeO c' q) ∧ tl Ech H fun _ H1 => D.nx σ H1)
      rfl rfl LamX.takes0 (fun W pn xe tk _ => ?_) (hh s H)) (pss_one (ps_ret pe_str)), ?_⟩
  · refine ⟨fun pins s' σ H' D I h' => ?_⟩
    obtain ⟨Ech, hW, h1, h2, h3⟩ := h'
    have hq := pss_one (ps_expr (pos := p3) (act W pn xe Ech p1 p2 tk hW))
    exact hq.run pins s' σ H' D I ⟨h1, h2, h3⟩
  · exact ⟨fun cls _ H' => ∃ y C s, cls = .ref C ∧ X.mg y = some (.ref C) ∧ wd y = some s ∧ Q (.str s) H', fun cls d σ' H' ⟨y, C, s, e1, e2, e3, e4⟩ => by
      subst e1
      exact leads_many (D := _) e4 (hw y C s e2 e3), rfl, hc, h⟩
/-- x(lambda: body), x a def of the text -/
theorem pe_lam {T : List (Addr × Str)} {TT : (XK → Hp → VK → Prop) → Hp → VK → Prop} {x a : Str} {st : Stmt} {c P : Addr} {k : Nat} {Ng : List Str} {params : Arguments} {body : Expr} {scope : Scope} {t : XK → TE} {p lpos pos : Pos} (F : Src X.K X.mg x st)
    (sc : FnScope Ng [a] (defScope st)) (hb : ∀ (kV doc pm : Value) (an : Option Addr) (cdv ct : Value) (us : List Value), us.length = ([a] : List Str).length → bindArgs (PySem.W.fnOf x x (defArgs st) (defBody st) (defScope st) .none kV doc pm an cdv ct) ⟨us, []⟩ = pure (([a] : List Str).zip us))
    (hNg : Ng[0]? = some a) (hva : Vis (defScope st) a) (hG : ∀ (g : Addr) (cdg : Value), GivesTo X Ng x (defScope st) g cdg (defBody st) a (X.env.qual ++ "<lambda>") TT) (TB : TabB X.base X.mg c P) (hcode : X.env.code = .ref c) (hT : T = [(P, X.env.qual ++ "<lambda>")]) (hr : Room (k + 2) X.A) (L : LamS X.env.scope scope)
    (hdef : defaultsOf params X.env = ([], [])) (hbind : ∀ (q : Str) (cl : List (Str × Addr)) (pm cv ctv : Value), bindArgs (PySem.W.kla_fn "<lambda>" q params body scope cl pm cv ctv) ⟨[], []⟩ = pure [])
    (hbody : ∀ (A : Around) (outer : List Env) (s : Shared) (H : Hp) (E : XK) (f c' : Addr), Room k (A.deeper (lamEnv X scope s.heap.objs.size f c')) → PE (lamCx X A outer s H E scope f c') body (t E))
    (hg : Gl X x := by rfl) (hdb : (x == ("__debug__" : Str)) = false := by decide) (hd : (a == ("__debug__" : Str)) = false := by decide) (hcd : (a == ("__classdict__" : Str)) = false := by decide) :
    PE X (.Call (.Name x p) [.Lambda params body scope lpos] [] pos) (tLam T TT t) := by
  obtain ⟨f, fd, hm, Fn⟩ := F.ex
  have hbf := Fn.binds hb
  obtain ⟨oc, od, kV, doc, pm, an, cdv, ct, osl, rfl, lk, hcf⟩ := Fn.ex
  subst hT
  exact pe_lamcall hg hm Fn.kp lk hcf hbf sc hNg hva (hG f cdv) TB hcode (.head _) (fun z hz _ => by cases List.mem_singleton.mp hz; rfl) hr L hdef hbind hbody hdb hd hcd
end
/-! ### read -/
section
variable {p : Par} {ρ : Rho} {Q : D → Prop} {mg : Str → Option Value}
/-- the word that is said of what a call gives -/
def wordOf (Q : D → Prop) (wd : Str → Option Str) (ret : Str) : Out → Prop
  | .ok _ => Q (.str ret)
  | .new _ => Q (.str ret)
  | .ex y _ => ∃ s, wd y = some s ∧ Q (.str s)
theorem we_lam {T : List (Addr × Str)} {wd : Str → Option Str} {ret : Str} {S : List D → (Out → Prop) → Prop} {ta : TA} (hT : p.h.T = T) (h : WA p ρ ta fun ds => S ds (wordOf Q wd ret)) :
    WE p ρ (tLam T (TTw mg wd ret) fun E => tCallS (spX p.K mg S) (L2.WE fun cls d _ H => E cls d H) ta) Q := fun G σ H hh Qv k => by
  subst hT
  refine ⟨hh.mem.tab, fun H1 eN T1 => ?_⟩
  -- the tables alone have grown
  have s0 : Stp p G H G H1 := ⟨fun a o e => eN a o (hh.mem.sub a o e) fun ps z => hh.mem.gt a ps (by rw [e, z]), hh.mem.gh, fun a o _ t e => eN a o e t, fun _ _ e => e, fun _ _ e => .inl e, by
    obtain ⟨xs, hx⟩ := hh.mem.hand.some
    exact hh.mem.hand.mono (fun _ _ e => e) (by rw [hx]; exact eN _ _ hx fun ps z => by cases z), hh.mem.gt, T1⟩
  have hh0 := hh.step s0
  refine h G σ H1 hh0 _ fun ds vs G2 H2 q s1 r1 => ?_
  have hh1 := hh0.step s1
  have all := s0.trans s1
  refine ⟨p.h, G2, ds, _, r1, hh1.mem.refl, q, fun d v G' H' z m r => k (.str ret) (.str ret) G' H' z (all.trans m) (.str ret), fun c a G' H' z ho m x => k (.str ret) (.str ret) G' H' z (all.trans m) (.str ret), fun y fs C d G' H' z hm m xr => ?_⟩
  obtain ⟨s, e1, e2⟩ := z
  exact ⟨y, C, s, rfl, hm, e1, k (.str s) (.str s) G' H' e2 (all.trans m) (.str s)⟩
end
end Cal
set_option Elab.async false
set_option linter.all false
set_option maxRecDepth 100000
set_option maxHeartbeats 4000000
namespace Cal
open PySem PySem.Spec L2 PyProof.Rows LamX
open Evl (Ex sq_of st_of)
/-! ### a law that makes lambdas -/
/-- a def of the text whose code object is at c -/
structure FunC (K : PySem.W.Frag) (x qual : Str) (st : Stmt) (f c : Addr) (fd : FuncData) : Prop where
  ex : ∃ (oc : Value) (od : Option Addr) (kV doc pm : Value) (an : Option Addr) (ct : Value) (osl : Array (Option Value)),
    fd = PySem.W.fnOf x qual (defArgs st) (defBody st) (defScope st) .none kV doc pm an (.ref c) ct ∧ K.lookup f = some ⟨oc, od, .func fd, osl⟩ ∧ PySem.W.codeIn K (.ref c) qual = true
theorem funC_mk {K : PySem.W.Frag} {x qual : Str} {st : Stmt} {f c : Addr} {oc : Value} {od an : Option Addr} {osl : Array (Option Value)} {kV doc pm cdv ct : Value} (l : K.lookup f = some ⟨oc, od, .func (PySem.W.fnOf x qual (defArgs st) (defBody st) (defScope st) .none kV doc pm an cdv ct), osl⟩)
    (hc : PySem.W.codeIn K cdv qual = true) (e : cdv = .ref c) : FunC K x qual st f c (PySem.W.fnOf x qual (defArgs st) (defBody st) (defScope st) .none kV doc pm an cdv ct) := by
  subst e
  exact ⟨⟨oc, od, kV, doc, pm, an, ct, osl, rfl, l, hc⟩⟩
section
variable {P : Program} {w : World} {K : PySem.W.Frag} {mg : Str → Option Value} {base : Heap}
theorem FunC.ok {x qual : Str} {st : Stmt} {f c : Addr} {fd : FuncData} {N ps : List Str} {k : Nat} {sp : Sp} (F : FunC K x qual st f c fd) (S : FnScope N ps (defScope st)) (len : ∀ vs H Q E, sp vs H Q E → vs.length = ps.length)
    (body : ∀ (A : Around) (outer : List Env) (s : Shared) (H : Hp) (vs : List V) (Q : VK) (E : XK), Room k (A.deeper (envOfC qual (defScope st) s.heap.objs.size f (.ref c))) → sp vs H Q E →
      ∃ t, PSs (cxOf CX0 P w K mg base N qual (defScope st) f (.ref c) A outer s H E).nox (defBody st) t ∧ t { nx := fun _ H' => Q .non H', rt := Q } (start N vs) H) : FnOk P w K mg base CX0 (k + 1) f fd ps sp := by
  obtain ⟨oc, od, kV, doc, pm, an, ct, osl, e, look, cd⟩ := F.ex
  subst e
  refine fn_of look cd S len fun A outer s H vs Q E room prom => ?_
  obtain ⟨t, reads, goal⟩ := body A outer s H vs Q E room prom
  exact ⟨t, reads.nox, goal⟩
end
/-- the law's promise, with its table -/
def spLawT (K : PySem.W.Frag) (T : List (Addr × Str)) : Sp := fun vs H Q _ => ∃ (a : Addr) (ns : List Int), vs = [.ref a] ∧ SqL K H a (ns.map V.int) ∧ ns.length ≤ 63 ∧ Tabs T H ∧ ∀ H', Q (.bl true) H'
theorem noTab {K : PySem.W.Frag} {h : Heap} {P : Addr} (X : K.In h) (hK : PySem.W.noTabs K = true) (e : h.get? P = some { cls := .none, data := .fields #[] }) : K.lookup P = none := by
  cases z : K.lookup P with
  | none => rfl
  | some o =>
    have e2 := X P o z
    rw [e] at e2
    cases e2
    have h2 := List.all_eq_true.mp hK (P, _) (PySem.W.mem_of_lookupK z)
    cases h2
/-- the walk of a law that makes lambdas itself -/
theorem walkT {l : PySem.W.OpenLaw} {q : Program} {loose : List Str} {XP : (Str → Option Value) → Heap → Prop} {YP : World → Heap → Prop} {d : DefRec} {K : Params → PySem.W.Frag} {k : Nat} {qual : Str} (hn : l.most = some 63) (hdf : d.params.defaults = []) (room : Room k callerA)
    (hY : ∀ (w : World) (h : Heap), YP w h → (K w.params).In h) (hK : ∀ w : World, PySem.W.noTabs (K w.params) = true) (hr : ((recsOf q).find? (fun z => z.name == d.name)).isSome = true)
    (F : ∀ (w : World) (mg : Str → Option Value) (fa c : Addr) (h : Heap), (K w.params).In h → h.Ns mainGlobals mg → mg d.name = some (.ref fa) → (∀ o fd, h.get? fa = some o → o.data = .func fd → fd.code = .ref c) →
      ∃ fd : FuncData, (∀ (s : Shared) (u : Value), BindsTo s fd ⟨[u], []⟩ [("script", u)]) ∧ ∀ (base : Heap) (P : Addr), (K w.params).In base → base.Ns mainGlobals mg → TabB base mg c P → FnOk l.prog w (K w.params) mg base CX0 k fa fd ["script"] (spLawT (K w.params) [(P, qual)])) :
    PySem.W.WalkO q loose XP YP l.row.toRowW d [] (fun f vs => PySem.call f vs) := by
  refine Att.attach_callB hn hdf fun w s₀ s₁ mg mb fa o pm cd doc a vs ns ground Y ho hod hcd hmg hobj hints hlen hbits hgens => ?_
  have KX := hY w _ Y
  have top := ground.T
  obtain ⟨r, hr⟩ := Option.isSome_iff_exists.mp hr
  have er : r.name = d.name := beq_iff_eq.mp (List.find?_some (p := fun z : DefRec => z.name == d.name) hr)
  obtain ⟨a2, o2, fd2, c, P, t1, t2, t3, t4, t5, t6⟩ := top.tab r (List.mem_of_find?_eq_some hr)
  rw [er, hmg] at t1
  cases t1
  have hcode : ∀ o' fd', s₁.heap.get? fa = some o' → o'.data = .func fd' → fd'.code = .ref c := fun o' fd' e1 e2 => by
    rw [t2] at e1
    cases e1
    rw [t3] at e2
    cases e2
    exact t4
  obtain ⟨_, tabAt⟩ := id t6
  obtain ⟨fd, hb, hF⟩ := F w mg fa c _ KX top.g hmg hcode
  have one : ∀ {z : Addr × Addr}, z ∈ [(c, P)] → z = (c, P) := fun {z} hz => List.mem_singleton.mp hz
  exact law_callTs (cs := [(c, P)]) (sp := spLawT (K w.params) [(P, qual)]) KX top.g top.b top.builtins top.nolimit hgens (fun z hz => by rw [one hz]; exact tabAt) (fun z hz => by rw [one hz]; exact noTab KX (hK w) tabAt)
    (fun z hz => by rw [one hz]; exact PySem.W.CodeHd.of t5 t6) top.bmain hobj hints (Nat.le_trans hlen (by decide)) room (fun base hi hns hTB => hF base P hi hns (hTB (c, P) (.head _))) hb
    (fun H hH hS => ⟨a, ns, rfl, hS, hlen, fun z hz => by
      rw [List.mem_singleton.mp hz]
      exact TabS.nil (hH (c, P) (.head _)), fun _ => rfl⟩) fun _ _ _ z => z
end Cal
set_option Elab.async false
set_option linter.all false
set_option maxRecDepth 100000
set_option maxHeartbeats 4000000
namespace Cal
open PySem L2 PyProof.Rows
open Evl (Ex sq_of st_of)
section
variable {p : Par} {ρ : Rho} {Q : D → Prop} {ta tb te ti : TE} {P : Post} {N : Rho → Prop}
/-- xs * n, a new list of its own -/
theorem wf_repL {Q : Cell → Prop} (h : WE p ρ ta fun x => ∃ xs, x = .lst xs ∧ WE p ρ tb fun y => ∃ n : Int, y = .int n ∧ -(2 ^ 63) ≤ n ∧ n < 2 ^ 63 ∧ xs.length * n.toNat ≤ 4000000 ∧ Q (.ol (List.replicate n.toNat xs).flatten)) : WF p ρ (tOp rRep ta tb) Q := fun G σ H hh Qv k =>
  h G σ H hh _ fun x v G1 H1 ⟨xs, ex, h1⟩ s1 r1 => h1 G1 σ H1 (hh.step s1) _ fun y w G2 H2 ⟨n, ey, n1, n2, n3, q⟩ s2 r2 => by
    subst ex ey
    obtain ⟨a, vs, ev, hs, hl⟩ := r1.lst_inv
    subst ev
    have hz := hl.length
    have hh2 := (hh.step s1).step s2
    have s := s1.trans s2
    refine ⟨a, n, vs, rfl, rp_int r2, hh2.mem.sub _ _ (s2.ex _ _ hs), n1, n2, by rw [hz, sizeLine_eq]; omega, fun b hb => ?_⟩
    exact k _ b _ _ q rfl (s.trans (hh2.mem.growO hb)) (hh.mem.back s hb) ⟨b, _, rfl, hh2.mem.fresh hb, upd_same, lmono (rep_rp hl _) s2.ex⟩
theorem ixN_nat {len n : Nat} (h : n < len) : ixN len (n : Int) = some n := by
  unfold ixN
  rw [if_pos (by omega), if_pos (by omega)]
  congr 1
/-- the target xs[i], xs a slot's own -/
theorem wg_setO {i : Nat} {xs : List D} {x : D} (e : ρ[i]? = some (some (.ol xs))) (h : WE p ρ ti fun y => ∃ n : Nat, y = .int (n : Int) ∧ n < xs.length ∧ N (ρ.set i (some (.ol (xs.set n x))))) : WG p ρ (gSub (tVar i) ti rSetL) x N := fun G σ H v hh r Qs k => by
  obtain ⟨sv, h1, a, vs, h2, ow, h4, h5⟩ := hh.slot i _ e
  subst h2
  refine ⟨.ref a, h1, h G σ H hh _ fun y w G1 H1 ⟨n, ey, hn, q⟩ s1 r1 => ?_⟩
  subst ey
  rw [rp_int r1]
  have hh1 := hh.step s1
  obtain ⟨ow1, e1⟩ := Own.step NT.lst ow h4 s1
  have hl1 := lmono h5 s1.ex
  refine ⟨a, vs, (n : Int), n, rfl, rfl, e1, ixN_nat (by rw [hl1.length]; exact hn), ?_⟩
  exact k _ G1 σ _ q s1.ex (hh1.write e rfl h1 ow1 ⟨a, _, rfl, ow1, upd_same, hl1.set (rmono r s1.ex) n⟩)
/-- i, j, l = [], something, {} -/
theorem ws_new3K {i j l r0 : Nat} {x : D} (e : ρ[r0]? = some (some (.d x))) (h : P.n (((ρ.set i (some (.ol []))).set j (some (.d x))).set l (some (.ok [])))) :
    WS p ρ (tPar3 i j l (tCons (tLst tNil) (tCons (tVar r0) (tCons tDNewK tNil)))) P := fun G σ H hh E kn kr kb kc => by
  obtain ⟨sv, g1, v, g2, g3⟩ := hh.slot r0 _ e
  subst g2
  refine ⟨sz (Nat.zero_le _), fun a ha => ⟨v, g1, fun c hc => ?_⟩⟩
  have s1 := hh.mem.growO (o := .lst []) ha
  have k1 := hh.setNew (i := i) (c := .ol []) s1 (Nil.no ha) ⟨a, [], rfl, hh.mem.fresh ha, upd_same, .nil⟩
  have k2 := k1.setD (i := j) g3
  have s5 := k2.mem.growO (o := .dK []) hc
  have k6 := k2.setNew (i := l) (c := .ok []) s5 (Nil.no hc) ⟨c, [], rfl, k2.mem.fresh hc, upd_same, .nil⟩
  exact ⟨_, _, _, rfl, kn _ G _ _ h Ex.rfl' k6⟩
/-! ### an owned list of integers lent to a call that gives fractions -/
def frC (x : Int × Int) : D := .tup [.int x.1, .int x.2]
theorem lentI {G G' H H' : Hp} {σ : L2.St} {a : Addr} {vs : List V} (hh : Hold p ρ G σ H) (ow : Own p G a) (s : Stp p (upd G a (.lst vs)) H G' H') : Stp p G H (fun b => if b = a then none else G' b) H' := by
  have ne : ∀ {b : Addr} {o : HO}, (if b = a then none else G' b) = some o → b ≠ a ∧ G' b = some o := fun {b o} z => by
    by_cases hb : b = a
    · rw [if_pos hb] at z; cases z
    · rw [if_neg hb] at z; exact ⟨hb, z⟩
  refine ⟨fun b o z => s.sub b o (ne z).2, ?_, s.base, fun b o z => ?_, fun b o z => ?_, ?_, fun b ps z => s.gt b ps (ne z).2, s.tab⟩
  · show (if p.h.a = a then none else G' p.h.a) = none
    rw [if_neg (Ne.symm ow.2.2)]
    exact s.gh
  · have hb : b ≠ a := ne_of_none z ow.1
    show (if b = a then none else G' b) = some o
    rw [if_neg hb]
    exact s.g0 b o ((upd_ne hb).trans z)
  · obtain ⟨hb, z2⟩ := ne z
    rcases s.new b o z2 with q | q
    · exact .inl ((upd_ne hb).symm.trans q)
    · exact .inr q
  · obtain ⟨ns, i, r, n, h1, h2, h3⟩ := s.hand
    have hc : p.h.c ≠ a := fun e => by
      obtain ⟨ns2, _, _, _, _, g2, _⟩ := hh.mem.hand
      rw [e, ow.1] at g2
      cases g2
    exact ⟨ns, i, r, n, h1, by show (if p.h.c = a then none else G' p.h.c) = _; rw [if_neg hc]; exact h2, h3⟩
theorem rp_frs {K : PySem.W.Frag} {h : Hnd} {G' : Hp} {a : Addr} {ns : List Int} {v : V} {fs : List (Int × Int)} (ha : G' a = some (.lst (ns.map V.int))) (hne : fs ≠ []) (r : Rp K h G' v (.lst (fs.map frC))) : Rp K h (fun b => if b = a then none else G' b) v (.lst (fs.map frC)) := by
  obtain ⟨b, ws, ev, hb, hl⟩ := r.lst_inv
  subst ev
  have hba : b ≠ a := fun z => by
    rw [z, ha] at hb
    cases hb
    cases fs with
    | nil => exact hne rfl
    | cons f fs =>
      cases ns with
      | nil => cases hl
      | cons n ns =>
        cases hl with
        | cons r1 _ => cases r1
  have items : ∀ (fs : List (Int × Int)) (ws : List V), RpL K h G' ws (fs.map frC) → RpL K h (fun b => if b = a then none else G' b) ws (fs.map frC) := by
    intro fs
    induction fs with
    | nil => intro ws hl; cases hl; exact .nil
    | cons f fs ih =>
      intro ws hl
      cases hl with
      | cons r1 r2 =>
        refine .cons ?_ (ih _ r2)
        obtain ⟨t, us, et, ht, hu⟩ := r1.tup_inv
        replace ht : G' t = some (.tup us) := ht.elim id fun ⟨_, b2, bs2, z⟩ => by cases z
        subst et
        have hta : t ≠ a := fun z => by
          rw [z, ha] at ht
          cases ht
        refine .tup (by show (if t = a then none else G' t) = _; rw [if_neg hta]; exact ht) ?_
        cases hu with
        | cons u1 u2 =>
          cases u2 with
          | cons u2 u3 =>
            cases u3
            cases u1
            cases u2
            exact .cons (.int _) (.cons (.int _) .nil)
  exact .lst (by show (if b = a then none else G' b) = _; rw [if_neg hba]; exact hb) (items fs ws hl)
theorem we_lendF (i : Nat) {ns : List Int} (e : ρ[i]? = some (some (.ol (ns.map D.int)))) (h : WE p (ρ.set i (some (.d (.lst (ns.map D.int))))) te fun d => ∃ fs : List (Int × Int), d = .lst (fs.map frC) ∧ fs ≠ [] ∧ Q d) : WE p ρ te Q := fun G σ H hh Qv k => by
  obtain ⟨sv, h1, a, vs, h2, ow, h4, h5⟩ := hh.slot i _ e
  subst h2
  obtain rfl := h5.ints
  obtain ⟨hh', ex⟩ := hh.freeze e rfl h1 ow h4 (x := .lst (ns.map D.int)) (.lst upd_same (lmono h5 fun b u z => by rw [upd_ne (ne_of_none z ow.1)]; exact z))
  refine h _ σ H hh' Qv fun d v G' H' ⟨fs, ed, hne, q⟩ s r => ?_
  subst ed
  exact k _ _ _ H' q (lentI hh ow s) (rp_frs (s.ex _ _ upd_same) hne r)
/-- a test that is itself `a if c else b` -/
def tIfT (t ta tb : TT) : TT := fun σ H Q => t σ H fun c H1 => if c = true then ta σ H1 Q else tb σ H1 Q
theorem pt_ifE {X : Cx} {c a b : Expr} {pos : Pos} {tA tB1 tB2 : TT} (hc : PT X c tA) (ha : PT X a tB1) (hb : PT X b tB2) : PT X (.IfExp c a b pos) (tIfT tA tB1 tB2) := by
  refine ⟨fun pins s σ H Q I h => ?_⟩
  refine isTrue_IfExp (thn (hc.run pins s σ H _ I h) fun d s1 ⟨H1, I1, q1⟩ => ?_)
  cases d with
  | true => exact ha.run pins s1 σ H1 Q I1 q1
  | false => exact hb.run pins s1 σ H1 Q I1 q1
theorem wt_ifE {R : Bool → Prop} {tt tu tv : TT} (h : WT p ρ tt fun b => if b = true then WT p ρ tu R else WT p ρ tv R) : WT p ρ (tIfT tt tu tv) R := fun G σ H hh Qv k =>
  h G σ H hh _ fun b G1 H1 q s1 => by
    cases b with
    | true => rw [if_pos rfl] at q ⊢; exact q G1 σ H1 (hh.step s1) Qv fun d G2 H2 q s2 => k d G2 H2 q (s1.trans s2)
    | false => rw [if_neg (by decide)] at q ⊢; exact q G1 σ H1 (hh.step s1) Qv fun d G2 H2 q s2 => k d G2 H2 q (s1.trans s2)
end
end Cal
set_option Elab.async false
set_option linter.all false
set_option maxRecDepth 100000
set_option maxHeartbeats 4000000
namespace Cal
open PySem L2 PyProof.Rows
open Evl (Ex sq_of st_of)
/-! ### the sum of flags -/
/-- how many are true -/
def trues (bs : List Bool) : Int := (bs.map fun b => if b = true then (1 : Int) else 0).sum
theorem trues_pre (bs : List Bool) : ∀ n, n ≤ bs.length → preSum (fun i => if bs.getD i false = true then 1 else 0) n = trues (bs.take n)
  | 0, _ => by rw [List.take_zero]; rfl
  | n + 1, h => by
    have hn : n < bs.length := by omega
    have e : bs.take (n + 1) = bs.take n ++ [bs[n]] := by rw [List.take_succ, List.getElem?_eq_getElem hn]; rfl
    show preSum _ n + _ = _
    rw [trues_pre bs n (by omega), e]
    unfold trues
    rw [List.map_append, List.sum_append]
    have e2 : bs.getD n false = bs[n] := by rw [List.getD_eq_getElem?_getD, List.getElem?_eq_getElem hn] <;> rfl
    show _ + (if bs.getD n false = true then (1 : Int) else 0) = _
    rw [e2]
    simp
def rSumB (K : PySem.W.Frag) : List V → Hp → VK → Prop := fun vs H Q => ∃ (a : Addr) (bs : List Bool), vs = [V.ref a] ∧ SqL K H a (bs.map V.bl) ∧ Q (.int (trues bs)) H
theorem cr_sumB {X : Cx} (hc : X.calm = true) : CallR X (.builtin "sum") (rSumB X.K) := by
  intro pins s σ H vs us Q I r h
  obtain ⟨a, bs, rfl, hs, q⟩ := h
  obtain ⟨its, rv, hl, _⟩ := I.list hs
  rw [Vals.ref1 r]
  have hL := hl.isList
  have lt : a < s.heap.objs.size := by obtain ⟨o, ho, _⟩ := hL; exact Heap.lt_size ho
  have hlen : its.length = bs.length := by have := rv.length; rw [List.length_map] at this; exact this.symm
  refine call_sum_walkAnyB (wpAny_pyIter_list hL ?_)
  refine ⟨_, _, _, _, _, _, _, fun i => if bs.getD i false = true then 1 else 0, rfl, (Walks.list (A := X.A.in1) (I.ok.hd hc) s.heap.objs.size a (Nat.ne_of_lt lt) its.toArray).toS, ⟨⟨_, Heap.get?_push_size _ rfl, rfl, rfl⟩, hL.push _⟩, fun b hb => ?_, fun i v hv => ?_, fun s' t' hm => ?_⟩
  · show b < (s.heap.push _).objs.size
    rw [Heap.size_push]
    rcases List.mem_cons.mp hb with rfl | hb
    · exact Nat.lt_succ_self _
    · rw [List.mem_singleton.mp hb]; exact Nat.lt_succ_of_lt lt
  · have hv' : its[i]? = some v := by simpa using hv
    have hi : i < bs.length := by have := (List.getElem?_eq_some_iff.mp hv').1; omega
    obtain ⟨u, h1, h2⟩ := rv.get (i := i) (x := .bl bs[i]) (by rw [List.getElem?_map, List.getElem?_eq_getElem hi]; rfl)
    rw [hv'] at h1
    cases h1
    cases h2
    refine .inr ⟨_, rfl, ?_⟩
    show (if bs.getD i false = true then (1 : Int) else 0) = _
    rw [List.getD_eq_getElem?_getD, List.getElem?_eq_getElem hi] <;> rfl
  · rw [Moved.eq_with hm]
    have e : preSum (fun i => if bs.getD i false = true then 1 else 0) its.toArray.size = trues bs := by
      rw [List.size_toArray, hlen, trues_pre bs _ (Nat.le_refl _), List.take_length]
    rw [e]
    exact ⟨.int _, H, I.kept fun b o z => hm.heap b o (fun hmem => Nat.ne_of_lt (Heap.lt_size z) (List.mem_singleton.mp hmem)) (Heap.get?_push_of_some _ z), ⟨_, rfl⟩, q⟩
end Cal
set_option Elab.async false
set_option linter.all false
set_option maxRecDepth 100000
set_option maxHeartbeats 4000000
namespace Cal
open PySem L2 PyProof.Rows
open Evl (Ex sq_of st_of)
/-! ### what may raise when it is made -/
section
variable {X : Cx} {x : Str} {p pos : Pos} {e : Expr} {es : List Expr} {t : TA} {k n : Nat} {ps : List Str} {C : Addr} {S : Addr → List D → (Out → Prop) → Prop} {W : WX}
theorem pe_mkX (F : MakX X.prog X.w X.K X.mg X.base k x C ps S) (hr : Room (k + 1) X.A) (tk : Takes X W) (hN : X.N.length = n) (ha : PA X (e :: es) t) (hg : Gl X x := by rfl) (hdb : (x == ("__debug__" : Str)) = false := by decide)
    (he : starEach (e :: es) X.env = (false, eval e X.env) :: starEach es X.env := by rfl) (hpl : (backTo pos (starEach es X.env)).any (·.1) = false := by rfl) :
    PE X (.Call (.Name x p) (e :: es) [] pos) (tMake C (spMk X.K X.mg C S) [] (fun cls d H' => ∀ σ' : L2.St, σ'.length = n → W cls d σ' H') t) := by
  obtain ⟨f, fd, h1, h2, h3, h4⟩ := F.ex
  exact pe_make h2 h3 hr hg h1 h4 .nil (fun pins σ H s e s' I c => tk e s' (XE.of_call I (fun cls d H' h => h σ (I.len.trans hN)) c)) ha hdb he hpl
end
section
variable {p : Par} {ρ : Rho} {Q : D → Prop} {ta tb te ti : TE} {P : Post} {N : Rho → Prop} {mg : Str → Option Value} {Xp : Rho → Str → List (Str × D) → Prop} {W : WX}
theorem we_mkX {n : Nat} {C : Addr} {S : Addr → List D → (Out → Prop) → Prop} {ta : TA} (hW : XW mg p Xp W) (h : WA p ρ ta fun ds => S C ds (Out.cas Q (Xp (List.replicate n none)))) :
    WE p ρ (tMake C (spMk p.K mg C S) [] (fun cls d H' => ∀ σ' : L2.St, σ'.length = n → W cls d σ' H') ta) Q := fun G σ H hh Qv k =>
  h G σ H hh _ fun ds vs G1 H1 q s1 r1 x dx hx hdx hne => by
    have hh1 := hh.step s1
    have none_at : ∀ (i : Nat) (c : Cell), (List.replicate n (none : Option Cell))[i]? ≠ some (some c) := fun i c e => by
      rw [List.getElem?_replicate] at e
      split at e <;> cases e
    refine ⟨p.h, G1, H1, x, dx, vs, ds, _, by rw [List.append_nil], rfl, hx, hdx, hne, r1, hh1.mem.refl, q, fun fs G' H' z m sl => ?_, fun y fs C' d G' H' z hm m xr σ' hl => ?_⟩
    · obtain ⟨x', n⟩ := sl.up hh1.mem rfl
      obtain ⟨o, e4, ow, r⟩ := x'.toD rfl
      obtain ⟨o2, e5, ow2, _⟩ := sl.toD rfl
      have m2 := Mem.know (p := ⟨p.K, p.h, H1, G1⟩) m ow2 e4 (x'.nt rfl e4).tbl
      exact ⟨rfl, k _ _ _ _ z (s1.trans m2.1) r⟩
    · exact hW (List.replicate n none) G' σ' H' y fs C' d z hm ⟨(hh1.step m).mem, by rw [hl, List.length_replicate], fun i c e => (none_at i c e).elim, fun i j c c' a e => (none_at i c e).elim⟩ xr
/-- return (e.f,) -/
theorem wsg_retf1 {G1 : Hp} {R : D → Prop} {a C : Addr} {d : Option Addr} {f : Str} {i : Nat} {fs : List (Str × D)} {y : D} (e : ρ[i]? = some (some (.d (.raw (.ref a))))) (xr : XR p.K p.h G1 d fs) (hf : fs.lookup f = some y) (hR : R (.tup [y])) :
    WSg p G1 ρ (tRet (tTup (tCons (tXf a (.ref C) d C f (tVar i)) tNil))) (outP R) := fun G σ H ex hh E kn kr kb kc => by
  obtain ⟨sv, h1, v, h2, h3⟩ := hh.slot i _ e
  subst h2
  have hv : v = .ref a := by cases h3; rfl
  subst hv
  rcases xr.mono ex with ⟨rfl, _⟩ | ⟨dd, vfs, q1, q2, q3, q4⟩
  · cases hf
  · obtain ⟨v, l1, l2⟩ := lookup_of q3 q4.1 hf
    refine ⟨_, h1, rfl, rfl, dd, vfs, v, q1, hh.mem.sub _ _ q2, l1, sz (Nat.le_of_ble_eq_true rfl), fun b hb => ?_⟩
    have s := hh.mem.grow (o := .tup [v]) hb
    exact kr _ _ _ _ hR (hh.step s).mem (.tup upd_same (.cons (rmono l2 s.ex) .nil))
end
/-! ### == of an own class, whatever it gives -/
def rOwnEq (K : PySem.W.Frag) (C : Addr) (sp : Sp) : R2 := fun x y H Q => ∃ a dx fs tb, x = .ref a ∧ H a = some (.ins C dx fs) ∧ TyX K H y tb ∧ PySem.W.notFirst K C tb = true ∧ sp [x, y] H Q (fun _ _ _ => False)
theorem op_own {X : Cx} {CX : CXT} {k : Nat} {C f : Addr} {fd : FuncData} {ps : List Str} {sp : Sp} (F : FnOk X.prog X.w X.K X.mg X.base CX k f fd ps sp) (hr : Room k X.A)
    (hs : PySem.W.findIn X.K (.ref C) "__eq__" = some (some (.ref f))) (hf : PySem.W.isFn X.K (.ref f) = true) (hb : Binds X.K fd ps []) (hx : Passes CX X (fun _ _ _ => False)) : OpR X (compareOp .Eq) (rOwnEq X.K C sp) := by
  intro pins s σ H x y v u Q I rx ry h
  obtain ⟨a, dx, fs, tb, rfl, ha, hty, hnf, q⟩ := h
  cases rx
  obtain ⟨mA, J, _⟩ := ins_get I.hok ha
  obtain ⟨od, J, _⟩ := J.look
  obtain ⟨m, hF⟩ := I.fr
  obtain ⟨P, kit, hP, _⟩ := kit_of I ry hty
  show wpAny (model X.prog X.w) X.A (richCompare .Eq (.ref a) u) (EP X pins σ Q) X.xe s
  refine PySem.W.cmp_K (op := .Eq) (tb := tb) hr.units0 hF I.ok.mod.kin J (kit.ty _ _ I.kIn hP) hnf hs hf ?_
  refine thn (run_fn (us := [.ref a, u]) (vs := [.ref a, y]) (dvs := []) (ds := []) F hr hb .nil hx I (.cons rfl (.cons ry .nil)) q) fun v' s' hq => ?_
  obtain ⟨z, H', I', rz, q'⟩ := id hq
  cases z <;> first
    | (cases rz; exact hq)
    | (obtain ⟨t, rfl⟩ := rz; exact hq)
/-! ### objects and their kinds -/
/-- what is to be known of a class whose objects are asked after and compared -/
structure EqF (K : PySem.W.Frag) (C : Addr) : Prop where
  cls : Cls K C
  ha : PySem.W.findIn K (.ref C) "__class__" = some (some (.builtin "object.__class__"))
  hn : PySem.W.specialIn K (.builtin "object.__class__") "__get__" = some (some (.builtin "getset_descriptor.__get__"))
  ht : PySem.W.takesIn K (.builtin "object.__class__") = some true
  hm : PySem.W.mroIn K C (.type "object") = some true
  nf : ∀ t, t ∈ (["NoneType", "bool", "int", "str", "tuple", "list", "dict"] : List String) → PySem.W.notFirst K C (.type t) = true
  kc : ∀ t, t ∈ (["NoneType", "bool", "int", "str", "tuple", "list", "dict"] : List String) → PySem.W.kitOne K (.type t) (.ref C) = some false
  kb : ∀ t, t ∈ (["NoneType", "bool", "int", "str", "tuple", "list", "dict"] : List String) → PySem.W.kitOne K (.ref C) (.type t) = some false
  kk : PySem.W.kitOne K (.ref C) (.ref C) = some true
/-- the kind of a thing: a built-in one, or the class C -/
def TyW (C : Addr) (x : D) (t : Value) : Prop := (∃ s, tyD x = some s ∧ t = .type s) ∨ ∃ fs, x = .ins C fs ∧ t = .ref C
theorem tyD_in : ∀ {x : D} {s : String}, tyD x = some s → s ∈ (["NoneType", "bool", "int", "str", "tuple", "list", "dict"] : List String)
  | .non, _, h => by cases h; decide
  | .bl _, _, h => by cases h; decide
  | .int _, _, h => by cases h; decide
  | .str _, _, h => by cases h; decide
  | .tup _, _, h => by cases h; decide
  | .lst _, _, h => by cases h; decide
  | .dK _, _, h => by cases h; decide
  | .hand, _, h => by cases h
  | .dT _, _, h => by cases h
  | .raw _, _, h => by cases h
  | .ptp _, _, h => by cases h
  | .exc _, _, h => by cases h
  | .ins _ _, _, h => by cases h
section
variable {p : Par} {ρ : Rho} {Q : D → Prop} {ta tb te : TE} {C : Addr}
theorem tyW_x (F : EqF p.K C) {G H : Hp} {v : V} {x : D} {t : Value} (e : Ex G H) (r : Rp p.K p.h G v x) (ty : TyW C x t) : TyX p.K H v t := by
  rcases ty with ⟨s, h, rfl⟩ | ⟨fs, rfl, rfl⟩
  · exact tyD_x (p := p) e r h
  · cases r with
    | ins q l c => exact .base (.ins (e _ _ q) F.cls F.ha F.hn F.ht F.hm)
/-- isinstance(e, T), e what it may -/
theorem we_isiW {T : String} (F : EqF p.K C) (h : WE p ρ te fun x => ∃ t b, TyW C x t ∧ PySem.W.kitOne p.K t (.type T) = some b ∧ Q (.bl b)) : WE p ρ (tCB (rIsi p.K) (tCons te (tCons (tC (.ty T)) tNil))) Q := fun G σ H hh Qv k =>
  h G σ H hh _ fun x v G1 H1 ⟨t, b, e1, e2, q⟩ s r => ⟨v, .ty T, t, .type T, b, rfl, .ty T, tyW_x F s.sub r e1, e2, k _ _ G1 H1 q s (.bl _)⟩
/-- isinstance(e, C), C the own class -/
theorem we_isiC (F : EqF p.K C) (h : WE p ρ te fun x => ∃ t b, TyW C x t ∧ PySem.W.kitOne p.K t (.ref C) = some b ∧ Q (.bl b)) : WE p ρ (tCB (rIsi p.K) (tCons te (tCons (tC (.ref C)) tNil))) Q := fun G σ H hh Qv k =>
  h G σ H hh _ fun x v G1 H1 ⟨t, b, e1, e2, q⟩ s r => ⟨v, .ref C, t, .ref C, b, rfl, .own C, tyW_x F s.sub r e1, e2, k _ _ G1 H1 q s (.bl _)⟩
/-- is it an object of a class -/
def isIns : D → Bool | .ins _ _ => true | _ => false
theorem kit_own (F : EqF p.K C) {x : D} {t : Value} (ty : TyW C x t) : PySem.W.kitOne p.K t (.ref C) = some (isIns x) := by
  rcases ty with ⟨s, h, rfl⟩ | ⟨fs, rfl, rfl⟩
  · rw [F.kc s (tyD_in h)]
    cases x <;> first | rfl | cases h
  · exact F.kk
theorem kit_bltn (F : EqF p.K C) {x : D} {t : Value} {T : String} {b : Bool} (ty : TyW C x t) (hT : T ∈ (["NoneType", "bool", "int", "str", "tuple", "list", "dict"] : List String)) (hb : ∀ s, tyD x = some s → kitB s T = some b) (hi : isIns x = true → b = false) : PySem.W.kitOne p.K t (.type T) = some b := by
  rcases ty with ⟨s, h, rfl⟩ | ⟨fs, rfl, rfl⟩
  · exact kit_ty (hb s h)
  · rw [hi rfl]; exact F.kb T hT
/-- == of an own class -/
theorem we_own {S : List D → (D → Prop) → Prop} (F : EqF p.K C) (h : WE p ρ ta fun x => ∃ fs, x = .ins C fs ∧ WE p ρ tb fun y => ∃ t, TyW C y t ∧ S [.ins C fs, y] Q) : WE p ρ (tOp (rOwnEq p.K C (spD p.K S)) ta tb) Q :=
  we_op (h.imp fun x ⟨fs, ex, h⟩ => h.imp fun y ⟨t, ty, q⟩ => fun G H v w m r1 r2 Qv k => by
    subst ex
    have nf : PySem.W.notFirst p.K C t = true := by
      rcases ty with ⟨s, h, rfl⟩ | ⟨_, _, rfl⟩
      · exact F.nf s (tyD_in h)
      · simp [PySem.W.notFirst]
    cases id r1 with
    | ins q1 l c => exact ⟨_, _, _, t, rfl, m.sub _ _ q1, tyW_x F m.sub r2 ty, nf, p.h, G, _, Q, .cons r1 (.cons r2 .nil), m.refl, q, fun d v G' H' z mm rr => k d v G' H' z mm rr⟩)
end
end Cal
set_option Elab.async false
set_option linter.all false
set_option maxRecDepth 100000
set_option maxHeartbeats 4000000
namespace Cal
open PySem L2 PyProof.Rows
open Evl (Ex sq_of st_of)
/-! ### != of a class that has only == -/
/-- the class as it stands: its == is f, it has no != of its own -/
structure NeF (K : PySem.W.Frag) (C f : Addr) : Prop where
  ex : ∃ (nm q : Str) (N : Addr) (bs : List Value) (hdct : Bool) (sn : List Str) (sub : List Value) (ab : Bool) (col : Option Bool) (dd : Option Addr) (k0 k1 k2 k3 k5 : Option Value) (newId : String) (oc : Value) (od : Option Addr) (es : Array DictEntry) (ep : Nat) (sl : Array (Option Value)),
    K.lookup C = some (excClassObj nm q C N bs [.type "object"] hdct sn sub ab col dd k0 k1 k2 k3 k5 newId) ∧ K.lookup N = some ⟨oc, od, .dict es ep, sl⟩ ∧ es.toList.all (fun e => match e.key with | .str _ _ => true | _ => false) = true ∧
    nsFind es "__eq__" = some (.ref f) ∧ nsFind es "__ne__" = none
theorem NeF.own {K : PySem.W.Frag} {C f : Addr} (F : NeF K C f) {h : Heap} {x : Addr} {o of : Obj} (X : K.In h) (hx : h.get? x = some o) (hc : o.cls = .ref C) (hf : h.get? f = some of) (hfc : of.cls = .type "function") : h.OwnEqNoNe x C f "object" [.type "object"] := by
  obtain ⟨nm, q, N, bs, hdct, sn, sub, ab, col, dd, k0, k1, k2, k3, k5, newId, oc, od, es, ep, sl, l1, l2, l3, l4, l5⟩ := F.ex
  refine ⟨o, of, nm, q, N, bs, hdct, sn, sub, ab, col, dd, k0, k1, k2, k3, k5, newId, nsFind es, _, hx, hc, X _ _ l1, ⟨_, es, ep, X _ _ l2, rfl, fun e he => ?_, fun _ => rfl⟩, l4, hf, hfc, rfl, rfl, l5⟩
  have := List.all_eq_true.mp l3 e (by simpa using he)
  cases z : e.key <;> rw [z] at this <;> first | exact ⟨_, _, rfl⟩ | cases this
/-- a != b of two objects of the class -/
def rOwnNe (C : Addr) (sp : Sp) : R2 := fun x y H Q => ∃ a dx fs b dy gs, x = .ref a ∧ y = .ref b ∧ H a = some (.ins C dx fs) ∧ H b = some (.ins C dy gs) ∧ sp [x, y] H (fun v H' => ∃ r, v = .bl r ∧ Q (.bl (!r)) H') (fun _ _ _ => False)
theorem op_ownNe {X : Cx} {k : Nat} {C f : Addr} {fd : FuncData} {ps : List Str} {sp : Sp} (N : NeF X.K C f) (F : FnOk X.prog X.w X.K X.mg X.base CX0 k f fd ps sp) (hf : ∃ of, X.K.lookup f = some of ∧ of.cls = .type "function") (hr : Room (k + 1) X.A) (hb : Binds X.K fd ps []) : OpR X (compareOp .NotEq) (rOwnNe C sp) := by
  intro pins s σ H x y v u Q I rx ry h
  obtain ⟨a, dx, fs, b, dy, gs, rfl, rfl, ha, hb', q⟩ := h
  cases rx
  cases ry
  obtain ⟨mA, J, _⟩ := ins_get I.hok ha
  obtain ⟨mB, J', _⟩ := ins_get I.hok hb'
  obtain ⟨of, lf, fc⟩ := hf
  have own := N.own I.kIn J.obj rfl (I.kIn _ _ lf) fc
  have hl := F.len _ _ _ _ q
  have hu : X.A.units + 1 < cLine := by have := hr.un; omega
  have bd : BindsTo s fd ⟨[.ref a, .ref b], []⟩ (ps.zip [.ref a, .ref b]) := by
    have := hb s [.ref a, .ref b] I.kIn (by simpa using hl)
    simpa using this
  have r2 : Vals [V.ref a, V.ref b] [Value.ref a, Value.ref b] := .cons rfl (.cons rfl .nil)
  refine compareOp_ne_ownEq PySem.F.cmp_object own J'.obj rfl hu ?_
  refine wpAny_call (codeAny_mono (F.run X.A.in1 X.stack s H ⟨[.ref a, .ref b], []⟩ _ _ _ _ hr.in1 I.env0.in1 bd r2 q) fun r s' hq => ?_)
  cases r with
  | error e => exact False.elim hq
  | ok fl =>
    cases fl with
    | ret w =>
      obtain ⟨z, H', I', rz, r', ez, q'⟩ := I.after hq
      subst ez
      cases rz
      exact ⟨r', rfl, .bl (!r'), H', I', rfl, q'⟩
    | next => exact False.elim hq
    | brk => exact False.elim hq
    | cont => exact False.elim hq
/-! ### methods that an operator calls -/
/-- the method m of the class x of the text -/
structure MSrc (K : PySem.W.Frag) (mg : Str → Option Value) (x m : Str) (st : Stmt) (q : Str) : Prop where
  ex : ∃ C f fd, mg x = some (.ref C) ∧ EqF K C ∧ Fun K m q st f fd ∧ PySem.W.findIn K (.ref C) m = some (some (.ref f)) ∧ PySem.W.isFn K (.ref f) = true ∧ (∃ of, K.lookup f = some of ∧ of.cls = .type "function") ∧ (m = "__eq__" → NeF K C f)
/-- a method that keeps the promise S -/
structure MDfn (P : Program) (w : World) (K : PySem.W.Frag) (mg : Str → Option Value) (base : Heap) (k : Nat) (C : Addr) (m : Str) (ps : List Str) (S : List D → (D → Prop) → Prop) : Prop where
  ex : ∃ f fd, PySem.W.findIn K (.ref C) m = some (some (.ref f)) ∧ PySem.W.isFn K (.ref f) = true ∧ (∃ of, K.lookup f = some of ∧ of.cls = .type "function") ∧ (m = "__eq__" → NeF K C f) ∧ FnOk P w K mg base CX0 k f fd ps (spD K S) ∧ Binds K fd ps []
section
variable {P : Program} {w : World} {K : PySem.W.Frag} {mg : Str → Option Value} {base : Heap}
theorem mkM {x m q : Str} {st : Stmt} {N ps : List Str} {k : Nat} {S : Addr → List D → (D → Prop) → Prop} (F : MSrc K mg x m st q) (sc : FnScope N ps (defScope st))
    (hb : ∀ (kV doc pm : Value) (an : Option Addr) (cdv ct : Value) (us : List Value), us.length = ps.length → bindArgs (PySem.W.fnOf m q (defArgs st) (defBody st) (defScope st) .none kV doc pm an cdv ct) ⟨us, []⟩ = pure (ps.zip us))
    (len : ∀ C ds R, S C ds R → ds.length = ps.length)
    (body : ∀ (C f : Addr) (cdv : Value) (A : Around) (outer : List Env) (s : Shared) (H : Hp) (E : XK), mg x = some (.ref C) → EqF K C → Room k (A.deeper (envOfC q (defScope st) s.heap.objs.size f cdv)) →
      ∃ t, PSs (cxOf CX0 P w K mg base N q (defScope st) f cdv A outer s H E).nox (defBody st) t ∧ ∀ (h : Hnd) (H0 G0 : Hp) ds R, S C ds R → WS ⟨K, h, H0, G0⟩ (rho0 N ds) t (retP R)) :
    ∃ C, mg x = some (.ref C) ∧ EqF K C ∧ MDfn P w K mg base (k + 1) C m ps (S C) := by
  obtain ⟨C, f, fd, hm, hE, F, hs, hf, ht, hne⟩ := F.ex
  refine ⟨C, hm, hE, f, fd, hs, hf, ht, hne, F.ok sc (fun vs H Q E h => ?_) (fun cdv A outer s H vs Q E hr h => ?_), F.binds hb⟩
  · obtain ⟨hd, G, ds, R, r, m, hs, q⟩ := h
    rw [r.length]
    exact len C ds R hs
  · obtain ⟨hd, G, ds, R, r, m, hs, q⟩ := h
    obtain ⟨t, ht, hw⟩ := body C f cdv A outer s H E hm hE hr
    exact ⟨t, ht, hw hd H G ds R hs G _ H (hold0 m r) _ (fun ρ' G' σ' H' z e hh => q .non .non G' H' z hh.mem .non) (fun d v G' H' z m' r' => q d v G' H' z m' r') (fun _ _ _ _ z => z.elim) fun _ _ _ _ z => z.elim⟩
end
section
variable {X : Cx} {k : Nat} {C : Addr} {ps : List Str} {S : List D → (D → Prop) → Prop} {a b : Expr} {ta tb : TE} {pos : Pos}
theorem opr_own (F : MDfn X.prog X.w X.K X.mg X.base k C "__eq__" ps S) (hr : Room k X.A) : OpR X (compareOp .Eq) (rOwnEq X.K C (spD X.K S)) := by
  obtain ⟨f, fd, hs, hf, _, _, h3, h4⟩ := F.ex
  exact op_own h3 hr hs hf h4 (fun _ _ _ _ _ _ _ z => z.elim)
theorem opr_ownNe (F : MDfn X.prog X.w X.K X.mg X.base k C "__eq__" ps S) (hr : Room (k + 1) X.A) : OpR X (compareOp .NotEq) (rOwnNe C (spD X.K S)) := by
  obtain ⟨f, fd, hs, hf, ht, hne, h3, h4⟩ := F.ex
  exact op_ownNe (hne rfl) h3 ht hr h4
end
section
variable {p : Par} {ρ : Rho} {Q : D → Prop} {ta tb : TE} {C : Addr}
theorem we_ownNe {S : List D → (D → Prop) → Prop} (h : WE p ρ ta fun x => ∃ fs, x = .ins C fs ∧ WE p ρ tb fun y => ∃ gs, y = .ins C gs ∧ S [.ins C fs, y] fun d => ∃ b, d = .bl b ∧ Q (.bl (!b))) : WE p ρ (tOp (rOwnNe C (spD p.K S)) ta tb) Q :=
  we_op (h.imp fun x ⟨fs, ex, h⟩ => h.imp fun y ⟨gs, ey, q⟩ => fun G H v w m r1 r2 Qv k => by
    subst ex ey
    cases id r1 with
    | ins q1 l1 c1 =>
      cases id r2 with
      | ins q2 l2 c2 =>
        exact ⟨_, _, _, _, _, _, rfl, rfl, m.sub _ _ q1, m.sub _ _ q2, p.h, G, _, _, .cons r1 (.cons r2 .nil), m.refl, q, fun d v G' H' ⟨b, eb, z⟩ mm rr => by
          subst eb
          exact ⟨b, rp_bl rr, k _ _ G' H' z mm (.bl _)⟩⟩)
end
section
variable {p : Par} {ρ : Rho} {Q : D → Prop} {ta tb : TE}
theorem rp_str' {K : PySem.W.Frag} {h : Hnd} {G : Hp} {v : V} {i : Str} (r : Rp K h G v (.str i)) : v = .str i := by cases r; rfl
/-- == of texts -/
theorem we_eqS (h : WE p ρ ta fun x => ∃ i : Str, x = .str i ∧ WE p ρ tb fun y => ∃ j : Str, y = .str j ∧ Q (.bl (decide (i = j)))) : WE p ρ (tOp rEq ta tb) Q :=
  we_op (h.imp fun x ⟨i, e, h⟩ => h.imp fun y ⟨j, e2, q⟩ => fun G H v w m r1 r2 Qv k => by
    subst e e2
    rw [rp_str' r1, rp_str' r2]
    refine ⟨rfl, ?_⟩
    have z : decide (V.str i = V.str j) = decide (i = j) := by
      by_cases e : i = j
      · subst e; simp
      · rw [decide_eq_false e, decide_eq_false fun q => e (V.str.inj q)]
    rw [z]
    exact k _ _ G H q m.refl (.bl _))
end
section
variable {p : Par} {ρ : Rho}
/-- a, b, .. = a list of so many -/
theorem wg_lst {n : Nat} {gs : TGs} {x : D} {N : Rho → Prop} (h : ∃ xs, x = .lst xs ∧ xs.length = n ∧ WGs p ρ gs xs N) : WG p ρ (gLst p.K n gs) x N := fun G σ H v hh r Qs k => by
  obtain ⟨xs, e, hl, h⟩ := h
  subst e
  obtain ⟨a, vs, ev, hs, hr⟩ := r.lst_inv
  exact ⟨a, vs, ev, lq hh.mem.sub hs, by rw [hr.length]; exact hl, h G σ H vs hh hr Qs k⟩
end
section
variable {X : Cx} {K0 : PySem.W.Frag} {k : Nat} {C : Addr} {ps : List Str} {S : List D → (D → Prop) → Prop}
theorem opr_ownK (hK : X.K = K0) (F : MDfn X.prog X.w K0 X.mg X.base k C "__eq__" ps S) (hr : Room k X.A) : OpR X (compareOp .Eq) (rOwnEq K0 C (spD K0 S)) := by
  subst hK
  exact opr_own F hr
theorem opr_ownNeK (hK : X.K = K0) (F : MDfn X.prog X.w K0 X.mg X.base k C "__eq__" ps S) (hr : Room (k + 1) X.A) : OpR X (compareOp .NotEq) (rOwnNe C (spD K0 S)) := by
  subst hK
  exact opr_ownNe F hr
end
end Cal
set_option Elab.async false
set_option linter.all false
set_option maxRecDepth 100000
set_option maxHeartbeats 4000000
namespace Cal
open PySem PySem.Spec L2 PyProof.Rows
open Evl (Ex sq_of st_of)
/-! ### tuple * int, once too -/
theorem tuple_mulW1 (l : Addr) (items : Array Value) (n : Nat) (dd : Option Addr) (sl : Array (Option Value)) (u : Tok) :
    Meets (Builtin.«tuple.__mul__» ⟨[.ref l, .int 1 u], []⟩) (fun _ R s => s.heap.get? l = some { cls := .type "tuple", dict := dd, data := .seq items n, slots := sl } ∧ R (.ok (.ret (Value.ref l))) s) :=
  .of_wp fun prog w A R s h => by
    obtain ⟨hp, g, d, tk, os⟩ := s
    obtain ⟨hl, h⟩ := h
    have f1 := AutoSeq1.idx_int
    have c0 : (decide ((1 : Int) < -(2 ^ 63)) || decide ((1 : Int) ≥ 2 ^ 63)) = false := by decide
    have c1 : (items.isEmpty || (1 : Int) == 1) = true := by rw [Bool.or_eq_true]; exact .inr rfl
    wp_walk using wpAny_loadPart' hl
    repeat (first
      | (refine wpAny_ite_false (decide_eq_false (by rw [c0]; exact Bool.false_ne_true)) ?_; wp_walk using wpAny_loadPart' hl)
      | (refine wpAny_ite_true (decide_eq_true (by rw [c1])) ?_; wp_walk using wpAny_loadPart' hl))
    exact ⟨_, rfl, h⟩
def rRepT1 (K : PySem.W.Frag) : R2 := fun x y H Q => ∃ l k xs, x = .ref l ∧ y = .int k ∧ SqT K H l xs ∧ xs ≠ [] ∧ 1 ≤ k ∧ k ≤ 1000 ∧ xs.length ≤ 1000 ∧ (k = 1 → Q (.ref l) H) ∧ (2 ≤ k → ∀ p, H p = none → Q (.ref p) (upd H p (.tup (List.replicate k.toNat xs).flatten)))
theorem op_repT1 {X : Cx} : OpR X (binaryOp .Mult) (rRepT1 X.K) := by
  intro pins s σ H x y v u Q I rx ry h
  obtain ⟨l, k, xs, rfl, rfl, hT, hne, h1, h2, hz, q1, q2⟩ := h
  by_cases hk : 2 ≤ k
  · exact op_repT pins s σ H _ _ v u Q I rx ry ⟨l, k, xs, rfl, rfl, hT, hne, hk, h2, hz, q2 hk⟩
  have e1 : k = 1 := by omega
  subst e1
  cases rx
  obtain ⟨t, rfl⟩ := ry
  obtain ⟨its, r, ⟨⟨cls, dd, data, sl⟩, ho, hc, n, hd⟩, hs⟩ := I.tuple hT
  simp only at hc hd
  subst hc hd
  exact wpAny_binaryOp_repeat_ref (T := "tuple") (U := "int") (by decide) ⟨_, ho, rfl⟩ (fun s' => typeIs_int s' 1 t) noFill_tuple_mul F.fills_int_mul F.slot_int_rmul repeat_tuple F.slot_int_index.lookup
    (call_meets F.slot_int_rmul (typeIs_int s 1 t) F.entry_int_rmul (F.args_int_rmul_2 _ _) (int_rmul_tuple 1 t l its.toArray n dd sl)
      ⟨ho, rfl, ⟨_, ho, rfl⟩, call_meets F.slot_tuple_mul ⟨_, ho, rfl⟩ F.entry_tuple_mul (F.args_tuple_mul_2 _ _) (tuple_mulW1 l its.toArray n dd sl t) ⟨ho, ⟨.ref l, H, I, rfl, q1 rfl⟩⟩⟩)
theorem op_repT1K {X : Cx} {K0 : PySem.W.Frag} (hK : X.K = K0) : OpR X (binaryOp .Mult) (rRepT1 K0) := hK ▸ op_repT1
section
variable {p : Par} {ρ : Rho} {Q : D → Prop} {ta tb te : TE}
theorem we_repT1 (h : WE p ρ ta fun x => ∃ xs, x = .tup xs ∧ xs ≠ [] ∧ xs.length ≤ 1000 ∧ WE p ρ tb fun y => ∃ n : Int, y = .int n ∧ 1 ≤ n ∧ n ≤ 1000 ∧ Q (.tup (List.replicate n.toNat xs).flatten)) : WE p ρ (tOp (rRepT1 p.K) ta tb) Q :=
  we_op (h.imp fun x ⟨xs, ex, hne, hxl, h⟩ => h.imp fun y ⟨n, ey, n1, n2, q⟩ => fun G H v w m r1 r2 Qv k => by
    subst ex ey
    have r1' := r1
    obtain ⟨a, vs, ev, hs, hl⟩ := r1.tup_inv
    subst ev
    have hz := hl.length
    refine ⟨a, n, vs, rfl, rp_int r2, tqT m.sub hs, fun z => hne ?_, n1, n2, by omega, fun e1 => ?_, fun _ b hb => ?_⟩
    · rw [z] at hz
      exact List.length_eq_zero_iff.mp hz.symm
    · subst e1
      have e : (List.replicate (1 : Int).toNat xs).flatten = xs := by
        show (List.replicate 1 xs).flatten = xs
        simp
      rw [e] at q
      exact k _ _ G H q m.refl r1'
    · have g := m.grow (o := .tup (List.replicate n.toNat vs).flatten) hb
      exact k _ _ _ _ q g (.tup upd_same (lmono (rep_rp hl _) g.ex)))
/-- is it None -/
def isNo : D → Option Bool | .non => some true | .raw _ => none | _ => some false
theorem isNo_rp {K : PySem.W.Frag} {h : Hnd} {G : Hp} {v : V} : ∀ {x : D} {b : Bool}, isNo x = some b → Rp K h G v x → decide (v = .non) = b
  | .non, _, e, r => by cases e; cases r; rfl
  | .bl _, _, e, r => by cases e; cases r; rfl
  | .int _, _, e, r => by cases e; cases r; rfl
  | .str _, _, e, r => by cases e; cases r; rfl
  | .tup _, _, e, r => by cases e; cases r <;> rfl
  | .lst _, _, e, r => by cases e; cases r; rfl
  | .dK _, _, e, r => by cases e; cases r; rfl
  | .dT _, _, e, r => by cases e; cases r; rfl
  | .hand, _, e, r => by cases e; cases r; rfl
  | .raw _, _, e, r => by cases e
  | .ptp _, _, e, r => by cases e; cases r; rfl
  | .exc _, _, e, r => by cases e; cases r; rfl
  | .ins _ _, _, e, r => by cases e; cases r; rfl
theorem we_isN (h : WE p ρ ta fun x => ∃ b, isNo x = some b ∧ WE p ρ tb fun y => y = .non ∧ Q (.bl b)) : WE p ρ (tOp (fun x y H Q => y = .non ∧ Q (.bl (decide (x = .non))) H) ta tb) Q :=
  we_op (h.imp fun x ⟨b, e, h⟩ => h.imp fun y ⟨ey, q⟩ => fun G H v w m r1 r2 Qv k => by
    subst ey
    cases r2
    refine ⟨rfl, ?_⟩
    rw [isNo_rp e r1]
    exact k _ _ G H q m.refl (.bl _))
theorem we_notN (h : WE p ρ ta fun x => ∃ b, isNo x = some b ∧ WE p ρ tb fun y => y = .non ∧ Q (.bl (!b))) : WE p ρ (tOp (fun x y H Q => y = .non ∧ Q (.bl (!decide (x = .non))) H) ta tb) Q :=
  we_op (h.imp fun x ⟨b, e, h⟩ => h.imp fun y ⟨ey, q⟩ => fun G H v w m r1 r2 Qv k => by
    subst ey
    cases r2
    refine ⟨rfl, ?_⟩
    rw [isNo_rp e r1]
    exact k _ _ G H q m.refl (.bl _))
end
/-! ### EqF from facts that are found -/
abbrev sevenT : List String := ["NoneType", "bool", "int", "str", "tuple", "list", "dict"]
theorem sub_ref (K : PySem.W.Frag) (C : Addr) : ∀ t, t ∈ sevenT → PySem.W.subIn K (.type t) (.ref C) = some false := fun t h => by
  simp only [List.mem_cons, List.not_mem_nil, or_false] at h
  rcases h with rfl | rfl | rfl | rfl | rfl | rfl | rfl <;> rfl
theorem eqf_mk {K : PySem.W.Frag} {C : Addr} (cls : Cls K C) (ha : PySem.W.findIn K (.ref C) "__class__" = some (some (.builtin "object.__class__")))
    (hn : PySem.W.specialIn K (.builtin "object.__class__") "__get__" = some (some (.builtin "getset_descriptor.__get__"))) (ht : PySem.W.takesIn K (.builtin "object.__class__") = some true) (hm : PySem.W.mroIn K C (.type "object") = some true)
    (ic : PySem.W.isClsIn K C = true) (tc : PySem.W.typeIn K (.ref C) = some (.type "type"))
    (s0 : PySem.W.subIn K (.ref C) (.type "NoneType") = some false) (s1 : PySem.W.subIn K (.ref C) (.type "bool") = some false) (s2 : PySem.W.subIn K (.ref C) (.type "int") = some false) (s3 : PySem.W.subIn K (.ref C) (.type "str") = some false)
    (s4 : PySem.W.subIn K (.ref C) (.type "tuple") = some false) (s5 : PySem.W.subIn K (.ref C) (.type "list") = some false) (s6 : PySem.W.subIn K (.ref C) (.type "dict") = some false) : EqF K C := by
  have q1 : (PySem.W.clsIn K C).isSome = true := ic
  have q2 : ((PySem.W.clsIn K C).isSome && PySem.W.typeIn K (.ref C) == some (.type "type")) = true := by rw [q1, tc]; rfl
  refine ⟨cls, ha, hn, ht, hm, fun t h => ?_, fun t h => ?_, fun t h => ?_, ?_⟩
  · unfold PySem.W.notFirst
    rw [sub_ref K C t h]
    simp
  · have kc : PySem.W.kitCls K (.type t) (.ref C) = some false := by
      refine Eq.trans (b := if ((PySem.W.clsIn K C).isSome && PySem.W.typeIn K (.ref C) == some (.type "type")) = true then PySem.W.subIn K (.type t) (.ref C) else none) rfl ?_
      rw [if_pos q2, sub_ref K C t h]
    unfold PySem.W.kitOne
    rw [if_neg (by simp), kc]
  · have sb : PySem.W.subIn K (.ref C) (.type t) = some false := by
      simp only [List.mem_cons, List.not_mem_nil, or_false] at h
      rcases h with rfl | rfl | rfl | rfl | rfl | rfl | rfl <;> assumption
    have km : PySem.W.kitMeta t = true := by
      simp only [List.mem_cons, List.not_mem_nil, or_false] at h
      rcases h with rfl | rfl | rfl | rfl | rfl | rfl | rfl <;> decide +kernel
    have kc : PySem.W.kitCls K (.ref C) (.type t) = some false := by
      refine Eq.trans (b := if PySem.W.kitMeta t = true then PySem.W.subIn K (.ref C) (.type t) else none) rfl ?_
      rw [if_pos km, sb]
    unfold PySem.W.kitOne
    rw [if_neg (by simp), kc]
  · unfold PySem.W.kitOne
    rw [if_pos (by simp)]
end Cal
set_option Elab.async false
set_option linter.all false
set_option maxRecDepth 100000
set_option maxHeartbeats 4000000
namespace Cal
open PySem L2 PyProof.Rows LamX
open Evl (Ex sq_of st_of)
/-! ### a def that gives what it is handed gives, or says a word -/
def TTr (mg : Str → Option Value) (wd : Str → Option Str) : (XK → Hp → VK → Prop) → Hp → VK → Prop := fun tl H Q =>
  tl (fun cls _ H' => ∃ y C s, cls = .ref C ∧ mg y = some (.ref C) ∧ wd y = some s ∧ Q (.str s) H') H Q
theorem words_give2 {X : Cx} {Ng : List Str} {x a q : Str} {sg : Scope} {g : Addr} {cdg : Value} {h₀ : ExceptHandler} {hds : List ExceptHandler} {wd : Str → Option Str} {cl : List (Addr × Str)} {p1 p2 p3 p8 : Pos}
    (hh : ∀ (s : Shared) (H : Hp), HdsOk (cxOf C8.CX0 X.prog X.w X.K X.mg X.base Ng x sg g cdg X.A X.stack s H C8.E0).nox (h₀ :: hds) (cl.map fun z => (Value.ref z.1, fun _ _ _ => tRet (tC (.str z.2)))))
    (hw : ∀ (y : Str) (C : Addr) (s : Str), X.mg y = some (.ref C) → wd y = some s → Leads X.K (.ref C) s cl) :
    GivesTo X Ng x sg g cdg [.Try [.Return (some (.Call (.Name a p1) [] [] p2)) p3] (h₀ :: hds) [] [] p8] a q (TTr X.mg wd) := by
  intro f c' s H Q tl act hc h
  refine ⟨_, pss_one (ps_try_many (X := (cxOf C8.CX0 X.prog X.w X.K X.mg X.base Ng x sg g cdg X.A X.stack s H C8.E0).nox) (Wout := fun _ _ _ _ => False)
      (tb := fun W D σ H => ∃ Ech : XK, (∀ cls d σ' H', Ech cls d H' → W cls d σ' H') ∧ σ[0]? = some (some (.ref f)) ∧ H c' = some (CodeO c' q) ∧ tl Ech H fun v H1 => D.rt v H1)
      rfl rfl LamX.takes0 (fun W pn xe tk _ => ?_) (hh s H)), ?_⟩
  · refine ⟨fun pins s' σ H' D I h' => ?_⟩
    obtain ⟨Ech, hW, h1, h2, h3⟩ := h'
    have hq := pss_one (ps_ret (pos := p3) (act W pn xe Ech p1 p2 tk hW))
    exact hq.run pins s' σ H' D I ⟨h1, h2, h3⟩
  · exact ⟨fun cls _ H' => ∃ y C s, cls = .ref C ∧ X.mg y = some (.ref C) ∧ wd y = some s ∧ Q (.str s) H', fun cls d σ' H' ⟨y, C, s, e1, e2, e3, e4⟩ => by
      subst e1
      exact leads_many (D := _) e4 (hw y C s e2 e3), rfl, hc, h⟩
section
variable {p : Par} {ρ : Rho} {Q : D → Prop} {mg : Str → Option Value} {ta tb : TE}
def giveOf (Q : D → Prop) (wd : Str → Option Str) : Out → Prop
  | .ok d => Q d
  | .new _ => False
  | .ex y _ => ∃ s, wd y = some s ∧ Q (.str s)
theorem we_lam2 {T : List (Addr × Str)} {wd : Str → Option Str} {S : List D → (Out → Prop) → Prop} {ta : TA} (hT : p.h.T = T) (h : WA p ρ ta fun ds => S ds (giveOf Q wd)) :
    WE p ρ (tLam T (TTr mg wd) fun E => tCallS (spX p.K mg S) (L2.WE fun cls d _ H => E cls d H) ta) Q := fun G σ H hh Qv k => by
  subst hT
  refine ⟨hh.mem.tab, fun H1 eN T1 => ?_⟩
  have s0 : Stp p G H G H1 := ⟨fun a o e => eN a o (hh.mem.sub a o e) fun ps z => hh.mem.gt a ps (by rw [e, z]), hh.mem.gh, fun a o _ t e => eN a o e t, fun _ _ e => e, fun _ _ e => .inl e, by
    obtain ⟨xs, hx⟩ := hh.mem.hand.some
    exact hh.mem.hand.mono (fun _ _ e => e) (by rw [hx]; exact eN _ _ hx fun ps z => by cases z), hh.mem.gt, T1⟩
  have hh0 := hh.step s0
  refine h G σ H1 hh0 _ fun ds vs G2 H2 q s1 r1 => ?_
  have hh1 := hh0.step s1
  have all := s0.trans s1
  refine ⟨p.h, G2, ds, _, r1, hh1.mem.refl, q, fun d v G' H' z m r => k d v G' H' z (all.trans m) r, fun c a G' H' z ho m x => z.elim, fun y fs C d G' H' z hm m xr => ?_⟩
  obtain ⟨s, e1, e2⟩ := z
  exact ⟨y, C, s, rfl, hm, e1, k (.str s) (.str s) G' H' e2 (all.trans m) (.str s)⟩
/-- != of texts -/
theorem we_neS (h : WE p ρ ta fun x => ∃ i : Str, x = .str i ∧ WE p ρ tb fun y => ∃ j : Str, y = .str j ∧ Q (.bl (!decide (i = j)))) : WE p ρ (tOp rNe ta tb) Q :=
  we_op (h.imp fun x ⟨i, e, h⟩ => h.imp fun y ⟨j, e2, q⟩ => fun G H v w m r1 r2 Qv k => by
    subst e e2
    rw [rp_str' r1, rp_str' r2]
    refine ⟨rfl, ?_⟩
    have z : decide (V.str i = V.str j) = decide (i = j) := by
      by_cases e : i = j
      · subst e; simp
      · rw [decide_eq_false e, decide_eq_false fun q => e (V.str.inj q)]
    rw [z]
    exact k _ _ G H q m.refl (.bl _))
/-- is, of flags -/
theorem we_isB (h : WE p ρ ta fun x => ∃ a, x = .bl a ∧ WE p ρ tb fun y => ∃ b, y = .bl b ∧ Q (.bl (decide (a = b)))) : WE p ρ (tOp (fun x y H Q => ∃ a b, x = .bl a ∧ y = .bl b ∧ Q (.bl (decide (a = b))) H) ta tb) Q :=
  we_op (h.imp fun x ⟨a, e, h⟩ => h.imp fun y ⟨b, e2, q⟩ => fun G H v w m r1 r2 Qv k => by
    subst e e2
    exact ⟨a, b, rp_bl r1, rp_bl r2, k _ _ G H q m.refl (.bl _)⟩)
end
section
variable {p : Par} {ρ : Rho} {P : Post}
theorem ws_par3 {i j l : Nat} {ta : TA} (h : WA p ρ ta fun ds => ∃ x y z, ds = [x, y, z] ∧ P.n (((ρ.set i (some (.d x))).set j (some (.d y))).set l (some (.d z)))) : WS p ρ (tPar3 i j l ta) P := fun G σ H hh E kn kr kb kc =>
  h G σ H hh _ fun ds vs G' H' ⟨x, y, z, e, q⟩ s r => by
    subst e
    cases r with
    | @cons v _ _ _ r1 rn => cases rn with | @cons w _ _ _ r2 rn => cases rn with | @cons u _ _ _ r3 rn => cases rn; exact ⟨v, w, u, rfl, kn _ G' _ H' q s.ex ((((hh.step s).setD r1).setD r2).setD r3)⟩
end
section
variable {X : Cx} {x : Str} {p pos : Pos} {e : Expr} {es : List Expr} {t : TA} {k : Nat} {ps : List Str} {S : List D → (Out → Prop) → Prop} {W : WX} {K0 : PySem.W.Frag} {mg0 : Str → Option Value}
theorem pe_callXK (hK : X.K = K0) (hm : X.mg = mg0) (F : DfnX X.prog X.w K0 mg0 X.base k x ps S) (hr : Room k X.A) (tk : Takes X W) (ha : PA X (e :: es) t) (hg : Gl X x := by rfl) (hdb : (x == ("__debug__" : Str)) = false := by decide)
    (he : starEach (e :: es) X.env = (false, eval e X.env) :: starEach es X.env := by rfl) (hpl : (backTo pos (starEach es X.env)).any (·.1) = false := by rfl) : PE X (.Call (.Name x p) (e :: es) [] pos) (tCallS (spX K0 mg0 S) (L2.WE W) t) := by
  subst hK hm
  exact pe_callX F hr tk ha hg hdb he hpl
end
end Cal
set_option Elab.async false
set_option linter.all false
set_option maxRecDepth 100000
set_option maxHeartbeats 4000000
namespace Cal
open PySem PySem.Spec L2 PyProof.Rows
open Evl (Ex sq_of st_of)
/-! ### a list gone through to its end while an error is handled -/
section
variable {prog : Program} {w : World} {A : Around} {E : Value → Shared → Prop} {s : Shared}
theorem list_end_hot {i0 l x1 : Addr} {n : Nat} {its : Array Value} {Q : Option Value → Shared → Prop} (hot : HotX.HotAt A x1 s.heap) (hx1 : x1 ≠ i0) (hi : s.heap.IsListIter i0 l n) (hl : s.heap.IsList l its) (hn : its[n]? = none)
    (hQ : ∀ h', Heap.ExtBut i0 s.heap h' → Q none { s with heap := h' }) : wpAny (model prog w) A (pyNext (.ref i0)) Q E s := by
  obtain ⟨hh, o1, v1, g1, d1, c1⟩ := hot
  obtain ⟨oi, gi, _, di⟩ := id hi
  obtain ⟨ol, gl, _, nl, dl⟩ := id hl
  unfold pyNext
  have args0 := args_listiter_next (.ref i0)
  refine wpAny_bind (wpAny_attempt (wpAny_callSpecial?_slot (name := Str.ofString "__next__") hi.typeIs slot_listiter_next (wpAny_call_entry slot_listiter_next hi.typeIs entry_listiter_next ?_ args0)))
  change wpAny _ _ (field (.ref i0) 0 >>= _) _ _ s
  refine wpAny_bind (wpAny_field gi di (x := .ref l) rfl ?_)
  change wpAny _ _ (if (Value.ref l == Value.none) = true then _ else _) _ _ s
  have nn : ¬ ((Value.ref l == Value.none) = true) := fun z => Bool.noConfusion z
  rw [if_neg nn]
  change wpAny _ _ (field (.ref i0) 1 >>= _) _ _ s
  refine wpAny_bind (wpAny_field gi di (x := .int n 0) rfl ?_)
  change wpAny _ _ (seqItems? (.ref l) >>= _) _ _ s
  refine wpAny_bind (wpAny_seqItems gl dl ?_)
  simp only [Int.toNat_natCast, hn]
  refine wpAny_bind (wpAny_rule (wpAny_bind (wpAny_setField gi di (by simp) (wpAny_bind ?_))))
  change wpAny _ _ (newExc (.type "StopIteration") [] >>= _) _ _ _
  refine wpAny_bind ?_
  simp only [newExc, newTuple]
  refine wpAny_bind (wpAny_newObj_type ?_ (by size_fits))
  refine wpAny_bind (m := firstArgMember _ _) (wpAny_of_eq (a := Value.none) (by first | rfl | (simp only [firstArgMember]; rfl)) (wpAny_newObj_type ?_ (by size_fits)))
  have u1 : (s.heap.update i0 (Obj.mapFields (·.setIfInBounds 0 Value.none))).get? x1 = some o1 := (Heap.get?_update_other _ _ (Ne.symm hx1)).trans g1
  have p1 := fun oa ob => Heap.get?_push_of_some (h := (s.heap.update i0 (Obj.mapFields (·.setIfInBounds 0 Value.none))).push oa) ob (Heap.get?_push_of_some oa u1)
  refine wpAny_pure (HotX.raiseNew_hot ⟨hh, o1, v1, p1 _ _, d1, c1⟩ (Nat.ne_of_lt (Heap.lt_size (Heap.get?_push_of_some _ u1))) (Heap.get?_push_size _ rfl) rfl (by first | (simp; done) | (simp; omega)) ?_)
  refine wpAny_bind (wpAny_isInstance (T := "StopIteration") (b := true) ⟨_, Heap.get?_update_self _ (Heap.get?_push_size _ rfl) rfl, rfl⟩ isSubtype_stop (wpAny_pure (hQ _ fun b o hb e => ?_)))
  have e1 : (s.heap.update i0 (Obj.mapFields (·.setIfInBounds 0 Value.none))).get? b = some o := (Heap.get?_update_other _ _ (Ne.symm hb)).trans e
  have e2 := fun oa => Heap.get?_push_of_some oa e1
  exact (Heap.get?_update_other _ _ (Nat.ne_of_gt (Heap.lt_size (e2 _)))).trans (Heap.get?_push_of_some _ (e2 _))
end
/-- a list walked to its end, an error being handled -/
theorem walks_hot {prog : Program} {w : World} {A : Around} {x1 : Addr} (hh : A.handled = some (.ref x1)) (it l : Addr) (hne : l ≠ it) (hx1 : x1 ≠ it) (vs : Array Value) :
    Walks prog w A it [it, l, x1] [it] vs.size (fun i v => vs[i]? = some v) (fun i h => (h.IsListIter it l i ∧ h.IsList l vs) ∧ ∃ (o : Obj) (fs : Array Value), h.get? x1 = some o ∧ o.data = .fields fs ∧ fs[2]? = some .none) := by
  have keepX : ∀ {h h' : Heap}, (∀ b o, b ∉ [it] → h.get? b = some o → h'.get? b = some o) → (∃ (o : Obj) (fs : Array Value), h.get? x1 = some o ∧ o.data = .fields fs ∧ fs[2]? = some .none) → ∃ (o : Obj) (fs : Array Value), h'.get? x1 = some o ∧ o.data = .fields fs ∧ fs[2]? = some .none := fun hk ⟨o, fs, e, d⟩ => ⟨o, fs, hk x1 o (fun z => hx1 (List.mem_singleton.mp z)) e, d⟩
  have out : ∀ {b : Addr}, b ∉ [it] → b ≠ it := fun h z => h (List.mem_singleton.mpr z)
  constructor
  · intro b hb
    rw [List.mem_singleton.mp hb]
    exact List.mem_cons_self
  · rintro i h h' ⟨⟨h1, h2⟩, o, fs, e, d⟩ hk
    exact ⟨⟨h1.at fun o e => hk it (by simp) o e, h2.at fun o e => hk l (by simp) o e⟩, o, fs, hk x1 (by simp) o e, d⟩
  · rintro i s Q E hi ⟨⟨h1, h2⟩, hx⟩ hQ
    have get : vs[i]? = some vs[i] := Array.getElem?_eq_getElem hi
    refine wpAny_pyNext_list_item h1 h2 get fun h' h3 same => hQ _ h' s.toks get ⟨⟨h3, h2.extBut same.extBut hne⟩, keepX (fun b o hb e => same.extBut b o (out hb) e) hx⟩ fun b o hb e => same.extBut b o (out hb) e
  · rintro s Q E ⟨⟨h1, h2⟩, o, fs, e, d1, d2⟩ hQ
    exact list_end_hot ⟨hh, o, fs, e, d1, d2⟩ hx1 h1 h2 (by simp) fun h' he => hQ h' s.toks fun b o hb e => he b o (out hb) e
  · rintro i s Q E ⟨⟨h1, _⟩, _⟩ hQ
    exact wpAny_pyIter_listiter h1 hQ
/-- sum of flags, an error being handled -/
theorem cr_sumH {X : Cx} (hc : L2H.HotC X) : CallR X (.builtin "sum") (rSumB X.K) := by
  intro pins s σ H vs us Q I r h
  obtain ⟨a, bs, rfl, hs, q⟩ := h
  obtain ⟨its, rv, hl, _⟩ := I.list hs
  rw [Vals.ref1 r]
  obtain ⟨x1, hh, o1, f1, g1, d1, c1⟩ := hc.at I
  have hL := hl.isList
  have lt : a < s.heap.objs.size := by obtain ⟨o, ho, _⟩ := hL; exact Heap.lt_size ho
  have lt1 : x1 < s.heap.objs.size := Heap.lt_size g1
  have hlen : its.length = bs.length := by have := rv.length; rw [List.length_map] at this; exact this.symm
  refine call_sum_walkAnyB (wpAny_pyIter_list hL ?_)
  refine ⟨_, _, _, _, _, _, _, fun i => if bs.getD i false = true then 1 else 0, rfl, (walks_hot (A := X.A.in1) (x1 := x1) hh s.heap.objs.size a (Nat.ne_of_lt lt) (Nat.ne_of_lt lt1) its.toArray).toS,
    ⟨⟨⟨_, Heap.get?_push_size _ rfl, rfl, rfl⟩, hL.push _⟩, o1, f1, Heap.get?_push_of_some _ g1, d1, c1⟩, fun b hb => ?_, fun i v hv => ?_, fun s' t' hm => ?_⟩
  · show b < (s.heap.push _).objs.size
    rw [Heap.size_push]
    simp only [List.mem_cons, List.not_mem_nil, or_false] at hb
    rcases hb with rfl | rfl | rfl
    · exact Nat.lt_succ_self _
    · exact Nat.lt_succ_of_lt lt
    · exact Nat.lt_succ_of_lt lt1
  · have hv' : its[i]? = some v := by simpa using hv
    have hi : i < bs.length := by have := (List.getElem?_eq_some_iff.mp hv').1; omega
    obtain ⟨u, h1, h2⟩ := rv.get (i := i) (x := .bl bs[i]) (by rw [List.getElem?_map, List.getElem?_eq_getElem hi]; rfl)
    rw [hv'] at h1
    cases h1
    cases h2
    refine .inr ⟨_, rfl, ?_⟩
    show (if bs.getD i false = true then (1 : Int) else 0) = _
    rw [List.getD_eq_getElem?_getD, List.getElem?_eq_getElem hi] <;> rfl
  · rw [Moved.eq_with hm]
    have e : preSum (fun i => if bs.getD i false = true then 1 else 0) its.toArray.size = trues bs := by
      rw [List.size_toArray, hlen, trues_pre bs _ (Nat.le_refl _), List.take_length]
    rw [e]
    exact ⟨.int _, H, I.kept fun b o z => hm.heap b o (fun hmem => Nat.ne_of_lt (Heap.lt_size z) (List.mem_singleton.mp hmem)) (Heap.get?_push_of_some _ z), ⟨_, rfl⟩, q⟩
end Cal
set_option Elab.async false
set_option linter.all false
set_option maxRecDepth 100000
set_option maxHeartbeats 4000000
namespace Cal
open PySem L2 PyProof.Rows
open Evl (Ex)
/-! ### errors whose context is known to be None -/
section
variable {X : Cx} {x : Str} {C : Addr} {e : Expr} {es : List Expr} {ta : TA} {te : TE} {p p1 p2 pos : Pos}
/-- behind C(): the exception, that has no dict, is let go -/
theorem mk_endNN {X : Cx} {pins : List (Addr × Obj)} {σ : L2.St} {H1 H2 : Hp} {Q : XK} {hp hp2 h2 : Heap} {g1 g2 : Array GenState} {d1 d2 : Drawn} {t1 t2 : Nat} {os1 os2 : OsState} {a C : Addr} (T : Raises X (.ref C)) (I1 : Inv X pins σ H1 ⟨hp, g1, d1, t1, os1⟩)
    (ha : hp.objs.size ≤ a) (k : ∀ b o, hp.get? b = some o → hp2.get? b = some o) (un : Un (frs X.stack) [] (upd H1 a (exo a C none)) H2 hp2 h2) (hok : HOk X.prog X.w H2 h2) (ho : os2 = os1) (hb : AllBare g2) (ea : H2 a = some (exo a C none)) (q : Q (.ref C) none (del H2 a)) :
    L2N.MkP X pins σ Q (.ref a) ⟨h2, g2, d2, t2, os2⟩ := by
  obtain ⟨t0, hoe⟩ := exo_at hok ea
  have hn : H1 a = none := I1.hok.fresh ha
  obtain ⟨G, gk0, ge0⟩ := restrict h2 fun b => decide (b ≠ a)
  have gk : ∀ b, b ≠ a → G.get? b = h2.get? b := fun b hb' => gk0 b (decide_eq_true hb')
  have ge : G.get? a = none := ge0 a (by simp)
  have nha : ∀ {b : Addr} {o : Obj}, hp.get? b = some o → b ≠ a := fun {b o} z => Nat.ne_of_lt (Nat.lt_of_lt_of_le (Heap.lt_size z) ha)
  have up : ∀ {b : Addr}, b ≠ a → H1 b = none → upd H1 a (exo a C none) b = none := fun {b} hb' n => (upd_ne hb').trans n
  have U : Un (frs X.stack) [] H1 (del H2 a) hp G := by
    constructor
    · intro b o z n hf hx; rw [gk b (nha z)]; exact un.keep b o (k b o z) (up (nha z) n) hf hx
    · intro b o z n hf hx; rw [gk b (nha z)]; exact un.slot b o (k b o z) (up (nha z) n) hf hx
    · intro b o z n hx; rw [del_ne (nha z)]; exact un.free b o (k b o z) (up (nha z) n) hx
    · intro b o z hx; rw [gk b (nha z)]; exact un.there b o (k b o z) hx
    · intro b xs z; rw [del_ne (ne_of_none z hn)]; exact un.tups b xs ((upd_ne (ne_of_none z hn)).trans z)
    · intro b o v z; rw [del_ne (ne_of_none z hn)]; exact un.frzs b o v ((upd_ne (ne_of_none z hn)).trans z)
    · intro b ps z; rw [del_ne (ne_of_none z hn)]; exact un.tbls b ps ((upd_ne (ne_of_none z hn)).trans z)
  have hok3 : HOk X.prog X.w (del H2 a) G := by
    intro b o z
    have hba : b ≠ a := fun e' => by rw [e', del_same] at z; cases z
    rw [del_ne hba] at z
    have noa : ∀ {c : Addr}, H2 c = some (.own b) → c ≠ a := fun {c} hc => at_ne ea hc exo_own
    refine (hok b o z).stay (fun c v hc y => ?_) (fun c hc => (del_ne (noa hc)).trans hc) fun c xs hc => (del_ne (at_ne ea hc exo_tup)).trans hc
    have hca : c ≠ a := by rcases hc with rfl | hc <;> first | exact hba | exact noa hc
    rw [gk c hca]; exact y
  have J : Inv X pins σ (del H2 a) ⟨G, g2, d2, t2, os2⟩ := I1.call' (ch := []) ho U hok3 hb fun b z => absurd z (by simp)
  refine ⟨a, _, _, ⟨G, g2, d2, t2, os2⟩, _, .ref C, none, rfl, J, fun b o z => ?_, ge, hoe, ⟨rfl, rfl, fun vs e => (by cases e; rfl)⟩, rfl, rfl, del_same, rfl, hb, T, q⟩
  by_cases hba : b = a
  · rw [hba, ge] at z; cases z
  · exact (gk b hba).symm.trans z
theorem pmk_oe0N {CX : CXT} {fI : Addr} {k : Nat} {fd : FuncData} {ps : List Str} {sp : Sp} (T : OexC X.K C) (iC : PySem.W.findIn X.K (.ref C) "__init__" = some (some (.ref fI))) (tI : PySem.W.typeIn X.K (.ref fI) = some (.type "function"))
    (F1 : FnOk X.prog X.w X.K X.mg X.base CX k fI fd ps sp) (hr : Room (k + 1) X.A) (hb : Binds X.K fd ps []) (hx : Passes CX X E0) (hm : X.mg x = some (.ref C)) (hg : Gl X x := by rfl) (hdb : (x == ("__debug__" : Str)) = false := by decide) :
    L2N.PMk X (.Call (.Name x p) [] [] pos) (tMk0 C sp) := by
  intro pins s σ H Q I h
  obtain ⟨nm, q, N, bs, bm, sn, sub, ab, col, dd, k0, k1, k2, k3, k5, hC, hbm⟩ := T.cls
  refine wpAny_Call_Name_kw (ld_glob I hg hm ?_ hdb)
  refine PySem.W.callWith_K0 I.kIn T.kC ?_
  show wpAny _ _ (call (.ref C) []) _ _ _
  obtain ⟨hp, g, dr, tk, os⟩ := s
  have hsz : hp.objs.size ≤ hp.objs.size + 1 := Nat.le_succ _
  have hq := h (hp.objs.size + 1) (I.hok.fresh hsz)
  have kk : ∀ b o, hp.get? b = some o → ((hp.push (PySem.W.kdv_tup [])).push (PySem.HandSPX.excO C hp.objs.size)).get? b = some o := fun b o e' => Heap.get?_push_of_some _ (Heap.get?_push_of_some _ e')
  have hget : ((hp.push (PySem.W.kdv_tup [])).push (PySem.HandSPX.excO C hp.objs.size)).get? (hp.objs.size + 1) = some (PySem.HandSPX.excO C hp.objs.size) := by heap_get
  have I2 : Inv X pins σ (upd H (hp.objs.size + 1) (exo (hp.objs.size + 1) C none)) ⟨(hp.push (PySem.W.kdv_tup [])).push (PySem.HandSPX.excO C hp.objs.size), g, dr, tk, os⟩ := I.laid (t' := tk) kk hsz (exo_ok hget)
  have r2 : Vals [V.ref (hp.objs.size + 1)] [Value.ref (hp.objs.size + 1)] := .cons rfl .nil
  have hl : ([Value.ref (hp.objs.size + 1)] ++ []).length = ps.length := (F1.len _ _ _ _ hq)
  refine wpAny_call (PySem.HandSPX.call_own F.excBase_ValueError (fun Y => PySem.HandSPX.refsVE_contains Y bm hbm) (I.kIn _ _ hC) (PySem.W.looks_findIn I.kIn iC) (fun self => PySem.W.bind_fn I.kIn self tI) (Nat.zero_le _)
    (codeAny_mono (F1.run _ X.stack _ _ ⟨[Value.ref (hp.objs.size + 1)], []⟩ [Value.ref (hp.objs.size + 1)] _ _ E0 (hr.make C [] []) (I2.env0.make C [] []) (hb _ [Value.ref (hp.objs.size + 1)] I2.kIn hl) r2 hq) fun r s' hq' => ?_))
  cases r with
  | error er => exact hx pins σ _ _ er s' I2 hq'
  | ok fl =>
    cases fl with
    | ret u =>
      obtain ⟨v, H2, os2, bare2, un2, hok2, rv, ev, ea, q2⟩ := hq'
      subst ev
      obtain ⟨h2, g2, d2, t2, os'⟩ := s'
      exact ⟨rv, mk_endNN (raises_own T.exC T.tyC) I hsz kk un2 hok2 os2 bare2 ea q2⟩
    | next => exact False.elim hq'
    | brk => exact False.elim hq'
    | cont => exact False.elim hq'
end
theorem takes0N {X : Cx} : L2N.Takes X (fun _ _ _ _ => False) := fun _ _ z => by
  obtain ⟨_, _, _, _, _, _, _, _, _, _, _, _, _, _, _, _, f⟩ := z
  exact f.elim
section
variable {X : Cx} {x : Str} {C : Addr} {fl : List Str} {f : Str} {k : Nat} {W : WX} {p pos pos' : Pos}
/-- raise C() -/
theorem ps_rz0N (D : XDef X.prog X.w X.K X.mg X.base k x fl (fun C => spI0 C) C) (hr : Room (k + 1) X.A) (tk : L2N.Takes X W) (hc : X.calm = true := by rfl) (hg : Gl X x := by rfl) (hdb : (x == ("__debug__" : Str)) = false := by decide) :
    PS X (.Raise (some (.Call (.Name x p) [] [] pos)) none pos') (fun _ σ H => tMk0 C (spI0 C) σ H fun cls d H' => W cls d σ H') := by
  obtain ⟨fI, fd, ps, h1, h2, h3, h4⟩ := D.ini
  exact L2N.ps_raise hc tk (pmk_oe0N D.ox h1 h2 h3 hr h4 pass0 D.gC hg hdb)
end
/-! ### defs that may raise -/
structure DfnN (P : Program) (w : World) (K : PySem.W.Frag) (mg : Str → Option Value) (base : Heap) (k : Nat) (x : Str) (ps : List Str) (S : List D → (Out → Prop) → Prop) : Prop where
  ex : ∃ f fd, mg x = some (.ref f) ∧ PySem.W.keepIn K (.ref f) = true ∧ FnOk P w K mg base (L2N.CX P w) k f fd ps (spX K mg S) ∧ Binds K fd ps []
section
variable {P : Program} {w : World} {K : PySem.W.Frag} {mg : Str → Option Value} {base : Heap}
theorem DfnN.mono {j k : Nat} {x : Str} {ps : List Str} {S : List D → (Out → Prop) → Prop} (F : DfnN P w K mg base j x ps S) (h : j ≤ k) : DfnN P w K mg base k x ps S := by
  obtain ⟨f, fd, h1, h2, h3, h4⟩ := F.ex
  exact ⟨f, fd, h1, h2, h3.mono h, h4⟩
theorem fun_okN {x qual : Str} {st : Stmt} {f : Addr} {fd : FuncData} {N ps : List Str} {k : Nat} {sp : Sp} (F : Fun K x qual st f fd) (S : FnScope N ps (defScope st)) (len : ∀ vs H Q E, sp vs H Q E → vs.length = ps.length)
    (body : ∀ (cdv : Value) (A : Around) (outer : List Env) (s : Shared) (H : Hp) (vs : List V) (Q : VK) (E : XK), Room k (A.deeper (envOfC qual (defScope st) s.heap.objs.size f cdv)) → sp vs H Q E →
      ∃ t, PSs (cxOf (L2N.CX P w) P w K mg base N qual (defScope st) f cdv A outer s H E) (defBody st) t ∧ t { nx := fun _ H' => Q .non H', rt := Q } (start N vs) H) : FnOk P w K mg base (L2N.CX P w) (k + 1) f fd ps sp := by
  obtain ⟨oc, od, kV, doc, pm, an, cdv, ct, osl, e, look, cd⟩ := F.ex
  subst e
  exact fn_of look cd S len fun A outer s H vs Q E room prom => body cdv A outer s H vs Q E room prom
theorem mkN {x : Str} {st : Stmt} {N ps : List Str} {k : Nat} {S : List D → (Out → Prop) → Prop} (F : Src K mg x st) (sc : FnScope N ps (defScope st))
    (hb : ∀ (kV doc pm : Value) (an : Option Addr) (cdv ct : Value) (us : List Value), us.length = ps.length → bindArgs (PySem.W.fnOf x x (defArgs st) (defBody st) (defScope st) .none kV doc pm an cdv ct) ⟨us, []⟩ = pure (ps.zip us))
    (len : ∀ ds R, S ds R → ds.length = ps.length)
    (body : ∀ (f : Addr) (cdv : Value) (A : Around) (outer : List Env) (s : Shared) (H : Hp) (E : XK), Room k (A.deeper (envOfC x (defScope st) s.heap.objs.size f cdv)) →
      ∃ t, PSs (cxOf (L2N.CX P w) P w K mg base N x (defScope st) f cdv A outer s H E) (defBody st) t ∧ ∀ (h : Hnd) (H0 G0 : Hp) ds R, S ds R → XW mg ⟨K, h, H0, G0⟩ (fun _ x fs => R (.ex x fs)) (fun cls d _ H => E cls d H) → WSO ⟨K, h, H0, G0⟩ (rho0 N ds) t (retP fun d => R (.ok d)) fun c => R (.new c)) :
    DfnN P w K mg base (k + 1) x ps S := by
  obtain ⟨f, fd, hm, F⟩ := F.ex
  refine ⟨f, fd, hm, F.kp, fun_okN F sc (fun vs H Q E h => ?_) (fun cdv A outer s H vs Q E hr h => ?_), F.binds hb⟩
  · obtain ⟨hd, G, ds, R, r, m, hs, q⟩ := h
    rw [r.length]; exact len ds R hs
  · obtain ⟨hd, G, ds, R, r, m, hs, q, qo, qx⟩ := h
    obtain ⟨t, ht, hw⟩ := body f cdv A outer s H E hr
    exact ⟨t, ht, hw hd H G ds R hs (fun ρ G' σ H' x fs C d z hm hh xr => qx x fs C d G' H' z hm hh.mem xr) G _ H (hold0 m r) _ (fun ρ' G' σ' H' z e hh => q .non .non G' H' z hh.mem .non) (fun d v G' H' z m' r' => q d v G' H' z m' r') (fun _ _ _ _ z => z.elim) (fun _ _ _ _ z => z.elim) fun c a G' H' z ho m' x => qo c a G' H' z ho m' x⟩
/-- a def that raises nothing, among those that may -/
theorem Dfn.toN {k : Nat} {x : Str} {ps : List Str} {S : List D → (D → Prop) → Prop} (F : Dfn P w K mg base k x ps S) : DfnN P w K mg base k x ps fun ds R => S ds fun d => R (.ok d) := by
  obtain ⟨f, fd, h1, h2, h3, h4⟩ := F.ex
  refine ⟨f, fd, h1, h2, ⟨fun vs H Q E ⟨hd, G, ds, R, a, b, c, d, eo, e⟩ => h3.len vs H Q E ⟨hd, G, ds, _, a, b, c, d⟩, fun A outer s H args us vs Q E hr he hb hv ⟨hd, G, ds, R, a, b, c, d, eo, e⟩ => ?_⟩, h4⟩
  refine codeAny_mono (h3.run A outer s H args us vs Q E hr he hb hv ⟨hd, G, ds, _, a, b, c, d⟩) fun r s' q => ?_
  cases r with
  | error z => exact (show False from q).elim
  | ok fl =>
    cases fl with
    | ret u => exact q
    | next => exact (show False from q).elim
    | brk => exact (show False from q).elim
    | cont => exact (show False from q).elim
end
section
variable {X : Cx} {x : Str} {p pos : Pos} {e : Expr} {es : List Expr} {t : TA} {k : Nat} {ps : List Str} {S : List D → (Out → Prop) → Prop} {W : WX}
theorem pe_callN (F : DfnN X.prog X.w X.K X.mg X.base k x ps S) (hr : Room k X.A) (tk : L2N.Takes X W) (ha : PA X (e :: es) t) (hg : Gl X x := by rfl) (hdb : (x == ("__debug__" : Str)) = false := by decide)
    (he : starEach (e :: es) X.env = (false, eval e X.env) :: starEach es X.env := by rfl) (hpl : (backTo pos (starEach es X.env)).any (·.1) = false := by rfl) : PE X (.Call (.Name x p) (e :: es) [] pos) (tCallS (spX X.K X.mg S) (L2.WE W) t) := by
  obtain ⟨f, fd, h1, h2, h3, h4⟩ := F.ex
  exact pe_callS h3 hr hg h1 h2 h4 (fun σ => L2N.passAt tk σ) ha hdb he hpl
theorem pe_callNK {K0 : PySem.W.Frag} {mg0 : Str → Option Value} (hK : X.K = K0) (hm : X.mg = mg0) (F : DfnN X.prog X.w K0 mg0 X.base k x ps S) (hr : Room k X.A) (tk : L2N.Takes X W) (ha : PA X (e :: es) t) (hg : Gl X x := by rfl) (hdb : (x == ("__debug__" : Str)) = false := by decide)
    (he : starEach (e :: es) X.env = (false, eval e X.env) :: starEach es X.env := by rfl) (hpl : (backTo pos (starEach es X.env)).any (·.1) = false := by rfl) : PE X (.Call (.Name x p) (e :: es) [] pos) (tCallS (spX K0 mg0 S) (L2.WE W) t) := by
  subst hK hm
  exact pe_callN F hr tk ha hg hdb he hpl
end
end Cal
set_option Elab.async false
set_option linter.all false
set_option maxRecDepth 100000
set_option maxHeartbeats 4000000
namespace Cal
open PySem PySem.Spec L2 PyProof.Rows LamX
open Evl (Ex sq_of st_of)
/-! ### lambdas that let out errors whose context is known -/
/-- within the lambda that was made in X -/
def lamN (X : Cx) (A : Around) (outer : List Env) (s : Shared) (H : Hp) (E : XK) (scope : Scope) (f c' : Addr) : Cx :=
  (lamCx X A outer s H E scope f c').tr [] fun e s1 => wpAny (model X.prog X.w) (A.deeper (lamEnv X scope s.heap.objs.size f c')) (leaving (lamEnv X scope s.heap.objs.size f c') e)
    (fun _ s2 => L2N.CX X.prog X.w outer H s E e s2) (fun e2 s2 => L2N.CX X.prog X.w outer H s E e2 s2) s1
/-- the context in which a def g of the text runs that was called at s of X -/
abbrev inG (X : Cx) (Ng : List Str) (x : Str) (sg : Scope) (g : Addr) (cdg : Value) (s : Shared) (H : Hp) : Cx := cxOf C8.CX0 X.prog X.w X.K X.mg X.base Ng x sg g cdg X.A X.stack s H C8.E0
section
variable {X : Cx} {pins : List (Addr × Obj)} {σ : L2.St} {H : Hp} {s : Shared}
theorem call_lamN {Ng : List Str} {x q : Str} {sg : Scope} {g f c' : Addr} {cdg pm ctv : Value} {prs : Arguments} {b : Expr} {sc : Scope} {k : Nat} {a : Str} {pn : List (Addr × Obj)} {xe : Value → Shared → Prop} {W : WX} {E : XK} {tb : TE} {p1 p2 : Pos}
    (I : Inv X pins σ H s) (L : LamS X.env.scope sc) (hq : X.env.qual ++ "<lambda>" = q) (hf : s.heap.get? f = some (PySem.W.kla_obj "<lambda>" q prs b sc (cloFrom X.env.cells sc.names []) pm c' ctv)) (hfn : H f = none) (hfr : f ∉ frs X.stack)
    (hbind : bindArgs (PySem.W.kla_fn "<lambda>" q prs b sc (cloFrom X.env.cells sc.names []) pm (.ref c') ctv) ⟨[], []⟩ = pure [])
    (tk : L2N.Takes ((inG X Ng x sg g cdg s H).tr pn xe) W) (hW : ∀ cls d σ1 H1, σ1.length = Ng.length → E cls d H1 → W cls d σ1 H1) (hr : Room (k + 1) (X.A.deeper (envOfC x sg s.heap.objs.size g cdg)))
    (hbody : ∀ (A : Around) (outer : List Env) (s : Shared) (H : Hp), Room k (A.deeper (lamEnv X sc s.heap.objs.size f c')) → PE (lamN X A outer s H E sc f c') b tb)
    (hN : Ng[0]? = some a) (hv : Vis sg a) (hd : (a == ("__debug__" : Str)) = false) (hcd : (a == ("__classdict__" : Str)) = false) :
    PE ((inG X Ng x sg g cdg s H).tr pn xe) (.Call (.Name a p1) [] [] p2) fun σ2 H2 Q => σ2[0]? = some (some (.ref f)) ∧ H2 c' = some (CodeO c' q) ∧ tb σ H2 Q := by
  subst hq
  refine ⟨fun pins2 s2 σ2 H2 Q I2 ⟨hs, hc, ht⟩ => ?_⟩
  have name := (pe_var (X := (inG X Ng x sg g cdg s H).tr pn xe) (pos := p1) (i := 0) hN hv hd hcd).run pins2 s2 σ2 H2 (fun v H3 => v = .ref f ∧ H3 = H2) I2 ⟨.ref f, hs, rfl, rfl⟩
  refine wpAny_Call_Name_kw (thn name fun u s3 ⟨v, H3, I3, r3, q3⟩ => ?_)
  obtain ⟨rfl, rfl⟩ := q3
  cases r3
  have obj := I3.base.keep f _ hf hfn hfr (fun z => nomatch (show f ∈ ([] : List Addr) from z))
  refine PySem.W.callWith_F0 ⟨_, _, _, _, obj⟩ ?_
  have un : Un (frs X.stack) [] H H3 s.heap s3.heap := I3.base
  obtain ⟨⟨oc, vs, t, g1, g2, g3⟩, _, _⟩ := I3.hok c' _ hc
  have runs : codeAny (model X.prog X.w) (X.A.deeper (envOfC x sg s.heap.objs.size g cdg)) (.call (.ref f) ⟨[], []⟩) (CR (L2N.CX X.prog X.w) (envOfC x sg s.heap.objs.size g cdg :: X.stack) X.prog X.w H3 s3 Q E) s3 := by
    refine PySem.W.kla_callFunE hr.depth obj rfl L.co L.gen rfl ⟨c', oc, vs, t, rfl, g1, g2, g3⟩ ?_
    rw [hbind]
    refine wpAny_pure (wpAny_newFunctionEnv (fun y hy => (L.own y hy).2) (fun y hy => absurd hy (by simp)) (fun hp hns hsb => ⟨I3.nolimit.fresh _ hsb, ?_⟩) L.kind)
    change codeAny _ _ (.expr b (lamEnv X sc s3.heap.objs.size f c')) _ _
    have kp : ∀ n o, s3.heap.get? n = some o → hp.get? n = some o := fun n o e => hsb.extBut n o (Nat.ne_of_lt (Heap.lt_size e)) (Heap.get?_push_of_some _ e)
    have J0 := lam_start2 (E := E) (f := f) (c' := c') (tk := s3.toks + ([] : List (Str × Value)).length) I L I3.env0 hr.hd un hns kp
    have J : Inv (lamN X (X.A.deeper (envOfC x sg s.heap.objs.size g cdg)) (envOfC x sg s.heap.objs.size g cdg :: X.stack) s3 H3 E sc f c') [] σ H3 { s3 with heap := hp, toks := s3.toks + ([] : List (Str × Value)).length } := J0.toTry _
    refine PySem.W.kla_codeExpr (wpAny_mono ((hbody _ _ s3 H3 (hr.deeper _)).run [] _ _ H3 Q J ht) (fun v s4 ⟨w, H4, J4, r4, q4⟩ => ⟨w, H4, J4.os, J4.bare, J4.base, J4.hok, r4, q4⟩) fun e s4 z => z)
  refine wpAny_call (codeAny_mono runs fun r s4 z => ?_)
  cases r with
  | error e => exact tk e s4 (L2N.XE.of_call I3 (fun cls d H4 h => hW cls d σ2 H4 I3.len h) z)
  | ok fl =>
    cases fl with
    | ret u => exact I3.after z
    | next => exact False.elim z
    | brk => exact False.elim z
    | cont => exact False.elim z
/-- what a def makes of what it is handed to call -/
def GivesN (X : Cx) (Ng : List Str) (x : Str) (sg : Scope) (g : Addr) (cdg : Value) (bg : List Stmt) (a q : Str) (TT : (XK → Hp → VK → Prop) → Hp → VK → Prop) : Prop := ∀ (f c' : Addr) (s : Shared) (H : Hp) (Q : VK) (tl : XK → Hp → VK → Prop),
  (∀ (W : WX) (pn : List (Addr × Obj)) (xe : Value → Shared → Prop) (E : XK) (p1 p2 : Pos), L2N.Takes ((inG X Ng x sg g cdg s H).tr pn xe) W → (∀ cls d σ1 H1, σ1.length = Ng.length → E cls d H1 → W cls d σ1 H1) →
    PE ((inG X Ng x sg g cdg s H).tr pn xe) (.Call (.Name a p1) [] [] p2) fun σ2 H2 Q => σ2[0]? = some (some (.ref f)) ∧ H2 c' = some (CodeO c' q) ∧ tl E H2 Q) →
  H c' = some (CodeO c' q) → TT tl H Q → ∃ t, PSs (inG X Ng x sg g cdg s H).nox bg t ∧ t { nx := fun _ H1 => Q .non H1, rt := Q } (L2.start Ng [.ref f]) H
theorem pe_lamN {T : List (Addr × Str)} {TT : (XK → Hp → VK → Prop) → Hp → VK → Prop} {x a : Str} {st : Stmt} {c P : Addr} {k : Nat} {Ng : List Str} {prs : Arguments} {b : Expr} {sc : Scope} {t : XK → TE} {p lpos pos : Pos} (F : Src X.K X.mg x st)
    (Sg : FnScope Ng [a] (defScope st)) (hb : ∀ (kV doc pm : Value) (an : Option Addr) (cdv ct : Value) (us : List Value), us.length = ([a] : List Str).length → bindArgs (PySem.W.fnOf x x (defArgs st) (defBody st) (defScope st) .none kV doc pm an cdv ct) ⟨us, []⟩ = pure (([a] : List Str).zip us))
    (hNg : Ng[0]? = some a) (hva : Vis (defScope st) a) (hG : ∀ (g : Addr) (cdg : Value), GivesN X Ng x (defScope st) g cdg (defBody st) a (X.env.qual ++ "<lambda>") TT) (TB : TabB X.base X.mg c P) (hcode : X.env.code = .ref c) (hT : T = [(P, X.env.qual ++ "<lambda>")]) (hr : Room (k + 2) X.A) (L : LamS X.env.scope sc)
    (hdef : defaultsOf prs X.env = ([], [])) (hbind : ∀ (q : Str) (cl : List (Str × Addr)) (pm cv ctv : Value), bindArgs (PySem.W.kla_fn "<lambda>" q prs b sc cl pm cv ctv) ⟨[], []⟩ = pure [])
    (hbody : ∀ (A : Around) (outer : List Env) (s : Shared) (H : Hp) (E : XK) (f c' : Addr), Room k (A.deeper (lamEnv X sc s.heap.objs.size f c')) → PE (lamN X A outer s H E sc f c') b (t E))
    (hg : Gl X x := by rfl) (hdb : (x == ("__debug__" : Str)) = false := by decide) (hd : (a == ("__debug__" : Str)) = false := by decide) (hcd : (a == ("__classdict__" : Str)) = false := by decide) :
    PE X (.Call (.Name x p) [.Lambda prs b sc lpos] [] pos) (tLam T TT t) := by
  obtain ⟨g, fd, hm, Fn⟩ := F.ex
  have bd := Fn.binds hb
  obtain ⟨oc, od, kV, doc, pm, an, cdv, ct, osl, e, look, code⟩ := Fn.ex
  subst e hT
  refine ⟨fun pins s σ H Q I ⟨hT, h⟩ => ?_⟩
  refine wpAny_Call_Name_kw (ld_glob I hg hm (PySem.W.callWith_K (h₀ := X.base) I.ok.mod.kin Fn.kp ?_ (by rfl) (by rfl)) hdb)
  change wpAny _ _ (spliced ((false, eval (.Lambda prs b sc lpos) X.env) :: backTo pos (starEach [] X.env))) _ _ s
  refine Calls.spliced_cons (lam_make2 I TB hcode (.head _) (fun z hz _ => by cases List.mem_singleton.mp hz; rfl) hT hdef (L.has I.ok) fun f c' pm' ctv H1 s1 I1 eN T1 hf hfn hfr hco => Calls.spliced_nil ⟨I1.kIn, ?_⟩)
  have runs : codeAny (model X.prog X.w) X.A (.call (.ref g) ⟨[.ref f], []⟩) (CR C8.CX0 X.stack X.prog X.w H1 s1 Q C8.E0) s1 := by
    refine run_ofS (N := Ng) (ps := [a]) (us := [.ref f]) (vs := [.ref f]) look code Sg hr I1.env0 (bd s1 [.ref f] I1.kIn rfl) (.cons rfl .nil) rfl fun room => ?_
    obtain ⟨t1, reads, goal⟩ := hG g cdv f c' s1 H1 Q (fun E H2 Q2 => t E σ H2 Q2) (fun W pn xe E p1 p2 tk hW => call_lamN I1 L rfl hf hfn hfr (hbind _ _ _ _ _) tk hW room (fun A outer s H r2 => hbody A outer s H E f c' r2) hNg hva hd hcd) hco (h H1 eN T1)
    exact ⟨t1, reads.nox, goal⟩
  refine wpAny_call (codeAny_mono runs fun r s2 z => ?_)
  cases r with
  | error e => exact (show False from z).elim
  | ok fl =>
    cases fl with
    | ret u => exact I1.after z
    | next => exact False.elim z
    | brk => exact False.elim z
    | cont => exact False.elim z
end
end Cal
set_option Elab.async false
set_option linter.all false
set_option maxRecDepth 100000
set_option maxHeartbeats 4000000
namespace Cal
open PySem PySem.Spec L2 PyProof.Rows LamX
open Evl (Ex sq_of st_of)
/-! ### of which of three classes an error is -/
/-- an error class of the text, with what isinstance asks of it -/
structure ExK (K : PySem.W.Frag) (mg : Str → Option Value) (y : Str) : Prop where
  ex : ∃ C, mg y = some (.ref C) ∧ ExcC K C
def rIsEg (K : PySem.W.Frag) (cls : Value) (d : Option Addr) (a : Addr) : List V → Hp → VK → Prop := fun xs H Q => ∃ D, cls = .ref D ∧ d = none ∧ ExcC K D ∧ rIsE K D a xs H Q
theorem cr_isEg {X : Cx} {cls : Value} {d : Option Addr} {a : Addr} {oe : Obj} {pn : List (Addr × Obj)} (hz : Zc cls d oe) (hf : ∃ vs, oe.data = .fields vs) : CallR (X.suite a ((a, oe) :: pn)) (.builtin "isinstance") (rIsEg X.K cls d a) := by
  intro pins s σ H xs us Q I r ⟨D, e1, e2, C, q⟩
  subst e1 e2
  exact call_isE C hz hf pins s σ H xs us Q I r q
theorem hot_suite {X : Cx} {cls : Value} {d : Option Addr} {a : Addr} {oe : Obj} {pn : List (Addr × Obj)} (hz : L2N.Zn cls d oe) (hf : ∃ vs, oe.data = .fields vs) : L2H.HotC (X.suite a ((a, oe) :: pn)) := by
  obtain ⟨vs, hv⟩ := hf
  exact ⟨(a, oe), ⟨rfl, vs, hv, hz.2.2 vs hv⟩, List.mem_cons_self⟩
/-- isinstance(e, C) -/
def tIsE (K : PySem.W.Frag) (cls : Value) (d : Option Addr) (a C : Addr) : TE := tCB (rIsEg K cls d a) (tCons (tVar 1) (tCons (tC (.ref C)) tNil))
/-- the suite: kinds = [..]; return [w1, w2, w3][kinds.index(True)] if sum(kinds) == 1 else other -/
def tKinds (K : PySem.W.Frag) (cls : Value) (d : Option Addr) (a C1 C2 C3 : Addr) (w1 w2 w3 w4 : Str) : TS :=
  tSeq (tAsg (tLst (tCons (tIsE K cls d a C1) (tCons (tIsE K cls d a C2) (tCons (tIsE K cls d a C3) tNil)))) (gName 2))
    (tRet (tIf (tTest (tOp rEq (tCB (rSumB K) (tCons (tVar 2) tNil)) (tC (.int 1)))) (tOp (rIxL K) (tLst (tCons (tC (.str w1)) (tCons (tC (.str w2)) (tCons (tC (.str w3)) tNil)))) (tBM K "list" (rIndex K) (tVar 2) (tCons (tC (.bl true)) tNil))) (tC (.str w4))))
/-- the lists that were made on the way -/
def Two (Q : Hp → Prop) (H : Hp) : Prop := ∀ p1 l1 p2 l2, H p1 = none → upd H p1 (.lst l1) p2 = none → Q (upd (upd H p1 (.lst l1)) p2 (.lst l2))
/-- just one of the three flags is true, and the word is its -/
def Just (b1 b2 b3 : Bool) (w1 w2 w3 w : Str) : Prop := (b1 = true ∧ b2 = false ∧ b3 = false ∧ w = w1) ∨ (b1 = false ∧ b2 = true ∧ b3 = false ∧ w = w2) ∨ (b1 = false ∧ b2 = false ∧ b3 = true ∧ w = w3)
theorem kinds_say {K : PySem.W.Frag} {D a C1 C2 C3 : Addr} {w1 w2 w3 w4 w : Str} {b1 b2 b3 : Bool} {σ : L2.St} {H : Hp} {E : Ends} (ex : ExcC K D) (k1 : PySem.W.kitOne K (.ref D) (.ref C1) = some b1) (k2 : PySem.W.kitOne K (.ref D) (.ref C2) = some b2) (k3 : PySem.W.kitOne K (.ref D) (.ref C3) = some b3)
    (j : Just b1 b2 b3 w1 w2 w3 w) (h1 : σ[1]? = some (some (.ref a))) (hl : 2 < σ.length) (hQ : Two (fun H' => E.rt (.str w) H') H) : tKinds K (.ref D) none a C1 C2 C3 w1 w2 w3 w4 E σ H := by
  have is : ∀ {C : Addr} {b : Bool} {Q : VK}, PySem.W.kitOne K (.ref D) (.ref C) = some b → Q (.bl b) H → tIsE K (.ref D) none a C σ H Q := fun {C b Q} k q => ⟨.ref a, h1, D, rfl, rfl, ex, .ref C, .ref C, b, rfl, fun u r => (by cases r; rfl), k, q⟩
  refine is k1 (is k2 (is k3 ⟨by rw [sizeLine_eq]; exact Nat.le_of_ble_eq_true rfl, fun p hp => ?_⟩))
  have g2 : (σ.set 2 (some (V.ref p)))[2]? = some (some (V.ref p)) := by rw [List.getElem?_set_self hl]
  have sq : SqL K (upd H p (.lst [.bl b1, .bl b2, .bl b3])) p [.bl b1, .bl b2, .bl b3] := .inl (.inl upd_same)
  have one : trues [b1, b2, b3] = 1 := by rcases j with ⟨rfl, rfl, rfl, _⟩ | ⟨rfl, rfl, rfl, _⟩ | ⟨rfl, rfl, rfl, _⟩ <;> rfl
  refine ⟨.ref p, g2, p, [b1, b2, b3], rfl, sq, rfl, decide (V.int (trues [b1, b2, b3]) = V.int 1), rfl, ?_⟩
  rw [one, decide_eq_true rfl]
  dsimp only
  rw [if_pos rfl]
  refine ⟨by rw [sizeLine_eq]; exact Nat.le_of_ble_eq_true rfl, fun p2 hp2 => ?_⟩
  have sq1 : SqL K (upd (upd H p (.lst [.bl b1, .bl b2, .bl b3])) p2 (.lst [.str w1, .str w2, .str w3])) p [.bl b1, .bl b2, .bl b3] := .inl (.inl (by rw [upd_ne (fun e => by rw [e, upd_same] at hp2; cases hp2) , upd_same]))
  have sq2 : SqL K (upd (upd H p (.lst [.bl b1, .bl b2, .bl b3])) p2 (.lst [.str w1, .str w2, .str w3])) p2 [.str w1, .str w2, .str w3] := .inl (.inl upd_same)
  refine ⟨.ref p, g2, .inl ⟨rfl, _, sq1⟩, ?_⟩
  rcases j with ⟨rfl, rfl, rfl, rfl⟩ | ⟨rfl, rfl, rfl, rfl⟩ | ⟨rfl, rfl, rfl, rfl⟩
  · exact ⟨p, [.bl true, .bl false, .bl false], .bl true, 0, .bl true, rfl, rfl, sq1, rfl, rfl, rfl, rfl, fun m z hm => absurd hm (Nat.not_lt_zero m), p2, [.str w, .str w2, .str w3], 0, .str w, rfl, rfl, sq2, rfl, hQ _ _ _ _ hp hp2⟩
  · refine ⟨p, [.bl false, .bl true, .bl false], .bl true, 1, .bl true, rfl, rfl, sq1, rfl, rfl, rfl, rfl, fun m z hm hz => ?_, p2, [.str w1, .str w, .str w3], 1, .str w, rfl, rfl, sq2, rfl, hQ _ _ _ _ hp hp2⟩
    have : m = 0 := by omega
    subst this
    cases hz
    rfl
  · refine ⟨p, [.bl false, .bl false, .bl true], .bl true, 2, .bl true, rfl, rfl, sq1, rfl, rfl, rfl, rfl, fun m z hm hz => ?_, p2, [.str w1, .str w2, .str w], 2, .str w, rfl, rfl, sq2, rfl, hQ _ _ _ _ hp hp2⟩
    match m, hm, hz with
    | 0, _, hz => cases hz; rfl
    | 1, _, hz => cases hz; rfl
/-- the word for each class of errors, by its kinds, and where nothing is raised -/
def TTk (mg : Str → Option Value) (wd : Str → Option Str) (ret : Str) : (XK → Hp → VK → Prop) → Hp → VK → Prop := fun tl H Q =>
  tl (fun cls d H1 => ∃ y C s, cls = .ref C ∧ d = none ∧ mg y = some (.ref C) ∧ wd y = some s ∧ Two (fun H2 => Q (.str s) H2) H1) H fun _ H1 => Q (.str ret) H1
theorem words_kinds {X : Cx} {Ng : List Str} {x a n q ret : Str} {sg : Scope} {g C1 C2 C3 : Addr} {cdg : Value} {h : Str} {cw : Value} {b0 : Stmt} {suite : List Stmt} {wd : Str → Option Str} {w1 w2 w3 w4 : Str} {j : Nat} {p1 p2 p3 p5 p6 p7 p8 np : Pos}
    (hN : Ng.Nodup) (hi : Ng[1]? = some n) (hl : 2 < Ng.length) (hln : ∀ (s : Shared), (envOfC x sg s.heap.objs.size g cdg).kindOf n = some .local) (hc : ∀ (s : Shared) (H : Hp), Names (inG X Ng x sg g cdg s H).nox h cw)
    (hs : ∀ (s : Shared) (H : Hp) (a : Addr) (oe : Obj) (cls : Value) (d : Option Addr) (pn : List (Addr × Obj)), L2N.Zn cls d oe → (∃ vs, oe.data = .fields vs) → PSs ((inG X Ng x sg g cdg s H).nox.suite a ((a, oe) :: pn)) (b0 :: suite) (tKinds X.K cls d a C1 C2 C3 w1 w2 w3 w4))
    (hw : ∀ (y : Str) (C : Addr) (s : Str), X.mg y = some (.ref C) → wd y = some s → PySem.W.exmOne X.K (.ref C) cw = some true ∧ ExcC X.K C ∧ ∃ b1 b2 b3, PySem.W.kitOne X.K (.ref C) (.ref C1) = some b1 ∧ PySem.W.kitOne X.K (.ref C) (.ref C2) = some b2 ∧ PySem.W.kitOne X.K (.ref C) (.ref C3) = some b3 ∧ Just b1 b2 b3 w1 w2 w3 s) :
    GivesN X Ng x sg g cdg [.Try [.Expr (.Call (.Name a p1) [] [] p2) p3] [.ExceptHandler (some (.Name h np)) (some n) (b0 :: suite) p7] [] [] p8, .Return (some (.Constant (.str ret) j p5)) p6] a q (TTk X.mg wd ret) := by
  intro f c' s H Q tl act hc' hh
  refine ⟨_, pss_cons (L2N.ps_try_as (X := (inG X Ng x sg g cdg s H).nox) (Wout := fun _ _ _ _ => False) (i := 1)
      (tb := fun W D σ H => ∃ Ech : XK, (∀ cls d σ1 H1, σ1.length = Ng.length → Ech cls d H1 → W cls d σ1 H1) ∧ σ[0]? = some (some (.ref f)) ∧ H c' = some (CodeO c' q) ∧ tl Ech H fun _ H1 => D.nx σ H1)
      rfl rfl hN hi (hln s) (hc s H) takes0N (fun W pn xe tk _ => ?_) (fun b oe cls d pn hz hf => hs s H b oe cls d pn hz hf)) (pss_one (ps_ret pe_str)), ?_⟩
  · refine ⟨fun pins s1 σ H1 D I ⟨Ech, hW, h1, h2, h3⟩ => ?_⟩
    have step := pss_one (ps_expr (pos := p3) (act W pn xe Ech p1 p2 tk hW))
    exact step.run pins s1 σ H1 D I ⟨h1, h2, h3⟩
  · refine ⟨fun cls d H1 => ∃ y C s, cls = .ref C ∧ d = none ∧ X.mg y = some (.ref C) ∧ wd y = some s ∧ Two (fun H2 => Q (.str s) H2) H1, fun cls d σ1 H1 hlen ⟨y, C, w, e1, e2, e3, e4, two⟩ => ?_, rfl, hc', hh⟩
    subst e1 e2
    obtain ⟨m, ex, b1, b2, b3, k1, k2, k3, ju⟩ := hw y C w e3 e4
    refine ⟨true, m, fun _ b hb => ?_, fun z => Bool.noConfusion z⟩
    refine kinds_say ex k1 k2 k3 ju (List.getElem?_set_self (by omega)) (by rw [List.length_set]; omega) two
section
variable {p : Par} {ρ : Rho} {Q : D → Prop} {mg : Str → Option Value}
/-- the word of what a call lets out; errors without fields alone -/
def kindOf (Q : D → Prop) (wd : Str → Option Str) (ret : Str) : Out → Prop
  | .ok _ => Q (.str ret)
  | .new _ => Q (.str ret)
  | .ex y fs => fs = [] ∧ ∃ s, wd y = some s ∧ Q (.str s)
theorem we_lamK {T : List (Addr × Str)} {wd : Str → Option Str} {ret : Str} {S : List D → (Out → Prop) → Prop} {ta : TA} (hT : p.h.T = T) (h : WA p ρ ta fun ds => S ds (kindOf Q wd ret)) :
    WE p ρ (tLam T (TTk mg wd ret) fun E => tCallS (spX p.K mg S) (L2.WE fun cls d _ H => E cls d H) ta) Q := fun G σ H hh Qv k => by
  subst hT
  refine ⟨hh.mem.tab, fun H1 eN T1 => ?_⟩
  have s0 : Stp p G H G H1 := ⟨fun a o e => eN a o (hh.mem.sub a o e) fun ps z => hh.mem.gt a ps (by rw [e, z]), hh.mem.gh, fun a o _ t e => eN a o e t, fun _ _ e => e, fun _ _ e => .inl e, by
    obtain ⟨xs, hx⟩ := hh.mem.hand.some
    exact hh.mem.hand.mono (fun _ _ e => e) (by rw [hx]; exact eN _ _ hx fun ps z => by cases z), hh.mem.gt, T1⟩
  have hh0 := hh.step s0
  refine h G σ H1 hh0 _ fun ds vs G2 H2 q s1 r1 => ?_
  have hh1 := hh0.step s1
  have all := s0.trans s1
  refine ⟨p.h, G2, ds, _, r1, hh1.mem.refl, q, fun d v G' H' z m r => k (.str ret) (.str ret) G' H' z (all.trans m) (.str ret), fun c a G' H' z ho m x => k (.str ret) (.str ret) G' H' z (all.trans m) (.str ret), fun y fs C d G' H' z hm m xr => ?_⟩
  obtain ⟨ef, s, e1, e2⟩ := z
  subst ef
  have hd : d = none := by
    rcases xr with ⟨_, e⟩ | ⟨dd, vfs, e, h2, h3, h4⟩
    · exact e
    · exact absurd rfl h4.2
  subst hd
  refine ⟨y, C, s, rfl, rfl, hm, e1, fun p1 l1 p2 l2 h1 h2 => ?_⟩
  have m1 := (hh1.step m).mem.grow (o := .lst l1) h1
  have m2 := ((hh1.step m).step m1).mem.grow (o := .lst l2) h2
  exact k (.str s) (.str s) _ _ e2 (((all.trans m).trans m1).trans m2) (.str s)
end
end Cal
set_option Elab.async false
set_option linter.all false
set_option maxRecDepth 100000
set_option maxHeartbeats 4000000
namespace Cal
open PySem L2 PyProof.Rows
open Evl (Ex sq_of st_of)
section
variable {p : Par} {ρ : Rho} {Q : D → Prop} {ta tb : TE}
theorem flat_ints : ∀ ns : List Int, (ns.map V.int).all flatV = true
  | [] => rfl
  | n :: ns => by rw [List.map_cons, List.all_cons, flat_ints ns]; rfl
/-- i in a tuple of integers, whether it is or not -/
theorem we_inAny (h : WE p ρ ta fun x => ∃ i : Int, x = .int i ∧ WE p ρ tb fun y => ∃ ns : List Int, y = .tup (ns.map D.int) ∧ ∀ b, Q (.bl b)) : WE p ρ (tOp (rIn p.K false) ta tb) Q :=
  we_op (h.imp fun x ⟨i, e, h⟩ => h.imp fun y ⟨ns, ey, q⟩ => fun G H v w m r1 r2 Qv k => by
    subst e ey
    obtain ⟨a, vs, ev, hs, hl⟩ := r2.tup_inv
    subst ev
    rw [hl.ints] at hs
    cases r1
    exact ⟨a, ns.map V.int, rfl, .inr (tqT m.sub hs), rfl, flat_ints ns, k _ _ G H (q _) m.refl (.bl _)⟩)
end
end Cal
set_option Elab.async false
set_option linter.all false
set_option maxRecDepth 100000
set_option maxHeartbeats 4000000
namespace Cal
open PySem PySem.Spec L2 PyProof.Rows LamX
open Evl (Ex sq_of st_of)
/-! ### defs that make lambdas themselves: their promise knows of the tables -/
def spDT (K : PySem.W.Frag) (T : List (Addr × Str)) (S : List D → (D → Prop) → Prop) : Sp := fun vs H Q _ => ∃ h G ds R, h.T = T ∧ RpL K h G vs ds ∧ Mem ⟨K, h, H, G⟩ G H ∧ S ds R ∧ ∀ d v G' H', R d → Mem ⟨K, h, H, G⟩ G' H' → Rp K h G' v d → Q v H'
structure SrcC (K : PySem.W.Frag) (mg : Str → Option Value) (x : Str) (st : Stmt) (c : Addr) : Prop where
  ex : ∃ f fd, mg x = some (.ref f) ∧ PySem.W.keepIn K (.ref f) = true ∧ FunC K x x st f c fd
structure DfnT (P : Program) (w : World) (K : PySem.W.Frag) (mg : Str → Option Value) (base : Heap) (k : Nat) (x : Str) (ps : List Str) (T : List (Addr × Str)) (S : List D → (D → Prop) → Prop) : Prop where
  ex : ∃ f fd, mg x = some (.ref f) ∧ PySem.W.keepIn K (.ref f) = true ∧ FnOk P w K mg base CX0 k f fd ps (spDT K T S) ∧ Binds K fd ps []
theorem FunC.binds {K : PySem.W.Frag} {x qual : Str} {st : Stmt} {f c : Addr} {fd : FuncData} {ps : List Str} (F : FunC K x qual st f c fd)
    (h : ∀ (kV doc pm : Value) (an : Option Addr) (cdv ct : Value) (us : List Value), us.length = ps.length → bindArgs (PySem.W.fnOf x qual (defArgs st) (defBody st) (defScope st) .none kV doc pm an cdv ct) ⟨us, []⟩ = pure (ps.zip us)) : Binds K fd ps [] := by
  obtain ⟨oc, od, kV, doc, pm, an, ct, osl, rfl, lk, hcd⟩ := F.ex
  exact .all (h kV doc pm an (.ref c) ct)
section
variable {P : Program} {w : World} {K : PySem.W.Frag} {mg : Str → Option Value} {base : Heap}
theorem mkDT {x : Str} {st : Stmt} {c : Addr} {N ps : List Str} {k : Nat} {T : List (Addr × Str)} {S : List D → (D → Prop) → Prop} (F : SrcC K mg x st c) (sc : FnScope N ps (defScope st))
    (hb : ∀ (kV doc pm : Value) (an : Option Addr) (cdv ct : Value) (us : List Value), us.length = ps.length → bindArgs (PySem.W.fnOf x x (defArgs st) (defBody st) (defScope st) .none kV doc pm an cdv ct) ⟨us, []⟩ = pure (ps.zip us))
    (len : ∀ ds R, S ds R → ds.length = ps.length)
    (body : ∀ (f : Addr) (A : Around) (outer : List Env) (s : Shared) (H : Hp) (E : XK), Room k (A.deeper (envOfC x (defScope st) s.heap.objs.size f (.ref c))) →
      ∃ t, PSs (cxOf CX0 P w K mg base N x (defScope st) f (.ref c) A outer s H E).nox (defBody st) t ∧ ∀ (h : Hnd) (H0 G0 : Hp) ds R, h.T = T → S ds R → WS ⟨K, h, H0, G0⟩ (rho0 N ds) t (retP R)) : DfnT P w K mg base (k + 1) x ps T S := by
  obtain ⟨f, fd, hm, kp, F⟩ := F.ex
  refine ⟨f, fd, hm, kp, F.ok sc (fun vs H Q E h => ?_) (fun A outer s H vs Q E hr h => ?_), F.binds hb⟩
  · obtain ⟨hd, G, ds, R, hT, r, m, hs, q⟩ := h
    rw [r.length]
    exact len ds R hs
  · obtain ⟨hd, G, ds, R, hT, r, m, hs, q⟩ := h
    obtain ⟨t, ht, hw⟩ := body f A outer s H E hr
    refine ⟨t, ht, hw hd H G ds R hT hs G _ H (hold0 m r) _ (fun ρ' G' σ' H' z e hh => q .non .non G' H' z hh.mem .non) (fun d v G' H' z m' r' => q d v G' H' z m' r') (fun _ _ _ _ z => z.elim) fun _ _ _ _ z => z.elim⟩
end
section
variable {X : Cx} {x : Str} {p pos : Pos} {e : Expr} {es : List Expr} {t : TA} {k : Nat} {ps : List Str} {S : List D → (D → Prop) → Prop} {K0 : PySem.W.Frag} {T : List (Addr × Str)}
theorem pe_callT0 (hK : X.K = K0) (F : DfnT X.prog X.w K0 X.mg X.base k x ps T S) (hr : Room k X.A) (ha : PA X (e :: es) t) (hg : Gl X x := by rfl) (hdb : (x == ("__debug__" : Str)) = false := by decide)
    (he : starEach (e :: es) X.env = (false, eval e X.env) :: starEach es X.env := by rfl) (hpl : (backTo pos (starEach es X.env)).any (·.1) = false := by rfl) : PE X (.Call (.Name x p) (e :: es) [] pos) (tCall (spDT K0 T S) [] E0 t) := by
  subst hK
  obtain ⟨f, fd, h1, h2, h3, h4⟩ := F.ex
  exact pe_call h3 hr hg h1 h2 h4 .nil pass0 ha hdb he hpl
end
section
variable {p : Par} {ρ : Rho} {Q : D → Prop}
theorem we_callT {T : List (Addr × Str)} {S : List D → (D → Prop) → Prop} {ta : TA} {E : XK} (hT : p.h.T = T) (h : WA p ρ ta fun ds => S ds Q) : WE p ρ (tCall (spDT p.K T S) [] E ta) Q := fun G σ H hh Qv k =>
  h G σ H hh _ fun ds vs G1 H1 q s1 r1 => by
    rw [List.append_nil]
    have hh1 := hh.step s1
    exact ⟨p.h, G1, ds, Q, hT, r1, hh1.mem.refl, q, fun d v G' H' z m r => k d v G' H' z (s1.trans m) r⟩
end
/-- x(lambda: body), one of several tables -/
theorem pe_lamNT {X : Cx} {T : List (Addr × Str)} {TT : (XK → Hp → VK → Prop) → Hp → VK → Prop} {x a : Str} {st : Stmt} {c P : Addr} {k : Nat} {Ng : List Str} {prs : Arguments} {b : Expr} {sc : Scope} {t : XK → TE} {p lpos pos : Pos} (F : Src X.K X.mg x st)
    (Sg : FnScope Ng [a] (defScope st)) (hb : ∀ (kV doc pm : Value) (an : Option Addr) (cdv ct : Value) (us : List Value), us.length = ([a] : List Str).length → bindArgs (PySem.W.fnOf x x (defArgs st) (defBody st) (defScope st) .none kV doc pm an cdv ct) ⟨us, []⟩ = pure (([a] : List Str).zip us))
    (hNg : Ng[0]? = some a) (hva : Vis (defScope st) a) (hG : ∀ (g : Addr) (cdg : Value), GivesN X Ng x (defScope st) g cdg (defBody st) a (X.env.qual ++ "<lambda>") TT) (TB : TabB X.base X.mg c P) (hcode : X.env.code = .ref c) (hmT : (P, X.env.qual ++ "<lambda>") ∈ T) (hu : ∀ p ∈ T, p.1 = P → p.2 = X.env.qual ++ "<lambda>") (hr : Room (k + 2) X.A) (L : LamS X.env.scope sc)
    (hdef : defaultsOf prs X.env = ([], [])) (hbind : ∀ (q : Str) (cl : List (Str × Addr)) (pm cv ctv : Value), bindArgs (PySem.W.kla_fn "<lambda>" q prs b sc cl pm cv ctv) ⟨[], []⟩ = pure [])
    (hbody : ∀ (A : Around) (outer : List Env) (s : Shared) (H : Hp) (E : XK) (f c' : Addr), Room k (A.deeper (lamEnv X sc s.heap.objs.size f c')) → PE (lamN X A outer s H E sc f c') b (t E))
    (hg : Gl X x := by rfl) (hdb : (x == ("__debug__" : Str)) = false := by decide) (hd : (a == ("__debug__" : Str)) = false := by decide) (hcd : (a == ("__classdict__" : Str)) = false := by decide) :
    PE X (.Call (.Name x p) [.Lambda prs b sc lpos] [] pos) (tLam T TT t) := by
  obtain ⟨g, fd, hm, Fn⟩ := F.ex
  have bd := Fn.binds hb
  obtain ⟨oc, od, kV, doc, pm, an, cdv, ct, osl, e, look, code⟩ := Fn.ex
  subst e
  refine ⟨fun pins s σ H Q I ⟨hT, h⟩ => ?_⟩
  refine wpAny_Call_Name_kw (ld_glob I hg hm (PySem.W.callWith_K (h₀ := X.base) I.ok.mod.kin Fn.kp ?_ (by rfl) (by rfl)) hdb)
  change wpAny _ _ (spliced ((false, eval (.Lambda prs b sc lpos) X.env) :: backTo pos (starEach [] X.env))) _ _ s
  refine Calls.spliced_cons (lam_make2 I TB hcode hmT hu hT hdef (L.has I.ok) fun f c' pm' ctv H1 s1 I1 eN T1 hf hfn hfr hco => Calls.spliced_nil ⟨I1.kIn, ?_⟩)
  have runs : codeAny (model X.prog X.w) X.A (.call (.ref g) ⟨[.ref f], []⟩) (CR C8.CX0 X.stack X.prog X.w H1 s1 Q C8.E0) s1 := by
    refine run_ofS (N := Ng) (ps := [a]) (us := [.ref f]) (vs := [.ref f]) look code Sg hr I1.env0 (bd s1 [.ref f] I1.kIn rfl) (.cons rfl .nil) rfl fun room => ?_
    obtain ⟨t1, reads, goal⟩ := hG g cdv f c' s1 H1 Q (fun E H2 Q2 => t E σ H2 Q2) (fun W pn xe E p1 p2 tk hW => call_lamN I1 L rfl hf hfn hfr (hbind _ _ _ _ _) tk hW room (fun A outer s H r2 => hbody A outer s H E f c' r2) hNg hva hd hcd) hco (h H1 eN T1)
    exact ⟨t1, reads.nox, goal⟩
  refine wpAny_call (codeAny_mono runs fun r s2 z => ?_)
  cases r with
  | error e => exact (show False from z).elim
  | ok fl =>
    cases fl with
    | ret u => exact I1.after z
    | next => exact False.elim z
    | brk => exact False.elim z
    | cont => exact False.elim z
/-! ### the end with two tables -/
theorem in_two {P1 P2 : Addr} {q1 q2 : Str} (ne : P1 ≠ P2) : (∀ p ∈ ([(P1, q1), (P2, q2)] : List (Addr × Str)), p.1 = P1 → p.2 = q1) ∧ ∀ p ∈ ([(P1, q1), (P2, q2)] : List (Addr × Str)), p.1 = P2 → p.2 = q2 := by
  refine ⟨fun p hp e => ?_, fun p hp e => ?_⟩ <;> simp only [List.mem_cons, List.not_mem_nil, or_false] at hp <;> rcases hp with rfl | rfl
  · rfl
  · exact (ne e.symm).elim
  · exact (ne e).elim
  · rfl
/-- two code objects of which K tells that their tables are two -/
theorem tabs_ne {K : PySem.W.Frag} {h : Heap} {c1 c2 P1 P2 Q1 Q2 : Addr} {o1 o2 : Obj} {v1 v2 : Array Value} (X : K.In h) (l1 : K.lookup c1 = some o1) (d1 : o1.data = .fields v1) (e1 : v1[11]? = some (.ref Q1)) (l2 : K.lookup c2 = some o2) (d2 : o2.data = .fields v2) (e2 : v2[11]? = some (.ref Q2)) (ne : Q1 ≠ Q2)
    (C1 : PySem.W.CodeHd h c1 P1) (C2 : PySem.W.CodeHd h c2 P2) : P1 ≠ P2 := by
  obtain ⟨o, vs, _, _, _, _, _, _, _, a1, _, a2, a3, _⟩ := C1
  obtain ⟨o', vs', _, _, _, _, _, _, _, b1, _, b2, b3, _⟩ := C2
  rw [X _ _ l1] at a1
  cases a1
  rw [d1] at a2
  cases a2
  rw [e1] at a3
  cases a3
  rw [X _ _ l2] at b1
  cases b1
  rw [d2] at b2
  cases b2
  rw [e2] at b3
  cases b3
  exact ne
theorem walkT2 {l : PySem.W.OpenLaw} {q : Program} {loose : List Str} {XP : (Str → Option Value) → Heap → Prop} {YP : World → Heap → Prop} {d : DefRec} {K : Params → PySem.W.Frag} {k : Nat} {q1 q2 y : Str} (hn : l.most = some 63) (hdf : d.params.defaults = []) (room : Room k callerA)
    (hY : ∀ (w : World) (h : Heap), YP w h → (K w.params).In h) (hK : ∀ w : World, PySem.W.noTabs (K w.params) = true) (hr : ((recsOf q).find? (fun z => z.name == d.name)).isSome = true) (hr2 : ((recsOf q).find? (fun z => z.name == y)).isSome = true)
    (F : ∀ (w : World) (mg : Str → Option Value) (fa fb c1 c2 : Addr) (h : Heap), (K w.params).In h → h.Ns mainGlobals mg → mg d.name = some (.ref fa) → mg y = some (.ref fb) → (∀ o fd, h.get? fa = some o → o.data = .func fd → fd.code = .ref c1) → (∀ o fd, h.get? fb = some o → o.data = .func fd → fd.code = .ref c2) →
      ∃ fd : FuncData, (∀ (s : Shared) (u : Value), BindsTo s fd ⟨[u], []⟩ [("script", u)]) ∧ (∀ P1 P2, PySem.W.CodeHd h c1 P1 → PySem.W.CodeHd h c2 P2 → P1 ≠ P2) ∧ ∀ (base : Heap) (P1 P2 : Addr), P1 ≠ P2 → (K w.params).In base → base.Ns mainGlobals mg → TabB base mg c1 P1 → TabB base mg c2 P2 → FnOk l.prog w (K w.params) mg base CX0 k fa fd ["script"] (spLawT (K w.params) [(P1, q1), (P2, q2)])) :
    PySem.W.WalkO q loose XP YP l.row.toRowW d [] (fun f vs => PySem.call f vs) := by
  refine Att.attach_callB hn hdf fun w s₀ s₁ mg mb fa o pm cd doc a vs ns ground Y ho hod hcd hmg hobj hints hlen hbits hgens => ?_
  have KX := hY w _ Y
  have top := ground.T
  obtain ⟨r, hr⟩ := Option.isSome_iff_exists.mp hr
  obtain ⟨r2, hr2⟩ := Option.isSome_iff_exists.mp hr2
  have er : r.name = d.name := beq_iff_eq.mp (List.find?_some (p := fun z : DefRec => z.name == d.name) hr)
  have er2 : r2.name = y := beq_iff_eq.mp (List.find?_some (p := fun z : DefRec => z.name == y) hr2)
  obtain ⟨a1, o1, fd1, c1, P1, t1, t2, t3, t4, t5, t6⟩ := top.tab r (List.mem_of_find?_eq_some hr)
  obtain ⟨a2, o2, fd2, c2, P2, u1, u2, u3, u4, u5, u6⟩ := top.tab r2 (List.mem_of_find?_eq_some hr2)
  rw [er, hmg] at t1
  cases t1
  rw [er2] at u1
  have hcode : ∀ o' fd', s₁.heap.get? fa = some o' → o'.data = .func fd' → fd'.code = .ref c1 := fun o' fd' e1 e2 => by
    rw [t2] at e1
    cases e1
    rw [t3] at e2
    cases e2
    exact t4
  have hcode2 : ∀ o' fd', s₁.heap.get? a2 = some o' → o'.data = .func fd' → fd'.code = .ref c2 := fun o' fd' e1 e2 => by
    rw [u2] at e1
    cases e1
    rw [u3] at e2
    cases e2
    exact u4
  obtain ⟨_, tabAt⟩ := id t6
  obtain ⟨_, tabAt2⟩ := id u6
  obtain ⟨fd, hb, hne, hF⟩ := F w mg fa a2 c1 c2 _ KX top.g hmg u1 hcode hcode2
  have ne := hne P1 P2 (PySem.W.CodeHd.of t5 t6) (PySem.W.CodeHd.of u5 u6)
  have two : ∀ {z : Addr × Addr}, z ∈ [(c1, P1), (c2, P2)] → z = (c1, P1) ∨ z = (c2, P2) := fun {z} hz => by simpa using hz
  exact law_callTs (cs := [(c1, P1), (c2, P2)]) (sp := spLawT (K w.params) [(P1, q1), (P2, q2)]) KX top.g top.b top.builtins top.nolimit hgens (fun z hz => by rcases two hz with rfl | rfl; exact tabAt; exact tabAt2) (fun z hz => by rcases two hz with rfl | rfl; exact noTab KX (hK w) tabAt; exact noTab KX (hK w) tabAt2)
    (fun z hz => by rcases two hz with rfl | rfl; exact PySem.W.CodeHd.of t5 t6; exact PySem.W.CodeHd.of u5 u6) top.bmain hobj hints (Nat.le_trans hlen (by decide)) room (fun base hi hns hTB => hF base P1 P2 ne hi hns (hTB (c1, P1) (.head _)) (hTB (c2, P2) (.tail _ (.head _)))) hb
    (fun H hH hS => ⟨a, ns, rfl, hS, hlen, fun z hz => by
      simp only [List.mem_cons, List.not_mem_nil, or_false] at hz
      rcases hz with rfl | rfl
      · exact TabS.nil (hH (c1, P1) (.head _))
      · exact TabS.nil (hH (c2, P2) (.tail _ (.head _))), fun _ => rfl⟩) fun _ _ _ z => z
end Cal
set_option Elab.async false
set_option linter.all false
set_option maxRecDepth 100000
set_option maxHeartbeats 4000000
namespace Cal
open PySem PySem.Spec L2 PyProof.Rows LamX
open Evl (Ex sq_of st_of)
section
variable {p : Par} {ρ : Rho} {Q : D → Prop} {te : TE} {C : Addr}
/-- isinstance(e, (A, B)) where e may be an object of an own class -/
theorem we_isiTW {A B : String} (F : EqF p.K C) (h : WE p ρ te fun x => ∃ t a b, TyW C x t ∧ PySem.W.kitOne p.K t (.type A) = some a ∧ PySem.W.kitOne p.K t (.type B) = some b ∧ Q (.bl (a || b))) : WE p ρ (tCB (rIsiT p.K) (tCons te (tCons (tTup (tCons (tC (.ty A)) (tCons (tC (.ty B)) tNil))) tNil))) Q := fun G σ H hh Qv k =>
  h G σ H hh _ fun x v G1 H1 ⟨t, a, b, e1, e2, e3, q⟩ s r => ⟨by rw [sizeLine_eq]; exact Nat.le_of_ble_eq_true rfl, fun tp hp => by
    have s2 := (hh.step s).mem.grow (o := .tup [.ty A, .ty B]) hp
    refine ⟨v, tp, [.ty A, .ty B], t, [.type A, .type B], a || b, rfl, upd_same, .cons (.ty A) (.cons (.ty B) .nil), tyW_x F s2.sub (rmono r s2.ex) e1, ?_, k _ _ _ _ q (s.trans s2) (.bl _)⟩
    refine kitAny_cons e2 (fun ha => ?_) (fun ha => by rw [ha]; rfl)
    rw [ha]
    refine kitAny_cons e3 (fun hb => ?_) (fun hb => by rw [hb]; rfl)
    rw [hb]
    exact kitAny_nil⟩
end
end Cal
set_option Elab.async false
set_option linter.all false
set_option maxRecDepth 100000
set_option maxHeartbeats 4000000
namespace Cal
open PySem PySem.Spec L2 PyProof.Rows LamX
open Evl (Ex sq_of st_of)
section
variable {p : Par} {ρ : Rho} {Q : D → Prop} {te : TE}
/-- int(e), e a flag -/
theorem we_intB (h : WE p ρ te fun x => ∃ b : Bool, x = .bl b ∧ Q (.int (if b then 1 else 0))) : WE p ρ (tCB (fun xs H Q => (∃ i, xs = [V.int i] ∧ Q (.int i) H) ∨ ∃ k, xs = [V.bl k] ∧ Q (.int (if k then 1 else 0)) H) (tCons te tNil)) Q :=
  we_cb (wa_cons (h.imp fun x ⟨b, e, q⟩ => wa_nil fun G H vs m r Qv k => by
    subst e
    cases r with
    | cons r rn => cases rn; cases r; exact .inr ⟨b, rfl, k _ _ G H q m.refl (.int _)⟩))
end
end Cal
set_option Elab.async false
set_option linter.all false
set_option maxRecDepth 100000
set_option maxHeartbeats 4000000
namespace Cal
open PySem PySem.Spec L2 PyProof.Rows LamX
open Evl (Ex sq_of st_of)
/-! ### a range that a name holds -/
section
variable {X : Cx} {tg e : Expr} {te : TE}
theorem cr_range1 : CallR X (.type "range") (fun vs H Q => ∃ j, vs = [V.int j] ∧ ∀ p, H p = none → Q (.ref p) (upd H p (.rng 0 j))) := by
  intro pins s σ H vs us Q I r ⟨j, ev, q⟩
  subst ev
  cases r with
  | cons r rr =>
    cases rr
    obtain ⟨t, rfl⟩ := r
    refine call_range_1 ⟨.ref s.heap.objs.size, upd H s.heap.objs.size (.rng 0 j), I.laid (t' := s.toks + 1 + 1) (fun b o e => Heap.get?_push_of_some _ e) (Nat.le_refl _) ?_, rfl, q _ (I.hok.fresh (Nat.le_refl _))⟩
    exact ⟨s.toks, t, s.toks + 1, Heap.get?_push_size _ rfl⟩
def iRgV (te : TE) : TI := fun σ H R => te σ H fun x H1 => ∃ a lo hi, x = .ref a ∧ H1 a = some (.rng lo hi) ∧ (-(2 ^ 62) ≤ lo ∧ lo < 2 ^ 62 ∧ -(2 ^ 62) ≤ hi ∧ hi < 2 ^ 62) ∧ R (Itr lo (hi - lo).toNat) H1
theorem pi_rgV (he : PE X e te) : PI X tg e (iRgV te) := by
  refine ⟨fun pins s σ H R I h => thn (he.run pins s σ H _ I h) fun u s1 ⟨x, H1, I1, r1, a, lo, hi, ex, ha, ⟨b1, b2, b3, b4⟩, q⟩ => ?_⟩
  subst ex
  obtain rfl : u = Value.ref a := r1
  obtain ⟨t, u, v, ho⟩ := I1.hok a _ ha
  refine wpAny_pyIter_range (show IsRange s1.heap a lo hi 1 t u v from ho) (small_one b1 b2 b3 b4) ?_
  refine ⟨s1.heap.objs.size, [s1.heap.objs.size], _, _, H1, rfl, I1.kept (t' := s1.toks) fun b o e => Heap.get?_push_of_some _ e, turn_range _ lo (hi - lo).toNat, ?_, fun b hb => ?_, q⟩
  · have e1 : lo + ((0 : Nat) : Int) * 1 = lo := by simp
    have e2 : (((hi - lo).toNat : Nat) : Int) - ((0 : Nat) : Int) = Builtin.Range.rangeSize lo hi 1 := by rw [rangeSize_one]; split <;> omega
    show IsRangeIter _ _ (lo + ((0 : Nat) : Int) * 1) ((((hi - lo).toNat : Nat) : Int) - ((0 : Nat) : Int)) 1
    rw [e1, e2]
    exact Heap.get?_push_size _ rfl
  · have eb : b = s1.heap.objs.size := by simpa using hb
    subst eb
    exact I1.fpOk (Nat.le_refl _) (I1.hok.fresh (Nat.le_refl _))
end
theorem NT.rng {lo hi : Int} : NT (.rng lo hi) := ⟨(by intro _ z; cases z), (by intro _ z; cases z), (by intro _ z; cases z)⟩
section
variable {p : Par} {ρ : Rho} {te : TE} {tt1 : TT} {Q : Cell → Prop}
theorem wf_range1 (h : WE p ρ te fun x => ∃ j : Int, x = .int j ∧ ∀ a, Q (.rw a (.rng 0 j))) : WF p ρ (tCB (fun vs H Q => ∃ j, vs = [V.int j] ∧ ∀ p, H p = none → Q (.ref p) (upd H p (.rng 0 j))) (tCons te tNil)) Q := fun G σ H hh Qv k =>
  h G σ H hh _ fun x v G1 H1 ⟨j, e, q⟩ s1 r1 => by
    subst e
    cases r1
    have m1 := (hh.step s1).mem
    exact ⟨j, rfl, fun a ha => k _ a _ _ (q a) rfl (s1.trans (m1.growO ha)) (hh.mem.back s1 ha) ⟨rfl, m1.fresh ha, upd_same, NT.rng⟩⟩
end
end Cal
set_option Elab.async false
set_option linter.all false
set_option maxRecDepth 100000
set_option maxHeartbeats 4000000
namespace Cal
open PySem PySem.Spec L2 PyProof.Rows LamX
open Evl (Ex sq_of st_of)
/-! ### [e for x in r for y in r if ..], r a range that a name holds -/
/-- between two turns: the list at Dl -/
def Lc2 (p : Par) (G1 H1 : Hp) (Dl : Addr) (I : List D → Prop) (cap : Nat) (H' : Hp) : Prop := ∃ acc av G', I acc ∧ acc.length ≤ cap ∧ Stp p G1 H1 G' H' ∧ H' Dl = some (.lst av) ∧ Own p G' Dl ∧ RpL p.K p.h G' av acc
section
variable {p : Par} {ρ : Rho} {te : TE} {tt1 : TT} {Q : Cell → Prop}
theorem rw_at {G H : Hp} {σ : L2.St} {i : Nat} {a : Addr} {o : HO} (hh : Hold p ρ G σ H) (e : ρ[i]? = some (some (.rw a o))) : σ[i]? = some (some (.ref a)) ∧ H a = some o := by
  obtain ⟨sv, h1, h2, _, h4, _⟩ := hh.slot i _ e
  subst h2
  exact ⟨h1, h4⟩
theorem wf_lc2v {i x y : Nat} {a : Addr} {lo hi : Int} {n : Nat} {vs vs1 : List Nat} (e0 : ρ[i]? = some (some (.rw a (.rng lo hi)))) (e1 : ((wipeR ρ vs).set x (some (.d (.int lo))))[i]? = some (some (.rw a (.rng lo hi)))) (hix : x ≠ i) (hx : x ∈ vs) (hy : y ∈ vs1) (hn : (hi - lo).toNat = n)
    (b : -(2 ^ 62) ≤ lo ∧ lo < 2 ^ 62 ∧ -(2 ^ 62) ≤ hi ∧ hi < 2 ^ 62) (cap : n * n < 4000000) {I : Nat → Nat → List D → Prop} (h0 : I 0 0 []) (hnext : ∀ k acc, k < n → I k n acc → I (k + 1) 0 acc)
    (hs : ∀ k l acc, k < n → l < n → I k l acc → WT p ((wipeR ((wipeR ρ vs).set x (some (.d (.int (lo + (k : Int)))))) vs1).set y (some (.d (.int (lo + (l : Int)))))) tt1 fun b =>
      if b = true then WE p ((wipeR ((wipeR ρ vs).set x (some (.d (.int (lo + (k : Int)))))) vs1).set y (some (.d (.int (lo + (l : Int)))))) te fun z => I k (l + 1) (acc ++ [z]) else I k (l + 1) acc)
    (hd : ∀ acc, I n 0 acc → Q (.ol acc)) : WF p ρ (tLc2 (iRgV (tVar i)) (gName x) tYes (iRgV (tVar i)) (gName y) tt1 te vs vs1) Q := fun G1 σ H1 hh Qv kk => by
  obtain ⟨hsi, hai⟩ := rw_at hh e0
  refine ⟨.ref a, hsi, a, lo, hi, rfl, hai, b, fun Dl hnD => ?_⟩
  rw [hn]
  refine ⟨fun k m H => m = n - k ∧ k ≤ n ∧ Lc2 p G1 H1 Dl (I k 0) (k * n) H, ⟨n, by simp, Nat.zero_le _, [], [], G1, h0, Nat.zero_le _, hh.mem.growO hnD, upd_same, hh.mem.fresh hnD, .nil⟩, ?_⟩
  rintro k m H ⟨rfl, hk, L⟩
  by_cases hlt : k < n
  · refine .inr ⟨hlt, Lc2 p G1 H1 Dl (I (k + 1) 0) ((k + 1) * n), fun H' L' => ⟨n - (k + 1), by omega, rfl, hlt, L'⟩, ?_⟩
    rintro x' H' ⟨ev, eh⟩
    subst ev
    subst eh
    refine ⟨by rw [wipe_set hx, wipe_wipe], ?_⟩
    unfold tYes
    dsimp only
    rw [if_pos rfl]
    obtain ⟨acc0, av0, G0, hi0, hl0, s0, ed0, ow0, r0⟩ := L
    have hk2 : Hold p ((wipeR ρ vs).set x (some (.d (.int (lo + (k : Int)))))) G0 ((L2.wipe σ vs).set x (some (.int (lo + (k : Int))))) _ := ((hh.step s0).wipe vs).setD (.int _)
    have ek : ((wipeR ρ vs).set x (some (.d (.int (lo + (k : Int))))))[i]? = some (some (.rw a (.rng lo hi))) := by
      rw [List.getElem?_set_ne hix] at e1 ⊢
      exact e1
    obtain ⟨hsi2, hai2⟩ := rw_at hk2 ek
    refine ⟨.ref a, hsi2, a, lo, hi, rfl, hai2, b, ?_⟩
    rw [hn]
    refine ⟨fun l m H => m = n - l ∧ l ≤ n ∧ Lc2 p G1 H1 Dl (I k l) (k * n + l) H, ⟨n, by simp, Nat.zero_le _, acc0, av0, G0, hi0, hl0, s0, ed0, ow0, r0⟩, ?_⟩
    rintro l m H2 ⟨rfl, hl, L2'⟩
    by_cases hlt2 : l < n
    · refine .inr ⟨hlt2, Lc2 p G1 H1 Dl (I k (l + 1)) (k * n + (l + 1)), fun H' L' => ⟨n - (l + 1), by omega, rfl, hlt2, L'⟩, ?_⟩
      rintro y' H3' ⟨ev, eh⟩
      subst ev
      subst eh
      refine ⟨by rw [wipe_set hy, wipe_wipe], ?_⟩
      obtain ⟨acc, av, G', hi', hl', s, ed, ow, r⟩ := L2'
      have hin : Hold p ((wipeR ((wipeR ρ vs).set x (some (.d (.int (lo + (k : Int)))))) vs1).set y (some (.d (.int (lo + (l : Int)))))) G' ((L2.wipe ((L2.wipe σ vs).set x (some (.int (lo + (k : Int))))) vs1).set y (some (.int (lo + (l : Int))))) _ :=
        (((((hh.step s).wipe vs).setD (.int _)).wipe vs1).setD (.int _))
      have hz : k * n + l < 4000000 := by
        have : k * n + n ≤ n * n := by
          have := Nat.mul_le_mul_right n (show k + 1 ≤ n from hlt)
          rw [Nat.succ_mul] at this
          exact this
        omega
      refine hs k l acc hlt hlt2 hi' G' _ _ hin _ fun b G2 H3 q s2 => ?_
      obtain ⟨ow2, e2⟩ := Own.step NT.lst ow ed s2
      cases b with
      | false =>
        rw [if_neg (by decide)] at q ⊢
        exact ⟨acc, av, G2, q, by omega, s.trans s2, e2, ow2, lmono r s2.ex⟩
      | true =>
        rw [if_pos rfl] at q ⊢
        refine q G2 _ H3 (hin.step s2) _ fun d w G3 H4 q3 s3 r3 => ?_
        obtain ⟨ow3, e3⟩ := Own.step NT.lst ow2 e2 s3
        have hlen := r.length
        refine ⟨av, e3, by rw [sizeLine_eq]; omega, acc ++ [d], av ++ [w], G3, q3, by rw [List.length_append, List.length_singleton]; omega, ((s.trans s2).trans s3).updO hnD ow3 ⟨_, e3, NT.lst⟩, upd_same, ow3, (lmono r (ex_tr s2.ex s3.ex)).append (.cons r3 .nil)⟩
    · have el : l = n := by omega
      subst el
      obtain ⟨acc, av, G', hi', hl', s, ed, ow, r⟩ := L2'
      exact .inl ⟨Nat.le_refl _, acc, av, G', hnext k acc hlt hi', by rw [Nat.succ_mul]; exact hl', s, ed, ow, r⟩
  · have e : k = n := by omega
    subst e
    obtain ⟨acc, av, G', hi', _, s, ed, ow, r⟩ := L
    exact .inl ⟨Nat.le_refl _, kk _ Dl G' H (hd acc hi') rfl s (hh.mem.back (hh.mem.refl) hnD) ⟨Dl, av, rfl, ow, ed, r⟩⟩
end
end Cal
set_option Elab.async false
set_option linter.all false
set_option maxRecDepth 100000
set_option maxHeartbeats 4000000
namespace Cal
open PySem PySem.Spec L2 PyProof.Rows
/-! ### {k: v for x in ..}, keys that are tuples -/
/-- the dict at D takes the value z for the key y -/
def PutT (D : Addr) (y z : V) (H : Hp) (N : Hp → Prop) : Prop := ∃ kvs ks b, y = .ref b ∧ H b = some (.tup (ks.map kV)) ∧ H D = some (.dT kvs) ∧ kvs.length < sizeLine ∧ N (upd H D (.dT (putK kvs ks z)))
theorem putT_ok {Y : Cx} {pins : List (Addr × Obj)} {σ : L2.St} {H : Hp} {s : Shared} {D : Addr} {y z : V} {u r : Value} {N : Hp → Prop} {Q : Unit → Shared → Prop} {E : Value → Shared → Prop} (hu : Y.A.units + 1 < cLine) (I : Inv Y pins σ H s) (ry : RelV y u) (rz : RelV z r) (h : PutT D y z H N)
    (k : ∀ s1 H1, N H1 → Inv Y pins σ H1 s1 → Q () s1) : wpAny (model Y.prog Y.w) Y.A (dictSet D u r) Q E s := by
  obtain ⟨kvs, ks, b, ey, eb, ed, hl, n⟩ := h
  subst ey
  obtain rfl : u = Value.ref b := ry
  obtain ⟨q1, q2, xs, rel, dd⟩ := dt_of I.hok ed
  have few : xs.length ≤ sizeLine := by rw [← Paired.length rel]; exact q1
  refine wpAny_dictSet_heap (hsz := few) (Nat.lt_of_succ_lt hu) (key_of I.hok eb) dd fun h1 d1 sb => k _ _ n ?_
  obtain ⟨o, es, ep, w1, w2, w3, w4, _, w5⟩ := d1
  refine d_write I (by rw [ed]; exact True.intro) sb ⟨o, w1⟩ ⟨by have := length_putK kvs ks z; omega, q2, _, (rel.put ks eb rz).keeps fun c ys ec => ?_, o, es, ep, w1, w2, w3, w4, w5⟩
  rw [upd_ne (ne_of ec ed (fun z => nomatch z))]
  exact ec
def tDcT (wi : TI) (g : TG) (tt : TT) (tk tv : TE) (vs : List Nat) : TE := fun σ H Q => wi σ H fun J H1 => ∀ D, H1 D = none → ∃ W : Nat → Nat → Hp → Prop, (∃ m, W 0 m (upd H1 D (.dT []))) ∧ ∀ i m H, W i m H →
  (J.stop i H ∧ Q (.ref D) H) ∨ (J.go i H ∧ ∃ N : Hp → Prop, (∀ H2, N H2 → ∃ m2, m2 < m ∧ W (i + 1) m2 H2) ∧ ∀ x H2, J.yld i H x H2 → g x (L2.wipe σ vs) H2 fun σ3 H3 => L2.wipe σ3 vs = L2.wipe σ vs ∧ tt σ3 H3 fun b H4 =>
    if b = true then tk σ3 H4 fun y H5 => tv σ3 H5 fun z H6 => PutT D y z H6 N else N H4)
section
variable {X : Cx} {kx vx tg iter : Expr} {ifs : List Expr} {scope : Scope} {own : List (Str × Nat)} {pos : Pos} {wi : TI} {g : TG} {tt : TT} {tk tv : TE}
/-- what holds between two turns of the block at s0, H0 -/
def DcI (X : Cx) (s0 : Shared) (H0 : Hp) (scope : Scope) (ce : Env) (fp : List Addr) (tn : Nat → Heap → Prop) (σ : L2.St) (W : Nat → Nat → Hp → Prop) (n : Nat) (s : Shared) : Prop :=
  ∃ i H, Inv (X.blk s0 H0 scope ce fp) [] σ H s ∧ tn i s.heap ∧ (∀ b ∈ fp, H b = none) ∧ W i n H
theorem dcT_core {pos2 : Pos} {pins : List (Addr × Obj)} {s : Shared} {σ : L2.St} {H : Hp} {Q : VK} {use : Option (Value → Sem Unit)} {Qf : Value → Shared → Prop} (I : Inv X pins σ H s) (hu : X.A.units + 1 < cLine) (hc : X.calm = true) (hN : X.N.Nodup) (hi : PI X tg iter wi) (ok : BlkOk X.N X.env.scope scope own)
    (hg : ∀ (s : Shared) (H : Hp) (C : Addr) (cl : List (Str × Addr)) (fp : List Addr), PG (X.blk s H scope (compEnvC scope cl C X.env) fp) tg g) (ht : ∀ (s : Shared) (H : Hp) (C : Addr) (cl : List (Str × Addr)) (fp : List Addr), PTs (X.blk s H scope (compEnvC scope cl C X.env) fp) ifs tt)
    (hk : ∀ (s : Shared) (H : Hp) (C : Addr) (cl : List (Str × Addr)) (fp : List Addr), PE (X.blk s H scope (compEnvC scope cl C X.env) fp) kx tk) (he : ∀ (s : Shared) (H : Hp) (C : Addr) (cl : List (Str × Addr)) (fp : List Addr), PE (X.blk s H scope (compEnvC scope cl C X.env) fp) vx tv)
    (hs : ∀ x, foldedSetIterable iter X.env x = pure x)
    (h : tDcT wi g tt tk tv (own.map (·.2)) σ H Q) (fin : ∀ D C s1 m H1, Inv X pins σ H1 s1 → Q (.ref D) H1 → s1.heap.Ns C m → FpOk X pins H1 C → compPost (model X.prog X.w) X.A X.xe use Qf (.ref D) C (.ok .next) s1) :
    wpAny (model X.prog X.w) X.A (comprehension (.DictComp kx vx [⟨tg, iter, ifs, 0⟩] scope pos) scope X.env pos2 newDict false (eval iter X.env) use) Qf X.xe s := by
  have free : ∀ y ∈ scope.names, y.2 = .free → ∃ c, X.env.cells.lookup y.1 = some c := fun y hy e => I.ok.has _ (ok.free y hy e)
  refine wpAny_comprehension_free (use := use) rfl hs (closure_ok free) ok.kind (fun y hy e => by rw [ok.uniq y hy, e]) (thn (hi.run pins s σ H _ I h) fun _ _ it0 => thn it0 fun _ s2 ⟨it, fp, tn, J, H2, e, I2, T, st2, f2, q⟩ => ?_)
  subst e
  refine wpAny_newObj_type (newEnv_comp ?_)
  obtain ⟨D, hD⟩ : ∃ D, D = s2.heap.objs.size := ⟨_, rfl⟩
  rw [← hD]
  obtain ⟨W, ⟨m0, w0⟩, turn⟩ := q D (I2.hok.fresh (Nat.le_of_eq hD.symm))
  -- the dict
  obtain ⟨s3, e3⟩ : ∃ s3 : Shared, s3 = { s2 with heap := s2.heap.push { cls := .type "dict", data := .dict #[] } } := ⟨_, rfl⟩
  rw [← e3]
  obtain ⟨H3, eH3⟩ : ∃ H3, H3 = upd H2 D (.dT []) := ⟨_, rfl⟩
  rw [← eH3] at w0
  have keep3 : ∀ b o, s2.heap.get? b = some o → s3.heap.get? b = some o := fun b o z => by rw [e3]; exact Heap.get?_push_of_some _ z
  have I3 : Inv X pins σ H3 s3 := by
    rw [eH3, e3]
    refine I2.laid (t' := s2.toks) (fun b o z => Heap.get?_push_of_some _ z) (Nat.le_of_eq hD.symm) ?_
    rw [hD]
    exact dt_empty s2.heap I2.big
  have low : ∀ b ∈ fp, b < s2.heap.objs.size := fun b hb => by
    obtain ⟨o, z, _⟩ := T.obj _ _ st2 b hb
    exact Heap.lt_size z
  have f3 : ∀ b ∈ fp, FpOk X pins H3 b ∧ b < s3.heap.objs.size := fun b hb => by
    have lt := low b hb
    refine ⟨⟨?_, (f2 b hb).2⟩, by rw [e3]; show b < (s2.heap.push _).objs.size; rw [Heap.size_push]; exact Nat.lt_succ_of_lt lt⟩
    rw [eH3, upd_ne (by rw [hD]; exact Nat.ne_of_lt lt)]
    exact (f2 b hb).1
  have I4 := block_start I3 ok hN f3
  obtain ⟨cs, ecs⟩ : ∃ cs, cs = cellsFrom (s3.heap.objs.size + 1) scope.names (cloFrom X.env.cells scope.names []) := ⟨_, rfl⟩
  rw [← ecs] at I4
  have pg := hg s3 H3 s3.heap.objs.size cs fp
  have pt := ht s3 H3 s3.heap.objs.size cs fp
  have pk := hk s3 H3 s3.heap.objs.size cs fp
  have pe := he s3 H3 s3.heap.objs.size cs fp
  show codeAny _ _ (.compStart (.DictComp kx vx [⟨tg, iter, ifs, 0⟩] scope pos) 0 (.ref it) (.ref D) (compEnvC scope (cellsFrom (s3.heap.objs.size + 1) scope.names (cloFrom X.env.cells scope.names [])) s3.heap.objs.size X.env)) (compPost (model X.prog X.w) X.A X.xe use Qf (.ref D) s3.heap.objs.size) { s3 with heap := pushCells (s3.heap.push { cls := .type "dict", data := .dict #[] }) scope.names }
  rw [← ecs]
  obtain ⟨ce, ece⟩ : ∃ ce, ce = compEnvC scope cs s3.heap.objs.size X.env := ⟨_, rfl⟩
  have home : ce.locals = s3.heap.objs.size := by rw [ece]; rfl
  rw [← ece] at I4 pg pt pk pe ⊢
  obtain ⟨s4, e4⟩ : ∃ s4 : Shared, s4 = { s3 with heap := pushCells (s3.heap.push { cls := .type "dict", data := .dict #[] }) scope.names } := ⟨_, rfl⟩
  rw [← e4] at I4 ⊢
  have st4 : tn 0 s4.heap := T.keep _ _ _ st2 fun b _ o z => by rw [e4]; exact pushCells_keeps _ _ _ _ (Heap.get?_push_of_some _ (keep3 b o z))
  have fps : ∀ {σ1 : L2.St} {H1 : Hp} {s1 : Shared}, Inv (X.blk s3 H3 scope ce fp) [] σ1 H1 s1 → (∀ b ∈ fp, H1 b = none) → ∀ b ∈ fp, FpOk (X.blk s3 H3 scope ce fp) [] H1 b := fun {σ1 H1 s1} I1 nn b hb =>
    ⟨nn b hb, (I1.ok.exf b hb).1, I1.ok.exfs b hb, .inl hb, fun x c z => (I1.ok.exf b hb).2 x c z, fun p hp => absurd (show p ∈ ([] : List (Addr × Obj)) ++ [] from hp) (by simp)⟩
  have loop : codeAny (model X.prog X.w) X.A (.compLoop (.DictComp kx vx [⟨tg, iter, ifs, 0⟩] scope pos) 0 (.ref it) (.ref D) ce) (compPost (model X.prog X.w) X.A X.xe use Qf (.ref D) s3.heap.objs.size) s4 := by
    refine compLoop_anyD (DcI X s3 H3 scope ce fp tn (L2.wipe σ (own.map (·.2))) W) (fun n s5 => ?_) m0 ⟨0, H3, I4, st4, fun b hb => (f3 b hb).1.1, w0⟩
    rintro ⟨i, H5, I5, st5, n5, w5⟩
    rcases turn i n H5 w5 with ⟨stop, qq⟩ | ⟨go, N, less, step⟩
    · refine thnF (T.done (X.blk s3 H3 scope ce fp) rfl rfl rfl hc i [] s5 _ H5 (fun _ _ => False) I5 (fps I5 n5) st5 stop) fun r s6 ⟨hr, I6⟩ => ?_
      subst hr
      have I7 : Inv X pins σ H5 s6 := I3.call' (ch := fp) I6.os I6.base I6.hok I6.bare fun b hb => ⟨(f3 b hb).1.2.2.2.1, (f3 b hb).1.2.1, (f3 b hb).1.2.2.2.2.1, (f3 b hb).1.2.2.2.2.2⟩
      obtain ⟨m, ns, _⟩ := I6.loc
      have ns : s6.heap.Ns ce.locals m := ns
      have gone : H5 ce.locals = none := I6.free
      rw [home] at ns gone
      exact fin D s3.heap.objs.size s6 m H5 I7 qq ns (I3.fpOk (Nat.le_refl _) gone)
    · refine thnF (T.item (X.blk s3 H3 scope ce fp) rfl rfl rfl hc i [] s5 _ H5 (fun _ _ => False) I5 (fps I5 n5) st5 go) fun r s6 ⟨u, hr, item⟩ => ?_
      subst hr
      refine thnF item fun _ s7 ⟨x, H7, I7, r7, y7, st7, n7⟩ => ?_
      refine thnF (pg.run _ s7 _ H7 x u _ (I7.pinned (fps I7 n7) (T.obj _ _ st7)) r7 (step x H7 y7)) fun _ s8 ⟨σ8, H8, I8, same, q8⟩ => ?_
      refine thnF (pt.run _ s8 σ8 H8 _ I8 q8) fun b s9 ⟨H9, I9, q9⟩ => ?_
      have next : ∀ {s1 : Shared} {H1 : Hp}, Inv (X.blk s3 H3 scope ce fp) ([] ++ pinsAt fp s7.heap) σ8 H1 s1 → N H1 → ∃ m, m < n ∧ DcI X s3 H3 scope ce fp tn (L2.wipe σ (own.map (·.2))) W m s1 := fun {s1 H1} I1 nx => by
        obtain ⟨m, lt, w1⟩ := less H1 nx
        have pin : ∀ b ∈ fp, ∀ o, s7.heap.get? b = some o → s1.heap.get? b = some o ∧ H1 b = none := fun b hb o z =>
          have k := I1.pin (b, o) (List.mem_append_right _ (List.mem_append_right _ (mem_pinsAt hb z)))
          ⟨k.1, k.2.1⟩
        refine ⟨m, lt, i + 1, H1, (I1.unpinned (pins := [])).weak (by rw [← same, L2.wipe_length]) (fun j v z => ?_), T.keep _ _ _ st7 fun b hb o z => (pin b hb o z).1, fun b hb => ?_, w1⟩
        · rw [← same] at z
          exact (wipe_some z).1
        · obtain ⟨o, z, _⟩ := T.obj _ _ st7 b hb
          exact (pin b hb o z).2
      cases b with
      | false =>
        rw [if_neg (by decide)] at q9
        exact next I9 q9
      | true =>
        rw [if_pos rfl] at q9
        rw [if_pos rfl]
        refine thnF (pk.run _ s9 σ8 H9 _ I9 q9) fun ku s10 ⟨y, H10, I10, ry, q10⟩ => ?_
        refine thnF (pe.run _ s10 σ8 H10 _ I10 q10) fun vu s11 ⟨z, H11, I11, rz, q11⟩ => ?_
        exact putT_ok (Y := X.blk s3 H3 scope ce fp) hu I11 ry rz q11 fun s1 H1 nx I1 => next I1 nx
  exact codeAny_compStart_dict loop (T.self X.A 0 _ _ _ st4 loop)
theorem pe_dcT (hu : X.A.units + 1 < cLine) (hc : X.calm = true) (hN : X.N.Nodup) (hi : PI X tg iter wi) (ok : BlkOk X.N X.env.scope scope own)
    (hg : ∀ (s : Shared) (H : Hp) (C : Addr) (cl : List (Str × Addr)) (fp : List Addr), PG (X.blk s H scope (compEnvC scope cl C X.env) fp) tg g) (ht : ∀ (s : Shared) (H : Hp) (C : Addr) (cl : List (Str × Addr)) (fp : List Addr), PTs (X.blk s H scope (compEnvC scope cl C X.env) fp) ifs tt)
    (hk : ∀ (s : Shared) (H : Hp) (C : Addr) (cl : List (Str × Addr)) (fp : List Addr), PE (X.blk s H scope (compEnvC scope cl C X.env) fp) kx tk) (he : ∀ (s : Shared) (H : Hp) (C : Addr) (cl : List (Str × Addr)) (fp : List Addr), PE (X.blk s H scope (compEnvC scope cl C X.env) fp) vx tv)
    (hs : ∀ x, foldedSetIterable iter X.env x = pure x := by intro _; rfl) : PE X (.DictComp kx vx [⟨tg, iter, ifs, 0⟩] scope pos) (tDcT wi g tt tk tv (own.map (·.2))) := by
  refine ⟨fun pins s σ H Q I h => ?_⟩
  rw [arm_eval_DictComp]
  refine dcT_core I hu hc hN hi ok hg ht hk he hs h fun D C s1 m H1 I1 q ns f => ⟨m, ns, fun h1 sb => ?_⟩
  obtain ⟨f0, f1, _, f3, f4, f5⟩ := f
  exact ⟨.ref D, H1, I1.turned (t' := s1.toks) (fun b o hb z => (sb.2 b hb).trans z) f0 f1 f3 f4 f5, rfl, q⟩
theorem sw_dc {gs : List Comprehension} {py : Pos} {y : Str} {l : Nat} {env : Env} (h1 : env.scope.kind = .function) (h2 : env.scope.names.lookup y = some .local) (h3 : (py.line == pos.line) = true) (h4 : (scope.names.any fun (n, k) => n == y && (k == .local || k == .cell)) = false) :
    swapsWith (.DictComp kx vx gs scope pos) (some (.Name y py)) l env = pure true := by
  have a1 : env.kindOf y = some .local := h2
  have a2 : env.blockKind = .function := by unfold Env.blockKind; rw [h1]; rfl
  unfold swapsWith
  simp only [a2, a1, h4, Expr.pos, h3]
  rfl
/-- y = {k: v for ..} -/
theorem ps_setDcT {i : Nat} {y : Str} {py spos : Pos} (hy : X.N[i]? = some y) (hyl : X.env.scope.names.lookup y = some .local) (hsw : swapsWith (.DictComp kx vx [⟨tg, iter, ifs, 0⟩] scope pos) (some (.Name y py)) spos.line X.env = pure true) (hu : X.A.units + 1 < cLine) (hc : X.calm = true) (hN : X.N.Nodup) (hi : PI X tg iter wi) (ok : BlkOk X.N X.env.scope scope own)
    (hg : ∀ (s : Shared) (H : Hp) (C : Addr) (cl : List (Str × Addr)) (fp : List Addr), PG (X.blk s H scope (compEnvC scope cl C X.env) fp) tg g) (ht : ∀ (s : Shared) (H : Hp) (C : Addr) (cl : List (Str × Addr)) (fp : List Addr), PTs (X.blk s H scope (compEnvC scope cl C X.env) fp) ifs tt)
    (hk : ∀ (s : Shared) (H : Hp) (C : Addr) (cl : List (Str × Addr)) (fp : List Addr), PE (X.blk s H scope (compEnvC scope cl C X.env) fp) kx tk) (he : ∀ (s : Shared) (H : Hp) (C : Addr) (cl : List (Str × Addr)) (fp : List Addr), PE (X.blk s H scope (compEnvC scope cl C X.env) fp) vx tv)
    (hs : ∀ x, foldedSetIterable iter X.env x = pure x := by intro _; rfl) :
    PS X (.Assign [.Name y py] (.DictComp kx vx [⟨tg, iter, ifs, 0⟩] scope pos) spos) (tAsg (tDcT wi g tt tk tv (own.map (·.2))) (gName i)) := by
  refine ⟨fun pins s σ H D I h => ?_⟩
  rw [exec_Assign_Name_used _ _ _ _ hsw]
  refine wpAny_bind (wpAny_standAt (wpAny_bind ?_))
  show wpAny _ X.A (do let _ ← comprehension (.DictComp kx vx [⟨tg, iter, ifs, 0⟩] scope pos) scope X.env (firstIterPos [⟨tg, iter, ifs, 0⟩] pos) newDict false (eval iter X.env) (some (assign (.Name y py) X.env))) _ _ s
  have h0 : tDcT wi g tt tk tv (own.map (·.2)) σ H (fun x H1 => gName i x σ H1 D.nx) := h
  refine wpAny_bind (thn (dcT_core (Qf := fun _ s1 => SP X pins D .next s1) I hu hc hN hi ok hg ht hk he hs h0 fun L C s1 m H1 I1 q ns f => ?_) fun _ s1 z => wpAny_pure (wpAny_pure z))
  show wpAny _ _ (assign (.Name y py) X.env (.ref L)) _ _ _
  refine wpAny_assign_Name (store_ok2 (v := V.ref L) I1 hN hy (.inl hyl) rfl (fun s2 I2 ⟨c, sb, hc⟩ => ?_) (.inr hyl))
  obtain ⟨f0, f1, _, f3, f4, f5⟩ := f
  have ne : C ≠ c := by
    rcases hc with z | z
    · rw [z]; exact f1
    · exact fun e => f4 y c z e.symm
  exact ⟨m, ns.sameBut sb ne, fun h3 sb3 => ⟨_, H1, I2.turned (t' := s2.toks) (fun b o hb z => (sb3.2 b hb).trans z) f0 f1 f3 f4 f5, q⟩⟩
end
end Cal
set_option Elab.async false
set_option linter.all false
set_option maxRecDepth 100000
set_option maxHeartbeats 4000000
namespace Cal
open PySem PySem.Spec L2 PyProof.Rows
open Evl (Ex sq_of st_of)
/-- between two turns: the dict at Dl -/
def Dc (p : Par) (G1 H1 : Hp) (Dl : Addr) (I : Nat → List (List Key × D) → Prop) (k : Nat) (H : Hp) : Prop := ∃ acc av G, I k acc ∧ acc.length ≤ k ∧ Stp p G1 H1 G H ∧ H Dl = some (.dT av) ∧ Own p G Dl ∧ RpT p.K p.h G av acc
section
variable {p : Par} {ρ : Rho} {g : TG} {tt : TT} {tk tv : TE} {Q : Cell → Prop}
theorem dPut_le (kvs : List (List Key × D)) (k : List Key) (v : D) : (dPut kvs k v).length ≤ kvs.length + 1 := by
  unfold dPut
  split
  · rw [List.length_map]; omega
  · rw [List.length_append, List.length_singleton]; omega
/-- {k: v for x in l}, keys tuples -/
theorem wf_dcTL {tl : TE} {vs : List Nat} (h : WE p ρ tl fun x => ∃ xs, x = .lst xs ∧ xs.length ≤ 3000000 ∧ ∃ I : Nat → List (List Key × D) → Prop, I 0 [] ∧
    (∀ k x acc, xs[k]? = some x → I k acc → acc.length ≤ k → WGp p vs (wipeR ρ vs) g x fun ρ2 => WT p ρ2 tt fun b => if b = true then WE p ρ2 tk fun y => ∃ ks : List Key, y = .tup (ks.map kD) ∧ WE p ρ2 tv fun z => I (k + 1) (dPut acc ks z) else I (k + 1) acc) ∧ ∀ acc, I xs.length acc → Q (.ot acc)) :
    WF p ρ (tDcT (iList p.K tl) g tt tk tv vs) Q := fun G σ H hh Qv kk =>
  h G σ H hh _ fun x v G1 H1 ⟨xs, e, hz, I, h0, hs, hd⟩ s1 r1 => by
    subst e
    obtain ⟨a, us, ev, hq, hl⟩ := r1.lst_inv
    have hh1 := hh.step s1
    have hlen := hl.length
    refine ⟨a, ev, ⟨us, lq hh1.mem.sub hq⟩, fun Dl hn => ⟨fun i m H => m = us.length - i ∧ i ≤ us.length ∧ Dc p G1 H1 Dl I i H, ⟨us.length, by simp, Nat.zero_le _, [], [], G1, h0, Nat.le_refl _, hh1.mem.growO hn, upd_same, hh1.mem.fresh hn, .nil⟩, ?_⟩⟩
    rintro i m H2 ⟨rfl, hi, L⟩
    have same : SqL p.K H2 a us := by
      obtain ⟨_, _, G2, _, _, s, _⟩ := L
      exact lq s.sub (s.ex _ _ hq)
    by_cases hlt : i < us.length
    · refine .inr ⟨⟨us, us[i], same, by simp [hlt]⟩, Dc p G1 H1 Dl I (i + 1), fun H3 L3 => ⟨us.length - (i + 1), by omega, rfl, hlt, L3⟩, fun x3 H3 y => ?_⟩
      obtain ⟨eh, y⟩ := y
      subst eh
      have hx := y us same
      obtain ⟨d, d1, d2⟩ := hl.get' hx
      obtain ⟨acc, av, G2, hi2, hle, s, ed, ow, r⟩ := L
      refine hs i d acc d1 hi2 hle G2 _ _ x3 ((hh1.step s).wipe vs) (rmono d2 s.ex) _ fun ρ2 σ2 z hh2 ew => ⟨by rw [ew, wipe_wipe], z G2 σ2 _ hh2 _ fun b G3 H4 q s2 => ?_⟩
      obtain ⟨ow2, e2⟩ := Own.step NT.dT ow ed s2
      cases b with
      | false =>
        rw [if_neg (by decide)] at q ⊢
        exact ⟨acc, av, G3, q, Nat.le_succ_of_le hle, s.trans s2, e2, ow2, RpT.mono s2.ex _ _ r⟩
      | true =>
        rw [if_pos rfl] at q ⊢
        refine q G3 σ2 H4 (hh2.step s2) _ fun yk w G4 H5 ⟨ks, ek, q4⟩ s3 r3 => ?_
        subst ek
        obtain ⟨ow3, e3⟩ := Own.step NT.dT ow2 e2 s3
        refine q4 G4 σ2 H5 ((hh2.step s2).step s3) _ fun zd zv G5 H6 q5 s4 r4 => ?_
        obtain ⟨ow4, e4⟩ := Own.step NT.dT ow3 e3 s4
        obtain ⟨b, eb, hb⟩ := key_at s4.sub (rmono r3 s4.ex)
        have la := r.length
        refine ⟨av, ks, b, eb, hb, e4, by rw [sizeLine_eq]; omega, dPut acc ks zd, _, G5, q5, Nat.le_trans (dPut_le _ _ _) (by omega), (((s.trans s2).trans s3).trans s4).updO hn ow4 ⟨_, e4, NT.dT⟩, upd_same, ow4, (RpT.mono (ex_tr s2.ex (ex_tr s3.ex s4.ex)) _ _ r).put ks r4⟩
    · have ei : i = us.length := by omega
      subst ei
      obtain ⟨acc, av, G2, hi2, _, s, ed, ow, r⟩ := L
      rw [hlen] at hi2
      exact .inl ⟨⟨us, same, Nat.le_refl _⟩, kk _ Dl G2 H2 (hd acc hi2) rfl (s1.trans s) (hh.mem.back s1 hn) ⟨Dl, av, rfl, ow, ed, r⟩⟩
end
end Cal
set_option Elab.async false
set_option linter.all false
set_option maxRecDepth 100000
set_option maxHeartbeats 4000000
namespace Cal
open PySem PySem.Spec L2 PyProof.Rows
open Evl (Ex sq_of st_of)
theorem rd_ex {G H : Hp} {a : Addr} {u : HO} (e : Ex G H) (r : Rd G a u) : Rd H a u := r.elim (fun z => .inl (e _ _ z)) fun ⟨o, z⟩ => .inr ⟨o, e _ _ z⟩
section
variable {p : Par} {ρ : Rho} {Q : D → Prop} {td ty : TE}
/-- d[k], d a dict that is data -/
theorem we_dgetP (h : WE p ρ td fun x => ∃ kvs, x = .dK kvs ∧ WE p ρ ty fun y => ∃ k z, y = kD k ∧ dGet kvs k = some z ∧ Q z) : WE p ρ (tDGet td ty) Q := fun G σ H hh Qv kk =>
  h G σ H hh _ fun x v G1 H1 ⟨kvs, ex, h2⟩ s1 r1 => h2 G1 σ H1 (hh.step s1) _ fun y w G2 H2 ⟨k, z, ey, ez, q⟩ s2 r2 => by
    subst ex ey
    have r3 := rmono r1 s2.ex
    cases r3 with
    | dK rd rk =>
      rcases rk.find k with ⟨_, z1⟩ | ⟨u, d, z1, z2, z3⟩
      · rw [ez] at z1; cases z1
      · rw [ez] at z2; cases z2
        exact ⟨_, u, rfl, .inl ⟨_, k, rd_ex s2.sub rd, kD_rp r2, z1.symm⟩, kk _ _ G2 H2 q (s1.trans s2) z3⟩
end
end Cal
set_option Elab.async false
set_option linter.all false
set_option maxRecDepth 100000
set_option maxHeartbeats 4000000
namespace Cal
open PySem PySem.Spec L2 PyProof.Rows
open Evl (Ex sq_of st_of)
section
variable {p : Par} {ρ : Rho} {g : TG} {tt : TT} {tk tv : TE} {Q : Cell → Prop}
/-- .. l a list that a name owns -/
theorem wf_dcTO {i0 : Nat} {xs : List D} {vs : List Nat} (e0 : ρ[i0]? = some (some (.ol xs))) (hz : xs.length ≤ 3000000) {I : Nat → List (List Key × D) → Prop} (h0 : I 0 [])
    (hs : ∀ k x acc, xs[k]? = some x → I k acc → acc.length ≤ k → WGp p vs (wipeR ρ vs) g x fun ρ2 => WT p ρ2 tt fun b => if b = true then WE p ρ2 tk fun y => ∃ ks : List Key, y = .tup (ks.map kD) ∧ WE p ρ2 tv fun z => I (k + 1) (dPut acc ks z) else I (k + 1) acc) (hd : ∀ acc, I xs.length acc → Q (.ot acc)) :
    WF p ρ (tDcT (iList p.K (tVar i0)) g tt tk tv vs) Q := fun G1 σ H1 hh1 Qv kk => by
    obtain ⟨sv, hv, a, us, esv, own, hq, hl⟩ := hh1.slot i0 _ e0
    subst esv
    have hlen := hl.length
    refine ⟨.ref a, hv, a, rfl, ⟨us, sq_of hq⟩, fun Dl hn => ⟨fun i m H => m = us.length - i ∧ i ≤ us.length ∧ Dc p G1 H1 Dl I i H, ⟨us.length, by simp, Nat.zero_le _, [], [], G1, h0, Nat.le_refl _, hh1.mem.growO hn, upd_same, hh1.mem.fresh hn, .nil⟩, ?_⟩⟩
    rintro i m H2 ⟨rfl, hi, L⟩
    have same : SqL p.K H2 a us := by
      obtain ⟨_, _, G2, _, _, s, _⟩ := L
      exact sq_of (Own.step NT.lst own hq s).2
    by_cases hlt : i < us.length
    · refine .inr ⟨⟨us, us[i], same, by simp [hlt]⟩, Dc p G1 H1 Dl I (i + 1), fun H3 L3 => ⟨us.length - (i + 1), by omega, rfl, hlt, L3⟩, fun x3 H3 y => ?_⟩
      obtain ⟨eh, y⟩ := y
      subst eh
      have hx := y us same
      obtain ⟨d, d1, d2⟩ := hl.get' hx
      obtain ⟨acc, av, G2, hi2, hle, s, ed, ow, r⟩ := L
      refine hs i d acc d1 hi2 hle G2 _ _ x3 ((hh1.step s).wipe vs) (rmono d2 s.ex) _ fun ρ2 σ2 z hh2 ew => ⟨by rw [ew, wipe_wipe], z G2 σ2 _ hh2 _ fun b G3 H4 q s2 => ?_⟩
      obtain ⟨ow2, e2⟩ := Own.step NT.dT ow ed s2
      cases b with
      | false =>
        rw [if_neg (by decide)] at q ⊢
        exact ⟨acc, av, G3, q, Nat.le_succ_of_le hle, s.trans s2, e2, ow2, RpT.mono s2.ex _ _ r⟩
      | true =>
        rw [if_pos rfl] at q ⊢
        refine q G3 σ2 H4 (hh2.step s2) _ fun yk w G4 H5 ⟨ks, ek, q4⟩ s3 r3 => ?_
        subst ek
        obtain ⟨ow3, e3⟩ := Own.step NT.dT ow2 e2 s3
        refine q4 G4 σ2 H5 ((hh2.step s2).step s3) _ fun zd zv G5 H6 q5 s4 r4 => ?_
        obtain ⟨ow4, e4⟩ := Own.step NT.dT ow3 e3 s4
        obtain ⟨b, eb, hb⟩ := key_at s4.sub (rmono r3 s4.ex)
        have la := r.length
        refine ⟨av, ks, b, eb, hb, e4, by rw [sizeLine_eq]; omega, dPut acc ks zd, _, G5, q5, Nat.le_trans (dPut_le _ _ _) (by omega), (((s.trans s2).trans s3).trans s4).updO hn ow4 ⟨_, e4, NT.dT⟩, upd_same, ow4, (RpT.mono (ex_tr s2.ex (ex_tr s3.ex s4.ex)) _ _ r).put ks r4⟩
    · have ei : i = us.length := by omega
      subst ei
      obtain ⟨acc, av, G2, hi2, _, s, ed, ow, r⟩ := L
      rw [hlen] at hi2
      exact .inl ⟨⟨us, same, Nat.le_refl _⟩, kk _ Dl G2 H2 (hd acc hi2) rfl s (hh1.mem.back hh1.mem.refl hn) ⟨Dl, av, rfl, ow, ed, r⟩⟩
end
end Cal
set_option Elab.async false
set_option linter.all false
set_option maxRecDepth 100000
set_option maxHeartbeats 4000000
namespace Cal
open PySem PySem.Spec L2 PyProof.Rows
section
variable {p : Par} {ρ : Rho} {Q : D → Prop} {ta tb : TE}
/-- divmod(e, f) -/
theorem we_divmod (h : WE p ρ ta fun x => ∃ i : Int, x = .int i ∧ WE p ρ tb fun y => ∃ j : Int, y = .int j ∧ CDiv i j ∧ Q (.tup [.int (i / j), .int (i % j)])) :
    WE p ρ (tCB (fun xs H Q => ∃ i j, xs = [V.int i, V.int j] ∧ CDiv i j ∧ ∀ p, H p = none → Q (.ref p) (upd H p (.tup [.int (i / j), .int (i % j)]))) (tCons ta (tCons tb tNil))) Q :=
  we_cb (wa_cons (h.imp fun x ⟨i, ex, h2⟩ => wa_cons (h2.imp fun y ⟨j, ey, c, q⟩ => wa_nil fun G H vs m r Qv k => by
    subst ex ey
    cases r with
    | cons r1 rn =>
      cases rn with
      | cons r2 rn =>
        cases rn; cases r1; cases r2
        refine ⟨i, j, rfl, c, fun a ha => ?_⟩
        have s := m.grow (o := .tup [.int (i / j), .int (i % j)]) ha
        exact k _ _ _ _ q s (.tup upd_same (.cons (.int _) (.cons (.int _) .nil))))))
end
end Cal
set_option Elab.async false
set_option linter.all false
set_option maxRecDepth 100000
set_option maxHeartbeats 4000000
namespace Cal
open PySem PySem.Spec L2 PyProof.Rows
open Evl (Ex sq_of st_of)
theorem toPyL_get : ∀ {xs : List D} {j : Nat} {z : PyData}, (toPyL xs)[j]? = some z → ∃ x, xs[j]? = some x ∧ z = toPy x
  | [], j, z, h => by rw [toPyL] at h; cases h
  | x :: xs, 0, z, h => by
    rw [toPyL] at h
    exact ⟨x, rfl, (Option.some.inj h).symm⟩
  | x :: xs, j + 1, z, h => by
    rw [toPyL] at h
    exact toPyL_get (xs := xs) (j := j) h
theorem toPyL_at : ∀ {xs : List D} {j : Nat} {x : D}, xs[j]? = some x → (toPyL xs)[j]? = some (toPy x)
  | [], j, x, h => by cases h
  | y :: xs, 0, x, h => by
    rw [toPyL]
    cases h
    rfl
  | y :: xs, j + 1, x, h => by
    rw [toPyL]
    exact toPyL_at (xs := xs) (j := j) h
theorem mt_indexDK {X : Cx} {K0 : PySem.W.Frag} (hK : X.K = K0) (hu : X.A.units + 65 < cLine) : MtR X "list.index" (rIndexD K0) := hK ▸ mt_indexD hu
section
variable {p : Par} {ρ : Rho} {Q : D → Prop} {ty : TE}
/-- l.index(e), l a list of nested data that a name owns -/
theorem we_indexO {i : Nat} {xs : List D} (e : ρ[i]? = some (some (.ol xs))) (c : ∀ x ∈ xs, Cmp x) (sh : SeqAt.shaped (toPy (.lst xs)) = true)
    (h : WE p ρ ty fun y => Cmp y ∧ SeqAt.shaped (toPy y) = true ∧ ∃ j z, xs[j]? = some z ∧ PyData.eqv (toPy z) (toPy y) = true ∧ (∀ (m : Nat) (u : D), m < j → xs[m]? = some u → PyData.eqv (toPy u) (toPy y) = false) ∧ Q (.int ((j : Nat) : Int))) :
    WE p ρ (tBM p.K "list" (rIndexD p.K) (tVar i) (tCons ty tNil)) Q := fun G σ H hh Qv k => by
  obtain ⟨sv, h1, a, vs, h2, ow, h4, h5⟩ := hh.slot i _ e
  subst h2
  refine ⟨.ref a, h1, .inl ⟨rfl, _, sq_of h4⟩, h G σ H hh _ fun y w G1 H1 ⟨cy, sy, j, z, hz, he, hno, q⟩ s r => ?_⟩
  obtain ⟨_, e2⟩ := Own.step NT.lst ow h4 s
  have hd : Dp p.K H1 (.ref a) (.list (toPyL xs)) := .lst (sq_of e2) (dpl_of s.sub xs vs c (lmono h5 s.ex))
  rw [toPy] at sh
  exact ⟨a, w, toPy y, toPyL xs, j, toPy z, rfl, rfl, hd, dp_of s.sub y w cy r, sh, sy, toPyL_at hz, he, fun m z2 hm hz2 => by
    obtain ⟨u, hu, eu⟩ := toPyL_get hz2
    subst eu
    exact hno m u hm hu, k _ _ G1 H1 q s (.int _)⟩
end
end Cal
set_option Elab.async false
set_option linter.all false
set_option maxRecDepth 100000
set_option maxHeartbeats 4000000
namespace Cal
open PySem L2 PyProof.Rows
open Evl (Ex)
/-! ### raise C(e), C with one field, where the context is known to be None -/
section
variable {X : Cx} {x : Str} {C : Addr} {e : Expr} {te : TE} {p pos : Pos}
theorem pmk_oneN {CX : CXT} {fI : Addr} {k : Nat} {fd : FuncData} {ps : List Str} {sp : Sp} (T : OexC X.K C) (iC : PySem.W.findIn X.K (.ref C) "__init__" = some (some (.ref fI))) (tI : PySem.W.typeIn X.K (.ref fI) = some (.type "function"))
    (F : FnOk X.prog X.w X.K X.mg X.base CX k fI fd ps sp) (hr : Room (k + 1) X.A) (hb : Binds X.K fd ps []) (hx : Passes CX X E0) (hg : Gl X x) (hm : X.mg x = some (.ref C)) (he : PE X e te) (hdb : (x == ("__debug__" : Str)) = false) (hs : starEach [e] X.env = (false, eval e X.env) :: starEach [] X.env) :
    L2N.PMk X (.Call (.Name x p) [e] [] pos) (tMkO C sp [] (tCons te tNil)) := by
  intro pins s σ H Q I goal
  obtain ⟨_, _, _, _, bm, _, _, _, _, _, _, _, _, _, _, isC, isB⟩ := T.cls
  have arg : PA X [e] (tCons te tNil) := pa_cons he pa_nil hs
  refine wpAny_Call_Name_kw (ld_glob I hg hm (PySem.W.callWith_K (h₀ := X.base) I.ok.mod.kin T.kC (thn (arg.run pos pins s σ H _ I goal) fun us s1 ⟨vs, H1, I1, rel, few, next⟩ => ⟨I1.kIn, ?_⟩) hs rfl) hdb)
  change wpAny _ _ (call (.ref C) us) _ _ _
  obtain ⟨hp, g, dr, tk, os⟩ := s1
  obtain ⟨n, en⟩ : ∃ n, n = hp.objs.size := ⟨_, rfl⟩
  have fresh : H1 (n + 1) = none := I1.hok.fresh (by rw [en]; exact Nat.le_succ _)
  have init := next (n + 1) fresh
  have more : ∀ b o, hp.get? b = some o → ((hp.push (PySem.W.kdv_tup us)).push (PySem.HandSPX.excO C hp.objs.size)).get? b = some o := fun b o z => Heap.get?_push_of_some _ (Heap.get?_push_of_some _ z)
  have made : ((hp.push (PySem.W.kdv_tup us)).push (PySem.HandSPX.excO C hp.objs.size)).get? (n + 1) = some (PySem.HandSPX.excO C hp.objs.size) := by rw [en]; heap_get
  have I2 : Inv X pins σ (upd H1 (n + 1) (exo (n + 1) C none)) ⟨(hp.push (PySem.W.kdv_tup us)).push (PySem.HandSPX.excO C hp.objs.size), g, dr, tk, os⟩ := I1.laid (t' := tk) more (by rw [en]; exact Nat.le_succ _) (exo_ok made)
  have rel2 : Vals (V.ref (n + 1) :: (vs ++ [])) (Value.ref (n + 1) :: us) := .cons rfl (by rw [List.append_nil]; exact rel)
  have hl : (Value.ref (n + 1) :: us).length = ps.length := by rw [← rel2.length, F.len _ _ _ _ init]
  subst en
  refine wpAny_call (PySem.HandSPX.call_own PySem.F.excBase_ValueError (fun Y => PySem.HandSPX.refsVE_contains Y bm isB) (I1.kIn _ _ isC) (PySem.W.looks_findIn I1.kIn iC) (fun self => PySem.W.bind_fn I1.kIn self tI) (by rw [← Paired.length rel, sizeLine_eq]; omega)
    (codeAny_mono (F.run _ X.stack _ _ ⟨_ :: us, []⟩ (_ :: us) _ _ E0 (hr.make C us []) (I2.env0.make C us []) (by have z := hb _ (Value.ref (hp.objs.size + 1) :: us) I2.kIn (by rw [List.append_nil]; exact hl); rw [List.append_nil] at z; exact z) rel2 init) fun r s2 z => ?_))
  cases r with
  | error er => exact hx pins σ _ _ er s2 I2 z
  | ok fl =>
    cases fl with
    | ret u =>
      obtain ⟨v, H2, o2, bare, un, ok2, rv, ev, d, fs, ea, ed, nd, q⟩ := z
      subst ev
      obtain ⟨h2, g2, d2, t2, os2⟩ := s2
      obtain ⟨t0, G, J, kG, ge, hoe, na⟩ := mk_end0 (d2 := d2) (t2 := t2) I1 (Nat.le_succ _) more un ok2 o2 bare ea ed nd
      exact ⟨rv, _, _, _, ⟨G, g2, d2, t2, os2⟩, _, .ref C, some d, rfl, J, kG, ge, hoe, ⟨rfl, rfl, fun vs e => (by cases e; rfl)⟩, rfl, rfl, na, rfl, bare, raises_own T.exC T.tyC, q⟩
    | next => exact False.elim z
    | brk => exact False.elim z
    | cont => exact False.elim z
theorem ps_rz1N {fl : List Str} {f : Str} {k : Nat} {W : WX} {pos' : Pos} (D : XDef X.prog X.w X.K X.mg X.base k x fl (fun C => spI1 C f) C) (hr : Room (k + 1) X.A) (tk : L2N.Takes X W) (he : PE X e te) (hc : X.calm = true := by rfl) (hg : Gl X x := by rfl) (hdb : (x == ("__debug__" : Str)) = false := by decide)
    (hs : starEach [e] X.env = (false, eval e X.env) :: starEach [] X.env := by rfl) : PS X (.Raise (some (.Call (.Name x p) [e] [] pos)) none pos') (fun _ σ H => tMkO C (spI1 C f) [] (tCons te tNil) σ H fun cls d H' => W cls d σ H') := by
  obtain ⟨fI, fd, ps, h1, h2, h3, h4⟩ := D.ini
  exact L2N.ps_raise hc tk (pmk_oneN D.ox h1 h2 h3 hr h4 pass0 hg D.gC he hdb hs)
end
end Cal
set_option Elab.async false
set_option linter.all false
set_option maxRecDepth 100000
set_option maxHeartbeats 4000000
namespace Cal
open PySem PySem.Spec L2 PyProof.Rows
/-- a division that C does by itself, the quotient small -/
theorem op_divQ {X : Cx} : OpR X (binaryOp .FloorDiv) (rI CDivP fun i j => .int (i / j)) := opI fun i j _ _ _ _ _ hc q =>
  floordiv_int (by have := hc.1; omega) (by rw [Int.fdiv_eq_ediv_of_nonneg i (by have := hc.1; omega)]; exact q) (.inl hc.2)
theorem lt_bits {j : Int} (hj : 0 < j) : j.natAbs < 2 ^ Builtin.Int.intBits j := by
  unfold Builtin.Int.intBits
  rw [if_neg (by simpa using (show j ≠ 0 by omega))]
  exact Nat.lt_log2_self
/-- i = j times what has at most 3900 bits -/
theorem divq_ok {i j x : Int} {n : Nat} (hj : 0 < j) (e : i = j * x) (hx : x.natAbs < 2 ^ n) (hn : n ≤ 4000) : CDivP i j := by
  refine divp_ok hj ?_
  have h1 : i.natAbs < 2 ^ (Builtin.Int.intBits j + n) := by
    rw [e]
    exact wide_lt (lt_bits hj) hx
  have := PyProof.Rows.intBits_le h1
  omega
end Cal
set_option Elab.async false
set_option linter.all false
set_option maxRecDepth 100000
set_option maxHeartbeats 4000000
namespace Cal
open PySem PySem.Spec L2 PyProof.Rows LamX
open Evl (Ex sq_of st_of)
/-! ### isinstance of an error that is being handled, with fields or without -/
def rIsEd (K : PySem.W.Frag) (cls : Value) (d : Option Addr) (a : Addr) : List V → Hp → VK → Prop := fun xs H Q => ∃ D, cls = .ref D ∧ ExcC K D ∧ (d = none ∨ ∃ dd fs, d = some dd ∧ H dd = some (.xd fs)) ∧ rIsE K D a xs H Q
theorem cr_isEd {X : Cx} {cls : Value} {d : Option Addr} {a : Addr} {oe : Obj} {pn : List (Addr × Obj)} (hz : Zc cls d oe) (hf : ∃ vs, oe.data = .fields vs) : CallR (X.suite a ((a, oe) :: pn)) (.builtin "isinstance") (rIsEd X.K cls d a) := by
  rintro pins s σ H xs us Q I r ⟨D, e1, C, hd, c, cv, b, e2, hcv, e, q⟩
  subst e1 e2
  obtain ⟨u, v, eu, ru, rv⟩ := vals2 r
  subst eu
  obtain rfl : v = cv := hcv _ rv
  obtain rfl : u = Value.ref a := ru
  obtain ⟨vs, hv⟩ := hf
  have ha := (I.pin (a, oe) (List.mem_append_left _ List.mem_cons_self)).1
  have hn : PySem.W.notCls oe = true := by unfold PySem.W.notCls; rw [hv]
  obtain ⟨od, J⟩ : ∃ od, PySem.W.InstAt s.heap a oe D od := by
    rcases hd with hd | ⟨dd, fs, hd, hx⟩
    · exact ⟨none, ha, hz.1, hn, by rw [hz.2, hd]; trivial⟩
    · obtain ⟨mA, hns, _⟩ : ∃ mA, s.heap.Ns1 dd mA ∧ ∀ f, RelO (fs.lookup f) (mA f) := I.hok dd _ hx
      obtain ⟨od, ho, _⟩ := lookIn_ns hns
      exact ⟨some od, ha, hz.1, hn, by rw [hz.2, hd]; exact ho⟩
  have hcl : (PySem.W.clsIn X.K D).isSome = true := by
    obtain ⟨cd, hc, _⟩ := PySem.W.any_some C.hd
    rw [hc]
    rfl
  exact PySem.W.kia_one (PySem.W.kitx_exc hcl C.hg C.hk C.hs C.ha C.hn C.ht C.hm) I.kIn J e (fun z => nomatch z) fun tk => ⟨.bl b, H, I.kept (t' := tk) fun _ _ z => z, rfl, q⟩
/-! ### the suite: kinds = [t1, t2, t3]; return [w1, w2, w3][kinds.index(True)] if sum(kinds) == 1 else w4 -/
def tKindsG (K : PySem.W.Frag) (j : Nat) (t1 t2 t3 : TE) (w1 w2 w3 w4 : Str) : TS :=
  tSeq (tAsg (tLst (tCons t1 (tCons t2 (tCons t3 tNil)))) (gName j))
    (tRet (tIf (tTest (tOp rEq (tCB (rSumB K) (tCons (tVar j) tNil)) (tC (.int 1)))) (tOp (rIxL K) (tLst (tCons (tC (.str w1)) (tCons (tC (.str w2)) (tCons (tC (.str w3)) tNil)))) (tBM K "list" (rIndex K) (tVar j) (tCons (tC (.bl true)) tNil))) (tC (.str w4))))
theorem kinds_sayG {K : PySem.W.Frag} {j : Nat} {t1 t2 t3 : TE} {w1 w2 w3 w4 w : Str} {b1 b2 b3 : Bool} {σ : L2.St} {H : Hp} {E : Ends} (k1 : ∀ Q : VK, Q (.bl b1) H → t1 σ H Q) (k2 : ∀ Q : VK, Q (.bl b2) H → t2 σ H Q) (k3 : ∀ Q : VK, Q (.bl b3) H → t3 σ H Q)
    (ju : Just b1 b2 b3 w1 w2 w3 w) (hl : j < σ.length) (hQ : Two (fun H' => E.rt (.str w) H') H) : tKindsG K j t1 t2 t3 w1 w2 w3 w4 E σ H := by
  refine k1 _ (k2 _ (k3 _ ⟨by rw [sizeLine_eq]; exact Nat.le_of_ble_eq_true rfl, fun p hp => ?_⟩))
  have gj : (σ.set j (some (V.ref p)))[j]? = some (some (V.ref p)) := List.getElem?_set_self hl
  have s1 : SqL K (upd H p (.lst [.bl b1, .bl b2, .bl b3])) p [.bl b1, .bl b2, .bl b3] := .inl (.inl upd_same)
  have one : trues [b1, b2, b3] = 1 := by
    unfold Just at ju
    rcases ju with z | z | z <;> (obtain ⟨rfl, rfl, rfl, _⟩ := z; rfl)
  refine ⟨.ref p, gj, p, [b1, b2, b3], rfl, s1, rfl, decide (V.int (trues [b1, b2, b3]) = V.int 1), rfl, ?_⟩
  rw [one, decide_eq_true rfl]
  show (if true = true then _ else _)
  rw [if_pos rfl]
  refine ⟨by rw [sizeLine_eq]; exact Nat.le_of_ble_eq_true rfl, fun p2 hp2 => ?_⟩
  have np : p ≠ p2 := fun e => by rw [← e, upd_same] at hp2; cases hp2
  have s2 : SqL K (upd (upd H p (.lst [.bl b1, .bl b2, .bl b3])) p2 (.lst [.str w1, .str w2, .str w3])) p [.bl b1, .bl b2, .bl b3] := .inl (.inl (by rw [upd_ne np, upd_same]))
  have s3 : SqL K (upd (upd H p (.lst [.bl b1, .bl b2, .bl b3])) p2 (.lst [.str w1, .str w2, .str w3])) p2 [.str w1, .str w2, .str w3] := .inl (.inl upd_same)
  refine ⟨.ref p, gj, .inl ⟨rfl, _, s2⟩, ?_⟩
  unfold Just at ju
  rcases ju with z | z | z
  · obtain ⟨rfl, rfl, rfl, rfl⟩ := z
    exact ⟨p, _, .bl true, 0, .bl true, rfl, rfl, s2, rfl, rfl, rfl, rfl, fun m z hm => absurd hm (Nat.not_lt_zero m), p2, _, 0, _, rfl, rfl, s3, rfl, hQ _ _ _ _ hp hp2⟩
  · obtain ⟨rfl, rfl, rfl, rfl⟩ := z
    refine ⟨p, _, .bl true, 1, .bl true, rfl, rfl, s2, rfl, rfl, rfl, rfl, fun m z hm hz => ?_, p2, _, 1, _, rfl, rfl, s3, rfl, hQ _ _ _ _ hp hp2⟩
    obtain rfl : m = 0 := by omega
    cases hz
    rfl
  · obtain ⟨rfl, rfl, rfl, rfl⟩ := z
    refine ⟨p, _, .bl true, 2, .bl true, rfl, rfl, s2, rfl, rfl, rfl, rfl, fun m z hm hz => ?_, p2, _, 2, _, rfl, rfl, s3, rfl, hQ _ _ _ _ hp hp2⟩
    match m, hm, hz with
    | 0, _, hz => cases hz; rfl
    | 1, _, hz => cases hz; rfl
section
variable {p : Par} {ρ : Rho}
theorem wsg_kinds {G1 : Hp} {R : D → Prop} {a : Addr} {i j : Nat} {t1 t2 t3 : TE} {w1 w2 w3 w4 w : Str} {b1 b2 b3 : Bool} (e : ρ[i]? = some (some (.d (.raw (.ref a))))) (hj : j < ρ.length)
    (k1 : ∀ σ H, σ[i]? = some (some (V.ref a)) → Ex G1 H → ∀ Q : VK, Q (.bl b1) H → t1 σ H Q) (k2 : ∀ σ H, σ[i]? = some (some (V.ref a)) → Ex G1 H → ∀ Q : VK, Q (.bl b2) H → t2 σ H Q) (k3 : ∀ σ H, σ[i]? = some (some (V.ref a)) → Ex G1 H → ∀ Q : VK, Q (.bl b3) H → t3 σ H Q)
    (ju : Just b1 b2 b3 w1 w2 w3 w) (hR : R (.str w)) : WSg p G1 ρ (tKindsG p.K j t1 t2 t3 w1 w2 w3 w4) (outP R) := fun G σ H ex hh E kn kr kb kc => by
  obtain ⟨sv, h1, v, h2, h3⟩ := hh.slot i _ e
  subst h2
  obtain rfl : v = .ref a := by cases h3; rfl
  have x2 : Ex G1 H := fun b o z => hh.mem.sub b o (ex b o z)
  refine kinds_sayG (k1 σ H h1 x2) (k2 σ H h1 x2) (k3 σ H h1 x2) ju (by rw [hh.len]; exact hj) fun p1 l1 p2 l2 n1 n2 => ?_
  have m1 := hh.mem.grow (o := .lst l1) n1
  have m2 := (hh.step m1).mem.grow (o := .lst l2) n2
  exact kr (.str w) (.str w) _ _ hR ((hh.step m1).step m2).mem (.str w)
end
/-- isinstance(e, C), e in slot i -/
def tIsD (K : PySem.W.Frag) (i : Nat) (cls : Value) (d : Option Addr) (a C : Addr) : TE := tCB (rIsEd K cls d a) (tCons (tVar i) (tCons (tC (.ref C)) tNil))
/-- isinstance(e, C) and e.f == n -/
def tIsF (K : PySem.W.Frag) (i : Nat) (cls : Value) (d : Option Addr) (a C : Addr) (f : Str) (n : Int) : TE := tAndV (tIsD K i cls d a C) (tOp rEq (tXf a cls d C f (tVar i)) (tC (.int n)))
section
variable {p : Par} {G1 : Hp} {a C D : Addr} {d : Option Addr} {fs : List (Str × Cal.D)} {b : Bool} {i : Nat}
theorem isd_say {K : PySem.W.Frag} {h : Hnd} (C0 : ExcC K D) (xr : XR K h G1 d fs) (k : PySem.W.kitOne K (.ref D) (.ref C) = some b) : ∀ σ H, σ[i]? = some (some (V.ref a)) → Ex G1 H → ∀ Q : VK, Q (.bl b) H → tIsD K i (.ref D) d a C σ H Q := fun σ H e ex Q q => by
  refine ⟨.ref a, e, D, rfl, C0, ?_, .ref C, .ref C, b, rfl, fun u r => (by cases r; rfl), k, q⟩
  rcases xr with ⟨_, z⟩ | ⟨dd, vfs, z, z2, _⟩
  · exact .inl z
  · exact .inr ⟨dd, vfs, z, ex _ _ z2⟩
theorem isf_no {K : PySem.W.Frag} {h : Hnd} {f : Str} {n : Int} (C0 : ExcC K D) (xr : XR K h G1 d fs) (k : PySem.W.kitOne K (.ref D) (.ref C) = some false) : ∀ σ H, σ[i]? = some (some (V.ref a)) → Ex G1 H → ∀ Q : VK, Q (.bl false) H → tIsF K i (.ref D) d a C f n σ H Q := fun σ H e ex Q q => by
  refine isd_say C0 xr k σ H e ex _ ⟨false, rfl, ?_⟩
  rw [if_neg Bool.false_ne_true]
  exact q
theorem isf_yes {K : PySem.W.Frag} {h : Hnd} {f : Str} {n : Int} (C0 : ExcC K C) (xr : XR K h G1 d fs) (k : PySem.W.kitOne K (.ref C) (.ref C) = some true) (hf : fs.lookup f = some (.int n)) : ∀ σ H, σ[i]? = some (some (V.ref a)) → Ex G1 H → ∀ Q : VK, Q (.bl true) H → tIsF K i (.ref C) d a C f n σ H Q := fun σ H e ex Q q => by
  refine isd_say C0 xr k σ H e ex _ ⟨true, rfl, ?_⟩
  rw [if_pos rfl]
  rcases xr with ⟨z, _⟩ | ⟨dd, vfs, z, z2, z3, z4, _⟩
  · rw [z] at hf; cases hf
  · obtain ⟨v, l1, l2⟩ := lookup_of z3 z4 hf
    obtain rfl : v = .int n := by cases l2; rfl
    refine ⟨.ref a, e, rfl, rfl, dd, vfs, .int n, z, ex _ _ z2, l1, rfl, ?_⟩
    rw [decide_eq_true rfl]
    exact q
end
end Cal
set_option Elab.async false
set_option linter.all false
set_option maxRecDepth 100000
set_option maxHeartbeats 4000000
namespace Cal
open PySem L2 PyProof.Rows
open Evl (Ex sq_of st_of)
section
variable {p : Par} {ρ : Rho} {ta tb : TE} {P : Post}
/-- i, j = something, a new thing -/
theorem ws_newDPar {i j : Nat} (h : WE p ρ ta fun x => WF p ρ tb fun c => P.n ((ρ.set i (some (.d x))).set j (some c))) : WS p ρ (tPar i j (tCons ta (tCons tb tNil))) P := fun G σ H hh E kn kr kb kc => by
  refine h G σ H hh _ fun x v G1 H1 q s1 r1 => q G1 σ H1 (hh.step s1) _ fun c a G2 H2 q2 ho s2 n2 x2 => ?_
  exact ⟨_, _, rfl, kn _ G2 _ _ q2 (ex_tr s1.ex s2.ex) (((hh.step s1).setD (i := i) r1).setNew (i := j) s2 n2 x2)⟩
end
/-- a list of things of one shape can be told from another -/
theorem lst_sh {xs : List D} {n : Nat} (hn : n ≤ 62) (h : ∀ x ∈ xs, (toPy x).canLay0 = true ∧ (toPy x).depth ≤ n) : SeqAt.shaped (toPy (.lst xs)) = true := by
  have key : ∀ ys : List D, (∀ x ∈ ys, (toPy x).canLay0 = true ∧ (toPy x).depth ≤ n) → PyData.canLayAll0 (toPyL ys) = true ∧ PyData.depthAll (toPyL ys) ≤ n := fun ys => by
    induction ys with
    | nil => exact fun _ => ⟨rfl, Nat.zero_le _⟩
    | cons y ys ih =>
      intro hy
      obtain ⟨a1, a2⟩ := ih fun x hx => hy x (List.mem_cons_of_mem _ hx)
      obtain ⟨b1, b2⟩ := hy y List.mem_cons_self
      rw [toPyL, PyData.canLayAll0, PyData.depthAll, a1, b1]
      exact ⟨rfl, Nat.max_le.mpr ⟨b2, a2⟩⟩
  obtain ⟨k1, k2⟩ := key xs h
  unfold SeqAt.shaped
  rw [toPy, PyData.canLay0, PyData.depth, k1, Bool.true_and]
  exact decide_eq_true (by omega)
end Cal
set_option Elab.async false
set_option linter.all false
set_option maxRecDepth 100000
set_option maxHeartbeats 4000000
namespace Cal
open PySem L2 PyProof.Rows
open Evl (Ex sq_of st_of)
/-! ### an item of a list or a tuple -/
def rIxQ (K : PySem.W.Frag) : R2 := fun x y H Q => rIxL K x y H Q ∨ rIxT K x y H Q
theorem ix_seqK {X : Cx} {K0 : PySem.W.Frag} (hK : X.K = K0) : IxR X (rIxQ K0) := by
  subst hK
  exact IxR.or ix_list ix_tup
section
variable {p : Par} {ρ : Rho} {Q : D → Prop} {ta tb : TE}
theorem we_ixQ (h : WE p ρ ta fun x => ∃ ds, (x = .lst ds ∨ x = .tup ds) ∧ WE p ρ tb fun y => ∃ i d, y = .int i ∧ atI ds i = some d ∧ Q d) : WE p ρ (tOp (rIxQ p.K) ta tb) Q :=
  we_op (h.imp fun x ⟨ds, e, h⟩ => h.imp fun y ⟨i, d, e2, c, q⟩ => fun G H v w m r1 r2 Qv k => by
    subst e2
    rcases e with e | e
    · subst e
      obtain ⟨a, vs, ev, hs, hl⟩ := r1.lst_inv
      obtain ⟨u, h1, h2⟩ := atI_rp hl c
      exact .inl ⟨a, vs, i, u, ev, rp_int r2, lq m.sub hs, h1, k _ _ G H q m.refl h2⟩
    · subst e
      obtain ⟨a, vs, ev, hs, hl⟩ := r1.tup_inv
      obtain ⟨u, h1, h2⟩ := atI_rp hl c
      exact .inr ⟨a, vs, i, u, ev, rp_int r2, tqT m.sub hs, h1, k _ _ G H q m.refl h2⟩)
end
/-! ### what a dict holds behind a put -/
section
variable {κ : Type} [DecidableEq κ]
theorem dGet_consIf (a : κ) (b : D) (r : List (κ × D)) (k : κ) : dGet ((a, b) :: r) k = if a = k then some b else dGet r k := by
  unfold dGet
  rw [List.find?_cons]
  by_cases e : a = k
  · rw [if_pos e, decide_eq_true e]
    rfl
  · rw [if_neg e, decide_eq_false e]
theorem dGet_rep (k k' : κ) (v : D) : ∀ r : List (κ × D), dGet (r.map fun kv => if kv.1 = k then (kv.1, v) else kv) k' = if k = k' then (if (r.any fun kv => decide (kv.1 = k)) = true then some v else none) else dGet r k'
  | [] => by
    by_cases e : k = k'
    · rw [if_pos e]; rfl
    · rw [if_neg e]; rfl
  | (a, b) :: r => by
    have ih := dGet_rep k k' v r
    rw [List.map_cons, List.any_cons]
    by_cases e1 : a = k
    · subst e1
      rw [if_pos rfl, dGet_consIf, decide_eq_true rfl, Bool.true_or, if_pos rfl, dGet_consIf, ih]
      by_cases e2 : a = k'
      · rw [if_pos e2, if_pos e2]
      · rw [if_neg e2, if_neg e2, if_neg e2, if_neg e2]
    · rw [if_neg e1, dGet_consIf, ih, decide_eq_false e1, Bool.false_or, dGet_consIf]
      by_cases e2 : a = k'
      · rw [if_pos e2, if_neg (fun z => e1 (e2.trans z.symm)), if_pos e2]
      · rw [if_neg e2, if_neg e2]
theorem dPut_get (kvs : List (κ × D)) (k k' : κ) (v : D) : dGet (dPut kvs k v) k' = if k = k' then some v else dGet kvs k' := by
  unfold dPut
  by_cases h : (kvs.any fun kv => decide (kv.1 = k)) = true
  · rw [if_pos h, dGet_rep, if_pos h]
  · rw [if_neg h]
    have hn : ∀ r : List (κ × D), ¬ (r.any fun kv => decide (kv.1 = k)) = true → dGet (r ++ [(k, v)]) k' = if k = k' then some v else dGet r k' := fun r => by
      induction r with
      | nil =>
        intro _
        rw [List.nil_append, dGet_consIf]
      | cons z r ih =>
        obtain ⟨a, b⟩ := z
        intro hz
        rw [List.any_cons] at hz
        have e1 : a ≠ k := fun q => hz (by rw [decide_eq_true q, Bool.true_or])
        have e3 := ih fun q => hz (by rw [q, Bool.or_true])
        rw [List.cons_append, dGet_consIf, e3, dGet_consIf]
        by_cases e2 : a = k'
        · rw [if_pos e2, if_neg (fun z => e1 (e2.trans z.symm)), if_pos e2]
        · rw [if_neg e2, if_neg e2]
    exact hn kvs h
theorem dPut_lenLe (kvs : List (κ × D)) (k : κ) (v : D) : (dPut kvs k v).length ≤ kvs.length + 1 := by
  unfold dPut
  split
  · rw [List.length_map]; omega
  · rw [List.length_append, List.length_singleton]; omega
end
end Cal
set_option Elab.async false
set_option linter.all false
set_option maxRecDepth 100000
set_option maxHeartbeats 4000000
namespace Cal
open PySem PySem.Spec L2 PyProof.Rows
open Evl (Ex sq_of st_of)
/-! ### a tuple whose object is known: tuple(list) makes one, t.count(flag) wants one
What the layer knows of a tracked tuple does not say that its object has no dict of its own; a call of a method asks just
this. So the object is held fast (frz) when it is made. -/
def flagIs (b : Bool) : Value → Bool
  | .bool c => c == b
  | _ => false
theorem flags_are {b : Bool} : ∀ {bs : List Bool} {us : List Value}, Vals (bs.map V.bl) us → (∀ y ∈ us, ∃ c, y = .bool c) ∧ us.countP (flagIs b) = bs.count b
  | [], [], _ => ⟨fun y hy => (nomatch hy), rfl⟩
  | c :: bs, u :: us, h => by
    cases h with
    | cons r rest =>
      obtain ⟨h1, h2⟩ := flags_are (b := b) rest
      have e : u = .bool c := r
      subst e
      refine ⟨fun y hy => ?_, ?_⟩
      · rcases List.mem_cons.mp hy with q | q
        · exact ⟨c, q⟩
        · exact h1 y q
      · simp only [List.countP_cons, List.count_cons, h2]
        rfl
def kTupZ (K : PySem.W.Frag) (x : V) (H : Hp) (Q : VK) : Prop :=
  ∃ p xs, x = V.ref p ∧ SqL K H p xs ∧ ∀ (l : Addr) (ob : Obj), ob.dict = none → H l = none → Q (V.ref l) (upd H l (HO.frz ob (HO.tup xs)))
theorem tup_made {X : Cx} {pins : List (Addr × Obj)} {s : Shared} {σ : L2.St} {H : Hp} {x : V} {v : Value} {Q : VK} (I : Inv X pins σ H s) (r : RelV x v) (h : kTupZ X.K x H Q) :
    wpAny (model X.prog X.w) X.A (call (.type "tuple") [v]) (EP X pins σ Q) X.xe s := by
  obtain ⟨p, xs, e, hs, q⟩ := h
  subst e
  cases (show v = Value.ref p from r)
  obtain ⟨us, ru, pl, z⟩ := I.list hs
  have few : us.toArray.size ≤ sizeLine := by rw [List.size_toArray, ← ru.length]; exact z
  refine call_tuple_list pl.isList (fun h2 keep => ?_) few
  have J := I.kept (t' := s.toks) keep
  refine ⟨V.ref h2.objs.size, _, J.laid (t' := s.toks) (o := HO.frz { cls := .type "tuple", data := .seq us.toArray } (HO.tup xs)) (fun b u e => Heap.get?_push_of_some _ e) (Nat.le_refl _) ?_, rfl, q _ _ rfl (J.hok.fresh (Nat.le_refl _))⟩
  exact ⟨Heap.get?_push_size _ rfl, z, us, ru, IsTup.new _ _⟩
theorem pe_tupleZ {X : Cx} {a : Expr} {ta : TE} {p pos : Pos} (hg : Gl X "tuple") (hm : X.mg "tuple" = none) (ha : PE X a ta) (na : starEach [a] X.env = (false, eval a X.env) :: starEach [] X.env := by rfl) :
    PE X (.Call (.Name "tuple" p) [a] [] pos) (tThen ta (kTupZ X.K)) :=
  ⟨fun pins s σ H Q I h => Call_ (ld_blt I hg hm boot_tuple (PyProof.Rows.callWith_type1 (one_arg ha I h (fun _ _ _ _ J r q => tup_made J r q) na) na))⟩
def kCnt (x : V) (y : V) (H : Hp) (Q : VK) : Prop :=
  ∃ (p : Addr) (ob : Obj) (bs : List Bool) (b : Bool), x = V.ref p ∧ y = V.bl b ∧ H p = some (HO.frz ob (HO.tup (bs.map V.bl))) ∧ Q (.int ((bs.count b : Nat) : Int)) H
def plainTup (x : V) (H : Hp) : Prop := ∃ p ob us, x = V.ref p ∧ H p = some (HO.frz ob (HO.tup us)) ∧ ob.dict = none
def tTCnt (ta tb : TE) : TE := fun σ H Q => ta σ H fun x H1 => plainTup x H1 ∧ tb σ H1 fun y H2 => kCnt x y H2 Q
theorem count_meets {X : Cx} {pins : List (Addr × Obj)} {s : Shared} {σ : L2.St} {H : Hp} {x y : V} {v u : Value} {Q : VK} (I : Inv X pins σ H s) (rx : RelV x v) (ry : RelV y u) (h : kCnt x y H Q) :
    wpAny (model X.prog X.w) X.A (call (.builtin "tuple.count") [v, u]) (EP X pins σ Q) X.xe s := by
  obtain ⟨p, ob, bs, b, e1, e2, hp, q⟩ := h
  subst e1 e2
  cases (show v = Value.ref p from rx)
  cases (show u = Value.bool b from ry)
  obtain ⟨eo, z, us, ru, ob', eo', c, n, d⟩ := I.hok p _ hp
  obtain ⟨h1, h2⟩ := flags_are (b := b) ru
  obtain ⟨cls, dd, data, sl⟩ := ob'
  dsimp only at c d
  subst c d
  refine call_meets PySem.F.slot_tuple_count ⟨_, eo', rfl⟩ PySem.F.entry_tuple_count (PySem.F.args_tuple_count_2 _ _) (SeqAt.tuple_countAt p us.toArray n dd sl (.bool b) (flagIs b)) ⟨eo', fun w hw => ?_, ?_⟩
  · have flag : ∃ c, w = Value.bool c := h1 w (by simpa using hw)
    obtain ⟨c, ec⟩ := flag
    rw [ec]
    exact SeqAt.EqAt.bool_bool c b
  · have e3 : us.toArray.toList.countP (flagIs b) = bs.count b := h2
    rw [e3]
    exact ⟨.int ((bs.count b : Nat) : Int), H, I.tok _, ⟨s.toks, rfl⟩, q⟩
section
variable {X : Cx} {o e : Expr} {to te : TE} {apos cpos : Pos}
/-- t.count(e) of flags, t's object known -/
theorem pe_tcount (ho : PE X o to) (he : PE X e te) (nb : attributeBase o "count" X.env (eval o X.env) = eval o X.env := by rfl)
    (few : ((backTo cpos (starEach [e] X.env)).all (fun z => !z.1) && (backToKw cpos (keywordEach [] X.env)).all (fun z => z.1.isSome) && decide ([e].length + ([] : List Keyword).length + (if ([] : List Keyword).isEmpty then 0 else 1) < 30)) = true := by rfl)
    (nl : (apos.endLine == cpos.line) = true := by rfl) (na : starEach [e] X.env = (false, eval e X.env) :: starEach [] X.env := by rfl) :
    PE X (.Call (.Attribute o "count" apos) [e] [] cpos) (tTCnt to te) :=
  ⟨fun pins s σ H Q I h => wpAny_Call_method_late nb few nl rfl (thn (ho.run pins s σ H _ I h) fun v s1 ⟨x, H1, I1, r1, ⟨p, ob, us, ex, hp, hn⟩, h2⟩ => by
    subst ex
    cases (show v = Value.ref p from r1)
    obtain ⟨hob, _, _, _, hT⟩ := I1.hok p _ hp
    refine ⟨"tuple", "tuple.count", PySem.F.plainAttrs_tuple, PySem.F.slot_tuple_count, PySem.F.type_tuple_count, hT.typeIs, fun a ea => ?_, ?_⟩
    · cases ea
      exact ⟨ob, hob, hn⟩
    · have arg := one_arg (pos := cpos) (Q := fun vs s2 => wpAny (model X.prog X.w) X.A (call (.builtin "tuple.count") (Value.ref p :: vs)) (EP X pins σ Q) X.xe s2) he I1 h2 (fun u s2 y H2 I2 r2 q => count_meets I2 r1 r2 q) na
      rw [na] at arg ⊢
      exact Calls.callWith_builtin rfl (Calls.evalArgs_plain arg))⟩
end
end Cal
set_option Elab.async false
set_option linter.all false
set_option maxRecDepth 100000
set_option maxHeartbeats 4000000
namespace Cal
open PySem PySem.Spec L2 PyProof.Rows
open Evl (Ex sq_of st_of)
/-! ### d.items() walked, d a held dict whose keys are tuples -/
/-- what stands in a held dict of tuple keys: its entries, key by key and value by value -/
theorem heldT {X : Cx} {pins : List (Addr × Obj)} {σ : L2.St} {H : Hp} {s : Shared} {d : Addr} {ob : Obj} {kvs : List (List Key × V)} (I : Inv X pins σ H s) (hd : H d = some (HO.frz ob (HO.dT kvs))) :
    (d == sysModules) = false ∧ ∃ (es : Array DictEntry) (ep : Nat), ob.data = .dict es ep ∧ DT.Raw s.heap d es ep ∧ es.size = kvs.length ∧
      ∀ (i : Nat) (k : List Key) (v : V), kvs[i]? = some (k, v) → ∃ (en : DictEntry) (q : Addr), es[i]? = some en ∧ en.key = Value.ref q ∧ H q = some (HO.tup (k.map kV)) ∧ RelV v en.val := by
  obtain ⟨e1, few, sys, zs, pr, ob2, es, ep, e2, ex, dat, lay, _⟩ := I.hok d _ hd
  have same : ob2 = ob := by rw [e1] at e2; exact (Option.some.inj e2).symm
  subst same
  refine ⟨sys, es, ep, dat, ⟨ob2, e1, ex, dat⟩, ?_, fun i k v at_ => ?_⟩
  · have n1 := size_of_entries lay
    have n2 := Paired.length pr
    omega
  · obtain ⟨z, z1, k1, k2, k3⟩ := L2.paired_get pr at_
    have here := entry_at lay i
    rw [z1] at here
    exact ⟨_, z.2.1, here, rfl, k2, k3⟩
def ItsT (d : Addr) (ob : Obj) (kvs : List (List Key × V)) : It where
  go i H := H d = some (HO.frz ob (HO.dT kvs)) ∧ i < kvs.length
  yld i H x H' := ∃ (T q : Addr) (k : List Key) (v : V), kvs[i]? = some (k, v) ∧ H q = some (HO.tup (k.map kV)) ∧ x = V.ref T ∧ H T = none ∧ H' = upd H T (HO.tup [V.ref q, v])
  stop i H := H d = some (HO.frz ob (HO.dT kvs)) ∧ kvs.length ≤ i
section
variable {P : Program} {w : World} {K : PySem.W.Frag} {d : Addr} {ob : Obj} {es : Array DictEntry} {ep : Nat} {kvs : List (List Key × V)} {names : List Expr} {ctx : Nat} {at_ : Pos}
theorem turn_itsT (J : Addr) (dat : ob.data = .dict es ep) :
    Turn P w K (.Tuple names ctx at_) (ItsT d ob kvs) [J] J (fun n h => ∃ lk lv, IsItemIter h J d n kvs.length ep lk lv) where
  mem := List.mem_singleton.mpr rfl
  obj n h tn b hb := by
    cases List.mem_singleton.mp hb
    exact tn.elim fun lk z => z.elim fun lv e => ⟨_, e, fun v => nofun⟩
  keep n h h2 tn stay := tn.elim fun lk z => z.elim fun lv e => ⟨lk, lv, stay J (List.mem_singleton.mpr rfl) _ e⟩
  item X eP ew eK calm n pins s σ H E I fp tn go := by
    subst eP ew eK
    obtain ⟨lk, lv, own⟩ := tn
    obtain ⟨hd, hn⟩ := go
    obtain ⟨sys, es2, ep2, dat2, raw, len, ent⟩ := heldT I hd
    obtain ⟨rfl, rfl⟩ := dict_ep dat dat2
    have pair : kvs[n]? = some (kvs[n].1, kvs[n].2) := List.getElem?_eq_getElem hn
    obtain ⟨en, q, here, ek, eq_, rv⟩ := ent n _ _ pair
    rw [← len] at own
    have hn2 : n < es2.size := by omega
    have this : es2[n] = en := by
      rw [Array.getElem?_eq_getElem hn2] at here
      exact Option.some.inj here
    have below : J < s.heap.objs.size := Heap.lt_size own
    refine DT.nextI own raw hn2 fun h1 out made big stay => ⟨_, rfl, wpAny_letOwnedTupleGo_items (s := { s with heap := h1 }) out fun h2 own2 but => ?_⟩
    rw [this, ek] at made
    have made2 := (but.2 _ (Nat.ne_of_gt below)).trans made
    have fresh : H s.heap.objs.size = none := I.hok.fresh (Nat.le_refl _)
    have good : ObjOk X.prog X.w (upd H s.heap.objs.size (HO.tup [V.ref q, kvs[n].2])) h2 s.heap.objs.size (HO.tup [V.ref q, kvs[n].2]) :=
      ⟨(by decide : 2 ≤ sizeLine), [Value.ref q, en.val], .cons rfl (.cons rv .nil), _, made2, rfl, 0, rfl⟩
    refine ⟨V.ref s.heap.objs.size, _, I.turnedNew (t' := s.toks) (ch := [J]) (fun b o nb e => ?_) fp (Nat.le_refl _) good, rfl, ⟨_, q, _, _, pair, eq_, rfl, fresh, rfl⟩, ⟨_, _, by rw [← len]; exact own2⟩, fun b hb => ?_⟩
    · have nb2 : b ≠ J := fun z => nb (List.mem_singleton.mpr z)
      exact (but.2 b nb2).trans (stay b o nb2 e)
    · cases List.mem_singleton.mp hb
      rw [upd_ne (Nat.ne_of_lt below)]
      exact (fp J hb).1
  done X eP ew eK calm n pins s σ H E I fp tn stop := by
    subst eP ew eK
    obtain ⟨lk, lv, own⟩ := tn
    obtain ⟨hd, hn⟩ := stop
    obtain ⟨sys, es2, ep2, dat2, raw, len, ent⟩ := heldT I hd
    obtain ⟨rfl, rfl⟩ := dict_ep dat dat2
    rw [← len] at own
    obtain ⟨f0, f1, f2, f3, f4, f5⟩ := fp J (List.mem_singleton.mpr rfl)
    exact DT.endI (I.ok.hd calm) own raw (by omega) fun h2 but => ⟨rfl, I.turned (t' := s.toks) (fun b o nb e => but b o nb e) f0 f1 f3 f4 f5⟩
  self A n s Q E tn h := tn.elim fun lk z => z.elim fun lv e => PySem.W.kcp_self e h
end
/-- for (k, v) in d.items(), d held -/
def iItsT (td : TE) : TI := fun σ H R => td σ H fun x H1 => ∃ (d : Addr) (ob : Obj) (kvs : List (List Key × V)), x = V.ref d ∧ H1 d = some (HO.frz ob (HO.dT kvs)) ∧ R (ItsT d ob kvs) H1
theorem pi_itsT {X : Cx} {o : Expr} {td : TE} {apos cpos : Pos} {names : List Expr} {ctx : Nat} {at_ : Pos} (hd : PE X o td) (nb : attributeBase o "items" X.env (eval o X.env) = eval o X.env := by rfl) (nl : (apos.endLine == cpos.line) = true := by rfl) :
    PI X (.Tuple names ctx at_) (.Call (.Attribute o "items" apos) [] [] cpos) (iItsT td) :=
  ⟨fun pins s σ H R I h => wpAny_Call_method0_late nb nl (thn (hd.run pins s σ H _ I h) fun u s1 ⟨x, H1, I1, rx, d, ob, kvs, ex, hf, q⟩ => by
    subst ex
    cases (show u = Value.ref d from rx)
    obtain ⟨sys, es, ep, dat, raw, len, ent⟩ := heldT I1 hf
    have seen : ∃ o2, s1.heap.get? d = some o2 ∧ o2.dict = none := by
      obtain ⟨o2, e2, x2, _⟩ := raw
      exact ⟨o2, e2, x2.2.1⟩
    refine ⟨"dict", "dict.items", PySem.F.plainAttrs_dict, PySem.F.slot_dict_items, PySem.F.type_dict_items, raw.typeIs, fun a ea => ?_, ?_⟩
    · cases ea
      exact seen
    · refine Calls.callWith_builtin rfl (PySem.evalArgs_none (DT.callItems sys raw ?_))
      have I2 := I1.kept (t' := s1.toks) (h' := s1.heap.push { cls := .type "dict_items", data := .fields #[.ref d] }) fun b u e => Heap.get?_push_of_some _ e
      refine DT.iterI (v := s1.heap.objs.size) ⟨_, Heap.get?_push_size _ rfl, rfl, rfl⟩ (raw.push _) (pi_one (tk := s1.toks) I2 _ (turn_itsT _ dat) ⟨.none, .none, ?_⟩ q)
      rw [← len]
      exact Heap.get?_push_size _ rfl)⟩
end Cal
set_option Elab.async false
set_option linter.all false
set_option maxRecDepth 100000
set_option maxHeartbeats 4000000
namespace Cal
open PySem PySem.Spec L2 PyProof.Rows
open Evl (Ex sq_of st_of)
section
variable {p : Par} {ρ : Rho} {P : Post} {ts : TS} {g : TG} {i : Nat}
/-! ### an own dict is data from now on -/
theorem ws_freezeT {kvs : List (List Key × D)} (i : Nat) (e : ρ[i]? = some (some (.ot kvs))) (h : WS p (ρ.set i (some (.d (.dT kvs)))) ts P) : WS p ρ ts P := fun G σ H hh E kn kr kb kc => by
  obtain ⟨sv, h1, a, vs, h2, ow, h4, h5⟩ := hh.slot i _ e
  subst h2
  obtain ⟨hh2, ex⟩ := hh.freeze e rfl h1 ow h4 (x := .dT kvs) (.dT (.inl upd_same) (RpT.mono (fun b u z => by rw [upd_ne (ne_of_none z ow.1)]; exact z) _ _ h5))
  exact h _ σ H hh2 E (fun ρ' G' σ' H' z e2 => kn ρ' G' σ' H' z (ex_tr ex e2)) kr (fun ρ' G' σ' H' z e2 => kb ρ' G' σ' H' z (ex_tr ex e2)) fun ρ' G' σ' H' z e2 => kc ρ' G' σ' H' z (ex_tr ex e2)
/-! ### the walk, the dict held -/
theorem walk_held {G : Hp} {σ : L2.St} {H : Hp} {a : Addr} {od : Obj} {vk : List (List Key × V)} {kvs : List (List Key × D)} (hh : Hold p ρ G σ H) (ga : G a = some (HO.frz od (HO.dT vk))) (hl : RpT p.K p.h G vk kvs) (sv : σ[i]? = some (some (V.ref a)))
    (I : Nat → Rho → Prop) (h0 : I 0 ρ) (hs : ∀ n k d ρ', kvs[n]? = some (k, d) → I n ρ' → WG p ρ' g (.tup [.tup (k.map kD), d]) fun ρ2 => WS p ρ2 ts ⟨I (n + 1), P.r, P.n, I (n + 1)⟩) (hd : ∀ ρ', I kvs.length ρ' → P.n ρ') (E : Ends)
    (kn : ∀ ρ' G' σ' H', P.n ρ' → Ex G G' → Hold p ρ' G' σ' H' → E.nx σ' H') (kr : ∀ d v G' H', P.r d → Mem p G' H' → Rp p.K p.h G' v d → E.rt v H') : tFor (iItsT (tVar i)) g ts E σ H := by
  have len := hl.length
  refine ⟨_, sv, a, od, vk, rfl, hh.mem.sub _ _ ga, for_any (n := vk.length) (fun k σ' H' => ∃ ρ' G', I k ρ' ∧ Ex G G' ∧ Hold p ρ' G' σ' H') ⟨ρ, G, h0, Ex.rfl', hh⟩ (fun k σ' H' hk ⟨ρ', G', hi, e, hh'⟩ => ⟨hh'.mem.sub _ _ (e _ _ ga), hk⟩)
    (fun σ' H' ⟨ρ', G', hi, e, hh'⟩ => ⟨hh'.mem.sub _ _ (e _ _ ga), Nat.le_refl _⟩) (fun k x σ' H' H2 hk ⟨ρ', G', hi, e, hh'⟩ hy => ?_) fun σ' H' ⟨ρ', G', hi, e, hh'⟩ => kn ρ' G' σ' H' (hd ρ' (by rw [← len]; exact hi)) e hh'⟩
  obtain ⟨T, q, ky, v, hx, hq, e1, hT, e2⟩ := hy
  subst e1 e2
  obtain ⟨d, hd1, hd2⟩ := hl.get' hx
  obtain ⟨G1, s1, hq1⟩ := Mem.learn hh'.mem hq
  have hh1 := hh'.step s1
  have gr := hh1.mem.grow (o := HO.tup [V.ref q, v]) hT
  have e4 := ex_tr e (ex_tr s1.ex gr.ex)
  refine hs k ky d ρ' hd1 hi _ σ' _ _ (hh1.step gr) (.tup upd_same (.cons (rmono (.tup hq1 (rp_kDs ky)) gr.ex) (.cons (rmono hd2 e4) .nil))) _ fun ρ2 G2 σ2 H2 z e2 hh2 => z G2 σ2 H2 hh2 _ (fun ρ3 G3 σ3 H3 z3 e3 hh3 => ⟨ρ3, G3, z3, ex_tr (ex_tr e4 e2) e3, hh3⟩) kr
    (fun ρ3 G3 σ3 H3 z3 e3 hh3 => kn ρ3 G3 σ3 H3 z3 (ex_tr (ex_tr e4 e2) e3) hh3) (fun ρ3 G3 σ3 H3 z3 e3 hh3 => ⟨ρ3, G3, z3, ex_tr (ex_tr e4 e2) e3, hh3⟩)
end
/-! ### what is read is read still when a dict is held or let go -/
structure Sees (G G2 : Hp) : Prop where
  tup : ∀ b xs, G b = some (.tup xs) → G2 b = some (.tup xs)
  fT : ∀ b o xs, G b = some (.frz o (.tup xs)) → G2 b = some (.frz o (.tup xs))
  lst : ∀ b xs, G b = some (.lst xs) → G2 b = some (.lst xs)
  ins : ∀ b C dx fs, G b = some (.ins C dx fs) → G2 b = some (.ins C dx fs)
  ext : ∀ b φ, G b = some (.ext φ) → G2 b = some (.ext φ)
  dK : ∀ b xs, Rd G b (.dK xs) → Rd G2 b (.dK xs)
  dT : ∀ b xs, Rd G b (.dT xs) → Rd G2 b (.dT xs)
section
variable {K : PySem.W.Frag} {h : Hnd} {G G2 : Hp}
mutual
theorem Rp.see (s : Sees G G2) : ∀ (d : D) (v : V), Rp K h G v d → Rp K h G2 v d
  | .non, _, r => by cases r; exact .non
  | .bl b, _, r => by cases r; exact .bl b
  | .int n, _, r => by cases r; exact .int n
  | .str x, _, r => by cases r; exact .str x
  | .hand, _, r => by cases r; exact .hand
  | .tup ds, _, r => by cases r with
    | tup q l => exact .tup (s.tup _ _ q) (RpL.see s ds _ l)
    | tupF q f l => exact .tupF (s.fT _ _ _ q) f (RpL.see s ds _ l)
  | .ptp bs, _, r => by cases r with | ptp q f n => exact .ptp (s.fT _ _ _ q) f n
  | .exc C, _, r => by cases r with | exc q x => exact .exc (s.ext _ _ q) (x.imp id fun ⟨dx, vfs, e1, e2⟩ => ⟨dx, vfs, e1, s.ext _ _ e2⟩)
  | .lst ds, _, r => by cases r with | lst q l => exact .lst (s.lst _ _ q) (RpL.see s ds _ l)
  | .dK kvs, _, r => by cases r with | dK q l => exact .dK (s.dK _ _ q) (RpK.see s kvs _ l)
  | .dT kvs, _, r => by cases r with | dT q l => exact .dT (s.dT _ _ q) (RpT.see s kvs _ l)
  | .raw v, _, r => by cases r; exact .raw v
  | .ins C fs, _, r => by cases r with | ins q l c => exact .ins (s.ins _ _ _ _ q) (RpF.see s fs _ l) c
theorem RpF.see (s : Sees G G2) : ∀ (ds : List (Str × D)) (vs : List (Str × V)), RpF K h G vs ds → RpF K h G2 vs ds
  | [], _, r => by cases r; exact .nil
  | (k, d) :: ds, _, r => by cases r with | cons a b => exact .cons (Rp.see s d _ a) (RpF.see s ds _ b)
theorem RpL.see (s : Sees G G2) : ∀ (ds : List D) (vs : List V), RpL K h G vs ds → RpL K h G2 vs ds
  | [], _, r => by cases r; exact .nil
  | d :: ds, _, r => by cases r with | cons a b => exact .cons (Rp.see s d _ a) (RpL.see s ds _ b)
theorem RpK.see (s : Sees G G2) : ∀ (ds : List (Key × D)) (vs : List (Key × V)), RpK K h G vs ds → RpK K h G2 vs ds
  | [], _, r => by cases r; exact .nil
  | (k, d) :: ds, _, r => by cases r with | cons a b => exact .cons (Rp.see s d _ a) (RpK.see s ds _ b)
theorem RpT.see (s : Sees G G2) : ∀ (ds : List (List Key × D)) (vs : List (List Key × V)), RpT K h G vs ds → RpT K h G2 vs ds
  | [], _, r => by cases r; exact .nil
  | (k, d) :: ds, _, r => by cases r with | cons a b => exact .cons (Rp.see s d _ a) (RpT.see s ds _ b)
end
/-- the dict of vk, as it is or held -/
def IsT (vk : List (List Key × V)) (u : HO) : Prop := u = .dT vk ∨ ∃ od, u = .frz od (.dT vk)
theorem sees_toggle {a : Addr} {u w : HO} {vk : List (List Key × V)} (ga : G a = some u) (hu : IsT vk u) (hw : IsT vk w) : Sees G (upd G a w) where
  tup b xs e := by rw [upd_ne (ne_of e ga (by rintro rfl; rcases hu with z | ⟨od, z⟩ <;> cases z))]; exact e
  fT b o xs e := by rw [upd_ne (ne_of e ga (by rintro rfl; rcases hu with z | ⟨od, z⟩ <;> cases z))]; exact e
  lst b xs e := by rw [upd_ne (ne_of e ga (by rintro rfl; rcases hu with z | ⟨od, z⟩ <;> cases z))]; exact e
  ext b φ e := by rw [upd_ne (ne_of e ga (by rintro rfl; rcases hu with z | ⟨od, z⟩ <;> cases z))]; exact e
  ins b C dx fs e := by rw [upd_ne (ne_of e ga (by rintro rfl; rcases hu with z | ⟨od, z⟩ <;> cases z))]; exact e
  dK b xs r := by
    rcases r with e | ⟨o, e⟩
    · exact .inl (by rw [upd_ne (ne_of e ga (by rintro rfl; rcases hu with z | ⟨od, z⟩ <;> cases z))]; exact e)
    · exact .inr ⟨o, by rw [upd_ne (ne_of e ga (by rintro rfl; rcases hu with z | ⟨od, z⟩ <;> cases z))]; exact e⟩
  dT b xs r := by
    by_cases hb : b = a
    · subst hb
      have same : xs = vk := by
        rcases r with e | ⟨o, e⟩
        · rw [ga] at e; cases e; rcases hu with z | ⟨od, z⟩ <;> cases z; rfl
        · rw [ga] at e; cases e; rcases hu with z | ⟨od, z⟩ <;> cases z; rfl
      subst same
      rcases hw with z | ⟨od, z⟩
      · subst z; exact .inl upd_same
      · subst z; exact .inr ⟨od, upd_same⟩
    · rcases r with e | ⟨o, e⟩
      · exact .inl (by rw [upd_ne hb]; exact e)
      · exact .inr ⟨o, by rw [upd_ne hb]; exact e⟩
end
section
variable {p p2 : Par} {ρ : Rho} {G G2 H H2 : Hp} {σ : L2.St}
theorem Slot.see (ek : p2.K = p.K) (eh : p2.h = p.h) (s : Sees G G2) (own : ∀ b, Own p G b → Own p2 G2 b ∧ H2 b = H b) {sv : Option V} : ∀ {c : Cell}, Slot p G H sv c → Slot p2 G2 H2 sv c := by
  obtain ⟨K2, h2, A2, B2⟩ := p2
  cases ek
  cases eh
  intro c x
  cases c with
  | d x => obtain ⟨v, h1, h2⟩ := x; exact ⟨v, h1, Rp.see s _ _ h2⟩
  | ol xs => obtain ⟨a, vs, h1, h2, h3, h4⟩ := x; exact ⟨a, vs, h1, (own a h2).1, (own a h2).2.trans h3, RpL.see s _ _ h4⟩
  | ok xs => obtain ⟨a, vs, h1, h2, h3, h4⟩ := x; exact ⟨a, vs, h1, (own a h2).1, (own a h2).2.trans h3, RpK.see s _ _ h4⟩
  | ot xs => obtain ⟨a, vs, h1, h2, h3, h4⟩ := x; exact ⟨a, vs, h1, (own a h2).1, (own a h2).2.trans h3, RpT.see s _ _ h4⟩
  | rw a o => obtain ⟨h1, h2, h3, h4⟩ := x; exact ⟨h1, (own a h2).1, (own a h2).2.trans h3, h4⟩
  | lk xs => obtain ⟨a, od, vs, h1, h2, h3, h4⟩ := x; exact ⟨a, od, vs, h1, (own a h2).1, (own a h2).2.trans h3, RpK.see s _ _ h4⟩
  | lt xs => obtain ⟨a, od, vs, h1, h2, h3, h4⟩ := x; exact ⟨a, od, vs, h1, (own a h2).1, (own a h2).2.trans h3, RpT.see s _ _ h4⟩
  | oi b C fs => obtain ⟨a, dx, vs, h1, h2, h3, h4, h5, h6⟩ := x; exact ⟨a, dx, vs, h1, (own a h2).1, (own a h2).2.trans h3, RpF.see s _ _ h4, h5, h6⟩
/-- the same parameters, the dict at a held already when all began -/
def Par.held (p : Par) (a : Addr) (w : HO) : Par := ⟨p.K, p.h, upd p.H0 a w, upd p.G0 a w⟩
theorem hand_toggle {a : Addr} {u w : HO} {vk : List (List Key × V)} (hu : IsT vk u) (m : Hand p.K G H p.h) (ga : G a = some u) (ha : H a = some u) : a ≠ p.h.a ∧ Hand p.K (upd G a w) (upd H a w) p.h := by
  obtain ⟨ns, n1, n2, n3, h1, h2, h3⟩ := m
  have na : a ≠ p.h.a := ne_of ha h1 (by rintro rfl; rcases hu with z | ⟨od, z⟩ <;> cases z)
  have nc : a ≠ p.h.c := ne_of ga h2 (by rintro rfl; rcases hu with z | ⟨od, z⟩ <;> cases z)
  exact ⟨na, ns, n1, n2, n3, by rw [upd_ne (Ne.symm na)]; exact h1, by rw [upd_ne (Ne.symm nc)]; exact h2, h3⟩
theorem isT_nt {vk : List (List Key × V)} {u : HO} (hu : IsT vk u) : NT u := by
  rcases hu with z | ⟨od, z⟩
  · subst z; exact NT.dT
  · subst z; exact NT.frz
theorem ex_toggle {a : Addr} {w : HO} (e : Ex G H) : Ex (upd G a w) (upd H a w) := fun b o z => by
  by_cases hb : b = a
  · subst hb; rw [upd_same] at z ⊢; exact z
  · rw [upd_ne hb] at z ⊢; exact e b o z
/-- the dict at a is held from now on -/
theorem Mem.hold {a : Addr} {u w : HO} {vk : List (List Key × V)} (hu : IsT vk u) (hw : IsT vk w) (m : Mem p G H) (ga : G a = some u) : Mem (p.held a w) (upd G a w) (upd H a w) := by
  obtain ⟨na, hd⟩ := hand_toggle (w := w) hu m.hand ga (m.sub _ _ ga)
  refine ⟨ex_toggle m.sub, ?_, fun b o nb nt z => ?_, ex_toggle m.g0, fun b o z => ?_, hd, fun b ps z => ?_, tabs_upd m.tab (.inr ⟨u, m.sub _ _ ga, isT_nt hu⟩)⟩
  · show upd G a w p.h.a = none
    rw [upd_ne (Ne.symm na)]; exact m.gh
  · by_cases hb : b = a
    · subst hb
      rw [upd_same]
      exact (upd_same (H := p.H0)).symm.trans z
    · rw [upd_ne hb]
      exact m.base b o nb nt ((upd_ne (H := p.H0) hb).symm.trans z)
  · by_cases hb : b = a
    · subst hb; rw [upd_same] at z; cases z; exact .inl upd_same
    · rw [upd_ne hb] at z
      have e1 : (p.held a w).G0 b = p.G0 b := upd_ne hb
      have e2 : (p.held a w).H0 b = p.H0 b := upd_ne hb
      rw [e1, e2]
      exact m.new b o z
  · by_cases hb : b = a
    · subst hb; rw [upd_same] at z; exact (isT_nt hw).tbl ps (Option.some.inj z)
    · rw [upd_ne hb] at z; exact m.gt b ps z
/-- .. and let go -/
theorem Mem.free {a : Addr} {u w : HO} {vk : List (List Key × V)} (hu : IsT vk u) (hw : IsT vk w) {G0 H0 : Hp} (m0 : Mem p G0 H0) (g0 : G0 a = some u) (m : Mem (p.held a w) G H) : Mem p (upd G a u) (upd H a u) ∧ G a = some w ∧ H a = some w := by
  have ga : G a = some w := m.g0 _ _ upd_same
  have ha := m.sub _ _ ga
  obtain ⟨na, hd⟩ := hand_toggle (p := p) (w := u) hw m.hand ga ha
  refine ⟨⟨ex_toggle m.sub, ?_, fun b o nb nt z => ?_, fun b o z => ?_, fun b o z => ?_, hd, fun b ps z => ?_, tabs_upd m.tab (.inr ⟨w, ha, isT_nt hw⟩)⟩, ga, ha⟩
  · show upd G a u p.h.a = none
    rw [upd_ne (Ne.symm na)]; exact m.gh
  · by_cases hb : b = a
    · subst hb
      rw [upd_same]
      exact (m0.sub _ _ g0).symm.trans (m0.base b o nb nt z)
    · rw [upd_ne hb]
      exact m.base b o nb nt ((upd_ne (H := p.H0) hb).trans z)
  · by_cases hb : b = a
    · subst hb; rw [upd_same, ← g0]; exact m0.g0 b o z
    · rw [upd_ne hb]; exact m.g0 b o ((upd_ne (H := p.G0) hb).trans z)
  · by_cases hb : b = a
    · subst hb; rw [upd_same] at z; cases z; exact m0.new b _ g0
    · rw [upd_ne hb] at z
      have e1 : (p.held a w).G0 b = p.G0 b := upd_ne hb
      have e2 : (p.held a w).H0 b = p.H0 b := upd_ne hb
      have q := m.new b o z
      rw [e1, e2] at q
      exact q
  · by_cases hb : b = a
    · subst hb; rw [upd_same] at z; exact (isT_nt hu).tbl ps (Option.some.inj z)
    · rw [upd_ne hb] at z; exact m.gt b ps z
theorem Hold.hold {a : Addr} {u w : HO} {vk : List (List Key × V)} (hu : IsT vk u) (hw : IsT vk w) (hh : Hold p ρ G σ H) (ga : G a = some u) : Hold (p.held a w) ρ (upd G a w) σ (upd H a w) :=
  ⟨hh.mem.hold hu hw ga, hh.len, fun i c e => by
    obtain ⟨sv, h1, h2⟩ := hh.slot i c e
    refine ⟨sv, h1, Slot.see (p := p) (p2 := p.held a w) rfl rfl (sees_toggle ga hu hw) (fun b ow => ?_) h2⟩
    have hb : b ≠ a := fun z => by
      subst z
      rw [ow.1] at ga
      cases ga
    exact ⟨⟨(upd_ne hb).trans ow.1, by rw [show (p.held a w).H0 b = p.H0 b from upd_ne hb]; exact ow.2.1, ow.2.2⟩, upd_ne hb⟩, hh.sep⟩
theorem Hold.free {a : Addr} {u w : HO} {vk : List (List Key × V)} (hu : IsT vk u) (hw : IsT vk w) {G0 H0 : Hp} (m0 : Mem p G0 H0) (g0 : G0 a = some u) (hh : Hold (p.held a w) ρ G σ H) : Hold p ρ (upd G a u) σ (upd H a u) := by
  obtain ⟨m, ga, ha⟩ := Mem.free hu hw m0 g0 hh.mem
  refine ⟨m, hh.len, fun i c e => ?_, hh.sep⟩
  obtain ⟨sv, h1, h2⟩ := hh.slot i c e
  refine ⟨sv, h1, Slot.see (p := p.held a w) (p2 := p) rfl rfl (sees_toggle ga hw hu) (fun b ow => ?_) h2⟩
  have hb : b ≠ a := fun z => by
    subst z
    rw [ow.1] at ga
    cases ga
  exact ⟨⟨(upd_ne hb).trans ow.1, by rw [← show (p.held a w).H0 b = p.H0 b from upd_ne hb]; exact ow.2.1, ow.2.2⟩, upd_ne hb⟩
end
/-! ### for (k, v) in d.items(), d data -/
def tEither (t : TS) : TS := fun E σ H => tLock t E σ H ∨ t E σ H
theorem ps_either {X : Cx} {st : Stmt} {t : TS} (h : PS X st t) : PS X st (tEither t) :=
  ⟨fun pins s σ H E I w => w.elim (fun z => (ps_lock h).run pins s σ H E I z) fun z => h.run pins s σ H E I z⟩
section
variable {p : Par} {ρ : Rho} {P : Post} {ts : TS} {g : TG} {i : Nat}
theorem ws_forIts {kvs : List (List Key × D)} (e : ρ[i]? = some (some (.d (.dT kvs)))) (I : Nat → Rho → Prop) (h0 : I 0 ρ)
    (hs : ∀ (A B : Hp) n k d ρ', kvs[n]? = some (k, d) → I n ρ' → WG ⟨p.K, p.h, A, B⟩ ρ' g (.tup [.tup (k.map kD), d]) fun ρ2 => WS ⟨p.K, p.h, A, B⟩ ρ2 ts ⟨I (n + 1), P.r, P.n, I (n + 1)⟩)
    (hd : ∀ ρ', I kvs.length ρ' → P.n ρ') : WS p ρ (tEither (tFor (iItsT (tVar i)) g ts)) P := fun G σ H hh E kn kr kb kc => by
  obtain ⟨sv, h1, v, h2, r⟩ := hh.slot i _ e
  subst h2
  cases r with
  | @dT a vk _ rd rl =>
    rcases rd with ga | ⟨od, ga⟩
    · refine .inl ⟨a, .dT vk, hh.mem.sub _ _ ga, trivial, fun od => ?_⟩
      have hu : IsT vk (.dT vk) := .inl rfl
      have hw : IsT vk (.frz od (.dT vk)) := .inr ⟨od, rfl⟩
      have back : ∀ {G' : Hp}, Ex (upd G a (.frz od (.dT vk))) G' → Ex G (upd G' a (.dT vk)) := fun {G'} ex b o z => by
        by_cases hb : b = a
        · subst hb; rw [upd_same, ← z, ga]
        · rw [upd_ne hb]; exact ex b o ((upd_ne hb).trans z)
      refine walk_held (p := p.held a (.frz od (.dT vk))) (hh.hold hu hw ga) upd_same (RpT.see (sees_toggle ga hu hw) _ _ rl) h1 I h0 (fun n k d ρ' => hs _ _ n k d ρ') hd _ (fun ρ' G' σ' H' z ex hh' => ?_) fun d v G' H' z m r => ?_
      · exact ⟨hh'.mem.sub _ _ (ex _ _ upd_same), kn ρ' _ σ' _ z (back ex) (Hold.free hu hw hh.mem ga hh')⟩
      · obtain ⟨m2, g2, h2⟩ := Mem.free hu hw hh.mem ga m
        exact ⟨h2, kr d v _ _ z m2 (Rp.see (sees_toggle g2 hw hu) _ _ r)⟩
    · exact .inr (walk_held (p := p) hh ga rl h1 I h0 (fun n k d ρ' => hs _ _ n k d ρ') hd _ kn kr)
end
end Cal
set_option Elab.async false
set_option linter.all false
set_option maxRecDepth 100000
set_option maxHeartbeats 4000000
namespace Cal
open PySem PySem.Spec L2 PyProof.Rows
open Evl (Ex sq_of st_of)
section
variable {p : Par} {ρ : Rho} {Q : D → Prop} {ta tb te td : TE} {P : Post}
/-! ### a tuple of flags whose object is known: made, counted in, read as any other -/
theorem we_view (h : WE p ρ te fun x => ∃ bs, x = .ptp bs ∧ Q (.tup (bs.map D.bl))) : WE p ρ te Q := fun G σ H hh Qv k =>
  h G σ H hh _ fun x v G1 H1 ⟨bs, e, q⟩ s r => by
    subst e
    exact k _ _ G1 H1 q s r.view
theorem we_vw {i : Nat} {bs : List Bool} (e : ρ[i]? = some (some (.d (.ptp bs)))) (q : Q (.tup (bs.map D.bl))) : WE p ρ (tVar i) Q := we_view (we_var e ⟨bs, rfl, q⟩)
theorem flags_rp {h : Hnd} {K : PySem.W.Frag} {G : Hp} : ∀ {bs : List Bool} {vs : List V}, RpL K h G vs (bs.map D.bl) → vs = bs.map V.bl
  | [], _, r => by cases r; rfl
  | b :: bs, _, r => by
    cases r with
    | cons r1 r2 =>
      cases r1
      rw [flags_rp r2]
      rfl
/-- tuple(list), its object known -/
theorem we_tupZ (h : WF p ρ te fun c => ∃ bs : List Bool, c = .ol (bs.map D.bl) ∧ bs ≠ [] ∧ Q (.ptp bs)) : WE p ρ (tThen te (kTupZ p.K)) Q := fun G σ H hh Qv k =>
  h G σ H hh _ fun c a G1 H1 ⟨bs, e, hn, q⟩ ho s n x => by
    subst e
    obtain ⟨b, vs, h1, h2, h3, h4⟩ := x
    cases h1
    have e2 := flags_rp h4
    subst e2
    refine ⟨a, _, rfl, sq_of h3, fun l ob hd hl => ?_⟩
    have m1 := (hh.step s).mem
    exact k _ _ _ _ q (s.trans (m1.grow (o := .frz ob (.tup (bs.map V.bl))) hl)) (.ptp upd_same hd hn)
theorem we_tcount (h : WE p ρ ta fun x => ∃ bs, x = .ptp bs ∧ WE p ρ tb fun y => ∃ b, y = .bl b ∧ Q (.int ((bs.count b : Nat) : Int))) : WE p ρ (tTCnt ta tb) Q := fun G σ H hh Qv k =>
  h G σ H hh _ fun x v G1 H1 ⟨bs, e, h2⟩ s1 r1 => by
    subst e
    have hh1 := hh.step s1
    cases r1 with
    | @ptp a ob _ ga hd hn =>
      refine ⟨⟨a, ob, _, rfl, hh1.mem.sub _ _ ga, hd⟩, h2 G1 σ H1 hh1 _ fun y w G2 H2 ⟨b, ey, q⟩ s2 r2 => ?_⟩
      subst ey
      cases r2
      exact ⟨a, ob, bs, b, rfl, rfl, (hh1.step s2).mem.sub _ _ (s2.ex _ _ ga), k _ _ G2 H2 q (s1.trans s2) (.int _)⟩
/-! ### dicts of tuple keys that are data: len, isinstance, d[k] -/
theorem we_dgetPT (h : WE p ρ td fun x => ∃ kvs, x = .dT kvs ∧ WE p ρ ta fun y => ∃ ks z, y = .tup (ks.map kD) ∧ dGet kvs ks = some z ∧ Q z) : WE p ρ (tDGet td ta) Q := fun G σ H hh Qv kk =>
  h G σ H hh _ fun x v G1 H1 ⟨kvs, ex, h2⟩ s1 r1 => h2 G1 σ H1 (hh.step s1) _ fun y w G2 H2 ⟨ks, z, ey, ez, q⟩ s2 r2 => by
    subst ex ey
    have r3 := rmono r1 s2.ex
    obtain ⟨b, eb, hb⟩ := key_at s2.sub r2
    subst eb
    cases r3 with
    | dT rd rk =>
      rcases rk.find ks with ⟨_, z1⟩ | ⟨u, d, z1, z2, z3⟩
      · rw [ez] at z1; cases z1
      · rw [ez] at z2; cases z2
        exact ⟨_, u, rfl, .inr ⟨_, ks, b, rd_ex s2.sub rd, rfl, hb, z1.symm⟩, kk _ _ G2 H2 q (s1.trans s2) z3⟩
end
/-- len(d), d of tuple keys, held or not -/
def rLenR : List V → Hp → VK → Prop := fun xs H Q => ∃ (d : Addr) (kvs : List (List Key × V)), xs = [V.ref d] ∧ Rd H d (.dT kvs) ∧ Q (.int ((kvs.length : Nat) : Int)) H
theorem call_lenR {X : Cx} : CallR X (.builtin "len") rLenR := fun pins s σ H xs us Q I r h => by
  obtain ⟨d, kvs, e, rd, q⟩ := h
  subst e
  obtain ⟨u, eu, ru⟩ := r.one
  subst eu
  cases (show u = Value.ref d from ru)
  obtain ⟨few, sys, ys, rel, at_⟩ := dt_rd I.hok rd
  have n := Paired.length rel
  refine call_len_dictH sys at_ (by rw [sizeLine_eq] at few; omega) ?_
  rw [← n]
  exact ⟨V.int ((kvs.length : Nat) : Int), H, I.tok _, ⟨_, rfl⟩, q⟩
/-- isinstance(d, C), d of tuple keys, held or not -/
def rIsiR (K : PySem.W.Frag) : List V → Hp → VK → Prop := fun xs H Q => ∃ (d : Addr) (kvs : List (List Key × V)) (c : V) (u : Value) (b : Bool), xs = [V.ref d, c] ∧ ClsV c u ∧ Rd H d (.dT kvs) ∧ PySem.W.kitOne K (.type "dict") u = some b ∧ Q (.bl b) H
theorem call_isiR {X : Cx} : CallR X (.builtin "isinstance") (rIsiR X.K) := fun pins s σ H xs us Q I r h => by
  obtain ⟨d, kvs, c, u, b, e, cls, rd, k, q⟩ := h
  subst e
  obtain ⟨u1, u2, eu, r1, r2⟩ := r.two
  subst eu
  cases (show u1 = Value.ref d from r1)
  cases cls.eq r2
  have seen : s.TypeIs (.ref d) "dict" := by
    obtain ⟨few, sys, ys, rel, at_⟩ := dt_rd I.hok rd
    exact at_.typeIs
  exact PySem.W.kia_one PySem.W.kitx_dict I.kIn seen k (fun z => nomatch z) fun tk => ⟨.bl b, H, I.tok tk, rfl, q⟩
theorem call_isiRK {X : Cx} {K0 : PySem.W.Frag} (hK : X.K = K0) : CallR X (.builtin "isinstance") (rIsiR K0) := by
  subst hK
  exact call_isiR
section
variable {p : Par} {ρ : Rho} {Q : D → Prop} {ta tb te td : TE} {P : Post}
theorem we_lenR (h : WE p ρ td fun x => ∃ kvs, x = .dT kvs ∧ Q (.int kvs.length)) : WE p ρ (tCB rLenR (tCons td tNil)) Q := fun G σ H hh Qv k =>
  h G σ H hh _ fun x v G1 H1 ⟨kvs, ex, q⟩ s r => by
    subst ex
    cases r with
    | dT rd rk =>
      refine ⟨_, _, rfl, rd_ex s.sub rd, ?_⟩
      rw [rk.length]
      exact k _ _ G1 H1 q s (.int _)
theorem we_isiR {T : String} (h : WE p ρ td fun x => ∃ kvs b, x = .dT kvs ∧ kitB "dict" T = some b ∧ Q (.bl b)) : WE p ρ (tCB (rIsiR p.K) (tCons td (tCons (tC (.ty T)) tNil))) Q := fun G σ H hh Qv k =>
  h G σ H hh _ fun x v G1 H1 ⟨kvs, b, ex, e2, q⟩ s r => by
    subst ex
    cases r with
    | dT rd rk => exact ⟨_, _, .ty T, .type T, b, rfl, .ty T, rd_ex s.sub rd, kit_ty e2, k _ _ G1 H1 q s (.bl _)⟩
end
end Cal
set_option Elab.async false
set_option linter.all false
set_option maxRecDepth 100000
set_option maxHeartbeats 4000000
namespace Cal
open PySem PySem.Spec L2 PyProof.Rows
open Evl (Ex sq_of st_of)
/-! ### [.. for k in d ..], d data with tuple keys -/
def tEitherE (t : TE) : TE := fun σ H Q => tLockE t σ H Q ∨ t σ H Q
theorem pe_either {X : Cx} {e : Expr} {t : TE} (h : PE X e t) : PE X e (tEitherE t) :=
  ⟨fun pins s σ H Q I w => w.elim (fun z => (pe_lock h).run pins s σ H Q I z) fun z => h.run pins s σ H Q I z⟩
section
variable {p : Par} {ρ : Rho} {Q : Cell → Prop} {te : TE} {tt : TT} {g : TG}
/-- the walk over the keys of a held dict, told as a new list -/
theorem lcKeysD {i : Nat} {vs : List Nat} {kvs : List (List Key × D)} {G : Hp} {σ : L2.St} {H : Hp} {Qv : VK} {a : Addr} {od : Obj} {us : List (List Key × V)} (hh : Hold p ρ G σ H) (hq : σ[i]? = some (some (.ref a))) (ga : G a = some (.frz od (.dT us))) (hl : RpT p.K p.h G us kvs) (hz : kvs.length ≤ 4000000)
    (I : Nat → List D → Prop) (h0 : I 0 [])
    (hs : ∀ (k : Nat) (key : List Key) (x : D) acc, kvs[k]? = some (key, x) → I k acc → acc.length ≤ k → WGp p vs (wipeR ρ vs) g (.tup (key.map kD)) fun ρ2 => WT p ρ2 tt fun b => if b = true then WE p ρ2 te fun y => I (k + 1) (acc ++ [y]) else I (k + 1) acc)
    (kk : ∀ acc Dl G' H', I kvs.length acc → Stp p G H G' H' → H Dl = none → Slot p G' H' (some (.ref Dl)) (.ol acc) → Qv (.ref Dl) H') : tLc (iKeys (tVar i)) g tt te vs σ H Qv := by
  have ha := hh.mem.sub _ _ ga
  refine ⟨.ref a, hq, a, od, rfl, .inr ⟨us, ha, fun Dl hn => ?_⟩⟩
  refine ⟨fun k m H' => m = us.length - k ∧ k ≤ us.length ∧ Lc p G H Dl I k H', ⟨us.length, by simp, Nat.zero_le _, lc_start hh hn h0⟩, ?_⟩
  rintro k m H' ⟨rfl, hk, L⟩
  have hfrz : H' a = some (.frz od (.dT us)) := by
    obtain ⟨acc, av, G', _, _, s, _⟩ := L
    exact s.sub _ _ (s.ex _ _ ga)
  by_cases hlt : k < us.length
  · refine .inr ⟨⟨hfrz, hlt⟩, Lc p G H Dl I (k + 1), fun H2 z => ⟨us.length - (k + 1), by omega, rfl, hlt, z⟩, fun x H2 y => ?_⟩
    obtain ⟨eH, ky, v, q, hx, ex, hT⟩ := y
    subst ex eH
    obtain ⟨d, hd1, hd2⟩ := hl.get' hx
    have hlen := hl.length
    exact lc_turn hh hn (by omega) L (fun G' s => by
      obtain ⟨G2, s2, hq2⟩ := Mem.learn (p := p) (hh.step s).mem hT
      exact ⟨G2, s2, .tup hq2 (rp_kDs ky)⟩) fun acc hi hle => hs k ky d acc hd1 hi hle
  · have ek : k = us.length := by omega
    subst ek
    obtain ⟨acc, av, G', hi, _, s, e, ow, r⟩ := L
    exact .inl ⟨⟨hfrz, Nat.le_refl _⟩, kk acc Dl G' H' (by rw [← hl.length]; exact hi) s hn ⟨Dl, av, rfl, ow, e, r⟩⟩
theorem wf_lcKD {i : Nat} {vs : List Nat} {kvs : List (List Key × D)} (e : ρ[i]? = some (some (.d (.dT kvs)))) (hz : kvs.length ≤ 4000000) (I : Nat → List D → Prop) (h0 : I 0 [])
    (hs : ∀ (A B : Hp) (k : Nat) (key : List Key) (x : D) acc, kvs[k]? = some (key, x) → I k acc → acc.length ≤ k → WGp ⟨p.K, p.h, A, B⟩ vs (wipeR ρ vs) g (.tup (key.map kD)) fun ρ2 => WT ⟨p.K, p.h, A, B⟩ ρ2 tt fun b => if b = true then WE ⟨p.K, p.h, A, B⟩ ρ2 te fun y => I (k + 1) (acc ++ [y]) else I (k + 1) acc)
    (hd : ∀ acc, I kvs.length acc → Q (.ol acc)) : WF p ρ (tEitherE (tLc (iKeys (tVar i)) g tt te vs)) Q := fun G σ H hh Qv kk => by
  obtain ⟨sv, h1, v, h2, r⟩ := hh.slot i _ e
  subst h2
  cases r with
  | @dT a vk _ rd rl =>
    rcases rd with ga | ⟨od, ga⟩
    · refine .inl ⟨a, .dT vk, hh.mem.sub _ _ ga, trivial, fun od => ?_⟩
      have hu : IsT vk (.dT vk) := .inl rfl
      have hw : IsT vk (.frz od (.dT vk)) := .inr ⟨od, rfl⟩
      refine lcKeysD (p := p.held a (.frz od (.dT vk))) (hh.hold hu hw ga) h1 upd_same (RpT.see (sees_toggle ga hu hw) _ _ rl) hz I h0 (fun k key x acc => hs _ _ k key x acc) fun acc Dl G' H' hi s hn x => ?_
      have hne : Dl ≠ a := fun z => by subst z; rw [upd_same] at hn; cases hn
      have hn2 : H Dl = none := by rw [upd_ne hne] at hn; exact hn
      obtain ⟨m2, g2, h2⟩ := Mem.free (p := ⟨p.K, p.h, H, G⟩) hu hw hh.mem.refl ga s
      refine ⟨h2, kk _ Dl (upd G' a (.dT vk)) (upd H' a (.dT vk)) (hd acc hi) rfl m2 (Nil.no hn2) ?_⟩
      refine Slot.see (p := p.held a (.frz od (.dT vk))) (p2 := p) rfl rfl (sees_toggle g2 hw hu) (fun b ow => ?_) x
      have hb : b ≠ a := fun z => by
        subst z
        rw [ow.1] at g2
        cases g2
      exact ⟨⟨(upd_ne hb).trans ow.1, by rw [← show (p.held a (.frz od (.dT vk))).H0 b = p.H0 b from upd_ne hb]; exact ow.2.1, ow.2.2⟩, upd_ne hb⟩
    · exact .inr (lcKeysD hh h1 ga rl hz I h0 (fun k key x acc => hs _ _ k key x acc) fun acc Dl G' H' hi s hn x => kk _ Dl G' H' (hd acc hi) rfl s (Nil.no hn) x)
end
end Cal
set_option Elab.async false
set_option linter.all false
set_option maxRecDepth 100000
set_option maxHeartbeats 4000000
namespace Cal
open PySem PySem.Spec L2 PyProof.Rows
open Evl (Ex sq_of st_of)
/-! ### dict(ps), ps a list of pairs whose first is a tuple -/
def mergeT {α β : Type} [DecidableEq α] (put : List (α × β) → α → β → List (α × β)) (kvs more : List (α × β)) : List (α × β) := more.foldl (fun acc kv => put acc kv.1 kv.2) kvs
theorem KT.mergeT {H : Hp} : ∀ {more : List (List Key × V)} {xs : List (List Key × Addr × Value)} {kvs : List (List Key × V)} {ys : List (List Key × Addr × Value)}, KT H more xs → KT H kvs ys → KT H (mergeT putK kvs more) (storedAllH ys xs)
  | _, _, _, _, .nil, r => r
  | _, _, _, _, .cons (a := p) (b := q) h t, r => by
    show KT H (Cal.mergeT putK (putK _ p.1 p.2) _) (storedAllH (storedH _ q.1 q.2.1 q.2.2) _)
    refine KT.mergeT t ?_
    rw [← h.1]
    exact r.put _ h.2.1 h.2.2
theorem mergeT_len : ∀ (more kvs : List (List Key × V)), (mergeT putK kvs more).length ≤ kvs.length + more.length
  | [], kvs => Nat.le_refl _
  | p :: more, kvs => by
    have a := mergeT_len more (putK kvs p.1 p.2)
    have b := length_putK kvs p.1 p.2
    show (mergeT putK (putK kvs p.1 p.2) more).length ≤ _
    rw [List.length_cons]
    omega
def rDictPT (K : PySem.W.Frag) : List V → Hp → VK → Prop := fun xs H Q => ∃ (a : Addr) (ps : List (Addr × Addr)) (kvs : List (List Key × V)), xs = [.ref a] ∧ SqL K H a (ps.map fun p => V.ref p.1) ∧
  Paired (fun p kv => SqT K H p.1 [V.ref p.2, kv.2] ∧ H p.2 = some (.tup (kv.1.map kV))) ps kvs ∧ ∀ p, H p = none → Q (.ref p) (upd H p (.dT (mergeT putK [] kvs)))
theorem refs_at2 : ∀ {ps : List (Addr × Addr)} {us : List Value}, Vals (ps.map fun p => V.ref p.1) us → us = ps.map fun p => Value.ref p.1
  | [], us, r => by
    rw [List.map_nil] at r
    cases r
    rfl
  | p :: ps, us, r => by
    rw [List.map_cons] at r
    cases r with
    | cons h t =>
      cases h
      rw [List.map_cons, ← refs_at2 t]
section
variable {X : Cx}
theorem pairs_ofT {pins : List (Addr × Obj)} {σ : L2.St} {H : Hp} {s : Shared} (I : Inv X pins σ H s) : ∀ {ps : List (Addr × Addr)} {kvs : List (List Key × V)}, Paired (fun p kv => SqT X.K H p.1 [V.ref p.2, kv.2] ∧ H p.2 = some (.tup (kv.1.map kV))) ps kvs →
    ∃ prs : List (List Key × Addr × Value), KT H kvs prs ∧ prs.length = ps.length ∧ ∀ (j : Nat) (q : List Key × Addr × Value), prs[j]? = some q → ∃ b : Addr × Addr, ps[j]? = some b ∧ IsTup s.heap b.1 #[.ref q.2.1, q.2.2]
  | _, _, .nil => ⟨[], .nil, rfl, fun j q e => by simp at e⟩
  | _, _, .cons (a := p) (b := kv) h t => by
    obtain ⟨prs, r, hl, hp⟩ := pairs_ofT I t
    obtain ⟨its, rv, ht, _⟩ := I.tuple h.1
    obtain ⟨u, y, ei, ru, ry⟩ := rv.two
    subst ei
    cases (show u = Value.ref p.2 from ru)
    refine ⟨(kv.1, p.2, y) :: prs, .cons ⟨rfl, h.2, ry⟩ r, by rw [List.length_cons, List.length_cons, hl], fun j q e => ?_⟩
    cases j with
    | zero =>
      have e' : (kv.1, p.2, y) = q := Option.some.inj e
      subst e'
      exact ⟨p, rfl, ht⟩
    | succ j =>
      obtain ⟨b, e1, e2⟩ := hp j q (by simpa using e)
      exact ⟨b, by simpa using e1, e2⟩
theorem call_dictPT (hcalm : X.calm = true) (hu : X.A.units + 65 < cLine) : CallR X (.type "dict") (rDictPT X.K) := fun pins s σ H xs us Q I r q => by
  obtain ⟨a, ps, kvs, ex, hq, hp, q⟩ := q
  subst ex
  obtain ⟨u, eu, rx⟩ := r.one
  subst eu
  cases (show u = Value.ref a from rx)
  obtain ⟨its, rv, pl, hz⟩ := I.list hq
  have ei := refs_at2 rv
  subst ei
  rw [List.length_map] at hz
  obtain ⟨prs, rel, hl, hpr⟩ := pairs_ofT I hp
  obtain ⟨o, n, ho, hc, hd, hdat⟩ := pl
  have keys : ∀ x ∈ prs, (tupleKind (mixKind X.prog X.w)).is s.heap x.1 x.2.1 := by
    have all : ∀ {l : List (List Key × V)} {m : List (List Key × Addr × Value)}, KT H l m → ∀ x ∈ m, (tupleKind (mixKind X.prog X.w)).is s.heap x.1 x.2.1 := by
      intro l m q
      induction q with
      | nil => intro x hx; exact nomatch hx
      | @cons p q ps qs hq t ih =>
        intro x hx
        rcases List.mem_cons.mp hx with e | hx
        · subst e
          exact key_of I.hok (by rw [← hq.1]; exact hq.2.1)
        · exact ih x hx
    exact all rel
  refine call_dict_pairsH (knd := tupleKind (mixKind X.prog X.w)) (ps := prs) (wr := []) (PairArg.list a (ps.map fun p => Value.ref p.1).toArray (fun j => ((ps[j]?).map (·.1)).getD 0) (prs.map fun q => (Value.ref q.2.1, q.2.2))) (I.ok.hd hcalm)
    (show X.A.units + 2 < cLine by omega) ⟨⟨o, n, ho, hc, hd, hdat⟩, by simp [hl], fun j k v e => ?_⟩ ⟨by simp, fun i key v e => ?_⟩ (fun h' hk x hx => ?_) (by rw [List.length_map, hl]; exact hz) fun h' tk hd' k => ?_
  · rw [List.getElem?_map] at e
    obtain ⟨z, e1, e2⟩ := Option.map_eq_some_iff.mp e
    obtain ⟨b, b1, b2⟩ := hpr j z e1
    cases e2
    refine ⟨by simp [b1], .inl ?_⟩
    show s.heap.IsTuple ((Option.map (fun x : Addr × Addr => x.1) ps[j]?).getD 0) _
    rw [b1]
    exact b2
  · have e : (prs.map fun q => (Value.ref q.2.1, q.2.2))[i]? = some (key, v) := e
    rw [List.getElem?_map] at e
    obtain ⟨z, e1, e2⟩ := Option.map_eq_some_iff.mp e
    cases e2
    exact ⟨z.1, z.2.1, e1, rfl⟩
  · obtain ⟨o2, its2, n2, h1, h2, h3, h4⟩ := keys x hx
    exact ⟨o2, its2, n2, hk _ _ (Nat.ne_of_lt (Heap.lt_size h1)) (fun z => nomatch z) h1, h2, h3, h4⟩
  · have hm : (s.heap.objs.size == sysModules) = false := beq_eq_false_iff_ne.mpr (Nat.ne_of_gt I.big)
    have hfr := I.hok.fresh (Nat.le_refl s.heap.objs.size)
    have hlen : (mergeT putK [] kvs).length ≤ sizeLine := by
      have z := mergeT_len kvs []
      rw [List.length_nil, Nat.zero_add] at z
      rw [← Paired.length hp] at z
      omega
    obtain ⟨o2, es, ep, hq2, h2, h3, h4, _, h5⟩ := hd'
    refine ⟨.ref s.heap.objs.size, upd H s.heap.objs.size (.dT (mergeT putK [] kvs)), I.laid (t' := tk) (fun b u e => k b u (fun z => nomatch z) e) (Nat.le_refl _) ⟨hlen, hm, _, (KT.mergeT rel .nil).keeps fun c ys ec => ?_, o2, es, ep, hq2, h2, h3, h4, h5⟩, rfl, q _ hfr⟩
    rw [upd_ne (fun z => by subst z; rw [hfr] at ec; cases ec)]
    exact ec
theorem call_dictPTK {K0 : PySem.W.Frag} (hK : X.K = K0) (hcalm : X.calm = true) (hu : X.A.units + 65 < cLine) : CallR X (.type "dict") (rDictPT K0) := by
  subst hK
  exact call_dictPT hcalm hu
end
section
variable {p : Par} {ρ : Rho} {Q : D → Prop} {te : TE}
def pairT (kv : List Key × D) : D := .tup [.tup (kv.1.map kD), kv.2]
theorem pairs_rp {K : PySem.W.Frag} {h : Hnd} {G H : Hp} (s : Ex G H) : ∀ {kvs : List (List Key × D)} {vs : List V}, RpL K h G vs (kvs.map pairT) → ∃ (ps : List (Addr × Addr)) (us : List (List Key × V)), vs = ps.map (fun p => V.ref p.1) ∧
    Paired (fun p kv => SqT K H p.1 [V.ref p.2, kv.2] ∧ H p.2 = some (.tup (kv.1.map kV))) ps us ∧ RpT K h G us kvs
  | [], _, r => by
    cases r
    exact ⟨[], [], rfl, .nil, .nil⟩
  | kv :: kvs, _, r => by
    cases r with
    | cons r1 r2 =>
      obtain ⟨ps, us, e1, e2, e3⟩ := pairs_rp s r2
      obtain ⟨a, ws, ev, hq, hl⟩ := r1.tup_inv
      subst ev
      cases hl with
      | cons l1 l2 =>
        cases l2 with
        | cons l2 l3 =>
          cases l3
          obtain ⟨b, eb, hb⟩ := key_at (p := ⟨K, h, H, G⟩) s l1
          subst eb
          exact ⟨(a, b) :: ps, (kv.1, _) :: us, by rw [e1]; rfl, .cons ⟨tqT s hq, hb⟩ e2, .cons l2 e3⟩
theorem RpT.mergeT {K : PySem.W.Frag} {h : Hnd} {G : Hp} : ∀ {more : List (List Key × D)} {us ws : List (List Key × V)} {kvs : List (List Key × D)}, RpT K h G us more → RpT K h G ws kvs → RpT K h G (mergeT putK ws us) (mergeT dPut kvs more)
  | [], _, _, _, r, q => by cases r; exact q
  | (k, d) :: more, _, ws, kvs, r, q => by
    cases r with
    | @cons _ v us _ _ r1 r2 =>
      show RpT K h G (Cal.mergeT putK (putK ws k v) us) (Cal.mergeT dPut (dPut kvs k d) more)
      exact RpT.mergeT r2 (q.put k r1)
theorem we_dictPT (h : WE p ρ te fun x => ∃ kvs : List (List Key × D), x = .lst (kvs.map pairT) ∧ Q (.dT (mergeT dPut [] kvs))) : WE p ρ (tCB (rDictPT p.K) (tCons te tNil)) Q := fun G σ H hh Qv k =>
  h G σ H hh _ fun x v G1 H1 ⟨kvs, ex, q⟩ s r => by
    subst ex
    have m1 := (hh.step s).mem
    cases r with
    | lst ga rl =>
      obtain ⟨ps, us, e1, e2, e3⟩ := pairs_rp m1.sub rl
      subst e1
      refine ⟨_, ps, us, rfl, sq_of (m1.sub _ _ ga), e2, fun b hb => ?_⟩
      have gr := m1.grow (o := HO.dT (mergeT putK [] us)) hb
      exact k _ _ _ _ q (s.trans gr) (.dT (.inl upd_same) (RpT.mono gr.ex _ _ (RpT.mergeT e3 .nil)))
/-- keys that differ: what is put in stands there -/
theorem mergeT_same : ∀ (more kvs : List (List Key × D)), ((kvs ++ more).map (·.1)).Nodup → mergeT dPut kvs more = kvs ++ more
  | [], kvs, _ => (List.append_nil kvs).symm
  | p :: more, kvs, h => by
    show mergeT dPut (dPut kvs p.1 p.2) more = _
    have hn : p.1 ∉ kvs.map (·.1) := fun hm => by
      rw [List.map_append, List.nodup_append] at h
      exact h.2.2 _ hm p.1 (by simp) rfl
    rw [dPut_new (dGet_not hn), mergeT_same more (kvs ++ [(p.1, p.2)]) (by rw [List.append_assoc]; exact h), List.append_assoc]
    rfl
/-- k in d, d data with tuple keys -/
theorem we_dinPT {ty td : TE} (h : WE p ρ ty fun y => ∃ k : List Key, y = .tup (k.map kD) ∧ WE p ρ td fun x => ∃ kvs, x = .dT kvs ∧ Q (.bl (dGet kvs k).isSome)) : WE p ρ (tDIn ty td) Q := fun G σ H hh Qv kk =>
  h G σ H hh _ fun y w G1 H1 ⟨k, ey, h2⟩ s1 r1 => h2 G1 σ H1 (hh.step s1) _ fun x v G2 H2 ⟨kvs, ex, q⟩ s2 r2 => by
    subst ey ex
    obtain ⟨b, eb, hb⟩ := key_at s2.sub (rmono r1 s2.ex)
    subst eb
    cases r2 with
    | @dT a vs _ rd rk =>
      refine ⟨a, valV vs k, rfl, .inr ⟨vs, k, b, rd_ex s2.sub rd, rfl, hb, rfl⟩, ?_⟩
      have z : (valV vs k).isSome = (dGet kvs k).isSome := by
        rcases rk.find k with ⟨z1, z2⟩ | ⟨v, d, z1, z2, _⟩ <;> rw [z1, z2] <;> rfl
      rw [z]
      exact kk _ _ G2 H2 q (s1.trans s2) (.bl _)
end
section
variable {p : Par} {ρ : Rho} {P : Post}
/-- i, j, l = [], a number, {} -/
theorem ws_new3C {i j l : Nat} {n : Int} (h : P.n (((ρ.set i (some (.ol []))).set j (some (.d (.int n)))).set l (some (.ok [])))) :
    WS p ρ (tPar3 i j l (tCons (tLst tNil) (tCons (tC (.int n)) (tCons tDNewK tNil)))) P := fun G σ H hh E kn kr kb kc => by
  refine ⟨sz (Nat.zero_le _), fun a ha => fun c hc => ?_⟩
  have s1 := hh.mem.growO (o := .lst []) ha
  have k1 := hh.setNew (i := i) (c := .ol []) s1 (Nil.no ha) ⟨a, [], rfl, hh.mem.fresh ha, upd_same, .nil⟩
  have k2 := k1.setD (i := j) (x := .int n) (.int n)
  have s5 := k2.mem.growO (o := .dK []) hc
  have k6 := k2.setNew (i := l) (c := .ok []) s5 (Nil.no hc) ⟨c, [], rfl, k2.mem.fresh hc, upd_same, .nil⟩
  exact ⟨_, _, _, rfl, kn _ G _ _ h Ex.rfl' k6⟩
end
end Cal
set_option Elab.async false
set_option linter.all false
set_option maxRecDepth 100000
set_option maxHeartbeats 4000000
namespace Cal
open PySem PySem.Spec L2 PyProof.Rows
open Evl (Ex sq_of st_of)
/-! ### isinstance of what may be a dict with tuple keys -/
def rOr (r1 r2 : List V → Hp → VK → Prop) : List V → Hp → VK → Prop := fun xs H Q => r1 xs H Q ∨ r2 xs H Q
theorem callR_or {X : Cx} {f : Value} {r1 r2 : List V → Hp → VK → Prop} (h1 : CallR X f r1) (h2 : CallR X f r2) : CallR X f (rOr r1 r2) := fun pins s σ H xs us Q I r h =>
  h.elim (fun z => h1 pins s σ H xs us Q I r z) fun z => h2 pins s σ H xs us Q I r z
def rIsiRT (K : PySem.W.Frag) : List V → Hp → VK → Prop := fun xs H Q => ∃ (d : Addr) (kvs : List (List Key × V)) (tp : Addr) (cs : List V) (us : List Value) (b : Bool), xs = [V.ref d, .ref tp] ∧ H tp = some (.tup cs) ∧ Paired ClsV cs us ∧ Rd H d (.dT kvs) ∧ PySem.W.kitAny K (.type "dict") us = some b ∧ Q (.bl b) H
theorem call_isiRT {X : Cx} : CallR X (.builtin "isinstance") (rIsiRT X.K) := fun pins s σ H xs us Q I r h => by
  obtain ⟨d, kvs, tp, cs, ws, b, e, hT, k, rd, e2, q⟩ := h
  subst e
  obtain ⟨u1, u2, eu, r1, r2⟩ := r.two
  subst eu
  cases (show u1 = Value.ref d from r1)
  cases (show u2 = Value.ref tp from r2)
  have seen : s.TypeIs (.ref d) "dict" := by
    obtain ⟨few, sys, ys, rel, at_⟩ := dt_rd I.hok rd
    exact at_.typeIs
  obtain ⟨_, its, rv, o, h1, h2, n, h3⟩ := (show ObjOk X.prog X.w H s.heap tp (.tup cs) from I.hok tp _ hT)
  have e3 := ClsV.all k rv
  subst e3
  obtain ⟨oc, od, dt, sl⟩ := o
  simp only at h2 h3
  subst h2 h3
  exact PySem.W.kia_tup PySem.W.kitx_dict I.kIn seen h1 e2 (fun z => nomatch z) fun tk => ⟨.bl b, H, I.tok tk, rfl, q⟩
theorem call_isiRTK {X : Cx} {K0 : PySem.W.Frag} (hK : X.K = K0) : CallR X (.builtin "isinstance") (rIsiRT K0) := by
  subst hK
  exact call_isiRT
def tyE : D → Option String
  | .dT _ => some "dict"
  | x => tyD x
theorem tyE_or {x : D} {t : String} (h : tyE x = some t) : (∃ kvs, x = .dT kvs ∧ t = "dict") ∨ tyD x = some t := by
  cases x <;> first | exact .inr h | exact .inl ⟨_, rfl, (Option.some.inj h).symm⟩
section
variable {p : Par} {ρ : Rho} {Q : D → Prop} {te : TE}
theorem we_isiE {T : String} (h : WE p ρ te fun x => ∃ t b, tyE x = some t ∧ kitB t T = some b ∧ Q (.bl b)) : WE p ρ (tCB (rOr (rIsi p.K) (rIsiR p.K)) (tCons te (tCons (tC (.ty T)) tNil))) Q := fun G σ H hh Qv k =>
  h G σ H hh _ fun x v G1 H1 ⟨t, b, e1, e2, q⟩ s r => by
    rcases tyE_or e1 with ⟨kvs, ex, et⟩ | e1
    · subst ex et
      cases r with
      | dT rd rk => exact .inr ⟨_, _, .ty T, .type T, b, rfl, .ty T, rd_ex s.sub rd, kit_ty e2, k _ _ G1 H1 q s (.bl _)⟩
    · exact .inl ⟨v, .ty T, .type t, .type T, b, rfl, .ty T, tyD_x s.sub r e1, kit_ty e2, k _ _ G1 H1 q s (.bl _)⟩
theorem we_isiTE {A B : String} (h : WE p ρ te fun x => ∃ t a b, tyE x = some t ∧ kitB t A = some a ∧ kitB t B = some b ∧ Q (.bl (a || b))) : WE p ρ (tCB (rOr (rIsiT p.K) (rIsiRT p.K)) (tCons te (tCons (tTup (tCons (tC (.ty A)) (tCons (tC (.ty B)) tNil))) tNil))) Q := fun G σ H hh Qv k =>
  h G σ H hh _ fun x v G1 H1 ⟨t, a, b, e1, e2, e3, q⟩ s r => ⟨sz (Nat.le_of_ble_eq_true rfl), fun tp hp => by
    have s2 := (hh.step s).mem.grow (o := .tup [.ty A, .ty B]) hp
    have ka : PySem.W.kitAny p.K (.type t) [.type A, .type B] = some (a || b) := by
      refine kitAny_cons (kit_ty e2) (fun ha => ?_) (fun ha => by rw [ha]; rfl)
      rw [ha]
      refine kitAny_cons (kit_ty e3) (fun hb => ?_) (fun hb => by rw [hb]; rfl)
      rw [hb]
      exact kitAny_nil
    rcases tyE_or e1 with ⟨kvs, ex, et⟩ | e1
    · subst ex et
      cases r with
      | dT rd rk => exact .inr ⟨_, _, tp, [.ty A, .ty B], [.type A, .type B], a || b, rfl, upd_same, .cons (.ty A) (.cons (.ty B) .nil), rd_ex (fun c o z => s2.sub c o (s2.ex c o z)) rd, ka, k _ _ _ _ q (s.trans s2) (.bl _)⟩
    · exact .inl ⟨v, tp, [.ty A, .ty B], .type t, [.type A, .type B], a || b, rfl, upd_same, .cons (.ty A) (.cons (.ty B) .nil), tyD_x s2.sub (rmono r s2.ex) e1, ka, k _ _ _ _ q (s.trans s2) (.bl _)⟩⟩
end
end Cal
set_option Elab.async false
set_option linter.all false
set_option maxRecDepth 100000
set_option maxHeartbeats 4000000
namespace Cal
open PySem PySem.Spec L2 PyProof.Rows
open Evl (Ex sq_of st_of)
/-! ### dict(zip(a, b)), a a list of tuples -/
def tDictZ (K : PySem.W.Frag) (ta : TA) : TE := fun σ H Q => ta σ H fun vs H1 => ∃ (a b : Addr) (ks : List Addr) (kvs : List (List Key × V)), vs = [V.ref a, V.ref b] ∧ SqL K H1 a (ks.map V.ref) ∧ SqL K H1 b (kvs.map (·.2)) ∧
  Paired (fun p kv => H1 p = some (.tup (kv.1.map kV))) ks kvs ∧ ∀ p, H1 p = none → Q (.ref p) (upd H1 p (.dT (mergeT putK [] kvs)))
theorem zips_ofT {H : Hp} : ∀ {ks : List Addr} {kvs : List (List Key × V)} {its : List Value}, Paired (fun p kv => H p = some (.tup (kv.1.map kV))) ks kvs → Vals (kvs.map (·.2)) its →
    ∃ prs : List (List Key × Addr × Value), KT H kvs prs ∧ prs.length = ks.length ∧ its.length = ks.length ∧ ∀ (j : Nat) (q : List Key × Addr × Value), prs[j]? = some q → ks[j]? = some q.2.1 ∧ its[j]? = some q.2.2
  | _, _, _, .nil, rv => by
    cases rv
    exact ⟨[], .nil, rfl, rfl, fun j q e => by simp at e⟩
  | _, _, _, .cons (a := p) (b := kv) h t, rv => by
    cases rv with
    | @cons _ u _ us r rr =>
      obtain ⟨prs, r2, hl, hl2, hp⟩ := zips_ofT t rr
      refine ⟨(kv.1, p, u) :: prs, .cons ⟨rfl, h, r⟩ r2, by rw [List.length_cons, List.length_cons, hl], by rw [List.length_cons, List.length_cons, hl2], fun j q e => ?_⟩
      cases j with
      | zero =>
        have e' : (kv.1, p, u) = q := Option.some.inj e
        subst e'
        exact ⟨rfl, rfl⟩
      | succ j =>
        obtain ⟨e1, e2⟩ := hp j q (by simpa using e)
        exact ⟨by simpa using e1, by simpa using e2⟩
theorem pe_dictZip {X : Cx} {K0 : PySem.W.Frag} (hK : X.K = K0) {e e2 : Expr} {ta : TA} {p1 p2 pos pos2 : Pos} (hcalm : X.calm = true) (hu : X.A.units + 65 < cLine) (hg : Gl X "dict") (hm : X.mg "dict" = none) (hg2 : Gl X "zip") (hm2 : X.mg "zip" = none) (ha : PA X [e, e2] ta)
    (hs : starEach [e, e2] X.env = (false, eval e X.env) :: starEach [e2] X.env := by rfl) (hpl : (backTo pos2 (starEach [e2] X.env)).any (·.1) = false := by rfl) :
    PE X (.Call (.Name "dict" p1) [.Call (.Name "zip" p2) [e, e2] [] pos2] [] pos) (tDictZ K0 ta) := by
  subst hK
  refine ⟨fun pins s σ H Q I h => ?_⟩
  refine wpAny_Call_Name_kw (ld_blt I hg hm (by decide +kernel : bootBuiltins "dict" = some (.type "dict")) ?_ (by decide) (by decide))
  refine PyProof.Rows.callWith_type1 (e := .Call (.Name "zip" p2) [e, e2] [] pos2) (rest := []) ?_ (by rfl) (by rfl)
  show wpAny _ _ (spliced [(false, eval (.Call (.Name "zip" p2) [e, e2] [] pos2) X.env)]) _ _ _
  refine Calls.spliced_cons (Call_ (ld_blt I hg2 hm2 PyProof.Rows.boot_zip (PyProof.Rows.callWith_type1 (thn (ha.run pos2 pins s σ H _ I h) fun us s1 ⟨vs, H1, I1, rvs, q1⟩ => ?_) hs hpl)))
  obtain ⟨a, b, ks, kvs, ex, hqa, hqb, hp, q⟩ := q1
  subst ex
  obtain ⟨u1, u2, eu, ra, rb⟩ := rvs.two
  subst eu
  cases (show u1 = Value.ref a from ra)
  cases (show u2 = Value.ref b from rb)
  obtain ⟨its, rv, pa, za⟩ := I1.list hqa
  obtain ⟨its2, rv2, pb, zb⟩ := I1.list hqb
  obtain ⟨prs, rel, hl, hl2, hpr⟩ := zips_ofT hp rv2
  have ei : its = ks.map Value.ref := refs_at rv
  subst ei
  have la : a < s1.heap.objs.size := pa.lt
  have lb : b < s1.heap.objs.size := pb.lt
  rw [List.length_map] at za
  have keys : ∀ x ∈ prs, (tupleKind (mixKind X.prog X.w)).is s1.heap x.1 x.2.1 := by
    have all : ∀ {l : List (List Key × V)} {m : List (List Key × Addr × Value)}, KT H1 l m → ∀ x ∈ m, (tupleKind (mixKind X.prog X.w)).is s1.heap x.1 x.2.1 := by
      intro l m q
      induction q with
      | nil => intro x hx; exact nomatch hx
      | @cons p q ps qs hq t ih =>
        intro x hx
        rcases List.mem_cons.mp hx with e | hx
        · subst e
          exact key_of I1.hok (by rw [← hq.1]; exact hq.2.1)
        · exact ih x hx
    exact all rel
  refine call_zip_2 pa.isList pb.isList fun h1 hz hTI hTO i1 i2 hsz hk => Calls.spliced_nil ?_
  have big : ∀ {c : Addr}, c ∈ [s1.heap.objs.size + 4, s1.heap.objs.size + 3, s1.heap.objs.size, s1.heap.objs.size + 1] → s1.heap.objs.size ≤ c := fun {c} hc => by
    simp only [List.mem_cons, List.not_mem_nil, or_false] at hc
    rcases hc with z | z | z | z <;> rw [z] <;> simp
  refine call_dict_pairsH (knd := tupleKind (mixKind X.prog X.w)) (ps := prs) (PairArg.zip (s1.heap.objs.size + 4) (s1.heap.objs.size + 2) (s1.heap.objs.size + 3) s1.heap.objs.size (s1.heap.objs.size + 1) a b (PySem.W.ktu_apart s1.heap.objs.size a b la lb) (ks.map Value.ref).toArray its2.toArray) (I.ok.hd hcalm)
    (show X.A.units + 2 < cLine by omega) ⟨hz, hTI, ⟨_, _, hTO⟩, i1, i2, pa.isList.at fun o e => hk _ o e, pb.isList.at fun o e => hk _ o e⟩ ⟨by simp [hl, hl2], fun i key v e => ?_⟩ (fun h' hk' x hx => ?_) (by simp [hl2]; omega) fun h' tk hd' k => ?_
  · obtain ⟨e1, e2⟩ := e
    have e1 : (ks.map Value.ref)[i]? = some key := by simpa using e1
    have e2 : its2[i]? = some v := by simpa using e2
    rw [List.getElem?_map] at e1
    obtain ⟨c, c1, c2⟩ := Option.map_eq_some_iff.mp e1
    subst c2
    have hi : i < prs.length := by rw [hl]; exact (List.getElem?_eq_some_iff.mp c1).1
    have hq := List.getElem?_eq_getElem hi
    obtain ⟨d1, d2⟩ := hpr i _ hq
    rw [c1] at d1
    rw [e2] at d2
    refine ⟨prs[i].1, c, ?_, rfl⟩
    rw [hq]
    have a1 : c = prs[i].2.1 := Option.some.inj d1
    have a2 : v = prs[i].2.2 := Option.some.inj d2
    rw [a1, a2]
  · obtain ⟨o2, its3, n2, x1, x2, x3, x4⟩ := keys x hx
    have lt := Heap.lt_size x1
    refine ⟨o2, its3, n2, hk' _ _ ?_ (fun z => ?_) (hk _ _ x1), x2, x3, x4⟩
    · show x.2.1 ≠ h1.objs.size
      rw [hsz]
      exact Nat.ne_of_lt (Nat.lt_of_lt_of_le lt (Nat.le_add_right _ _))
    · exact absurd lt (Nat.not_lt.mpr (big z))
  · have hm3 : (h1.objs.size == sysModules) = false := beq_eq_false_iff_ne.mpr (Nat.ne_of_gt (Nat.lt_of_lt_of_le I1.big (by rw [hsz]; exact Nat.le_add_right _ _)))
    have hle : s1.heap.objs.size ≤ h1.objs.size := by rw [hsz]; omega
    have hfr := I1.hok.fresh hle
    have hlen : (mergeT putK [] kvs).length ≤ sizeLine := by
      have z := mergeT_len kvs []
      rw [List.length_nil, Nat.zero_add] at z
      rw [← Paired.length hp] at z
      omega
    obtain ⟨o2, es, ep, hq2, x2, x3, x4, _, x5⟩ := hd'
    refine ⟨.ref h1.objs.size, upd H1 h1.objs.size (.dT (mergeT putK [] kvs)), I1.laid (t' := tk) (fun c u e => k c u (fun z => ?_) (hk c u e)) hle ⟨hlen, hm3, _, (KT.mergeT rel .nil).keeps fun c ys ec => ?_, o2, es, ep, hq2, x2, x3, x4, x5⟩, rfl, q _ hfr⟩
    · exact absurd (Heap.lt_size e) (Nat.not_lt.mpr (big z))
    · rw [upd_ne (fun z => by subst z; rw [hfr] at ec; cases ec)]
      exact ec
/-! ### sorted(d), d with keys that are pairs of ints in order -/
/-- the first two of a key -/
def pairK : List Key → Int × Int
  | [.inl i, .inl j] => (i, j)
  | _ => (0, 0)
def rSortedDT : List V → Hp → VK → Prop := fun xs H Q => ∃ (d : Addr) (kvs : List (List Key × V)), xs = [V.ref d] ∧ Rd H d (.dT kvs) ∧ (∀ kv ∈ kvs, kv.1 = [.inl (pairK kv.1).1, .inl (pairK kv.1).2]) ∧ (kvs.Pairwise fun p q => SrtO.lexB (pairK q.1) (pairK p.1) = false) ∧
  ∀ p bs, H p = none → IsKeys H kvs bs → Q (.ref p) (upd H p (.lst (bs.map V.ref)))
/-- the pair of ints that stands at an address -/
def pairH (H : Hp) : Value → Int × Int
  | .ref b => match H b with
    | some (.tup [.int i, .int j]) => (i, j)
    | _ => (0, 0)
  | _ => (0, 0)
theorem keys_rows {H : Hp} {kvs : List (List Key × V)} {xs : List (List Key × Addr × Value)} (r : KT H kvs xs) (hk : ∀ kv ∈ kvs, kv.1 = [.inl (pairK kv.1).1, .inl (pairK kv.1).2]) (hs : kvs.Pairwise fun p q => SrtO.lexB (pairK q.1) (pairK p.1) = false) :
    (xs.map fun x => Value.ref x.2.1).Pairwise fun x y => SrtO.lexB (pairH H y) (pairH H x) = false := by
  have one : ∀ {kv : List Key × V} {x : List Key × Addr × Value}, kv.1 = [.inl (pairK kv.1).1, .inl (pairK kv.1).2] → H x.2.1 = some (.tup (kv.1.map kV)) → pairH H (.ref x.2.1) = pairK kv.1 := fun {kv x} e h => by
    unfold pairH
    rw [e] at h
    have h : H x.2.1 = some (.tup [.int (pairK kv.1).1, .int (pairK kv.1).2]) := h
    simp only [h]
  have mem : ∀ {l : List (List Key × V)} {m : List (List Key × Addr × Value)}, KT H l m → ∀ y ∈ m, ∃ kv ∈ l, H y.2.1 = some (.tup (kv.1.map kV)) := by
    intro l m r
    induction r with
    | nil => intro y hy; exact nomatch hy
    | @cons p q ps qs h t ih =>
      intro y hy
      rcases List.mem_cons.mp hy with e | hy
      · subst e
        exact ⟨p, List.mem_cons_self .., h.2.1⟩
      · obtain ⟨kv, a, b⟩ := ih y hy
        exact ⟨kv, List.mem_cons_of_mem _ a, b⟩
  induction r with
  | nil => exact List.Pairwise.nil
  | @cons p q ps qs h t ih =>
    rw [List.pairwise_cons] at hs
    rw [List.map_cons, List.pairwise_cons]
    refine ⟨fun y hy => ?_, ih (fun kv hm => hk kv (List.mem_cons_of_mem _ hm)) hs.2⟩
    obtain ⟨z, hz, rfl⟩ := List.mem_map.mp hy
    obtain ⟨kv, hm, hh⟩ := mem t z hz
    rw [one (hk p (List.mem_cons_self ..)) h.2.1, one (hk kv (List.mem_cons_of_mem _ hm)) hh]
    exact hs.1 kv hm
theorem call_sortedDT {X : Cx} (hcalm : X.calm = true) : CallR X (.builtin "sorted") rSortedDT := by
  intro pins s σ H xs us Q I r h
  obtain ⟨d, kvs, ex, hd, hk, hso, q⟩ := h
  subst ex
  obtain ⟨u, rfl, rx⟩ := r.one
  cases rx
  obtain ⟨z, hs, ks, pr, o, es, ep, ho, hx, hdt, he, hn⟩ := (show ObjOk X.prog X.w H s.heap d (.dT kvs) from hd.ok I.hok)
  have l1 : es.size = ks.length := size_of_entries he
  have l2 : kvs.length = ks.length := Paired.length pr
  refine Calls.call_function_entry PyProof.Rows.kind_sorted PyProof.Rows.plain_sorted PyProof.Rows.entry_sorted (PyProof.Rows.args_sorted1 _) ?_
  unfold Builtin.«sorted»
  refine wpAny_bind (m := checkCount "sorted" 1 1 _) (wpAny_pure ?_)
  refine wpAny_bind (PySem.W.kdu_collect (A := X.A.in1) (kdl_raw hs hx hdt) (I.ok.hd hcalm) ho (by omega) fun h' tk acc kp it => ?_)
  have ea : acc.toList = ks.map fun x => Value.ref x.2.1 := by
    have hl : acc.toList.length = ks.length := by rw [Array.length_toList, it.1]; exact l1
    apply List.ext_getElem?
    intro j
    rw [List.getElem?_map]
    cases hj : acc.toList[j]? with
    | none =>
      have h1 := List.getElem?_eq_none_iff.mp hj
      rw [List.getElem?_eq_none (by omega)]
      all_goals rfl
    | some v =>
      obtain ⟨en, hen, hv⟩ := it.2 j v (by rw [← Array.getElem?_toList]; exact hj)
      have qe := entry_at he j
      rw [hen] at qe
      cases hb : ks[j]? with
      | none =>
        rw [hb] at qe
        exact nomatch (show some en = none from qe)
      | some b =>
        rw [hb] at qe
        have e2 : en = entryOfKey (tupleKind (mixKind X.prog X.w)) b := Option.some.inj qe
        rw [hv, e2]
        all_goals rfl
  have hz : (ks.map fun x => Value.ref x.2.1).length ≤ sizeLine := by rw [List.length_map]; omega
  have I1 : Inv X pins σ H { s with heap := h', toks := tk } := I.kept kp
  rw [ea]
  refine wpAny_bind (wpAny_newList ?_ hz)
  have hoL : (h'.push (seqObj "list" (ks.map fun x => Value.ref x.2.1).toArray 0)).get? h'.objs.size = some (seqObj "list" (ks.map fun x => Value.ref x.2.1).toArray 0) := Heap.get?_push_size _ rfl
  show wpAny _ _ _ _ _ { s with heap := h'.push (seqObj "list" (ks.map fun x => Value.ref x.2.1).toArray 0), toks := tk }
  have hsr := keys_rows pr hk hso
  have pairs : ∀ v ∈ ks.map (fun x => Value.ref x.2.1), Srt.IsPair (h'.push (seqObj "list" (ks.map fun x => Value.ref x.2.1).toArray 0)) v (pairH H v).1 (pairH H v).2 := by
    have all : ∀ {l : List (List Key × V)} {m : List (List Key × Addr × Value)}, KT H l m → (∀ kv ∈ l, kv.1 = [.inl (pairK kv.1).1, .inl (pairK kv.1).2]) → ∀ x ∈ m, Srt.IsPair (h'.push (seqObj "list" (ks.map fun x => Value.ref x.2.1).toArray 0)) (.ref x.2.1) (pairH H (.ref x.2.1)).1 (pairH H (.ref x.2.1)).2 := by
      intro l m r
      induction r with
      | nil => intro _ x hx; exact nomatch hx
      | @cons p q ps qs h t ih =>
        intro hl x hx
        rcases List.mem_cons.mp hx with e | hx
        · subst e
          have e1 := hl p (List.mem_cons_self ..)
          have e2 : H x.2.1 = some (.tup (p.1.map kV)) := h.2.1
          rw [e1] at e2
          have e3 : H x.2.1 = some (.tup [.int (pairK p.1).1, .int (pairK p.1).2]) := e2
          have e4 : pairH H (.ref x.2.1) = pairK p.1 := by
            unfold pairH
            simp only [e3]
          rw [e4]
          obtain ⟨_, its2, r2, o2, ho2, hc2, n2, hd2⟩ := I1.hok _ _ e3
          obtain ⟨u1, u2, eu, ri, rj⟩ := r2.two
          subst eu
          obtain ⟨t1, rfl⟩ := ri
          obtain ⟨t2, rfl⟩ := rj
          exact ⟨_, o2, t1, t2, n2, rfl, Heap.get?_push_of_some _ ho2, hc2, hd2⟩
        · exact ih (fun kv hm => hl kv (List.mem_cons_of_mem _ hm)) x hx
    intro v hv
    obtain ⟨x, hx2, rfl⟩ := List.mem_map.mp hv
    exact all pr hk x hx2
  refine wpAny_bind (wpAny_holding (wpAny_call_entry PyProof.Rows.slot_list_sort ⟨_, hoL, rfl⟩ PyProof.Rows.entry_list_sort
    (SrtO.list_sort_ord (s := { s with heap := h'.push (seqObj "list" (ks.map fun x => Value.ref x.2.1).toArray 0), toks := tk }) (SrtO.swo_lex (pairH H)) hoL hz (fun h2 => SrtO.pairs_sortableO (by omega) pairs fun o e => ?_) fun out hso2 hb => ⟨_, rfl, ?_⟩) (PyProof.Rows.args_list_sort _)))
  · have e' : some o = some (seqObj "list" (ks.map fun x => Value.ref x.2.1).toArray 0) := e.symm.trans hoL
    cases e'
    intro c
    exact absurd (Value.type.inj c) (by decide)
  · have eo : out = ks.map fun x => Value.ref x.2.1 := SrtO.stb_uniq (SrtO.swo_lex (pairH H)) hso2 hsr hb
    subst eo
    obtain ⟨e', he'⟩ := PyProof.Rows.sortedHeap_at (vs := ks.map fun x => Value.ref x.2.1) (out := (ks.map fun x => Value.ref x.2.1).toArray) hoL
    have eb : (ks.map fun x => Value.ref x.2.1) = (ks.map fun x => x.2.1).map Value.ref := by rw [List.map_map]; rfl
    refine wpAny_pure ⟨_, rfl, .ref h'.objs.size, upd H h'.objs.size (.lst ((ks.map fun x => x.2.1).map V.ref)), I1.laid (t' := tk) (fun b u e => ?_) (Nat.le_refl _)
      (show ObjOk X.prog X.w _ _ _ (.lst ((ks.map fun x => x.2.1).map V.ref)) from ⟨by rw [List.length_map, List.length_map]; omega, _, e', vals_refs _, by rw [← eb]; exact he'⟩), rfl, q _ _ (I1.hok.fresh (Nat.le_refl _)) (isKeys_of pr)⟩
    have hb : b < h'.objs.size := Heap.lt_size e
    rw [PyProof.Rows.sortedHeap_old (Nat.ne_of_lt hb) (by rw [size_push']; exact Nat.lt_succ_of_lt hb)]
    exact Heap.get?_push_of_some _ e
end Cal
set_option Elab.async false
set_option linter.all false
set_option maxRecDepth 100000
set_option maxHeartbeats 4000000
namespace Cal
open PySem PySem.Spec L2 PyProof.Rows
open Evl (Ex sq_of st_of)
section
variable {p : Par} {ρ : Rho} {Q : D → Prop} {te : TE} {ta : TA}
def keyD (k : List Key) : D := .tup (k.map kD)
theorem keys_rp {K : PySem.W.Frag} {h : Hnd} {G H : Hp} (s : Ex G H) : ∀ {ks : List (List Key)} {vs : List V}, RpL K h G vs (ks.map keyD) → ∃ as : List Addr, vs = as.map V.ref ∧ as.length = ks.length ∧ ∀ (i : Nat) (a : Addr) (k : List Key), as[i]? = some a → ks[i]? = some k → H a = some (.tup (k.map kV))
  | [], _, r => by
    cases r
    exact ⟨[], rfl, rfl, fun i a k e _ => by cases e⟩
  | k :: ks, _, r => by
    cases r with
    | cons r1 r2 =>
      obtain ⟨as, e1, e2, e3⟩ := keys_rp s r2
      obtain ⟨b, eb, hb⟩ := key_at (p := ⟨K, h, H, G⟩) s r1
      subst eb
      refine ⟨b :: as, by rw [e1]; rfl, by rw [List.length_cons, List.length_cons, e2], fun i a k' ea ek => ?_⟩
      cases i with
      | zero => cases ea; cases ek; exact hb
      | succ i => exact e3 i a k' (by simpa using ea) (by simpa using ek)
theorem zip_rp {K : PySem.W.Frag} {h : Hnd} {G H : Hp} : ∀ {ks : List (List Key)} {as : List Addr} {us : List V} {ds : List D}, as.length = ks.length → ds.length = ks.length → (∀ (i : Nat) (a : Addr) (k : List Key), as[i]? = some a → ks[i]? = some k → H a = some (.tup (k.map kV))) → RpL K h G us ds →
    ((ks.zip us).map (·.2)) = us ∧ Paired (fun p (kv : List Key × V) => H p = some (.tup (kv.1.map kV))) as (ks.zip us) ∧ RpT K h G (ks.zip us) (ks.zip ds)
  | [], [], _, [], _, _, _, r => by
    cases r
    exact ⟨rfl, .nil, .nil⟩
  | k :: ks, a :: as, _, d :: ds, h1, h2, h3, r => by
    cases r with
    | cons r1 r2 =>
      obtain ⟨e1, e2, e3⟩ := zip_rp (by simpa using h1) (by simpa using h2) (fun i a k ea ek => h3 (i + 1) a k (by simpa using ea) (by simpa using ek)) r2
      exact ⟨by rw [List.zip_cons_cons, List.map_cons, e1], .cons (h3 0 a k rfl rfl) e2, .cons r1 e3⟩
  | [], _ :: _, _, _, h1, _, _, _ => by cases h1
  | [], [], _, _ :: _, _, h2, _, _ => by cases h2
  | _ :: _, [], _, _, h1, _, _, _ => by cases h1
  | _ :: _, _ :: _, _, [], _, h2, _, _ => by cases h2
/-- dict(zip(ks, vs)) -/
theorem we_dictZip (h : WA p ρ ta fun ds => ∃ (ks : List (List Key)) (xs : List D), ds = [.lst (ks.map keyD), .lst xs] ∧ xs.length = ks.length ∧ Q (.dT (mergeT dPut [] (ks.zip xs)))) : WE p ρ (tDictZ p.K ta) Q := fun G σ H hh Qv k =>
  h G σ H hh _ fun ds vs G1 H1 ⟨ks, xs, e, hl, q⟩ s r => by
    subst e
    have m1 := (hh.step s).mem
    cases r with
    | cons r1 r2 =>
      cases r2 with
      | cons r2 r3 =>
        cases r3
        obtain ⟨a0, vs1, ev1, ga, rl⟩ := r1.lst_inv
        obtain ⟨b0, vs2, ev2, gb, rm⟩ := r2.lst_inv
        subst ev1 ev2
        obtain ⟨as, e1, e2, e3⟩ := keys_rp m1.sub rl
        subst e1
        obtain ⟨z1, z2, z3⟩ := zip_rp e2 hl e3 rm
        refine ⟨_, _, as, ks.zip vs2, rfl, sq_of (m1.sub _ _ ga), by rw [z1]; exact sq_of (m1.sub _ _ gb), z2, fun b hb => ?_⟩
        have gr := m1.grow (o := HO.dT (mergeT putK [] (ks.zip vs2))) hb
        exact k _ _ _ _ q (s.trans gr) (.dT (.inl upd_same) (RpT.mono gr.ex _ _ (RpT.mergeT z3 .nil)))
/-- the keys learned -/
theorem learn_keys : ∀ {kvs : List (List Key × D)} {us : List (List Key × V)} {bs : List Addr} {G H : Hp}, Mem p G H → RpT p.K p.h G us kvs → IsKeys H us bs → ∃ G2, Stp p G H G2 H ∧ RpL p.K p.h G2 (bs.map V.ref) (kvs.map fun kv => keyD kv.1)
  | [], _, _, G, H, m, r, ik => by
    cases r
    cases ik
    exact ⟨G, m.refl, .nil⟩
  | (k, d) :: kvs, _, _, G, H, m, r, ik => by
    cases r with
    | cons r1 r2 =>
      cases ik with
      | cons i1 i2 =>
        obtain ⟨G2, s, l⟩ := learn_keys m r2 i2
        obtain ⟨G3, s3, q⟩ := Mem.learn (p := ⟨p.K, p.h, H, G⟩) s i1
        exact ⟨G3, s.trans s3, .cons (.tup q (rp_kDs k)) (lmono l s3.ex)⟩
/-- sorted(d), d data with keys that are pairs of ints in order -/
theorem wf_sortedDT {Q : Cell → Prop} (h : WE p ρ te fun x => ∃ kvs : List (List Key × D), x = .dT kvs ∧ (∀ kv ∈ kvs, kv.1 = [.inl (pairK kv.1).1, .inl (pairK kv.1).2]) ∧ (kvs.Pairwise fun p q => SrtO.lexB (pairK q.1) (pairK p.1) = false) ∧ Q (.ol (kvs.map fun kv => keyD kv.1))) : WF p ρ (tCB rSortedDT (tCons te tNil)) Q := fun G σ H hh Qv kk =>
  h G σ H hh _ fun x v G1 H1 ⟨kvs, ex, h1, h2, q⟩ s r => by
    subst ex
    have hh1 := hh.step s
    cases r with
    | @dT a us _ rd rk =>
      have same : ∀ {l : List (List Key × V)} {m : List (List Key × D)}, RpT p.K p.h G1 l m → l.map (·.1) = m.map (·.1) := by
        intro l m r
        induction m generalizing l with
        | nil => cases r; rfl
        | cons z m ih =>
          cases r with
          | cons r1 r2 => rw [List.map_cons, List.map_cons, ih r2]
      have sm := same rk
      have key : ∀ {α : Type} {l : List (List Key × α)} , (∀ k ∈ l.map (·.1), k = [Sum.inl (pairK k).1, Sum.inl (pairK k).2]) ↔ ∀ kv ∈ l, kv.1 = [Sum.inl (pairK kv.1).1, Sum.inl (pairK kv.1).2] := by
        intro α l
        constructor
        · intro h kv hm
          exact h _ (List.mem_map.mpr ⟨kv, hm, rfl⟩)
        · intro h k hm
          obtain ⟨kv, hm2, rfl⟩ := List.mem_map.mp hm
          exact h kv hm2
      have pw : ∀ {α : Type} {l : List (List Key × α)}, ((l.map (·.1)).Pairwise fun p q => SrtO.lexB (pairK q) (pairK p) = false) ↔ l.Pairwise fun p q => SrtO.lexB (pairK q.1) (pairK p.1) = false := by
        intro α l
        rw [List.pairwise_map]
      refine ⟨a, us, rfl, rd_ex hh1.mem.sub rd, key.mp (by rw [sm]; exact key.mpr h1), pw.mp (by rw [sm]; exact pw.mpr h2), fun b bs hb ik => ?_⟩
      obtain ⟨G2, s2, l⟩ := learn_keys hh1.mem rk ik
      have m2 := (hh1.step s2).mem
      exact kk _ b G2 _ q rfl ((s.trans s2).trans (m2.growO hb)) (hh.mem.back s hb) ⟨b, _, rfl, m2.fresh hb, upd_same, l⟩
end
end Cal
set_option Elab.async false
set_option linter.all false
set_option maxRecDepth 100000
set_option maxHeartbeats 4000000
namespace Cal
open PySem PySem.Spec L2 PyProof.Rows
open Evl (Ex sq_of st_of)
section
variable {p : Par} {ρ : Rho} {P : Post} {O : Cell → Prop}
/-- return v, v an own thing: it is new to who called -/
theorem wso_retV {i : Nat} {c : Cell} (e : ρ[i]? = some (some c)) (ho : c.isOwn = true) (h : O c) : WSO p ρ (tRet (tVar i)) P O := fun G σ H hh E kn kr kb kc ko => by
  obtain ⟨sv, h1, h2⟩ := hh.slot i _ e
  obtain ⟨a, u, e1, ow, e3⟩ := Cell.own_ref h2 ho
  subst e1
  exact ⟨.ref a, h1, ko c a G H h ho hh.mem h2⟩
end
end Cal
set_option Elab.async false
set_option linter.all false
set_option maxRecDepth 100000
set_option maxHeartbeats 4000000
namespace Cal
open PySem PySem.Spec L2 PyProof.Rows
open Evl (Ex sq_of st_of)
/-! ### texts -/
section
variable {p : Par} {ρ : Rho} {Q : D → Prop} {ta tb te to : TE} {g : TG} {tt : TT}
def rAddS : R2 := fun x y H Q => ∃ i j : Str, x = .str i ∧ y = .str j ∧ i.length + j.length ≤ sizeLine ∧ Q (.str (i ++ j)) H
/-- s + t -/
theorem we_addS (h : WE p ρ ta fun x => ∃ i : Str, x = .str i ∧ WE p ρ tb fun y => ∃ j : Str, y = .str j ∧ i.length + j.length ≤ 4000000 ∧ Q (.str (i ++ j))) : WE p ρ (tOp rAddS ta tb) Q :=
  we_op (h.imp fun x ⟨i, e, h⟩ => h.imp fun y ⟨j, e2, hz, q⟩ => fun G H v w m r1 r2 Qv k => by
    subst e e2
    rw [rp_str' r1, rp_str' r2]
    exact ⟨i, j, rfl, rfl, by rw [sizeLine_eq]; omega, k _ _ G H q m.refl (.str _)⟩)
def rStrI : List V → Hp → VK → Prop := fun xs H Q => ∃ i : Int, xs = [.int i] ∧ i.natAbs.log2 < 1920 ∧ Q (.str (toString i)) H
/-- str(n) -/
theorem we_strI (h : WE p ρ te fun x => ∃ i : Int, x = .int i ∧ i.natAbs.log2 < 1920 ∧ Q (.str (toString i))) : WE p ρ (tCB rStrI (tCons te tNil)) Q :=
  we_cb (wa_cons (h.imp fun x ⟨i, e, hl, q⟩ => wa_nil fun G H vs m r Qv k => by
    subst e
    cases r with
    | cons r rn =>
      cases rn
      cases r
      exact ⟨i, rfl, hl, k _ _ G H q m.refl (.str _)⟩))
def rJoin (K : PySem.W.Frag) : V → List V → Hp → VK → Prop := fun x xs H Q => ∃ (a : Str) (q : Addr) (ys : List Str), x = .str a ∧ xs = [.ref q] ∧ (SqL K H q (ys.map V.str) ∨ SqT K H q (ys.map V.str)) ∧ (ys.map (·.length)).sum + ys.length * a.length ≤ 16777216 ∧ Q (.str (Txt.join a ys)) H
theorem strs_rp {K : PySem.W.Frag} {h : Hnd} {G : Hp} : ∀ {ys : List Str} {vs : List V}, RpL K h G vs (ys.map D.str) → vs = ys.map V.str
  | [], _, r => by cases r; rfl
  | y :: ys, _, r => by
    cases r with
    | cons r1 r2 =>
      cases r1
      rw [strs_rp r2]
      rfl
theorem rp_strs {K : PySem.W.Frag} {h : Hnd} {G : Hp} : ∀ ys : List Str, RpL K h G (ys.map V.str) (ys.map D.str)
  | [] => .nil
  | y :: ys => .cons (.str y) (rp_strs ys)
/-- s.join(list) -/
theorem we_join (h : WE p ρ to fun x => ∃ a : Str, x = .str a ∧ WE p ρ te fun y => ∃ ys : List Str, y = .lst (ys.map D.str) ∧ (ys.map (·.length)).sum + ys.length * a.length ≤ 16777216 ∧ Q (.str (Txt.join a ys))) : WE p ρ (tM1 (rJoin p.K) to te) Q := fun G σ H hh Qv k =>
  h G σ H hh _ fun x v G1 H1 ⟨a, e, h2⟩ s1 r1 => by
    subst e
    rw [rp_str' r1]
    refine ⟨⟨a, rfl⟩, h2 G1 σ H1 (hh.step s1) _ fun y w G2 H2 ⟨ys, e2, hz, q⟩ s2 r2 => ?_⟩
    subst e2
    obtain ⟨b, vs, ev, hs, hl⟩ := r2.lst_inv
    subst ev
    have e3 := strs_rp hl
    subst e3
    have m2 := ((hh.step s1).step s2).mem
    exact ⟨a, b, ys, rfl, rfl, .inl (lq m2.sub hs), hz, k _ _ G2 H2 q (s1.trans s2) (.str _)⟩
def rSplit : V → List V → Hp → VK → Prop := fun x xs H Q => ∃ a b : Str, x = .str a ∧ xs = [.str b] ∧ (b.length == 0) = false ∧ a.length + 2 ≤ sizeLine ∧ rNewStrs (Txt.split a b) H Q
/-- s.split(t): a new list -/
theorem wf_split {Q : Cell → Prop} (h : WE p ρ to fun x => ∃ a : Str, x = .str a ∧ WE p ρ te fun y => ∃ b : Str, y = .str b ∧ (b.length == 0) = false ∧ a.length + 2 ≤ 4000000 ∧ Q (.ol ((Txt.split a b).map D.str))) : WF p ρ (tM1 rSplit to te) Q := fun G σ H hh Qv k =>
  h G σ H hh _ fun x v G1 H1 ⟨a, e, h2⟩ s1 r1 => by
    subst e
    rw [rp_str' r1]
    refine ⟨⟨a, rfl⟩, h2 G1 σ H1 (hh.step s1) _ fun y w G2 H2 ⟨b, e2, hb, hz, q⟩ s2 r2 => ?_⟩
    subst e2
    rw [rp_str' r2]
    have hh2 := (hh.step s1).step s2
    refine ⟨a, b, rfl, rfl, hb, by rw [sizeLine_eq]; omega, fun c hc => ?_⟩
    have s := s1.trans s2
    exact k _ c _ _ q rfl (s.trans (hh2.mem.growO hc)) (hh.mem.back s hc) ⟨c, _, rfl, hh2.mem.fresh hc, upd_same, rp_strs _⟩
def rStarts : V → List V → Hp → VK → Prop := fun x xs H Q => ∃ a b : Str, x = .str a ∧ xs = [.str b] ∧ Q (.bl (Txt.startswith a b)) H
/-- s.startswith(t) -/
theorem we_starts (h : WE p ρ to fun x => ∃ a : Str, x = .str a ∧ WE p ρ te fun y => ∃ b : Str, y = .str b ∧ Q (.bl (Txt.startswith a b))) : WE p ρ (tM1 rStarts to te) Q := fun G σ H hh Qv k =>
  h G σ H hh _ fun x v G1 H1 ⟨a, e, h2⟩ s1 r1 => by
    subst e
    rw [rp_str' r1]
    refine ⟨⟨a, rfl⟩, h2 G1 σ H1 (hh.step s1) _ fun y w G2 H2 ⟨b, e2, q⟩ s2 r2 => ?_⟩
    subst e2
    rw [rp_str' r2]
    exact ⟨a, b, rfl, rfl, k _ _ G2 H2 q (s1.trans s2) (.bl _)⟩
def rIntS : List V → Hp → VK → Prop := fun xs H Q => ∃ (a : Str) (n : Int), xs = [.str a] ∧ PySem.intText? a = some n ∧ a.length ≤ 640 ∧ Q (.int n) H
/-- int(text) -/
theorem we_intS (h : WE p ρ te fun x => ∃ (a : Str) (n : Int), x = .str a ∧ PySem.intText? a = some n ∧ a.length ≤ 640 ∧ Q (.int n)) : WE p ρ (tCB rIntS (tCons te tNil)) Q :=
  we_cb (wa_cons (h.imp fun x ⟨a, n, e, h1, h2, q⟩ => wa_nil fun G H vs m r Qv k => by
    subst e
    cases r with
    | cons r rn =>
      cases rn
      cases r
      exact ⟨a, n, rfl, h1, h2, k _ _ G H q m.refl (.int _)⟩))
def rLenS : List V → Hp → VK → Prop := fun xs H Q => ∃ z : Str, xs = [.str z] ∧ z.length ≤ sizeLine ∧ Q (.int z.length) H
/-- len(text) -/
theorem we_lenS (h : WE p ρ te fun x => ∃ z : Str, x = .str z ∧ z.length ≤ 4000000 ∧ Q (.int z.length)) : WE p ρ (tCB rLenS (tCons te tNil)) Q :=
  we_cb (wa_cons (h.imp fun x ⟨z, e, hz, q⟩ => wa_nil fun G H vs m r Qv k => by
    subst e
    cases r with
    | cons r rn =>
      cases rn
      cases r
      exact ⟨z, rfl, by rw [sizeLine_eq]; omega, k _ _ G H q m.refl (.int _)⟩))
/-- s[i] -/
theorem we_ixS (h : WE p ρ ta fun x => ∃ z : Str, x = .str z ∧ WE p ρ tb fun y => ∃ (i : Int) (c : Nat), y = .int i ∧ z.length ≤ 4000000 ∧ atI z.cps.toList i = some c ∧ Q (.str ⟨#[c]⟩)) : WE p ρ (tOp rIxS ta tb) Q :=
  we_op (h.imp fun x ⟨z, e, h⟩ => h.imp fun y ⟨i, c, e2, hz, hc, q⟩ => fun G H v w m r1 r2 Qv k => by
    subst e e2
    rw [rp_str' r1]
    cases r2
    exact ⟨z, i, c, rfl, rfl, by rw [sizeLine_eq]; omega, hc, k _ _ G H q m.refl (.str _)⟩)
/-- s[lo:hi] -/
theorem we_slS {tl th : TO} (h : WE p ρ te fun x => ∃ z : Str, x = .str z ∧ z.length ≤ 4000000 ∧ WO p ρ tl fun lo => WO p ρ th fun hi => Q (.str (cutS z lo hi))) : WE p ρ (tSl rSlS te tl th) Q := fun G σ H hh Qv k =>
  h G σ H hh _ fun x v G1 H1 ⟨z, e, hz, q1⟩ s1 r1 => q1 G1 σ H1 (hh.step s1) _ fun lo G2 H2 q2 s2 => q2 G2 σ H2 ((hh.step s1).step s2) _ fun hi G3 H3 q3 s3 => by
    subst e
    rw [rp_str' r1]
    exact ⟨z, rfl, by rw [sizeLine_eq]; omega, k _ _ G3 H3 q3 ((s1.trans s2).trans s3) (.str _)⟩
def rInSign : R2 := fun x y H Q => ∃ (c : Nat) (z : Str), x = .str ⟨#[c]⟩ ∧ y = .str z ∧ Q (.bl (decide (c ∈ z.cps.toList))) H
/-- a sign in s -/
theorem we_inSign (h : WE p ρ ta fun x => ∃ c : Nat, x = .str ⟨#[c]⟩ ∧ WE p ρ tb fun y => ∃ z : Str, y = .str z ∧ Q (.bl (decide (c ∈ z.cps.toList)))) : WE p ρ (tOp rInSign ta tb) Q :=
  we_op (h.imp fun x ⟨c, e, h⟩ => h.imp fun y ⟨z, e2, q⟩ => fun G H v w m r1 r2 Qv k => by
    subst e e2
    rw [rp_str' r1, rp_str' r2]
    exact ⟨c, z, rfl, rfl, k _ _ G H q m.refl (.bl _)⟩)
/-- [.. for sign in s ..] -/
theorem wf_lcStr {tl : TE} {vs : List Nat} {Q : Cell → Prop} (h : WE p ρ tl fun x => ∃ z : Str, x = .str z ∧ z.length ≤ 4000000 ∧ ∃ I : Nat → List D → Prop, I 0 [] ∧
    (∀ k c acc, z.cps[k]? = some c → I k acc → acc.length ≤ k → WGp p vs (wipeR ρ vs) g (.str ⟨#[c]⟩) fun ρ2 => WT p ρ2 tt fun b => if b = true then WE p ρ2 te fun y => I (k + 1) (acc ++ [y]) else I (k + 1) acc) ∧ ∀ acc, I z.length acc → Q (.ol acc)) :
    WF p ρ (tLc (iStr tl) g tt te vs) Q := fun G σ H hh Qv kk =>
  h G σ H hh _ fun x v G1 H1 ⟨z, e, hz, I, h0, hs, hd⟩ s1 r1 => by
    subst e
    rw [rp_str' r1]
    have hh1 := hh.step s1
    have hzz : z.length = z.cps.size := rfl
    refine ⟨z, rfl, fun Dl hn => ?_⟩
    refine ⟨fun k m H' => m = z.cps.size - k ∧ k ≤ z.cps.size ∧ Lc p G1 H1 Dl I k H', ⟨z.cps.size, by simp, Nat.zero_le _, lc_start hh1 hn h0⟩, ?_⟩
    rintro k m H' ⟨rfl, hk, L⟩
    by_cases hlt : k < z.cps.size
    · refine .inr ⟨hlt, Lc p G1 H1 Dl I (k + 1), fun H2 q => ⟨z.cps.size - (k + 1), by omega, rfl, hlt, q⟩, fun x H2 y => ?_⟩
      obtain ⟨eH, c, hc, ev⟩ := y
      subst eH ev
      exact lc_turn hh1 hn (by omega) L (fun G' s => ⟨G', (hh1.step s).mem.refl, .str _⟩) fun acc hi hle => hs k c acc hc hi hle
    · have ek : k = z.cps.size := by omega
      subst ek
      obtain ⟨acc, av, G', hi, _, s, e, ow, r⟩ := L
      exact .inl ⟨Nat.le_refl _, kk _ Dl G' H' (hd acc hi) rfl (s1.trans s) (hh.mem.back s1 hn) ⟨Dl, av, rfl, ow, e, r⟩⟩
end
end Cal
set_option Elab.async false
set_option linter.all false
set_option maxRecDepth 100000
set_option maxHeartbeats 4000000
namespace Cal
open PySem PySem.Spec L2 PyProof.Rows
open Evl (Ex sq_of st_of)
section
variable {p : Par} {ρ : Rho} {te : TE} {tt : TT} {g : TG}
/-- [.. for i, x in enumerate(list) ..] -/
theorem wf_lcEnum {ta : TA} {vs : List Nat} {Q : Cell → Prop} (h : WA p ρ ta fun ds => ∃ xs, ds = [.lst xs] ∧ xs.length ≤ 4000000 ∧ ∃ I : Nat → List D → Prop, I 0 [] ∧
    (∀ k x acc, xs[k]? = some x → I k acc → acc.length ≤ k → WGp p vs (wipeR ρ vs) g (.tup [.int (k : Int), x]) fun ρ2 => WT p ρ2 tt fun b => if b = true then WE p ρ2 te fun y => I (k + 1) (acc ++ [y]) else I (k + 1) acc) ∧ ∀ acc, I xs.length acc → Q (.ol acc)) :
    WF p ρ (tLc (iEnum p.K ta) g tt te vs) Q := fun G σ H hh Qv kk =>
  h G σ H hh _ fun ds vv G1 H1 ⟨xs, e, hz, I, h0, hs, hd⟩ s1 r1 => by
    have hh1 := hh.step s1
    subst e
    cases r1 with
    | cons r rn =>
    cases rn
    obtain ⟨a, us, ev, hq, hl⟩ := r.lst_inv
    subst ev
    have n1 := hl.length
    have sq : ∀ {H' : Hp} {Dl : Addr} {k : Nat}, Lc p G1 H1 Dl I k H' → SqL p.K H' a us := fun {H'} {Dl} {k} L => by
      obtain ⟨acc, av, G', _, _, s, _⟩ := L
      exact lq s.sub (s.ex _ _ hq)
    refine ⟨a, us, rfl, lq hh1.mem.sub hq, fun Dl hn => lc_any (n := us.length) (Lc p G1 H1 Dl I) (lc_start hh1 hn h0) (fun k H' hk L => ?_) (fun H' L => ?_) (fun k v H' H2 hk L hy => ?_) fun H' L => ?_⟩
    · exact ⟨us, us[k], sq L, List.getElem?_eq_getElem hk⟩
    · exact ⟨us, sq L, Nat.le_refl _⟩
    · have q1 := sq L
      obtain ⟨T, x', e1, hT, e2, hx⟩ := hy
      subst e1 e2
      obtain ⟨dx, hx1, hx2⟩ := hl.get' (hx us q1)
      refine lc_turn hh1 hn (by omega) (lc_grow hh1 L hT) (fun G' s => ?_) fun acc hi hle => hs k dx acc hx1 hi hle
      obtain ⟨G2, s2, hq2⟩ := Mem.learn (p := p) (hh1.step s).mem upd_same
      exact ⟨G2, s2, .tup hq2 (.cons (.int _) (.cons (rmono hx2 (ex_tr s.ex s2.ex)) .nil))⟩
    · obtain ⟨acc, av, G', hi, _, s, e, ow, r⟩ := L
      rw [n1] at hi
      exact kk _ Dl G' H' (hd acc hi) rfl (s1.trans s) (hh.mem.back s1 hn) ⟨Dl, av, rfl, ow, e, r⟩
end
end Cal
set_option Elab.async false
set_option linter.all false
set_option maxRecDepth 100000
set_option maxHeartbeats 4000000
namespace Cal
open PySem L2 PyProof.Rows
open Evl (Ex sq_of st_of)
/-- a < b of tuples of ints: the first place where they differ -/
def firstS (ns ms : List Int) : Bool := SeqAt.firstLt (fun j => decide (ns.getD j 0 = ms.getD j 0)) (fun j => decide (ns.getD j 0 < ms.getD j 0)) (decide (ns.length < ms.length)) (List.range (min ns.length ms.length))
/-- < of tuples of ints -/
def rLtT (K : PySem.W.Frag) : R2 := fun x y H Q => ∃ (a b : Addr) (ns ms : List Int), x = .ref a ∧ y = .ref b ∧ SqT K H a (ns.map V.int) ∧ SqT K H b (ms.map V.int) ∧ Q (.bl (firstS ns ms)) H
theorem op_ltT {X : Cx} (hu : X.A.units < cLine) : OpR X (compareOp .Lt) (rLtT X.K) := by
  rintro pins s σ H x y v u Q I rx ry ⟨a, b, ns, ms, rfl, rfl, ha, hb, q⟩
  cases rx; cases ry
  rcases I.tuple ha with ⟨vs, rv, ta, _⟩
  rcases I.tuple hb with ⟨ws, rw', tb, _⟩
  have iv := Vals.ints rv
  have iw := Vals.ints rw'
  have lv : vs.toArray.size = ns.length := (List.size_toArray).trans iv.length
  have lw : ws.toArray.size = ms.length := (List.size_toArray).trans iw.length
  have le := SeqAt.RcLt.tuples (e := fun j => decide (ns.getD j 0 = ms.getD j 0)) (r := fun j => decide (ns.getD j 0 < ms.getD j 0)) ta tb hu
    (fun j h1 h2 => by
      rcases arr_int iv h1 with ⟨t, e1⟩
      rcases arr_int iw h2 with ⟨t', e2⟩
      rw [e1, e2]; exact eq_ints _ _ _ _)
    (fun j h1 h2 _ => by
      rcases arr_int iv h1 with ⟨t, e1⟩
      rcases arr_int iw h2 with ⟨t', e2⟩
      rw [e1, e2]; exact fun _ _ _ _ h => lt_int h)
  rw [lv, lw] at le
  exact (le X.prog X.w X.xe (EP X pins σ Q) ⟨.bl _, H, I, rfl, q⟩ : wpAny (model X.prog X.w) X.A (compareOp .Lt (.ref a) (.ref b)) (EP X pins σ Q) X.xe s)
theorem op_ltTK {X : Cx} {K0 : PySem.W.Frag} (hK : X.K = K0) (hu : X.A.units < cLine) : OpR X (compareOp .Lt) (rLtT K0) := hK ▸ op_ltT hu
/-- join, also within a comprehension -/
theorem pe_joinK {X : Cx} {K0 : PySem.W.Frag} {o e : Expr} {to te : TE} {apos pos : Pos} (hK : X.K = K0) (ho : PE X o to) (he : PE X e te) (hs : starEach [e] X.env = [(false, eval e X.env)] := by rfl) (hbase : attributeBase o "join" X.env (eval o X.env) = eval o X.env := by rfl) (hline : (apos.endLine == pos.line) = true := by rfl) :
    PE X (.Call (.Attribute o "join" apos) [e] [] pos) (tM1 (rJoin K0) to te) := by
  subst hK
  exact pe_join ho he hs hbase hline
section
variable {p : Par} {ρ : Rho} {Q : D → Prop} {ta tb : TE}
theorem we_ltT (h : WE p ρ ta fun x => ∃ ns : List Int, x = .tup (ns.map D.int) ∧ WE p ρ tb fun y => ∃ ms : List Int, y = .tup (ms.map D.int) ∧ Q (.bl (firstS ns ms))) : WE p ρ (tOp (rLtT p.K) ta tb) Q := fun G σ H hh Qv k =>
  h G σ H hh _ fun x v G1 H1 ⟨ns, e1, h2⟩ s1 r1 => h2 G1 σ H1 (hh.step s1) _ fun y w G2 H2 ⟨ms, e2, q⟩ s2 r2 => by
    subst e1 e2
    obtain ⟨a, us, ev, hs, hl⟩ := r1.tup_inv
    obtain ⟨b, ws, ew, ht, hm⟩ := r2.tup_inv
    subst ev ew
    have hh2 := (hh.step s1).step s2
    have h3 : SqT p.K H2 a us := tqT (fun b o z => hh2.mem.sub _ _ (s2.ex _ _ z)) hs
    have h4 : SqT p.K H2 b ws := tqT hh2.mem.sub ht
    rw [hl.ints] at h3
    rw [hm.ints] at h4
    exact ⟨a, b, ns, ms, rfl, rfl, h3, h4, k _ _ G2 H2 q (s1.trans s2) (.bl _)⟩
theorem firstS_pair {a b c d : Int} (h : a < c ∨ (a = c ∧ b < d)) : firstS [a, b] [c, d] = true := by
  unfold firstS
  show SeqAt.firstLt _ _ _ [0, 1] = true
  unfold SeqAt.firstLt SeqAt.firstLt SeqAt.firstLt
  simp only [List.getD_cons_zero, List.getD_cons_succ, decide_eq_true_eq]
  rcases h with h | ⟨h1, h2⟩
  · rw [if_neg (by omega)]; exact decide_eq_true h
  · rw [if_pos h1, if_neg (by omega)]; exact decide_eq_true h2
end
end Cal
set_option Elab.async false
set_option linter.all false
set_option maxRecDepth 100000
set_option maxHeartbeats 4000000
namespace Cal
open PySem PySem.Spec L2 PyProof.Rows
open Evl (Ex sq_of st_of)
/-! ### sorted(set), the set one of pairs of ints -/
/-- the pair that stands at an address, as the list tells -/
def pairL (L : List (Addr × List Int)) : Value → Int × Int
  | .ref b => match L.find? (fun q => q.1 == b) with
    | some q => (q.2.getD 0 0, q.2.getD 1 0)
    | none => (0, 0)
  | _ => (0, 0)
theorem pairL_at {L : List (Addr × List Int)} {p : Addr × List Int} (hp : p ∈ L) (one : ∀ q ∈ L, q.1 = p.1 → q.2 = p.2) : pairL L (.ref p.1) = (p.2.getD 0 0, p.2.getD 1 0) := by
  unfold pairL
  cases h : L.find? (fun q => q.1 == p.1) with
  | none => exact absurd (List.find?_eq_none.mp h p hp) (by simp)
  | some q =>
    have e : q.1 = p.1 := by simpa using List.find?_some h
    dsimp only
    rw [h]
    show (q.2.getD 0 0, q.2.getD 1 0) = _
    rw [one q (List.mem_of_find?_eq_some h) e]
def rSortedTP (K : PySem.W.Frag) (P : Program) (w : World) : List V → Hp → VK → Prop := fun vs H Q => ∃ (a : Addr) (L : List (Addr × List Int)), vs = [V.ref a] ∧ H a = some (SetTO P w a L) ∧ (∀ p ∈ L, p.2.length = 2 ∧ SqT K H p.1 (p.2.map V.int)) ∧
  ∀ p (bs : List Addr), H p = none → (bs.map Value.ref).Perm (L.map fun q => Value.ref q.1) → (bs.map Value.ref).Pairwise (fun x y => SrtO.lexB (pairL L y) (pairL L x) = false) → (L.map (·.2)).Nodup → Q (.ref p) (upd H p (.lst (bs.map V.ref)))
theorem pair_of {h : Heap} {x y : Int} {v : Value} (t : TS.TupInts h v [x, y]) : Srt.IsPair h v x y := by
  obtain ⟨a, xs, e, ⟨o, ho, hc, n, hd⟩, hi⟩ := t
  obtain ⟨l⟩ := xs
  cases hi with
  | cons _ t1 h1 =>
    cases h1 with
    | cons _ t2 h2 =>
      cases h2
      exact ⟨a, o, t1, t2, n, e, ho, hc, hd⟩
theorem shared_of {s s1 : Shared} (o : s1.os = s.os) (hp : Heap) : ({ s1 with heap := hp } : Shared) = { s with heap := hp, gens := s1.gens, drawn := s1.drawn, toks := s1.toks } := by
  cases s1
  cases s
  cases o
  rfl
theorem cr_sortedTP {X : Cx} (hcalm : X.calm = true) : CallR X (.builtin "sorted") (rSortedTP X.K X.prog X.w) := by
  intro pins s σ H xs us Q I r h
  obtain ⟨a, L, rfl, ha, hk, q⟩ := h
  have R0 : SetT0 X.prog X.w s.heap a L := (I.hok a _ ha).1
  obtain ⟨es, ep, t, R⟩ := R0.full fun p hp => I.isT (hk p hp).2
  rw [Vals.ref1 r]
  obtain ⟨o, ho, hex, hd⟩ := R.ob
  have hsz := R.size
  have hfew := R.few
  refine Calls.call_function_entry PyProof.Rows.kind_sorted PyProof.Rows.plain_sorted PyProof.Rows.entry_sorted (PyProof.Rows.args_sorted1 _) ?_
  unfold Builtin.«sorted»
  refine wpAny_bind (m := checkCount "sorted" 1 1 _) (wpAny_pure ?_)
  refine wpAny_bind (collect_set (A := X.A.in1) (I.ok.hd hcalm) ⟨o, ho, hex.1, hd⟩ R.fits (by unfold scanBound; omega) R.tab.ris R.led fun s1 vs k1 hz g1 o1 pm => ?_)
  have hes : es.toList.map (·.2) = L.map fun q => Value.ref q.1 := by
    rw [R.rows]
    unfold rowsOf
    rw [List.map_map] <;> rfl
  rw [hes] at pm
  have hvl : vs.length < 64 := by rw [pm.length_eq, List.length_map]; exact hfew
  have hz2 : vs.length ≤ sizeLine := by rw [sizeLine_eq]; omega
  have one : ∀ p ∈ L, ∀ z ∈ L, z.1 = p.1 → z.2 = p.2 := fun p hp z hz3 e => by
    have a1 := R.tup z hz3
    have a2 := R.tup p hp
    rw [e] at a1
    exact a1.inj a2
  refine wpAny_bind (wpAny_newList ?_ hz2)
  have hoL : (s1.heap.push (seqObj "list" vs.toArray 0)).get? s1.heap.objs.size = some (seqObj "list" vs.toArray 0) := Heap.get?_push_size _ rfl
  have pairs : ∀ v ∈ vs, Srt.IsPair (s1.heap.push (seqObj "list" vs.toArray 0)) v (pairL L v).1 (pairL L v).2 := fun v hv => by
    obtain ⟨p, hp, e⟩ := List.mem_map.mp (pm.mem_iff.mp hv)
    subst e
    rw [pairL_at hp (one p hp)]
    have tk := tupInts_of (P := X.prog) (w := X.w) (isT_keep (h' := s1.heap.push (seqObj "list" vs.toArray 0)) (R.tup p hp) fun b u e => Heap.get?_push_of_some _ (k1 b u e))
    have hl := (hk p hp).1
    match hp2 : p.2, hl with
    | [x, y], _ =>
      rw [hp2] at tk
      exact pair_of tk
  refine wpAny_bind (wpAny_holding (wpAny_call_entry PyProof.Rows.slot_list_sort ⟨_, hoL, rfl⟩ PyProof.Rows.entry_list_sort
    (SrtO.list_sort_ord (s := { s1 with heap := s1.heap.push (seqObj "list" vs.toArray 0) }) (SrtO.swo_lex (pairL L)) hoL hz2 (fun h2 => SrtO.pairs_sortableO (by omega) pairs fun o e => ?_) fun out hso2 hb => ⟨_, rfl, ?_⟩) (PyProof.Rows.args_list_sort _)))
  · have e' : some o = some (seqObj "list" vs.toArray 0) := e.symm.trans hoL
    cases e'
    intro c
    exact absurd (Value.type.inj c) (by decide)
  · have pO : out.Perm (L.map fun q => Value.ref q.1) := hb.perm.trans pm
    obtain ⟨bs, eb⟩ : ∃ bs : List Addr, out = bs.map Value.ref := by
      have all : ∀ l : List Value, (∀ v ∈ l, ∃ b, v = Value.ref b) → ∃ bs : List Addr, l = bs.map Value.ref := by
        intro l
        induction l with
        | nil => intro _; exact ⟨[], rfl⟩
        | cons v l ih =>
          intro hv
          obtain ⟨b, e⟩ := hv v (List.mem_cons_self ..)
          obtain ⟨bs, e2⟩ := ih fun u hu => hv u (List.mem_cons_of_mem _ hu)
          exact ⟨b :: bs, by rw [List.map_cons, ← e, ← e2]⟩
      refine all out fun v hv => ?_
      obtain ⟨p, _, e⟩ := List.mem_map.mp (pO.mem_iff.mp hv)
      exact ⟨p.1, e.symm⟩
    subst eb
    have hlen : (bs.map V.ref).length ≤ sizeLine := by
      have h1 := pO.length_eq
      rw [List.length_map, List.length_map] at h1
      rw [List.length_map, sizeLine_eq]
      omega
    obtain ⟨c, hc⟩ := PyProof.Rows.sortedHeap_at (vs := vs) (out := (bs.map Value.ref).toArray) hoL
    have hn : H s1.heap.objs.size = none := I.hok.fresh hz
    have kp : ∀ b u, s.heap.get? b = some u → (PyProof.Rows.sortedHeap (s1.heap.push (seqObj "list" vs.toArray 0)) s1.heap.objs.size vs (bs.map Value.ref).toArray).get? b = some u := fun b u e => by
      have e1 := k1 b u e
      have hlt := Heap.lt_size e1
      rw [PyProof.Rows.sortedHeap_old (Nat.ne_of_lt hlt) (by rw [size_push']; exact Nat.lt_succ_of_lt hlt)]
      exact Heap.get?_push_of_some _ e1
    have J : Inv X pins σ (upd H s1.heap.objs.size (.lst (bs.map V.ref))) { s with heap := PyProof.Rows.sortedHeap (s1.heap.push (seqObj "list" vs.toArray 0)) s1.heap.objs.size vs (bs.map Value.ref).toArray, gens := s1.gens, drawn := s1.drawn, toks := s1.toks } :=
      I.call (ch := []) (Un.laid kp hz hn) (I.hok.laid kp hz ⟨hlen, bs.map Value.ref, c, vals_refs _, hc⟩) (by rw [g1]; exact I.bare) (fun _ z => nomatch z)
    rw [← shared_of o1] at J
    exact wpAny_pure ⟨_, rfl, .ref s1.heap.objs.size, _, J, rfl, q _ bs hn pO hso2 R.nd⟩
end Cal
set_option Elab.async false
set_option linter.all false
set_option maxRecDepth 100000
set_option maxHeartbeats 4000000
namespace Cal
open PySem PySem.Spec L2 PyProof.Rows
open Evl (Ex sq_of st_of)
/-! ### sorted(set(list of pairs of ints)) -/
/-- a pair of ints -/
def prD (q : Int × Int) : D := .tup [.int q.1, .int q.2]
/-- the tuples' order, strictly -/
def lexS (a b : Int × Int) : Prop := a.1 < b.1 ∨ (a.1 = b.1 ∧ a.2 < b.2)
theorem cr_setOfTK {X : Cx} {K0 : PySem.W.Frag} {P0 : Program} {w0 : World} (hK : X.K = K0) (hP : X.prog = P0) (hw : X.w = w0) (hc : X.calm = true) (hu : X.A.units + 64 < cLine) : CallR X (.type "set") (rSetOfT K0 P0 w0) := by
  subst hK hP hw
  exact cr_setOfT hc hu
theorem cr_sortedTPK {X : Cx} {K0 : PySem.W.Frag} {P0 : Program} {w0 : World} (hK : X.K = K0) (hP : X.prog = P0) (hw : X.w = w0) (hc : X.calm = true) : CallR X (.builtin "sorted") (rSortedTP K0 P0 w0) := by
  subst hK hP hw
  exact cr_sortedTP hc
theorem length_sub {α : Type} [DecidableEq α] : ∀ {l m : List α}, l.Nodup → (∀ x ∈ l, x ∈ m) → l.length ≤ m.length
  | [], _, _, _ => Nat.zero_le _
  | a :: l, m, n, h => by
    obtain ⟨n1, n2⟩ := List.nodup_cons.mp n
    have ha := h a (List.mem_cons_self ..)
    have ih := length_sub (l := l) (m := m.erase a) n2 fun x hx => (List.mem_erase_of_ne (fun e => n1 (by rw [← e]; exact hx))).mpr (h x (List.mem_cons_of_mem _ hx))
    rw [List.length_erase_of_mem ha] at ih
    have := List.length_pos_iff.mpr (List.ne_nil_of_mem ha)
    rw [List.length_cons]
    omega
theorem lexS_ne {a b : Int × Int} (h : lexS a b) : a ≠ b := fun e => by
  subst e
  unfold lexS at h
  omega
section
variable {p : Par} {ρ : Rho} {te : TE}
theorem sqt_pr {K : PySem.W.Frag} {h : Hnd} {G H : Hp} {b : Addr} {q : Int × Int} (e : Ex G H) (r : Rp K h G (.ref b) (prD q)) : SqT K H b ([q.1, q.2].map V.int) := by
  have r' : Rp K h G (.ref b) (.tup ([q.1, q.2].map D.int)) := r
  obtain ⟨a, vs, ev, hs, hl⟩ := r'.tup_inv
  cases ev
  rw [hl.ints] at hs
  exact tqT e hs
theorem tp_inj {G : Hp} {a : Addr} {v1 v2 : List V} {d1 d2 : List D} (t1 : Tp G a v1 d1) (t2 : Tp G a v2 d2) : v1 = v2 := by
  rcases t1 with h1 | ⟨⟨o1, h1⟩, _⟩ <;> rcases t2 with h2 | ⟨⟨o2, h2⟩, _⟩ <;> rw [h1] at h2 <;> cases h2 <;> rfl
theorem ks_of {K : PySem.W.Frag} {h : Hnd} {G : Hp} : ∀ {qs : List (Int × Int)} {us : List V}, RpL K h G us (qs.map prD) → ∃ ks : List (Addr × List Int), us = ks.map (fun z => V.ref z.1) ∧ ks.map (·.2) = qs.map (fun q => [q.1, q.2]) ∧ ∀ z ∈ ks, ∃ q ∈ qs, z.2 = [q.1, q.2] ∧ Rp K h G (.ref z.1) (prD q)
  | [], us, r => by
    cases r
    exact ⟨[], rfl, rfl, fun z hz => nomatch hz⟩
  | q :: qs, us, r => by
    cases r with
    | @cons v _ us _ r1 r2 =>
      have r' : Rp K h G v (.tup ([q.1, q.2].map D.int)) := r1
      obtain ⟨a, vs, ev, hs, hl⟩ := r'.tup_inv
      subst ev
      obtain ⟨ks, e1, e2, e3⟩ := ks_of r2
      refine ⟨(a, [q.1, q.2]) :: ks, by rw [List.map_cons, e1], by rw [List.map_cons, List.map_cons, e2], fun z hz => ?_⟩
      rcases List.mem_cons.mp hz with e | hz
      · subst e
        exact ⟨q, List.mem_cons_self .., rfl, r1⟩
      · obtain ⟨q', m, e, r⟩ := e3 z hz
        exact ⟨q', List.mem_cons_of_mem _ m, e, r⟩
theorem rpl_of {K : PySem.W.Frag} {h : Hnd} {G : Hp} {f : Addr → Int × Int} : ∀ {bs : List Addr}, (∀ b ∈ bs, Rp K h G (.ref b) (prD (f b))) → RpL K h G (bs.map V.ref) ((bs.map f).map prD)
  | [], _ => .nil
  | b :: bs, hb => .cons (hb b (List.mem_cons_self ..)) (rpl_of fun c hc => hb c (List.mem_cons_of_mem _ hc))
theorem wf_sortedSet {P : Program} {w : World} {Q : Cell → Prop} (h : WE p ρ te fun x => ∃ qs : List (Int × Int), x = .lst (qs.map prD) ∧ qs.length < 64 ∧ ∀ zs : List (Int × Int), (∀ z, z ∈ zs ↔ z ∈ qs) → zs.Pairwise lexS → Q (.ol (zs.map prD))) :
    WF p ρ (tCB (rSortedTP p.K P w) (tCons (tCB (rSetOfT p.K P w) (tCons te tNil)) tNil)) Q := fun G σ H hh Qv kk =>
  h G σ H hh _ fun x v G1 H1 ⟨qs, ex, hlen, q⟩ s r => by
    subst ex
    have hh1 := hh.step s
    obtain ⟨a, us, ev, hs, hr⟩ := r.lst_inv
    subst ev
    obtain ⟨ks, e1, e2, e3⟩ := ks_of hr
    subst e1
    have lk : ks.length = qs.length := by have := congrArg List.length e2; rwa [List.length_map, List.length_map] at this
    refine ⟨a, ks, rfl, lq hh1.mem.sub hs, fun z hz => ?_, by omega, fun b L hb m1 m2 => ?_⟩
    · obtain ⟨q', _, e, r⟩ := e3 z hz
      rw [e]
      exact sqt_pr hh1.mem.sub r
    have g1 := hh1.mem.growO (o := SetTO P w b L) hb
    have hh2 := hh1.step g1
    refine ⟨b, L, rfl, upd_same, fun z hz => ?_, fun d bs hd pm pw nd => ?_⟩
    · obtain ⟨q', _, e, r⟩ := e3 z (m1 z hz)
      rw [e]
      exact ⟨rfl, sqt_pr hh2.mem.sub r⟩
    have m3 := hh2.mem
    -- an address has one pair
    have one : ∀ z ∈ L, ∀ y ∈ L, y.1 = z.1 → y.2 = z.2 := fun z hz y hy e => by
      obtain ⟨q1, _, ez, r1⟩ := e3 z (m1 z hz)
      obtain ⟨q2, _, ey, r2⟩ := e3 y (m1 y hy)
      rw [e] at r2
      have r1' : Rp p.K p.h G1 (.ref z.1) (.tup ([q1.1, q1.2].map D.int)) := r1
      have r2' : Rp p.K p.h G1 (.ref z.1) (.tup ([q2.1, q2.2].map D.int)) := r2
      obtain ⟨a1, v1, w1, t1, l1⟩ := r1'.tup_inv
      obtain ⟨a2, v2, w2, t2, l2⟩ := r2'.tup_inv
      cases w1
      cases w2
      have ev := (l1.ints.symm.trans (tp_inj t1 t2)).trans l2.ints
      obtain ⟨x1, x2⟩ := List.cons.inj ev
      have y1 := V.int.inj x1
      have y2 := V.int.inj (List.cons.inj x2).1
      rw [ez, ey, y1, y2]
    have at_ : ∀ c ∈ bs, ∃ z ∈ L, z.1 = c ∧ ∃ q' ∈ qs, z.2 = [q'.1, q'.2] ∧ pairL L (.ref c) = q' ∧ Rp p.K p.h G1 (.ref c) (prD q') := fun c hc => by
      obtain ⟨z, hz, e⟩ := List.mem_map.mp (pm.mem_iff.mp (List.mem_map.mpr ⟨c, hc, rfl⟩))
      cases e
      obtain ⟨q', hq, ez, r⟩ := e3 z (m1 z hz)
      refine ⟨z, hz, rfl, q', hq, ez, ?_, r⟩
      rw [pairL_at hz (one z hz), ez]
      rfl
    have fin := q (bs.map fun c => pairL L (.ref c)) (fun z => ⟨fun hz => ?m1, fun hz => ?m2⟩) ?m3
    case m1 =>
      obtain ⟨c, hc, e⟩ := List.mem_map.mp hz
      obtain ⟨_, _, _, q', hq, _, e4, _⟩ := at_ c hc
      rw [← e, e4]
      exact hq
    case m2 =>
      have h1 : [z.1, z.2] ∈ ks.map (·.2) := by rw [e2]; exact List.mem_map.mpr ⟨z, hz, rfl⟩
      obtain ⟨k, hk, ek⟩ := List.mem_map.mp h1
      obtain ⟨y, hy, ey⟩ := List.mem_map.mp (m2 k hk)
      obtain ⟨c, hc, ec⟩ := List.mem_map.mp (pm.mem_iff.mpr (List.mem_map.mpr ⟨y, hy, rfl⟩))
      cases ec
      refine List.mem_map.mpr ⟨y.1, hc, ?_⟩
      rw [pairL_at hy (one y hy), ey, ek]
      rfl
    case m3 =>
      have nz : ((L.map fun z => Value.ref z.1).map (pairL L)).Nodup := by
        rw [List.map_map]
        refine List.pairwise_map.mpr (List.Pairwise.imp_of_mem (fun {z y} hz hy hne e => hne ?_) (List.pairwise_map.mp nd))
        have e' : pairL L (.ref z.1) = pairL L (.ref y.1) := e
        rw [pairL_at hz (one z hz), pairL_at hy (one y hy)] at e'
        obtain ⟨q1, _, ez, _⟩ := e3 z (m1 z hz)
        obtain ⟨q2, _, ey, _⟩ := e3 y (m1 y hy)
        rw [ez, ey] at e' ⊢
        have a1 : q1.1 = q2.1 := congrArg Prod.fst e'
        have a2 : q1.2 = q2.2 := congrArg Prod.snd e'
        rw [a1, a2]
      have n2 : ((bs.map Value.ref).map (pairL L)).Nodup := (pm.map (pairL L)).nodup_iff.mpr nz
      have n3 := List.pairwise_map.mp (List.pairwise_map.mp n2)
      refine List.pairwise_map.mpr ((n3.and (List.pairwise_map.mp pw)).imp fun {x y} hxy => ?_)
      obtain ⟨ne, hx⟩ := hxy
      have b1 := SrtO.lexB_no.mp hx
      have b2 : ¬ ((pairL L (.ref x)).1 = (pairL L (.ref y)).1 ∧ (pairL L (.ref x)).2 = (pairL L (.ref y)).2) := fun z => ne (Prod.ext z.1 z.2)
      unfold lexS
      omega
    have rl := rpl_of (bs := bs) (f := fun c => pairL L (.ref c)) fun c hc => by
      obtain ⟨_, _, _, q', _, _, e4, r⟩ := at_ c hc
      rw [e4]
      exact r
    exact kk _ d G1 _ fin rfl ((s.trans g1).trans (m3.growO hd)) (hh.mem.back (s.trans g1) hd) ⟨d, _, rfl, m3.fresh hd, upd_same, rl⟩
end
end Cal
set_option Elab.async false
set_option linter.all false
set_option maxRecDepth 100000
set_option maxHeartbeats 4000000
namespace Cal
open PySem PySem.Spec L2 PyProof.Rows
open Evl (Ex sq_of st_of)
section
variable {p : Par} {ρ : Rho} {P : Post} {ts : TS}
/-- for x in l: .., l slot i's own; meanwhile nothing is known of slot i, and behind it's as it was -/
theorem ws_forO (i : Nat) {g : TG} {xs : List D} (e : ρ[i]? = some (some (.ol xs))) (I : Nat → Rho → Prop) (hl : ∀ k ρ', I k ρ' → ρ'.length = ρ.length) (h0 : I 0 (ρ.set i none))
    (hs : ∀ (k : Nat) (x : D) (c : Cell) (ρ' : Rho), xs[k]? = some x → I k ρ' → WG p (ρ'.set i (some c)) g x fun ρ2 => WS p ρ2 ts ⟨fun ρ3 => ρ3[i]? = some (some c) ∧ I (k + 1) (ρ3.set i none), P.r, fun _ => False, fun ρ3 => ρ3[i]? = some (some c) ∧ I (k + 1) (ρ3.set i none)⟩)
    (hd : ∀ ρ', I xs.length ρ' → P.n (ρ'.set i (some (.ol xs)))) : WS p ρ (tFor (iList p.K (tVar i)) g ts) P := fun G σ H hh E kn kr kb kc => by
  obtain ⟨sv, h1, a, vs, h2, ow, h4, h5⟩ := hh.slot i _ e
  subst h2
  have hi : i < ρ.length := (List.getElem?_eq_some_iff.mp e).1
  have hsg : σ.set i (some (.ref a)) = σ := by
    refine List.ext_getElem? fun j => ?_
    by_cases hj : i = j
    · subst hj
      rw [List.getElem?_set_self (List.getElem?_eq_some_iff.mp h1).1, h1]
    · rw [List.getElem?_set_ne hj]
  have start : Hold p (ρ.set i (some (.rw a (.lst vs)))) G σ H := by
    have z := hh.setO (i := i) (c := .rw a (.lst vs)) (show Slot p G H (some (.ref a)) (.rw a (.lst vs)) from ⟨rfl, ow, h4, NT.lst⟩) fun j c' ej oj sj => hh.sep j i c' _ a ej oj e rfl sj h1
    rw [hsg] at z
    exact z
  have key : ∀ (k : Nat) (ρ' : Rho) (G' : Hp) (σ' : L2.St) (H' : Hp), I k ρ' → Hold p (ρ'.set i (some (.rw a (.lst vs)))) G' σ' H' → H' a = some (.lst vs) ∧ σ'[i]? = some (some (.ref a)) ∧ Own p G' a := fun k ρ' G' σ' H' hi' hh' => by
    obtain ⟨sv, q1, q2, q3, q4, _⟩ := hh'.slot i (.rw a (.lst vs)) (by rw [List.getElem?_set_self (by rw [hl k ρ' hi']; exact hi)])
    subst q2
    exact ⟨q4, q1, q3⟩
  have back : ∀ {ρ3 : Rho}, ρ3[i]? = some (some (.rw a (.lst vs))) → (ρ3.set i none).set i (some (.rw a (.lst vs))) = ρ3 := fun {ρ3} q => by
    rw [set_set]
    refine List.ext_getElem? fun j => ?_
    by_cases hj : i = j
    · subst hj
      rw [List.getElem?_set_self (List.getElem?_eq_some_iff.mp q).1, q]
    · rw [List.getElem?_set_ne hj]
  refine ⟨.ref a, h1, a, rfl, ⟨vs, sq_of h4⟩, for_list (xs := vs) (fun k σ' H' => ∃ ρ' G', I k ρ' ∧ Ex G G' ∧ Hold p (ρ'.set i (some (.rw a (.lst vs)))) G' σ' H') ⟨ρ.set i none, G, h0, Ex.rfl', by rw [set_set]; exact start⟩
    (fun k σ' H' _ ⟨ρ', G', hi', e, hh'⟩ => sq_of (key k ρ' G' σ' H' hi' hh').1) (fun k x σ' H' hk ⟨ρ', G', hi', e2, hh'⟩ => ?_) fun σ' H' ⟨ρ', G', hi', e2, hh'⟩ => ?_⟩
  · obtain ⟨d, hd1, hd2⟩ := h5.get' hk
    exact hs k d (.rw a (.lst vs)) ρ' hd1 hi' G' σ' H' _ hh' (rmono hd2 e2) _ fun ρ2 G2 σ2 H2 z e3 hh2 => z G2 σ2 H2 hh2 _
      (fun ρ3 G3 σ3 H3 ⟨q, z3⟩ e4 hh3 => ⟨ρ3.set i none, G3, z3, ex_tr (ex_tr e2 e3) e4, by rw [back q]; exact hh3⟩) kr (fun _ _ _ _ z _ _ => z.elim)
      (fun ρ3 G3 σ3 H3 ⟨q, z3⟩ e4 hh3 => ⟨ρ3.set i none, G3, z3, ex_tr (ex_tr e2 e3) e4, by rw [back q]; exact hh3⟩)
  · have hn : vs.length = xs.length := h5.length
    have hi2 := hi'
    rw [hn] at hi2
    obtain ⟨w1, w2, w3⟩ := key _ ρ' G' σ' H' hi' hh'
    refine kn _ G' σ' H' (hd ρ' hi2) e2 ?_
    have hlen : i < ρ'.length := by rw [hl _ ρ' hi']; exact hi
    have eq1 : (ρ'.set i (some (.rw a (.lst vs))))[i]? = some (some (.rw a (.lst vs))) := List.getElem?_set_self hlen
    have z := hh'.setO (i := i) (c := .ol xs) (show Slot p G' H' (some (.ref a)) (.ol xs) from ⟨a, vs, rfl, w3, w1, RpL.mono e2 _ _ h5⟩) fun j c' ej oj sj => hh'.sep j i c' _ a ej oj eq1 rfl sj w2
    rw [set_set] at z
    have hsg' : σ'.set i (some (.ref a)) = σ' := by
      refine List.ext_getElem? fun j => ?_
      by_cases hj : i = j
      · subst hj
        rw [List.getElem?_set_self (List.getElem?_eq_some_iff.mp w2).1, w2]
      · rw [List.getElem?_set_ne hj]
    rw [hsg'] at z
    exact z
end
end Cal
set_option Elab.async false
set_option linter.all false
set_option maxRecDepth 100000
set_option maxHeartbeats 4000000
namespace Cal
open PySem PySem.Spec L2 PyProof.Rows
open Evl (Ex sq_of st_of)
/-! ### a law whose caller has no repr under way -/
section
variable {P : Program} {w : World} {K : PySem.W.Frag} {mg mb : Str → Option Value} {base : Heap}
/-- what is promised of a def to callers that know that no repr is under way -/
structure FnG (P : Program) (w : World) (K : PySem.W.Frag) (mg : Str → Option Value) (base : Heap) (k : Nat) (f : Addr) (fd : FuncData) (ps : List Str) (sp : Sp) : Prop where
  many : ∀ xs H Q E, sp xs H Q E → xs.length = ps.length
  go : ∀ (A : Around), A.guards = some [] → ∀ (out : List Env) (s : Shared) (H : Hp) (gs : Args) (us : List Value) (xs : List V) (Q : VK) (E : XK), Room k A → sp xs H Q E → Vals xs us → BindsTo s fd gs (ps.zip us) → Env0 P w K mg base A out s H →
    codeAny (model P w) A (.call (.ref f) gs) (CR CX0 out P w H s Q E) s
theorem funG {x qual : Str} {st : Stmt} {f : Addr} {fd : FuncData} {N ps : List Str} {k : Nat} {sp : Sp} (F : Fun K x qual st f fd) (S : FnScope N ps (defScope st)) (many : ∀ xs H Q E, sp xs H Q E → xs.length = ps.length)
    (body : ∀ (cdv : Value) (A : Around) (out : List Env) (s : Shared) (H : Hp) (xs : List V) (Q : VK) (E : XK), A.guards = some [] → Room k (A.deeper (envOfC qual (defScope st) s.heap.objs.size f cdv)) → sp xs H Q E →
      ∃ t, PSs (cxOf CX0 P w K mg base N qual (defScope st) f cdv A out s H E).nox (defBody st) t ∧ t { nx := fun _ H' => Q .non H', rt := Q } (L2.start N xs) H) : FnG P w K mg base (k + 1) f fd ps sp := by
  obtain ⟨oc, od, kV, doc, pm, an, cdv, ct, osl, rfl, lk, code⟩ := F.ex
  constructor
  · exact many
  intro A hg out s H gs us xs Q E room promise vals binds around
  have same : xs.length = ps.length := many _ _ _ _ promise
  have inK : K.In s.heap := around.mod.kin.keeps fun b o z => (around.bs b o z).1
  have noLimit : s.heap.NoLimit := around.mod.nolimit.keeps fun b o z => (around.bs b o z).1
  have kinds : ∀ y ∈ ps.zip us, (defScope st).names.lookup y.1 = some .local ∨ ((defScope st).names.lookup y.1 = some .cell ∧ ((cellsFrom (s.heap.objs.size + 1) (defScope st).names []).lookup y.1).isSome = true) := by
    rintro ⟨n, v⟩ hy
    exact (S.par n (List.of_mem_zip hy).1).imp id fun z => ⟨z, PySem.W.cellsFrom_some _ _ _ (.inl z)⟩
  refine codeAny_call_function room.depth (inK _ _ lk) rfl S.co S.gen rfl (PySem.W.codeRec_of inK code) (binds _ _ _ _ (wpAny_newFunctionEnv_cells S.kind kinds fun env he s1 laid => ?_))
  subst he
  obtain ⟨t, reads, q⟩ := body cdv A out s H xs Q E hg (room.deeper _) promise
  have I0 : Inv (cxOf CX0 P w K mg base N qual (defScope st) f cdv A out s H E) [] (L2.start N xs) H s1 := inv_start S room.hd around same vals laid
  refine ⟨noLimit.keeps laid.toInCall.keep, codeAny_func (wpAny_mono (reads.nox.run [] s1 (L2.start N xs) H _ I0 q) ?_ fun e s2 z => z)⟩
  have ends : ∀ {σ2 : L2.St} {H2 : Hp} {v : V} {u : Value} {s2 : Shared}, Inv (cxOf CX0 P w K mg base N qual (defScope st) f cdv A out s H E) [] σ2 H2 s2 → RelV v u → Q v H2 → CE out P w H s Q u s2 :=
    fun J r z => ⟨_, _, J.os, J.bare, J.base, J.hok, r, z⟩
  rintro (_ | _ | _ | u) s2 z
  · obtain ⟨σ2, H2, J, z⟩ := z
    exact ends (v := V.non) (u := Value.none) J rfl z
  · exact z.elim fun _ z => z.elim fun _ z => z.2.elim
  · exact z.elim fun _ z => z.elim fun _ z => z.2.elim
  · obtain ⟨v, σ2, H2, J, r, z⟩ := z
    exact ends J r z
/-- the script's heap: nothing is tracked, or the script alone, held -/
theorem lawG {k : Nat} {fa a : Addr} {fd : FuncData} {x : Str} {sp : Sp} {s1 : Shared} {us : List Value} {ns : List Int} (hr : Room k callerA) (bnd : ∀ (s : Shared) (u : Value), BindsTo s fd ⟨[u], []⟩ [(x, u)])
    (F : ∀ base : Heap, K.In base → base.Ns mainGlobals mg → FnG P w K mg base k fa fd [x] sp) (promise : ∀ H : Hp, SqL K H a (ns.map V.int) → sp [.ref a] H (fun v _ => v = .bl true) fun _ _ _ => False)
    (inK : K.In s1.heap) (gl : s1.heap.Ns mainGlobals mg) (bl : s1.heap.Ns builtinsNs mb) (bb : ∀ y : Str, y ≠ "__name__" → mb y = bootBuiltins y) (nol : s1.heap.NoLimit) (gens : s1.gens = #[])
    (obj : s1.heap.get? a = some { cls := .type "list", data := .seq us.toArray }) (nums : IntsAre us ns) (few : ns.length ≤ sizeLine) :
    codeAny (model P w) callerA (.call (.ref fa) ⟨[.ref a], []⟩) (fun r s2 => r = .ok (.ret (.bool true)) ∧ OldK s1.heap s2.heap ∧ s2.os = s1.os ∧ AllBare s2.gens) s1 := by
  have vals := vals_ints nums
  -- what is asked of the heap that is begun with
  have run : ∀ H : Hp, SqL K H a (ns.map V.int) → HOk P w H s1.heap → (∀ b u, H b = some u → b = a ∧ K.lookup a = none ∧ ∃ o xs, u = .frz o (.lst xs)) →
      codeAny (model P w) callerA (.call (.ref fa) ⟨[.ref a], []⟩) (fun r s2 => r = .ok (.ret (.bool true)) ∧ OldK s1.heap s2.heap ∧ s2.os = s1.os ∧ AllBare s2.gens) s1 := fun H seq hok only => by
    have under : ∀ {b : Addr} {o : Obj}, s1.heap.get? b = some o → (b ≠ a ∨ K.lookup a ≠ none) → (hidT s1.heap H).get? b = some o := fun {b o} e n => hidT_get e (by
      cases q : H b with
      | none => rfl
      | some u =>
        obtain ⟨e1, e2, _⟩ := only b u q
        rcases n with n | n
        · exact absurd e1 n
        · exact absurd e2 n)
    have dicts : ∀ {b : Addr} {m : Str → Option Value}, s1.heap.Ns b m → (hidT s1.heap H).Ns b m := by
      rintro b m ⟨o, es, ep, e, d, r⟩
      refine ⟨o, es, ep, under e (.inl fun z => ?_), d, r⟩
      rw [z, obj] at e
      cases e
      cases (show Data.seq us.toArray _ = Data.dict es ep from d)
    have written : K.In (hidT s1.heap H) := fun b o e => under (inK b o e) (by
      by_cases hb : b = a
      · subst hb
        exact .inr (by rw [e]; simp)
      · exact .inl hb)
    have limit : (hidT s1.heap H).NoLimit := by
      obtain ⟨mc, h1, h2⟩ := nol
      exact ⟨mc, dicts h1, h2⟩
    have md : L2.Mod K mg (hidT s1.heap H) := ⟨written, dicts gl, ⟨mb, dicts bl, bb⟩, limit⟩
    have around : Env0 P w K mg (hidT s1.heap H) callerA [] s1 H := by
      refine ⟨rfl, md, fun b o z => of_hidT z, Nat.le_of_eq (hidT_size _ _), trivial, fun b z => ?_, hok, .of_eq gens⟩
      cases (show b ∈ ([] : List Addr) from z)
    refine codeAny_mono ((F _ written (dicts gl)).go callerA rfl [] s1 H ⟨[.ref a], []⟩ [.ref a] [.ref a] _ _ hr (promise H seq) (.cons rfl .nil) (bnd s1 (.ref a)) around) ?_
    rintro (e | _ | _ | _ | u) s2 z
    · exact (show False from z).elim
    · exact (show False from z).elim
    · exact (show False from z).elim
    · exact (show False from z).elim
    obtain ⟨v, H2, sys, bare, un, hok2, r, (ev : v = .bl true)⟩ := z
    subst ev
    obtain rfl : u = Value.bool true := r
    refine ⟨rfl, OldK.of_keep fun b o e => ?_, sys, bare⟩
    cases q : H b with
    | none => exact un.keep b o e q (fun z => by cases (show b ∈ ([] : List Addr) from z)) (by simp)
    | some u =>
      obtain ⟨_, _, ob, xs, rfl⟩ := only b u q
      have e1 := (hok b _ q).1
      have e2 := (hok2 b _ (un.frzs b ob _ q)).1
      rw [e] at e1
      cases e1
      exact e2
  by_cases hk : K.lookup a = none
  · refine run (upd (fun _ => none) a (.frz { cls := .type "list", data := .seq us.toArray } (.lst (ns.map V.int)))) (.inl (.inr ⟨_, upd_same⟩)) (fun b u z => ?_) fun b u z => ?_
    · by_cases hb : b = a
      · subst hb
        rw [upd_same] at z
        cases z
        exact ⟨obj, by rw [List.length_map]; exact few, us, _, vals, obj⟩
      · rw [upd_ne hb] at z
        cases z
    · by_cases hb : b = a
      · subst hb
        rw [upd_same] at z
        cases z
        exact ⟨rfl, hk, _, _, rfl⟩
      · rw [upd_ne hb] at z
        cases z
  · obtain ⟨o, ho⟩ := Option.ne_none_iff_exists'.mp hk
    have e := inK a o ho
    rw [obj] at e
    cases e
    refine run (fun _ => none) (.inr ⟨_, us.toArray, _, ho, rfl, rfl, rfl, by rw [List.size_toArray, nums.length]; exact few, by simpa using vals⟩) (fun b u z => by cases z) fun b u z => by cases z
end
theorem walkG {l : PySem.W.OpenLaw} {n k : Nat} {q : Program} {loose : List Str} {XP : (Str → Option Value) → Heap → Prop} {YP : World → Heap → Prop} {d : DefRec} {K : Params → PySem.W.Frag} {sp : World → Sp} {x : Str}
    (room : Room k callerA) (hn : l.most = some n) (fits : n ≤ sizeLine) (hdf : d.params.defaults = []) (hY : ∀ (w : World) (h : Heap), YP w h → (K w.params).In h)
    (F : ∀ (w : World) (mg : Str → Option Value) (fa : Addr) (h : Heap), (K w.params).In h → h.Ns mainGlobals mg → mg d.name = some (.ref fa) →
      ∃ fd : FuncData, (∀ (s : Shared) (u : Value), BindsTo s fd ⟨[u], []⟩ [(x, u)]) ∧ ∀ base : Heap, (K w.params).In base → base.Ns mainGlobals mg → FnG l.prog w (K w.params) mg base k fa fd [x] (sp w))
    (promise : ∀ (w : World) (H : Hp) (a : Addr) (ns : List Int), ns.length ≤ n → SqL (K w.params) H a (ns.map V.int) → sp w [.ref a] H (fun v _ => v = .bl true) fun _ _ _ => False) :
    PySem.W.WalkO q loose XP YP l.row.toRowW d [] (fun f vs => PySem.call f vs) := by
  refine Att.attach_call hn hdf ?_
  intro w s0 s1 mg mb fa o pm cd doc a us ns G Y _ _ _ nm obj nums few gens
  obtain ⟨fd, bnd, ok⟩ := F w mg fa s1.heap (hY w _ Y) G.T.g nm
  exact lawG room bnd ok (fun H sq => promise w H a ns few sq) (hY w _ Y) G.T.g G.T.b G.T.builtins G.T.nolimit gens obj nums (Nat.le_trans few fits)
/-! ### repr -/
def rRep (K : PySem.W.Frag) : List V → Hp → VK → Prop := fun xs H Q => ∃ v d, xs = [v] ∧ Dp K H v d ∧ d.showable = true ∧ d.depth ≤ 60 ∧ d.hasDict = false ∧ d.shown.length ≤ sizeLine ∧ Q (.str d.shown) H
theorem cr_repr {X : Cx} (hg : X.A.guards = some []) (hu : X.A.units + 64 < cLine) : CallR X (.builtin "repr") (rRep X.K) := by
  intro pins s σ H xs us Q I r h
  obtain ⟨v, d, rfl, dp, sh, dd, nd, sz, q⟩ := h
  cases r with
  | cons rv rn =>
    cases rn
    cases d with
    | none => cases dp; cases rv; exact PySem.P.repr_of_none ⟨.str _, H, I.tok _, ⟨_, rfl⟩, q⟩
    | bool b => cases dp; cases rv; exact PySem.P.repr_of_bool ⟨.str _, H, I.tok _, ⟨_, rfl⟩, q⟩
    | int i => cases dp; obtain ⟨t, rfl⟩ := rv; exact PySem.P.repr_of_int (of_decide_eq_true sh) ⟨.str _, H, I.tok _, ⟨_, rfl⟩, q⟩
    | str x => cases dp; obtain ⟨t, rfl⟩ := rv; exact PySem.P.repr_of_str ⟨.str _, H, I.tok _, ⟨_, rfl⟩, q⟩ sz
    | list ds =>
      obtain ⟨as, rd⟩ := Dp.reads I _ _ _ dp rv
      obtain ⟨a, rfl⟩ := isRef_of_reads rd rfl
      exact repr_of_reads' rd sh (PyData.noDict_hsm nd) hg (by omega) (fun _ _ e => e) (fun h' u tk hk => ⟨.str _, H, I.kept hk, ⟨_, rfl⟩, q⟩) sz
    | tuple ds =>
      obtain ⟨as, rd⟩ := Dp.reads I _ _ _ dp rv
      obtain ⟨a, rfl⟩ := isRef_of_reads rd rfl
      exact repr_of_reads' rd sh (PyData.noDict_hsm nd) hg (by omega) (fun _ _ e => e) (fun h' u tk hk => ⟨.str _, H, I.kept hk, ⟨_, rfl⟩, q⟩) sz
    | dict _ => cases nd
theorem cr_reprK {X : Cx} {K0 : PySem.W.Frag} (hK : X.K = K0) (hg : X.A.guards = some []) (hu : X.A.units + 64 < cLine) : CallR X (.builtin "repr") (rRep K0) := hK ▸ cr_repr hg hu
section
variable {p : Par} {ρ : Rho} {Q : D → Prop} {te : TE}
theorem we_repr (h : WE p ρ te fun x => Cmp x ∧ (toPy x).showable = true ∧ (toPy x).depth ≤ 60 ∧ (toPy x).hasDict = false ∧ (toPy x).shown.length ≤ sizeLine ∧ Q (.str (toPy x).shown)) : WE p ρ (tCB (rRep p.K) (tCons te tNil)) Q :=
  we_cb (wa_cons (h.imp fun x ⟨c, sh, dd, nd, sz, q⟩ => wa_nil fun G H vs m r Qv k => by
    cases r with
    | cons r rn =>
      cases rn
      exact ⟨_, _, rfl, dp_of m.sub x _ c r, sh, dd, nd, sz, k _ _ G H q m.refl (.str _)⟩))
end
end Cal
set_option Elab.async false
set_option linter.all false
set_option maxRecDepth 100000
set_option maxHeartbeats 4000000
namespace Cal
open PySem PySem.Spec L2 PyProof.Rows
open Evl (Ex sq_of st_of)
/-! ### the set of a tuple of tuples of ints -/
section
variable {P : Program} {w : World} {A : Around} {E : Value → Shared → Prop} {s : Shared}
theorem set_of_tuple {l : Addr} {us : Array Value} (ks : List (Addr × List Int)) {Q : Value → Shared → Prop} (calm : A.handled = none) (tup : s.heap.IsTuple l us) (same : us.toList = ks.map fun z => Value.ref z.1) (each : ∀ z ∈ ks, L2.IsT P w s.heap z.2 z.1)
    (few : ks.length < 64) (room : A.units + 3 < cLine) (q : ∀ (g : Heap) (tk : Nat) (L : List (Addr × List Int)) es ep t, SetTR P w g s.heap.objs.size L es ep t → Got ks ks.length L → (∀ b o, s.heap.get? b = some o → g.get? b = some o) →
      Q (.ref s.heap.objs.size) { s with heap := g, toks := tk }) : wpAny (model P w) A (call (.type "set") [.ref l]) Q E s := by
  have size : us.size = ks.length := by simpa using congrArg List.length same
  have ⟨mc, mt, mro⟩ := F.called_set.mro
  have made := F.called_set.made
  have sub := F.called_set.sub
  apply wpAny_call
  apply codeAny_of_tree
  show wpAny _ _ (callAny (.type "set") _) _ _ _
  apply wpAny_pure
  refine ⟨Code.quiet_builtin _ (by decide +kernel), codeAny_builtin F.entry_type_call ?_⟩
  rw [Around.under_plain (weight_type_call_type "set" [.ref l] []) rfl]
  have nt := F.called_set.notType
  have can := F.called_set.canCreate
  have one := F.typeCall_set_1 (.ref l)
  repeat (any_goals (first | assumption | wp_step))
  refine codeAny_mono (code_set_led1 (.ref l) (E := E) (Q₁ := fun ob z => ob = .ref s.heap.objs.size ∧ z = { s with heap := s.heap.push ({ cls := .type "set", dict := none, data := .set #[] 0 (.fresh 0 0 (!w.params.followText "set-order")) } : Obj) }) ⟨rfl, rfl⟩) fun r s1 hr => ?_
  match r, hr with
  | .error e, hr => exact hr
  | .ok .next, hr => exact hr.elim
  | .ok .brk, hr => exact hr.elim
  | .ok .cont, hr => exact hr.elim
  | .ok (.ret obj), hr =>
    obtain ⟨rfl, rfl⟩ := hr
    have it : (s.heap.push ({ cls := .type "set", dict := none, data := .set #[] 0 (.fresh 0 0 (!w.params.followText "set-order")) } : Obj)).get? s.heap.objs.size = some ({ cls := .type "set", dict := none, data := .set #[] 0 (.fresh 0 0 (!w.params.followText "set-order")) } : Obj) := Heap.get?_push_size _ rfl
    have ty : Shared.TypeIs { s with heap := s.heap.push ({ cls := .type "set", dict := none, data := .set #[] 0 (.fresh 0 0 (!w.params.followText "set-order")) } : Obj) } (.ref s.heap.objs.size) "set" := ⟨_, it, rfl⟩
    have look := F.called_set.init.lookup
    have bind := F.called_set.init.bind (.ref s.heap.objs.size)
    repeat (any_goals (first | assumption | wp_step))
    refine codeAny_mono (codeAny_call_builtin (R := wants (fun r z => r = .none ∧ ∃ g tk L es ep t, z = { s with heap := g, toks := tk } ∧ SetTR P w g s.heap.objs.size L es ep t ∧ Got ks ks.length L ∧ ∀ b o, s.heap.get? b = some o → g.get? b = some o) E)
      F.called_set.init.plain F.entry_set_init (check_set_init_1 ty ?fill)) fun r s2 hr => ?after
    case after =>
      match r, hr with
      | .error e, hr => exact hr
      | .ok .next, hr => exact hr.elim
      | .ok .brk, hr => exact hr.elim
      | .ok .cont, hr => exact hr.elim
      | .ok (.ret v), hr =>
        obtain ⟨rfl, g, tk, L, es, ep, t, rfl, rd, got, keep⟩ := hr
        repeat (any_goals (first | assumption | wp_step))
        exact q g tk L es ep t rd got keep
    case fill =>
      obtain ⟨⟨oc, od, oa, os⟩, at_, cl, n, da⟩ := tup
      simp only at cl da
      subst cl da
      have at1 : (s.heap.push ({ cls := .type "set", dict := none, data := .set #[] 0 (.fresh 0 0 (!w.params.followText "set-order")) } : Obj)).get? l = some { cls := .type "tuple", dict := od, data := .seq us n, slots := os } := Heap.get?_push_of_some _ at_
      have tup1 : (s.heap.push ({ cls := .type "set", dict := none, data := .set #[] 0 (.fresh 0 0 (!w.params.followText "set-order")) } : Obj)).IsTuple l us := ⟨_, at1, rfl, n, rfl⟩
      have no1 := F.sub_tuple_set
      have no2 := F.sub_tuple_frozenset
      have no3 : (Value.type "tuple" == Value.type "dict") = false := by decide
      unfold Builtin.«set.__init__» noKeywords Builtin.Frozenset.updateFrom
      generalize hit : pyIter = IT
      wp_walk
      subst hit
      refine wpAny_pyIter_tuple tup1 ?_
      refine wpAny_bind (wpAny_runValue ?_)
      have under : l < s.heap.objs.size := Heap.lt_size at_
      have cool : A.in1.in1.in1.handled = none := by simp [calm]
      have top : (s.heap.push ({ cls := .type "set", dict := none, data := .set #[] 0 (.fresh 0 0 (!w.params.followText "set-order")) } : Obj)).objs.size = s.heap.objs.size + 1 := Heap.size_push ..
      have free : ∀ b, s.heap.objs.size ≤ b → s.heap.get? b = none := fun b hb => Option.eq_none_iff_forall_ne_some.mpr fun o e => absurd (Heap.lt_size e) (Nat.not_lt.mpr hb)
      have vals : ∀ (i : Nat) (v : Value), us[i]? = some v → ∃ z, ks[i]? = some z ∧ v = .ref z.1 := fun i v hv => by
        have e : (ks.map fun z => Value.ref z.1)[i]? = some v := by rw [← same, Array.getElem?_toList, hv]
        rw [List.getElem?_map] at e
        obtain ⟨z, hz, ev⟩ := Option.map_eq_some_iff.mp e
        exact ⟨z, hz, ev.symm⟩
      refine set_update_tups ((Walks.tuple cool _ l (by rw [top]; exact Nat.ne_of_lt (Nat.lt_succ_of_lt under)) us).toS) s.heap.objs.size (fun z => (List.mem_cons.mp z).elim (fun e => Nat.ne_of_lt (Nat.lt_succ_self _) (e.trans top)) fun e => Nat.ne_of_gt under (List.mem_singleton.mp e)) ks size few vals s.heap each (free _ (Nat.le_refl _)) (fun b hb => free b (by rw [List.mem_singleton.mp hb, top]; omega)) room
        (us.size - 0) 0 _ (by omega) (Nat.zero_le _) ⟨⟨_, Heap.get?_push_size _ rfl, rfl, rfl⟩, tup1.push _⟩ (fun b o e => Heap.get?_push_of_some _ (Heap.get?_push_of_some _ e)) ?none ?all
      case none => exact ⟨[], #[], 0, _, setTR_fresh (Heap.get?_push_of_some _ it), Got.zero ks⟩
      case all =>
        rintro ⟨g, gs, dr, tk, sys⟩ L es ep t mv rd got keep
        cases mv.gens
        cases mv.drawn
        cases mv.os
        show wpAny _ _ _ _ _ _
        refine wpAny_pure ?_
        show wpAny _ _ (ret Value.none) _ _ _
        rw [size] at got
        exact wpAny_pure ⟨rfl, g, tk, L, es, ep, t, rfl, rd, got, keep⟩
end
/-- set(t), t a tuple of tuples of ints -/
def rSetTT (K : PySem.W.Frag) (P : Program) (w : World) : List V → Hp → VK → Prop := fun xs H Q => ∃ (l : Addr) (ks : List (Addr × List Int)), xs = [V.ref l] ∧ SqT K H l (ks.map fun z => V.ref z.1) ∧ (∀ z ∈ ks, SqT K H z.1 (z.2.map V.int)) ∧ ks.length < 64 ∧
  ∀ b L, H b = none → (∀ z ∈ L, z ∈ ks) → (∀ z ∈ ks, z.2 ∈ L.map (·.2)) → Q (.ref b) (upd H b (SetTO P w b L))
theorem cr_setTT {X : Cx} (calm : X.calm = true) (hu : X.A.units + 64 < cLine) : CallR X (.type "set") (rSetTT X.K X.prog X.w) := by
  intro pins s σ H xs us Q I r h
  obtain ⟨l, ks, rfl, tp, each, few, q⟩ := h
  rw [Vals.ref1 r]
  obtain ⟨its, rv, isT, _⟩ := I.tuple tp
  refine set_of_tuple ks (I.ok.hd calm) isT (by simpa using refs_of_vals rv) (fun z hz => I.isT (each z hz)) few (by omega) fun g tk L es ep t rd got keep => ?_
  exact ⟨.ref s.heap.objs.size, _, I.laid (t' := tk) keep (Nat.le_refl _) (setTO_new rd.t0), rfl, q _ L (I.hok.fresh (Nat.le_refl _)) (fun z hz => List.mem_of_mem_take (got.sub z hz)) fun z hz => got.all z (by rw [List.take_length]; exact hz)⟩
theorem cr_setTTK {X : Cx} {K0 : PySem.W.Frag} {P0 : Program} {w0 : World} (hK : X.K = K0) (hP : X.prog = P0) (hw : X.w = w0) (hc : X.calm = true) (hu : X.A.units + 64 < cLine) : CallR X (.type "set") (rSetTT K0 P0 w0) := by
  subst hK hP hw
  exact cr_setTT hc hu
section
variable {p : Par} {ρ : Rho} {te : TE}
theorem wf_sortedSetT {P : Program} {w : World} {Q : Cell → Prop} (h : WE p ρ te fun x => ∃ qs : List (Int × Int), x = .tup (qs.map prD) ∧ qs.length < 64 ∧ ∀ zs : List (Int × Int), (∀ z, z ∈ zs ↔ z ∈ qs) → zs.Pairwise lexS → Q (.ol (zs.map prD))) :
    WF p ρ (tCB (rSortedTP p.K P w) (tCons (tCB (rSetTT p.K P w) (tCons te tNil)) tNil)) Q := fun G σ H hh Qv kk =>
  h G σ H hh _ fun x v G1 H1 ⟨qs, ex, hlen, q⟩ s r => by
    subst ex
    have hh1 := hh.step s
    obtain ⟨a, us, ev, hs, hr⟩ := r.tup_inv
    subst ev
    obtain ⟨ks, e1, e2, e3⟩ := ks_of hr
    subst e1
    have lk : ks.length = qs.length := by have := congrArg List.length e2; rwa [List.length_map, List.length_map] at this
    refine ⟨a, ks, rfl, tqT hh1.mem.sub hs, fun z hz => ?_, by omega, fun b L hb m1 m2 => ?_⟩
    · obtain ⟨q', _, e, r⟩ := e3 z hz
      rw [e]
      exact sqt_pr hh1.mem.sub r
    have g1 := hh1.mem.growO (o := SetTO P w b L) hb
    have hh2 := hh1.step g1
    refine ⟨b, L, rfl, upd_same, fun z hz => ?_, fun d bs hd pm pw nd => ?_⟩
    · obtain ⟨q', _, e, r⟩ := e3 z (m1 z hz)
      rw [e]
      exact ⟨rfl, sqt_pr hh2.mem.sub r⟩
    have m3 := hh2.mem
    -- an address has one pair
    have one : ∀ z ∈ L, ∀ y ∈ L, y.1 = z.1 → y.2 = z.2 := fun z hz y hy e => by
      obtain ⟨q1, _, ez, r1⟩ := e3 z (m1 z hz)
      obtain ⟨q2, _, ey, r2⟩ := e3 y (m1 y hy)
      rw [e] at r2
      have r1' : Rp p.K p.h G1 (.ref z.1) (.tup ([q1.1, q1.2].map D.int)) := r1
      have r2' : Rp p.K p.h G1 (.ref z.1) (.tup ([q2.1, q2.2].map D.int)) := r2
      obtain ⟨a1, v1, w1, t1, l1⟩ := r1'.tup_inv
      obtain ⟨a2, v2, w2, t2, l2⟩ := r2'.tup_inv
      cases w1
      cases w2
      have ev := (l1.ints.symm.trans (tp_inj t1 t2)).trans l2.ints
      obtain ⟨x1, x2⟩ := List.cons.inj ev
      have y1 := V.int.inj x1
      have y2 := V.int.inj (List.cons.inj x2).1
      rw [ez, ey, y1, y2]
    have at_ : ∀ c ∈ bs, ∃ z ∈ L, z.1 = c ∧ ∃ q' ∈ qs, z.2 = [q'.1, q'.2] ∧ pairL L (.ref c) = q' ∧ Rp p.K p.h G1 (.ref c) (prD q') := fun c hc => by
      obtain ⟨z, hz, e⟩ := List.mem_map.mp (pm.mem_iff.mp (List.mem_map.mpr ⟨c, hc, rfl⟩))
      cases e
      obtain ⟨q', hq, ez, r⟩ := e3 z (m1 z hz)
      refine ⟨z, hz, rfl, q', hq, ez, ?_, r⟩
      rw [pairL_at hz (one z hz), ez]
      rfl
    have fin := q (bs.map fun c => pairL L (.ref c)) (fun z => ⟨fun hz => ?m1, fun hz => ?m2⟩) ?m3
    case m1 =>
      obtain ⟨c, hc, e⟩ := List.mem_map.mp hz
      obtain ⟨_, _, _, q', hq, _, e4, _⟩ := at_ c hc
      rw [← e, e4]
      exact hq
    case m2 =>
      have h1 : [z.1, z.2] ∈ ks.map (·.2) := by rw [e2]; exact List.mem_map.mpr ⟨z, hz, rfl⟩
      obtain ⟨k, hk, ek⟩ := List.mem_map.mp h1
      obtain ⟨y, hy, ey⟩ := List.mem_map.mp (m2 k hk)
      obtain ⟨c, hc, ec⟩ := List.mem_map.mp (pm.mem_iff.mpr (List.mem_map.mpr ⟨y, hy, rfl⟩))
      cases ec
      refine List.mem_map.mpr ⟨y.1, hc, ?_⟩
      rw [pairL_at hy (one y hy), ey, ek]
      rfl
    case m3 =>
      have nz : ((L.map fun z => Value.ref z.1).map (pairL L)).Nodup := by
        rw [List.map_map]
        refine List.pairwise_map.mpr (List.Pairwise.imp_of_mem (fun {z y} hz hy hne e => hne ?_) (List.pairwise_map.mp nd))
        have e' : pairL L (.ref z.1) = pairL L (.ref y.1) := e
        rw [pairL_at hz (one z hz), pairL_at hy (one y hy)] at e'
        obtain ⟨q1, _, ez, _⟩ := e3 z (m1 z hz)
        obtain ⟨q2, _, ey, _⟩ := e3 y (m1 y hy)
        rw [ez, ey] at e' ⊢
        have a1 : q1.1 = q2.1 := congrArg Prod.fst e'
        have a2 : q1.2 = q2.2 := congrArg Prod.snd e'
        rw [a1, a2]
      have n2 : ((bs.map Value.ref).map (pairL L)).Nodup := (pm.map (pairL L)).nodup_iff.mpr nz
      have n3 := List.pairwise_map.mp (List.pairwise_map.mp n2)
      refine List.pairwise_map.mpr ((n3.and (List.pairwise_map.mp pw)).imp fun {x y} hxy => ?_)
      obtain ⟨ne, hx⟩ := hxy
      have b1 := SrtO.lexB_no.mp hx
      have b2 : ¬ ((pairL L (.ref x)).1 = (pairL L (.ref y)).1 ∧ (pairL L (.ref x)).2 = (pairL L (.ref y)).2) := fun z => ne (Prod.ext z.1 z.2)
      unfold lexS
      omega
    have rl := rpl_of (bs := bs) (f := fun c => pairL L (.ref c)) fun c hc => by
      obtain ⟨_, _, _, q', _, _, e4, r⟩ := at_ c hc
      rw [e4]
      exact r
    exact kk _ d G1 _ fin rfl ((s.trans g1).trans (m3.growO hd)) (hh.mem.back (s.trans g1) hd) ⟨d, _, rfl, m3.fresh hd, upd_same, rl⟩
end
end Cal
set_option Elab.async false
set_option linter.all false
set_option maxRecDepth 100000
set_option maxHeartbeats 4000000
namespace Cal
open PySem PySem.Spec L2 PyProof.Rows LamX
open Evl (Ex sq_of st_of)
/-- the ints from i to below j -/
def rgI (i j : Int) : List Int := (List.range (j - i).toNat).map fun k => i + ((k : Nat) : Int)
theorem rgV_I (i j : Int) : rgV i j = (rgI i j).map V.int := by
  unfold rgV rgI
  rw [List.map_map]
  rfl
section
variable {p : Par} {ρ : Rho} {ta tb tc te : TE} {P : Post}
theorem wf_listRg2 {Q : Cell → Prop} (h : WE p ρ ta fun x => ∃ i : Int, x = .int i ∧ WE p ρ tb fun y => ∃ j : Int, y = .int j ∧ RgOk i j ∧ Q (.ol ((rgI i j).map D.int))) : WF p ρ (tLstRg (tRg2 ta tb)) Q := fun G σ H hh Qv k =>
  h G σ H hh _ fun x v G1 H1 ⟨i, ex, q⟩ s1 r1 => q G1 σ H1 (hh.step s1) _ fun y u G2 H2 ⟨j, ey, ok, q2⟩ s2 r2 => by
    subst ex ey
    cases r1
    cases r2
    have hh2 := (hh.step s1).step s2
    have m2 := hh2.mem
    refine ⟨i, j, rfl, rfl, ok, fun a ha => k _ a _ _ q2 rfl ((s1.trans s2).trans (m2.growO ha)) (hh.mem.back (s1.trans s2) ha) ⟨a, _, rfl, m2.fresh ha, upd_same, ?_⟩⟩
    rw [rgV_I]
    exact RpL.ofInts _
/-- a, b, c = thing, new, new -/
theorem ws_parDNN {i j l : Nat} (h : WE p ρ ta fun x => WF p ρ tb fun c1 => WF p ρ tc fun c2 => P.n (((ρ.set i (some (.d x))).set j (some c1)).set l (some c2))) : WS p ρ (tPar3 i j l (tCons ta (tCons tb (tCons tc tNil)))) P := fun G σ H hh E kn kr kb kc => by
  refine h G σ H hh _ fun x v G1 H1 q s1 r1 => q G1 σ H1 (hh.step s1) _ fun c1 a G2 H2 q2 ho2 s2 n2 x2 => q2 G2 σ H2 ((hh.step s1).step s2) _ fun c2 b G3 H3 q3 ho3 s3 n3 x3 => ?_
  exact ⟨_, _, _, rfl, kn _ G3 _ _ q3 (ex_tr (ex_tr s1.ex s2.ex) s3.ex) ((((hh.step s1).setD (i := i) r1).setNew (i := j) s2 n2 x2).setNew (i := l) s3 n3 x3)⟩
/-- the same by a tuple -/
theorem ws_tupDNN {i j l : Nat} (h : WE p ρ ta fun x => WF p ρ tb fun c1 => WF p ρ tc fun c2 => P.n (((ρ.set i (some (.d x))).set j (some c1)).set l (some c2))) :
    WS p ρ (tAsg (tTup (tCons ta (tCons tb (tCons tc tNil)))) (gTup p.K 3 (gCons (gName i) (gCons (gName j) (gCons (gName l) gNil))))) P := fun G σ H hh E kn kr kb kc => by
  refine h G σ H hh _ fun x v G1 H1 q s1 r1 => q G1 σ H1 (hh.step s1) _ fun c1 a G2 H2 q2 ho2 s2 n2 x2 => q2 G2 σ H2 ((hh.step s1).step s2) _ fun c2 b G3 H3 q3 ho3 s3 n3 x3 => ⟨sz (by show 3 ≤ 4000000; decide), fun t ht => ?_⟩
  have h3 := (((hh.step s1).setD (i := i) r1).setNew (i := j) s2 n2 x2).setNew (i := l) s3 n3 x3
  have h4 := h3.step (h3.mem.growO (o := .tup [v, .ref a, .ref b]) ht)
  exact ⟨t, _, rfl, Evl.st_of upd_same, rfl, ⟨_, _, rfl, ⟨_, _, rfl, ⟨_, _, rfl, rfl, kn _ G3 _ _ q3 (ex_tr (ex_tr s1.ex s2.ex) s3.ex) h4⟩⟩⟩⟩
end
end Cal
set_option Elab.async false
set_option linter.all false
set_option maxRecDepth 100000
set_option maxHeartbeats 4000000
namespace Cal
open PySem PySem.Spec L2 PyProof.Rows
open Evl (Ex sq_of st_of)
/-! ### several clauses, with or without a name, one of which takes whatever is raised -/
/-- a clause: the class, the slot of its name, the suite's reading -/
abbrev Cls := Value × Option Nat × (Addr → Value → Option Addr → TS)
/-- what the suite of a clause ends with: its name is gone -/
def bye : Option Nat → Ends → Ends
  | none, D => D
  | some i, D => { nx := fun σ H => D.nx (σ.set i none) H, rt := D.rt, bk := fun σ H => D.bk (σ.set i none) H, ct := fun σ H => D.ct (σ.set i none) H }
/-- where it begins -/
def hi : Option Nat → Addr → L2.St → L2.St
  | none, _, σ => σ
  | some i, a, σ => σ.set i (some (.ref a))
def wMix (K : PySem.W.Frag) (D : Ends) : List Cls → WX
  | [] => fun _ _ _ _ => False
  | z :: r => fun cls d σ H => ∃ b, PySem.W.exmOne K cls z.1 = some b ∧ (b = true → ∀ a, H a = none → z.2.2 a cls d (bye z.2.1 D) (hi z.2.1 a σ) H) ∧ (b = false → wMix K D r cls d σ H)
inductive Clauses (X : Cx) : List ExceptHandler → List Cls → Prop
  | nil : Clauses X [] []
  | bare {x : Str} {c : Value} {ts : Addr → Value → Option Addr → TS} {b0 : Stmt} {suite : List Stmt} {p1 p2 : Pos} {hds : List ExceptHandler} {l : List Cls} (nm : Names X x c)
      (su : ∀ (a : Addr) (oe : Obj) (cls : Value) (d : Option Addr) (pn : List (Addr × Obj)), Zc cls d oe → (∃ vs, oe.data = .fields vs) → PSs (X.suite a ((a, oe) :: pn)) (b0 :: suite) (ts a cls d)) (r : Clauses X hds l) :
      Clauses X (.ExceptHandler (some (.Name x p1)) none (b0 :: suite) p2 :: hds) ((c, none, ts) :: l)
  | name {x n : Str} {i : Nat} {c : Value} {ts : Addr → Value → Option Addr → TS} {b0 : Stmt} {suite : List Stmt} {p1 p2 : Pos} {hds : List ExceptHandler} {l : List Cls} (nm : Names X x c) (at_ : X.N[i]? = some n) (loc : X.env.kindOf n = some .local)
      (su : ∀ (a : Addr) (oe : Obj) (cls : Value) (d : Option Addr) (pn : List (Addr × Obj)), Zc cls d oe → (∃ vs, oe.data = .fields vs) → PSs (X.suite a ((a, oe) :: pn)) (b0 :: suite) (ts a cls d)) (r : Clauses X hds l) :
      Clauses X (.ExceptHandler (some (.Name x p1)) (some n) (b0 :: suite) p2 :: hds) ((c, some i, ts) :: l)
section
variable {X : Cx} {body : List Stmt} {h0 : ExceptHandler} {hds : List ExceptHandler} {l : List Cls} {pos : Pos} {tb : WX → TS}
theorem ps_try_mix (st : X.stack = X.env :: X.outer) (fr : X.env.frame = some X.env.locals) (nd : X.N.Nodup)
    (bd : ∀ (W : WX) (pn : List (Addr × Obj)) (xe : Value → Shared → Prop), Takes (X.tr pn xe) W → PassesOwn (model X.prog X.w) X.A X.env xe → PSs (X.tr pn xe) body (tb W))
    (cl : Clauses X (h0 :: hds) l) : PS X (.Try body (h0 :: hds) [] [] pos) (fun D σ H => tb (wMix X.K D l) D σ H) := by
  constructor
  intro pins s σ H D I t
  have ok := I.ok
  have frames : X.A.frames = some (X.env :: X.outer) := by rw [ok.frames, st]
  apply wpAny_Try_except
  have reads := bd (wMix X.K D l) (X.pn ++ pins) (fun e s1 => wpAny (model X.prog X.w) X.A (noteFrame e X.env) (fun _ s2 => wpAny (model X.prog X.w) X.A (setFlight e none) (fun _ s3 => wpAny (model X.prog X.w) X.A (handleBy e X.env (h0 :: hds)) (SP X pins D) X.xe s3) X.xe s2) X.xe s1) ?caught PassesOwn.looking
  · refine wpAny_mono (reads.run [] s σ H D (I.toTry _) t) (fun f s1 z => ?_) fun _ _ z => z
    match f, z with
    | .next, ⟨σ1, H1, J, q⟩ => exact wpAny_execs_nil ⟨σ1, H1, J.ofTry ok, q⟩
    | .brk, ⟨σ1, H1, J, q⟩ => exact ⟨σ1, H1, J.ofTry ok, q⟩
    | .cont, ⟨σ1, H1, J, q⟩ => exact ⟨σ1, H1, J.ofTry ok, q⟩
    | .ret u, ⟨v, σ1, H1, J, r, q⟩ => exact ⟨v, σ1, H1, J.ofTry ok, r, q⟩
  intro u s1 xx
  obtain ⟨a, B, sI, pins1, σ1, H1, cls, d, rfl, J1, nb, up, sky, na, sys, gens, wish⟩ := xx
  have J := J1.ofTry ok
  rw [st] at sky
  show wpAny (model X.prog X.w) X.A (noteFrame (.ref a) X.env) _ _ _
  refine Sky.land Zc.steady frames fr sky fun g fl up2 => ?_
  have K3 : Inv X pins σ1 H1 { s1 with heap := g } := J.landed nb fl.1 (up.trans up2) sys gens
  obtain ⟨oe, vs, he, hz, hd⟩ := fl.there
  have out : a ∉ frs (X.env :: X.outer) := fun hm => by
    obtain ⟨_, o, e, no⟩ := fl.2.2.1.mem hm
    rw [he] at e
    cases e
    exact no vs hd
  have nL : a ≠ X.env.locals := fun z => out (List.mem_filterMap.mpr ⟨X.env, List.mem_cons_self, by rw [fr, z]⟩)
  have nF : a ∉ X.fs := fun hm => by
    obtain ⟨e, h1, h2⟩ := List.mem_filterMap.mp hm
    exact out (List.mem_filterMap.mpr ⟨e, List.mem_cons_of_mem _ h1, h2⟩)
  have S3 := K3.suite he hd na nL nF
  clear bd
  have walk : ∀ {hs : List ExceptHandler} {ls : List Cls}, Clauses X hs ls → wMix X.K D ls cls d σ1 H1 → wpAny (model X.prog X.w) X.A (handleBy (.ref a) X.env hs) (SP X pins D) X.xe { s1 with heap := g } := by
    intro hs ls cs
    -- the name of a class, read while the error is handled
    have load : ∀ {x : Str} {c : Value} {p1 : Pos} {Q E : Value → Shared → Prop}, Names X x c → Q c { s1 with heap := g } → wpAny (model X.prog X.w) (X.A.mark (some (.ref a))) (eval (.Name x p1) X.env) Q E { s1 with heap := g } := by
      rintro x c p1 Q E ⟨gl, db, m | ⟨m, b, nn⟩⟩ q
      · exact ld_glob (X := X.suite a ((a, oe) :: (X.pn ++ pins))) S3 gl m q db
      · exact ld_blt (X := X.suite a ((a, oe) :: (X.pn ++ pins))) S3 gl m b q nn db
    have kind : PySem.W.Looks (model X.prog X.w) g (typeOf (.ref a)) cls := fun A Q E s k q => wpAny_typeOf_ref (k _ _ he) (by rw [hz.1]; exact q)
    induction cs with
    | nil => exact fun w => w.elim
    | @bare x c ts b0 suite p1 p2 hs2 l2 nm su r ih =>
      rintro ⟨b, hit, yes, no⟩
      refine wpAny_handleBy_cons (codeAny_handlers_test (load nm ((PySem.W.exm_one (M := model X.prog X.w) K3.kIn kind hit).here ?_))) (fun z => by cases z)
      match b, yes, no with
      | false, _, no => exact ih (no rfl)
      | true, yes, _ =>
        refine codeAny_handlers_suite (HandSPX.lands_againZ fl fun g4 fl4 up4 => ?_)
        obtain ⟨o4, v4, e4, z4, d4⟩ := fl4.there
        have J4 : Inv X pins σ1 H1 { s1 with heap := g4 } := J.landed nb fl4.1 ((up.trans up2).trans up4) sys gens
        have S4 := J4.suite e4 d4 na nL nF
        refine wpAny_mono ((su a o4 cls d (X.pn ++ pins) z4 ⟨_, d4⟩).run [] _ _ H1 _ S4 (yes rfl a na)) (fun f s6 z => ?_) fun _ _ z => z.elim
        match f, z with
        | .next, ⟨σ6, H6, S6, q⟩ => exact ⟨σ6, H6, S6.unsuite ok, q⟩
        | .brk, ⟨σ6, H6, S6, q⟩ => exact ⟨σ6, H6, S6.unsuite ok, q⟩
        | .cont, ⟨σ6, H6, S6, q⟩ => exact ⟨σ6, H6, S6.unsuite ok, q⟩
        | .ret u, ⟨v, σ6, H6, S6, rv, q⟩ => exact ⟨v, σ6, H6, S6.unsuite ok, rv, q⟩
    | @name x n i c ts b0 suite p1 p2 hs2 l2 nm at_ loc su r ih =>
      rintro ⟨b, hit, yes, no⟩
      refine wpAny_handleBy_cons (codeAny_handlers_test (load nm ((PySem.W.exm_one (M := model X.prog X.w) K3.kIn kind hit).here ?_))) (fun z => by cases z)
      match b, yes, no with
      | false, _, no => exact ih (no rfl)
      | true, yes, _ =>
        refine codeAny_handlers_suite_as (HandSPX.lands_againZ fl fun g4 fl4 up4 => ?_)
        obtain ⟨o4, v4, e4, z4, d4⟩ := fl4.there
        have J4 : Inv X pins σ1 H1 { s1 with heap := g4 } := J.landed nb fl4.1 ((up.trans up2).trans up4) sys gens
        have S4 := J4.suite e4 d4 na nL nF
        refine store_ok (X := X.suite a ((a, o4) :: (X.pn ++ pins))) (v := .ref a) S4 nd at_ (.inl loc) rfl (fun s5 S5 => ?_) (.inr loc)
        refine wpAny_mono ((su a o4 cls d (X.pn ++ pins) z4 ⟨_, d4⟩).run [] s5 _ H1 _ S5 (yes rfl a na)) (fun f s6 z => ?_) fun _ _ z => z.elim
        have gone : ∀ {σ6 : L2.St} {H6 : Hp} {Q : Shared → Prop}, Inv (X.suite a ((a, o4) :: (X.pn ++ pins))) [] σ6 H6 s6 → (∀ s7, Inv X pins (σ6.set i none) H6 s7 → Q s7) →
            wpAny (model X.prog X.w) X.A (do bindName X.env n .none; unbindBehindTheSuite X.env n p2) (fun _ s7 => Q s7) X.xe s6 := fun S6 q => gone_ok (S6.unsuite ok) nd at_ loc q
        match f, z with
        | .next, ⟨σ6, H6, S6, q⟩ => exact gone S6 fun s7 J7 => ⟨_, _, J7, q⟩
        | .brk, ⟨σ6, H6, S6, q⟩ => exact gone S6 fun s7 J7 => ⟨_, _, J7, q⟩
        | .cont, ⟨σ6, H6, S6, q⟩ => exact gone S6 fun s7 J7 => ⟨_, _, J7, q⟩
        | .ret u, ⟨v, σ6, H6, S6, rv, q⟩ => exact gone S6 fun s7 J7 => ⟨_, _, _, J7, rv, q⟩
  exact walk cl wish
end
/-! ### reading them -/
section
variable {mg : Str → Option Value} {p : Par} {ρ : Rho} {P : Post} {C : Addr} {d : Option Addr} {G1 : Hp}
def byeP : Option Nat → Post → Post
  | none, P => P
  | some i, P => ⟨fun ρ => P.n (ρ.set i none), P.r, fun ρ => P.b (ρ.set i none), fun ρ => P.c (ρ.set i none)⟩
def hiR : Option Nat → Addr → Rho → Rho
  | none, _, ρ => ρ
  | some i, a, ρ => ρ.set i (some (.d (.raw (.ref a))))
/-- what each clause makes of an error of the class C -/
def Catch (p : Par) (G1 : Hp) (C : Addr) (d : Option Addr) (P : Post) (ρ : Rho) : List Cls → Prop
  | [] => False
  | z :: r => ∃ b, PySem.W.exmOne p.K (.ref C) z.1 = some b ∧ (b = true → ∀ a, WSg p G1 (hiR z.2.1 a ρ) (z.2.2 a (.ref C) d) (byeP z.2.1 P)) ∧ (b = false → Catch p G1 C d P ρ r)
theorem catch_wish {G H : Hp} {σ : L2.St} {D : Ends} (hh : Hold p ρ G σ H) (e1 : Ex G1 G) (kn : ∀ ρ' G' σ' H', P.n ρ' → Ex G G' → Hold p ρ' G' σ' H' → D.nx σ' H') (kr : ∀ d v G' H', P.r d → Mem p G' H' → Rp p.K p.h G' v d → D.rt v H')
    (kb : ∀ ρ' G' σ' H', P.b ρ' → Ex G G' → Hold p ρ' G' σ' H' → D.bk σ' H') (kc : ∀ ρ' G' σ' H', P.c ρ' → Ex G G' → Hold p ρ' G' σ' H' → D.ct σ' H') : ∀ {l : List Cls}, Catch p G1 C d P ρ l → wMix p.K D l (.ref C) d σ H
  | [], w => w.elim
  | (c, o, ts) :: r, ⟨b, hit, yes, no⟩ => by
    refine ⟨b, hit, fun eb a na => ?_, fun eb => catch_wish hh e1 kn kr kb kc (no eb)⟩
    cases o with
    | none => exact yes eb a G σ H e1 hh D kn kr kb kc
    | some i => exact yes eb a G _ H e1 (hh.setD (.raw (.ref a))) _ (fun ρ' G' σ' H' z e h => kn _ G' _ H' z e (h.forget i none)) kr (fun ρ' G' σ' H' z e h => kb _ G' _ H' z e (h.forget i none)) fun ρ' G' σ' H' z e h => kc _ G' _ H' z e (h.forget i none)
/-- try: .. with clauses, and what comes behind -/
theorem ws_try_seq {tb : WX → TS} {rest : TS} {l : List Cls} (Xb : Rho → Str → List (Str × D) → Prop) (hb : ∀ W, XW mg p Xb W → WS p ρ (tb W) ⟨fun ρ1 => WS p ρ1 rest P, P.r, P.b, P.c⟩)
    (hs : ∀ ρ' x fs C d G1, Xb ρ' x fs → mg x = some (.ref C) → XR p.K p.h G1 d fs → Catch p G1 C d ⟨fun ρ2 => WS p ρ2 rest (outP P.r), P.r, fun _ => False, fun _ => False⟩ ρ' l) :
    WS p ρ (tSeq (fun D σ H => tb (wMix p.K D l) D σ H) rest) P := fun G σ H hh D kn kr kb kc => by
  show tb (wMix p.K { D with nx := rest D } l) { D with nx := rest D } σ H
  refine hb (wMix p.K { D with nx := rest D } l) (fun ρ' G' σ' H' x fs C d z hm hh' xr => catch_wish (D := { D with nx := rest D }) (P := ⟨fun ρ2 => WS p ρ2 rest (outP P.r), P.r, fun _ => False, fun _ => False⟩) hh' (fun _ _ e => e) (fun ρ2 G2 σ2 H2 q _ h2 => ?_) kr (fun _ _ _ _ q _ _ => q.elim) (fun _ _ _ _ q _ _ => q.elim) (hs ρ' x fs C d G' z hm xr)) G σ H hh { D with nx := rest D } (fun ρ1 G1 σ1 H1 q e1 h1 => ?_) kr kb kc
  · exact q G2 σ2 H2 h2 D (fun _ _ _ _ q _ _ => q.elim) kr (fun _ _ _ _ q _ _ => q.elim) fun _ _ _ _ q _ _ => q.elim
  · exact q G1 σ1 H1 h1 D (fun ρ' G' σ' H' z e h => kn ρ' G' σ' H' z (ex_tr e1 e) h) kr (fun ρ' G' σ' H' z e h => kb ρ' G' σ' H' z (ex_tr e1 e) h) fun ρ' G' σ' H' z e h => kc ρ' G' σ' H' z (ex_tr e1 e) h
/-- x = (None, e.f) if isinstance(e, ValueError) else .. -/
theorem wsg_told {a : Addr} {i j : Nat} {f : Str} {fs : List (Str × D)} {y : D} {te : TE} (e : ρ[i]? = some (some (.d (.raw (.ref a))))) (xr : XR p.K p.h G1 d fs) (C0 : ExcC p.K C) (k : PySem.W.kitOne p.K (.ref C) (.type "ValueError") = some true) (hf : fs.lookup f = some y)
    (h : P.n (ρ.set j (some (.d (.tup [.non, y]))))) :
    WSg p G1 ρ (tAsg (tIf (tTest (tCB (rIsEd p.K (.ref C) d a) (tCons (tVar i) (tCons (tC (.ty "ValueError")) tNil)))) (tTup (tCons (tC .non) (tCons (tXf a (.ref C) d C f (tVar i)) tNil))) te) (gName j)) P := fun G σ H ex hh E kn kr kb kc => by
  obtain ⟨sv, h1, v, h2, h3⟩ := hh.slot i _ e
  subst h2
  have hv : v = .ref a := by cases h3; rfl
  subst hv
  rcases xr.mono ex with ⟨rfl, _⟩ | ⟨dd, vfs, q1, q2, q3, q4⟩
  · cases hf
  · obtain ⟨v, l1, l2⟩ := lookup_of q3 q4.1 hf
    refine ⟨.ref a, h1, C, rfl, C0, .inr ⟨dd, vfs, q1, hh.mem.sub _ _ q2⟩, .ty "ValueError", .type "ValueError", true, rfl, fun u r => (by cases r; rfl), k, ?_⟩
    refine ⟨true, rfl, ?_⟩
    dsimp only
    rw [if_pos rfl]
    refine ⟨_, h1, rfl, rfl, dd, vfs, v, q1, hh.mem.sub _ _ q2, l1, sz (Nat.le_of_ble_eq_true rfl), fun b hb => ?_⟩
    have s := hh.mem.grow (o := .tup [.non, v]) hb
    exact kn _ _ _ _ h s.ex ((hh.step s).setD (.tup upd_same (.cons .non (.cons (rmono l2 s.ex) .nil))))
end
theorem kit_ve {K : PySem.W.Frag} {C : Addr} (h : PySem.W.subIn K (.ref C) (.type "ValueError") = some true) : PySem.W.kitOne K (.ref C) (.type "ValueError") = some true := by
  have m : PySem.W.kitMeta "ValueError" = true := by decide +kernel
  have e : (Value.ref C == Value.type "ValueError") = false := rfl
  unfold PySem.W.kitOne
  rw [e]
  show (if PySem.W.kitMeta "ValueError" = true then PySem.W.subIn K (.ref C) (.type "ValueError") else none) = some true
  rw [if_pos m, h]
end Cal
set_option Elab.async false
set_option linter.all false
set_option maxRecDepth 100000
set_option maxHeartbeats 4000000
namespace Cal
open PySem PySem.Spec L2 PyProof.Rows
section
variable {X : Cx} {K0 : PySem.W.Frag} {mg0 : Str → Option Value} {x : Str} {p pos : Pos} {e : Expr} {es : List Expr} {t : TA} {C : Addr} {k : Nat} {ps : List Str} {S : Addr → List D → (Out → Prop) → Prop}
/-- C(..) in a comprehension -/
theorem pe_mk0K (hK : X.K = K0) (hm : X.mg = mg0) (F : MakX X.prog X.w K0 mg0 X.base k x C ps S) (hr : Room (k + 1) X.A) (ha : PA X (e :: es) t) (hg : Gl X x := by rfl) (hdb : (x == ("__debug__" : Str)) = false := by decide)
    (he : starEach (e :: es) X.env = (false, eval e X.env) :: starEach es X.env := by rfl) (hpl : (backTo pos (starEach es X.env)).any (·.1) = false := by rfl) : PE X (.Call (.Name x p) (e :: es) [] pos) (tMake C (spMk K0 mg0 C S) [] (fun _ _ _ => False) t) := by
  subst hK hm
  exact pe_mk0 F hr ha hg hdb he hpl
end
end Cal
set_option Elab.async false
set_option linter.all false
set_option maxRecDepth 100000
set_option maxHeartbeats 4000000
namespace Cal
open PySem PySem.Spec L2 PyProof.Rows
/-! ### a thing and itself -/
/-- None, an int or a text -/
def isPl : D → Bool | .non => true | .int _ => true | .str _ => true | _ => false
section
variable {p : Par} {ρ : Rho} {Q : D → Prop} {ta tb : TE}
theorem we_neSame (h : WE p ρ ta fun x => isPl x = true ∧ WE p ρ tb fun y => y = x ∧ Q (.bl false)) : WE p ρ (tOp rNe ta tb) Q :=
  we_op (h.imp fun x ⟨hp, h⟩ => h.imp fun y ⟨e, q⟩ => fun G H v w m r1 r2 Qv k => by
    subst e
    have same : v = w ∧ scal v w = true := by
      cases y with
      | non => cases r1; cases r2; exact ⟨rfl, rfl⟩
      | int i => rw [rp_int r1, rp_int r2]; exact ⟨rfl, rfl⟩
      | str i => rw [rp_str' r1, rp_str' r2]; exact ⟨rfl, rfl⟩
      | _ => cases hp
    obtain ⟨rfl, hs⟩ := same
    refine ⟨hs, ?_⟩
    rw [decide_eq_true rfl]
    exact k _ _ G H q m.refl (.bl false))
end
end Cal
set_option Elab.async false
set_option linter.all false
set_option maxRecDepth 100000
set_option maxHeartbeats 4000000
namespace Cal
open PySem PySem.Spec L2 PyProof.Rows
open Evl (Ex sq_of st_of)
/-! ### errors as values -/
/-- C(e), kept -/
def tExc1 (C : Addr) (f : Str) (te : TE) : TE := fun σ H Q => te σ H fun y H1 => ∀ a dx, H1 a = none → H1 dx = none → dx ≠ a → Q (.ref a) (upd (upd (upd H1 a (exo a C none)) dx (exd dx [(f, y)])) a (exo a C (some dx)))
/-- C(), kept -/
def tExc0 (C : Addr) : TE := fun σ H Q => ∀ a, H a = none → Q (.ref a) (upd H a (exo a C none))
section
variable {X : Cx} {x f : Str} {C : Addr} {fl : List Str} {e : Expr} {te : TE} {k : Nat} {p pos : Pos}
theorem pe_excV1 (D : XDef X.prog X.w X.K X.mg X.base k x fl (fun C => spI1 C f) C) (hr : Room (k + 1) X.A) (he : PE X e te) (hg : Gl X x := by rfl) (hdb : (x == ("__debug__" : Str)) = false := by decide)
    (hs : starEach [e] X.env = (false, eval e X.env) :: starEach [] X.env := by rfl) : PE X (.Call (.Name x p) [e] [] pos) (tExc1 C f te) := by
  obtain ⟨fI, fd, ps, iC, tI, F1, hb⟩ := D.ini
  obtain ⟨nm, q0, N, bs, bm, sn, sub, ab, col, dd, k0, k1, k2, k3, k5, hC, hbm⟩ := D.ox.cls
  constructor
  intro pins s σ H Q I h
  refine wpAny_Call_Name_kw (ld_glob I hg D.gC ?_ hdb)
  refine PySem.W.callWith_K (h₀ := X.base) I.ok.mod.kin D.ox.kC (one_arg he I h (fun u1 s1 y H1 I1 r1 q => ⟨I1.kIn, ?_⟩) hs) hs rfl
  show wpAny _ _ (call (.ref C) [u1]) _ _ _
  obtain ⟨hp, g, dr, tk, os⟩ := s1
  have top : hp.objs.size ≤ hp.objs.size + 1 := Nat.le_succ _
  have new : H1 (hp.objs.size + 1) = none := I1.hok.fresh top
  have keep : ∀ b o, hp.get? b = some o → ((hp.push (PySem.W.kdv_tup [u1])).push (PySem.HandSPX.excO C hp.objs.size)).get? b = some o := fun b o z => Heap.get?_push_of_some _ (Heap.get?_push_of_some _ z)
  have at_ : ((hp.push (PySem.W.kdv_tup [u1])).push (PySem.HandSPX.excO C hp.objs.size)).get? (hp.objs.size + 1) = some (PySem.HandSPX.excO C hp.objs.size) := by heap_get
  have I2 : Inv X pins σ (upd H1 (hp.objs.size + 1) (exo (hp.objs.size + 1) C none)) ⟨(hp.push (PySem.W.kdv_tup [u1])).push (PySem.HandSPX.excO C hp.objs.size), g, dr, tk, os⟩ := I1.laid (t' := tk) keep top (exo_ok at_)
  have vals : Vals (V.ref (hp.objs.size + 1) :: [y]) (Value.ref (hp.objs.size + 1) :: [u1]) := .cons rfl (.cons r1 .nil)
  have promise : spI1 C f [V.ref (hp.objs.size + 1), y] (upd H1 (hp.objs.size + 1) (exo (hp.objs.size + 1) C none)) (fun v H2 => v = .non ∧ Q (.ref (hp.objs.size + 1)) H2) (fun _ _ _ => False) :=
    ⟨_, _, rfl, upd_same, fun dx hdx hne => ⟨rfl, q _ dx new ((upd_ne hne).symm.trans hdx) hne⟩⟩
  have len : (Value.ref (hp.objs.size + 1) :: [u1]).length = ps.length := by rw [← vals.length]; exact F1.len _ _ _ _ promise
  have few : [u1].length ≤ sizeLine := by rw [sizeLine_eq]; exact Nat.le_of_ble_eq_true rfl
  refine wpAny_call (PySem.HandSPX.call_own F.excBase_ValueError (fun Y => PySem.HandSPX.refsVE_contains Y bm hbm) (I1.kIn _ _ hC) (PySem.W.looks_findIn I1.kIn iC) (fun self => PySem.W.bind_fn I1.kIn self tI) few ?_)
  refine codeAny_mono (F1.run _ X.stack _ _ ⟨Value.ref (hp.objs.size + 1) :: [u1], []⟩ (Value.ref (hp.objs.size + 1) :: [u1]) _ _ (fun _ _ _ => False) (hr.make C [u1] []) (I2.env0.make C [u1] []) (hb _ (Value.ref (hp.objs.size + 1) :: [u1]) I2.kIn len) vals promise) ?_
  rintro (er | fl') s2 z
  · exact pass0 pins σ _ _ er s2 I2 z
  · match fl', z with
    | .ret u, ⟨v, H2, sys, bare, un, hok, rv, ev, q2⟩ =>
      subst ev
      obtain ⟨h2, g2, d2, t2, os2⟩ := s2
      cases sys
      exact ⟨rv, .ref _, H2, I2.call (ch := []) un hok bare (fun _ w => absurd w (by simp)), rfl, q2⟩
theorem pe_excV0 (D : XDef X.prog X.w X.K X.mg X.base k x fl (fun C => spI0 C) C) (hr : Room (k + 1) X.A) (hg : Gl X x := by rfl) (hdb : (x == ("__debug__" : Str)) = false := by decide) : PE X (.Call (.Name x p) [] [] pos) (tExc0 C) := by
  obtain ⟨fI, fd, ps, iC, tI, F1, hb⟩ := D.ini
  obtain ⟨nm, q0, N, bs, bm, sn, sub, ab, col, dd, k0, k1, k2, k3, k5, hC, hbm⟩ := D.ox.cls
  constructor
  intro pins s σ H Q I h
  refine wpAny_Call_Name_kw (ld_glob I hg D.gC ?_ hdb)
  refine PySem.W.callWith_K0 I.kIn D.ox.kC ?_
  show wpAny _ _ (call (.ref C) []) _ _ _
  obtain ⟨hp, g, dr, tk, os⟩ := s
  have top : hp.objs.size ≤ hp.objs.size + 1 := Nat.le_succ _
  have new : H (hp.objs.size + 1) = none := I.hok.fresh top
  have keep : ∀ b o, hp.get? b = some o → ((hp.push (PySem.W.kdv_tup [])).push (PySem.HandSPX.excO C hp.objs.size)).get? b = some o := fun b o z => Heap.get?_push_of_some _ (Heap.get?_push_of_some _ z)
  have at_ : ((hp.push (PySem.W.kdv_tup [])).push (PySem.HandSPX.excO C hp.objs.size)).get? (hp.objs.size + 1) = some (PySem.HandSPX.excO C hp.objs.size) := by heap_get
  have I2 : Inv X pins σ (upd H (hp.objs.size + 1) (exo (hp.objs.size + 1) C none)) ⟨(hp.push (PySem.W.kdv_tup [])).push (PySem.HandSPX.excO C hp.objs.size), g, dr, tk, os⟩ := I.laid (t' := tk) keep top (exo_ok at_)
  have vals : Vals [V.ref (hp.objs.size + 1)] [Value.ref (hp.objs.size + 1)] := .cons rfl .nil
  have promise : spI0 C [V.ref (hp.objs.size + 1)] (upd H (hp.objs.size + 1) (exo (hp.objs.size + 1) C none)) (fun v H2 => v = .non ∧ Q (.ref (hp.objs.size + 1)) H2) (fun _ _ _ => False) := ⟨_, rfl, upd_same, rfl, h _ new⟩
  have len : ([Value.ref (hp.objs.size + 1)] ++ []).length = ps.length := F1.len _ _ _ _ promise
  refine wpAny_call (PySem.HandSPX.call_own F.excBase_ValueError (fun Y => PySem.HandSPX.refsVE_contains Y bm hbm) (I.kIn _ _ hC) (PySem.W.looks_findIn I.kIn iC) (fun self => PySem.W.bind_fn I.kIn self tI) (Nat.zero_le _) ?_)
  refine codeAny_mono (F1.run _ X.stack _ _ ⟨[Value.ref (hp.objs.size + 1)], []⟩ [Value.ref (hp.objs.size + 1)] _ _ (fun _ _ _ => False) (hr.make C [] []) (I2.env0.make C [] []) (hb _ [Value.ref (hp.objs.size + 1)] I2.kIn len) vals promise) ?_
  rintro (er | fl') s2 z
  · exact pass0 pins σ _ _ er s2 I2 z
  · match fl', z with
    | .ret u, ⟨v, H2, sys, bare, un, hok, rv, ev, q2⟩ =>
      subst ev
      obtain ⟨h2, g2, d2, t2, os2⟩ := s2
      cases sys
      exact ⟨rv, .ref _, H2, I2.call (ch := []) un hok bare (fun _ w => absurd w (by simp)), rfl, q2⟩
/-- e.f, e an error that is a value -/
def tExf (C : Addr) (f : Str) (te : TE) : TE := fun σ H Q => te σ H fun x H1 => ∃ (a dx : Addr) (fs : List (Str × V)) (v : V), x = .ref a ∧ H1 a = some (exo a C (some dx)) ∧ H1 dx = some (exd dx fs) ∧ fs.lookup f = some v ∧ Q v H1
theorem pe_excF {n : Str} (T : XfC X.K C) (hno : PySem.W.findIn X.K (.ref C) n = some none) (he : PE X e te) (hb : attributeBase e n X.env (eval e X.env) = eval e X.env := by rfl) : PE X (.Attribute e n pos) (tExf C n te) := by
  constructor
  intro pins s σ H Q I h
  refine attr_of hb (thn (he.run pins s σ H _ I h) fun u s1 z => ?_)
  obtain ⟨y, H1, I1, ry, a, dx, fs, v, rfl, ha, hd, l, q⟩ := z
  cases (show u = Value.ref a from ry)
  obtain ⟨t1, hoe⟩ := exo_at I1.hok ha
  obtain ⟨mA, hns, hr⟩ := exd_at I1.hok hd
  obtain ⟨od, ho, look⟩ := lookIn_ns hns
  obtain ⟨w, hw, rw'⟩ := RelO.some_of (v := v) (o := mA n) (by rw [← l]; exact hr n)
  have J : PySem.W.InstAt s1.heap a _ C (some od) := ⟨hoe, rfl, rfl, ho⟩
  exact HandSPX.exc_get I1.kIn J T.ga T.gg T.exC (PySem.W.findObj_own T.hdC hno rfl (by rw [look, hw])) (handed_of rw') ⟨v, H1, I1.tok _, rw', q⟩
/-- an error at a, of the class D -/
def ExcAt (H : Hp) (a D : Addr) : Prop := ∃ d, H a = some (exo a D d) ∧ (d = none ∨ ∃ dx vfs, d = some dx ∧ H dx = some (exd dx vfs))
def rIsX (K : PySem.W.Frag) : List V → Hp → VK → Prop := fun xs H Q => ∃ (a D : Addr) (c : V) (cv : Value) (b : Bool), xs = [.ref a, c] ∧ ExcAt H a D ∧ ExcC K D ∧ (∀ u, RelV c u → u = cv) ∧ PySem.W.kitOne K (.ref D) cv = some b ∧ Q (.bl b) H
theorem cr_isX : CallR X (.builtin "isinstance") (rIsX X.K) := by
  rintro pins s σ H xs us Q I r ⟨a, D, c, cv, b, rfl, ⟨d, ha, hd⟩, C0, hcv, e, q⟩
  obtain ⟨u, v, eu, ru, rv⟩ := vals2 r
  subst eu
  obtain rfl : v = cv := hcv _ rv
  cases (show u = Value.ref a from ru)
  obtain ⟨t1, hoe⟩ := exo_at I.hok ha
  obtain ⟨od, J⟩ : ∃ od, PySem.W.InstAt s.heap a { cls := .ref D, dict := d, data := .fields #[.ref t1, .none, .none, .none, .bool false, .none] } D od := by
    rcases hd with rfl | ⟨dx, vfs, rfl, hx⟩
    · exact ⟨none, hoe, rfl, rfl, trivial⟩
    · obtain ⟨mA, hns, _⟩ := exd_at I.hok hx
      obtain ⟨od, ho, _⟩ := lookIn_ns hns
      exact ⟨some od, hoe, rfl, rfl, ho⟩
  have hcl : (PySem.W.clsIn X.K D).isSome = true := by
    obtain ⟨cd, hc, _⟩ := PySem.W.any_some C0.hd
    rw [hc]
    rfl
  exact PySem.W.kia_one (PySem.W.kitx_exc hcl C0.hg C0.hk C0.hs C0.ha C0.hn C0.ht C0.hm) I.kIn J e (fun z => nomatch z) fun tk => ⟨.bl b, H, I.kept (t' := tk) fun _ _ z => z, rfl, q⟩
theorem cr_isXK {K0 : PySem.W.Frag} (hK : X.K = K0) : CallR X (.builtin "isinstance") (rIsX K0) := hK ▸ cr_isX
end
section
variable {p : Par} {ρ : Rho} {Q : D → Prop} {te ta tb : TE} {C : Addr} {f : Str} {K : PySem.W.Frag}
theorem upd_over {H : Hp} {a b : Addr} {u w z : HO} : upd (upd (upd H a u) b w) a z = upd (upd H b w) a z := funext fun c => by
  by_cases ha : c = a
  · rw [ha, upd_same, upd_same]
  · rw [upd_ne ha, upd_ne ha]
    by_cases hb : c = b
    · rw [hb, upd_same, upd_same]
    · rw [upd_ne hb, upd_ne hb, upd_ne ha]
theorem exc_step {G H : Hp} {a dx : Addr} {f : Str} {v : V} (m : Mem p G H) (ha : H a = none) (hdx : H dx = none) (hne : dx ≠ a) :
    Stp p G H (upd (upd G dx (exd dx [(f, v)])) a (exo a C (some dx))) (upd (upd (upd H a (exo a C none)) dx (exd dx [(f, v)])) a (exo a C (some dx))) := by
  rw [upd_over]
  have s1 := m.grow (o := exd dx [(f, v)]) hdx (fun ps z => by cases z)
  have m1 : Mem p (upd G dx (exd dx [(f, v)])) (upd H dx (exd dx [(f, v)])) := m.step s1
  exact s1.trans (m1.grow (o := exo a C (some dx)) (by rw [upd_ne (Ne.symm hne)]; exact ha) (fun ps z => by cases z))
theorem we_excV1 (h : WE p ρ te fun _ => Q (.exc C)) : WE p ρ (tExc1 C f te) Q := fun G σ H hh Qv k =>
  h G σ H hh _ fun x v G1 H1 q s1 r1 a dx ha hdx hne => by
    have hh1 := hh.step s1
    have s2 := exc_step (C := C) (f := f) (v := v) hh1.mem ha hdx hne
    exact k _ _ _ _ q (s1.trans s2) (.exc upd_same (.inr ⟨dx, _, rfl, by rw [upd_ne hne, upd_same]⟩))
theorem we_excV0 (q : Q (.exc C)) : WE p ρ (tExc0 C) Q := fun G σ H hh Qv k a ha =>
  k _ _ _ _ q (hh.mem.grow (o := exo a C none) ha (fun ps z => by cases z)) (.exc upd_same (.inl rfl))
/-- C(e).f -/
theorem we_excF (h : WE p ρ te Q) : WE p ρ (tExf C f (tExc1 C f te)) Q := fun G σ H hh Qv k =>
  h G σ H hh _ fun x v G1 H1 q s1 r1 a dx ha hdx hne => by
    have hh1 := hh.step s1
    have s2 := exc_step (C := C) (f := f) (v := v) hh1.mem ha hdx hne
    exact ⟨a, dx, [(f, v)], v, rfl, upd_same, by rw [upd_ne hne, upd_same], by simp [List.lookup], k _ _ _ _ q (s1.trans s2) (rmono r1 s2.ex)⟩
/-- isinstance(e, cv) -/
theorem we_isX {c : V} {cv : Value} (hc : ∀ u, RelV c u → u = cv) (h : WE p ρ te fun x => ∃ D b, x = .exc D ∧ ExcC p.K D ∧ PySem.W.kitOne p.K (.ref D) cv = some b ∧ Q (.bl b)) : WE p ρ (tCB (rIsX p.K) (tCons te (tCons (tC c) tNil))) Q := fun G σ H hh Qv k =>
  h G σ H hh _ fun x v G1 H1 ⟨D, b, e, C0, hk, q⟩ s r => by
    subst e
    have m1 := (hh.step s).mem
    cases r with
    | @exc a _ d ha hd =>
      exact ⟨a, D, c, cv, b, rfl, ⟨d, m1.sub _ _ ha, hd.imp id fun ⟨dx, vfs, e1, e2⟩ => ⟨dx, vfs, e1, m1.sub _ _ e2⟩⟩, C0, hc, hk, k _ _ G1 H1 q s (.bl _)⟩
end
end Cal
set_option Elab.async false
set_option linter.all false
set_option maxRecDepth 100000
set_option maxHeartbeats 4000000
namespace Cal
open PySem PySem.Spec L2 PyProof.Rows
open Evl (Ex sq_of st_of)
/-! ### lists of flags: count, index -/
def rCntB (K : PySem.W.Frag) : V → List V → Hp → VK → Prop := fun x xs H Q => ∃ (p : Addr) (bs : List Bool) (b : Bool), x = .ref p ∧ xs = [.bl b] ∧ SqL K H p (bs.map V.bl) ∧ Q (.int ((bs.count b : Nat) : Int)) H
theorem mt_lcountB {X : Cx} : MtR X "list.count" (rCntB X.K) := by
  intro pins s σ H x xs v us Q I rx rxs h
  obtain ⟨p, bs, b, rfl, rfl, hs, q⟩ := h
  cases (show v = Value.ref p from rx)
  obtain ⟨u, rfl, ru⟩ := rxs.one
  cases (show u = Value.bool b from ru)
  obtain ⟨its, rv, ⟨⟨cls, dd, data, sl⟩, n, ho, hc, hdn, hd⟩, hlen⟩ := I.list hs
  simp only at hc hd
  subst hc hd
  obtain ⟨h1, h2⟩ := flags_are (b := b) rv
  refine call_meets PySem.F.slot_list_count ⟨_, ho, rfl⟩ PySem.F.entry_list_count (PySem.F.args_list_count_2 _ _) (SeqAt.list_countAt p its.toArray n dd sl (.bool b) (flagIs b)) ⟨ho, fun w hw => ?_, ?_⟩
  · obtain ⟨c, ec⟩ : ∃ c, w = Value.bool c := h1 w (by simpa using hw)
    rw [ec]
    exact SeqAt.EqAt.bool_bool c b
  · have e3 : its.toArray.toList.countP (flagIs b) = bs.count b := h2
    rw [e3]
    exact ⟨.int ((bs.count b : Nat) : Int), H, I.tok _, ⟨s.toks, rfl⟩, q⟩
theorem mt_lcountBK {X : Cx} {K0 : PySem.W.Frag} (hK : X.K = K0) : MtR X "list.count" (rCntB K0) := hK ▸ mt_lcountB
theorem mt_indexK {X : Cx} {K0 : PySem.W.Frag} (hK : X.K = K0) : MtR X "list.index" (rIndex K0) := hK ▸ mt_index
section
variable {p : Par} {ρ : Rho} {Q : D → Prop} {te ta tb : TE}
theorem we_lcountB (h : WE p ρ ta fun x => ∃ bs : List Bool, x = .lst (bs.map D.bl) ∧ WE p ρ tb fun y => ∃ b, y = .bl b ∧ Q (.int ((bs.count b : Nat) : Int))) : WE p ρ (tBM p.K "list" (rCntB p.K) ta (tCons tb tNil)) Q := fun G σ H hh Qv k =>
  h G σ H hh _ fun x v G1 H1 ⟨bs, ex, h2⟩ s1 r1 => by
    subst ex
    have hh1 := hh.step s1
    obtain ⟨a, vs, ev, hs, hl⟩ := r1.lst_inv
    subst ev
    cases RpL.bls hl
    refine ⟨.inl ⟨rfl, _, lq hh1.mem.sub hs⟩, h2 G1 σ H1 hh1 _ fun y w G2 H2 ⟨b, ey, q⟩ s2 r2 => ?_⟩
    subst ey
    cases r2
    exact ⟨a, bs, b, rfl, rfl, lq (hh1.step s2).mem.sub (s2.ex _ _ hs), k _ _ G2 H2 q (s1.trans s2) (.int _)⟩
theorem we_lindexB (h : WE p ρ ta fun x => ∃ bs : List Bool, x = .lst (bs.map D.bl) ∧ WE p ρ tb fun y => y = .bl true ∧ ∃ n, bs[n]? = some true ∧ (∀ m b, m < n → bs[m]? = some b → b = false) ∧ Q (.int ((n : Nat) : Int))) : WE p ρ (tBM p.K "list" (rIndex p.K) ta (tCons tb tNil)) Q := fun G σ H hh Qv k =>
  h G σ H hh _ fun x v G1 H1 ⟨bs, ex, h2⟩ s1 r1 => by
    subst ex
    have hh1 := hh.step s1
    obtain ⟨a, vs, ev, hs, hl⟩ := r1.lst_inv
    subst ev
    cases RpL.bls hl
    refine ⟨.inl ⟨rfl, _, lq hh1.mem.sub hs⟩, h2 G1 σ H1 hh1 _ fun y w G2 H2 ⟨ey, n, hn, hno, q⟩ s2 r2 => ?_⟩
    subst ey
    cases r2
    refine ⟨a, bs.map V.bl, .bl true, n, .bl true, rfl, rfl, lq (hh1.step s2).mem.sub (s2.ex _ _ hs), rfl, ?_, by rw [List.getElem?_map, hn]; rfl, rfl, fun m z hm hz => ?_, k _ _ G2 H2 q (s1.trans s2) (.int _)⟩
    · exact List.all_eq_true.mpr fun z hz => by obtain ⟨b, _, rfl⟩ := List.mem_map.mp hz; rfl
    · rw [List.getElem?_map] at hz
      obtain ⟨b, hb, rfl⟩ := Option.map_eq_some_iff.mp hz
      rw [hno m b hm hb]
      rfl
/-- len(set(l)), l a list of ints, no two of which are one -/
theorem we_lenSetI (h : WE p ρ te fun x => ∃ ns : List Int, x = .lst (ns.map D.int) ∧ ns.length < 64 ∧ ns.Nodup ∧ Q (.int ((ns.length : Nat) : Int))) : WE p ρ (tLenSetI p.K te) Q := fun G σ H hh Qv k =>
  h G σ H hh _ fun x v G1 H1 ⟨ns, ex, few, nd, q⟩ s1 r1 => by
    subst ex
    obtain ⟨a, vs, ev, hs, hl⟩ := r1.lst_inv
    subst ev
    cases RpL.ints hl
    exact ⟨a, ns, rfl, lq (hh.step s1).mem.sub hs, few, nd, k _ _ G1 H1 q s1 (.int _)⟩
end
theorem pe_lenSetIK {X : Cx} {K0 : PySem.W.Frag} {a : Expr} {ta : TE} {p p2 q pos : Pos} (hK : X.K = K0) (hg : Gl X "len") (hm : X.mg "len" = none) (hg2 : Gl X "set") (hm2 : X.mg "set" = none) (ha : PE X a ta) (hc : X.calm = true := by rfl)
    (na : starEach [a] X.env = (false, eval a X.env) :: starEach [] X.env := by rfl) : PE X (.Call (.Name "len" p) [.Call (.Name "set" p2) [a] [] q] [] pos) (tLenSetI K0 ta) := by
  subst hK
  exact pe_lenSetI hc hg hm hg2 hm2 ha na
/-! ### repr, also of {} -/
def rRepD : List V → Hp → VK → Prop := fun xs H Q => ∃ a, xs = [.ref a] ∧ Rd H a (.dK []) ∧ Q (.str "{}") H
theorem cr_reprD {X : Cx} (hg : X.A.guards = some []) (hu : X.A.units + 64 < cLine) : CallR X (.builtin "repr") rRepD := by
  intro pins s σ H xs us Q I r h
  obtain ⟨a, rfl, rd, q⟩ := h
  obtain ⟨u, eu, ru⟩ := r.one
  subst eu
  cases (show u = Value.ref a from ru)
  obtain ⟨_, sys, vs, kv, o, es, ep, ho, ex, hd, _, prs, _⟩ := dk_rd I.hok rd
  cases kv
  have he : es.toList = [] := List.length_eq_zero_iff.mp prs.length
  have rds : Reads s.heap (.ref a) (.dict []) (a :: [] ++ []) := .dict ho ex.1 hd (by rw [he]; exact .nil) (by rw [he]; exact .nil)
  have no : PyData.hasDict (.dict []) = true → sysModules ∉ (a :: [] ++ [] : List Addr) := fun _ z => by
    have e : sysModules = a := List.mem_singleton.mp z
    rw [e] at sys
    simp at sys
  exact repr_of_reads' rds (by rw [PyData.showable, PyData.showableKv]) no hg (by rw [PyData.depth, PyData.depthKv]; omega) (fun _ _ e => e) (fun h' u tk hk => ⟨.str _, H, I.kept hk, ⟨_, rfl⟩, q⟩) (by rw [sizeLine_eq]; exact Nat.le_of_ble_eq_true rfl)
/-- x is printed as t -/
def Prn (x : D) (t : Str) : Prop := (Cmp x ∧ (toPy x).showable = true ∧ (toPy x).depth ≤ 60 ∧ (toPy x).hasDict = false ∧ (toPy x).shown.length ≤ sizeLine ∧ t = (toPy x).shown) ∨ (x = .dK [] ∧ t = "{}")
section
variable {p : Par} {ρ : Rho} {Q : D → Prop} {te : TE}
theorem we_reprX (h : WE p ρ te fun x => ∃ t, Prn x t ∧ Q (.str t)) : WE p ρ (tCB (rOr (rRep p.K) rRepD) (tCons te tNil)) Q :=
  we_cb (wa_cons (h.imp fun x ⟨t, hp, q⟩ => wa_nil fun G H vs m r Qv k => by
    cases r with
    | cons r rn =>
      cases rn
      rcases hp with ⟨c, sh, dd, nd, sz, rfl⟩ | ⟨rfl, rfl⟩
      · exact .inl ⟨_, _, rfl, dp_of m.sub x _ c r, sh, dd, nd, sz, k _ _ G H q m.refl (.str _)⟩
      · cases r with
        | @dK a vk _ ga hl =>
          cases hl
          exact .inr ⟨a, rfl, ga.imp (m.sub _ _) fun ⟨o, z⟩ => ⟨o, m.sub _ _ z⟩, k _ _ G H q m.refl (.str _)⟩))
end
end Cal
set_option Elab.async false
set_option linter.all false
set_option maxRecDepth 100000
set_option maxHeartbeats 4000000
namespace Cal
open PySem PySem.Spec L2 PyProof.Rows
/-- o.m(..) of a built-in kind, in a comprehension too -/
theorem pe_bmK {X : Cx} {K0 : PySem.W.Frag} {o e : Expr} {es : List Expr} {to : TE} {t : TA} {name : Str} {apos cpos : Pos} {T id : String} {r : V → List V → Hp → VK → Prop} (hK : X.K = K0) (pa : PlainAttrs T) (slot : PySem.Slot T name id) (hty : typeOf (.builtin id) = pure (.type "method_descriptor")) (hm : MtR X id r) (ho : PE X o to) (ha : PA X (e :: es) t)
    (hbase : attributeBase o name X.env (eval o X.env) = eval o X.env := by rfl)
    (hfew : ((backTo cpos (starEach (e :: es) X.env)).all (fun x => !x.1) && (backToKw cpos (keywordEach [] X.env)).all (fun x => x.1.isSome) && decide ((e :: es).length + ([] : List Keyword).length + (if ([] : List Keyword).isEmpty then 0 else 1) < 30)) = true := by rfl)
    (hline : (apos.endLine == cpos.line) = true := by rfl) (hs : starEach (e :: es) X.env = (false, eval e X.env) :: starEach es X.env := by rfl) (hplain : (backTo cpos (starEach es X.env)).any (·.1) = false := by rfl) :
    PE X (.Call (.Attribute o name apos) (e :: es) [] cpos) (tBM K0 T r to t) := by
  subst hK
  exact pe_bm pa slot hty hm ho ha hbase hfew hline hs hplain
/-! ### the classes of errors, told apart -/
theorem sub_exc {K : PySem.W.Frag} {nm q : Str} {D N W : Addr} {bs : List Value} {hd : Bool} {sn : List Str} {sub : List Value} {ab : Bool} {col : Option Bool} {dd : Option Addr} {k0 k1 k2 k3 k5 : Option Value} {newId : String} (c : Addr)
    (xl : K.lookup D = some (excClassObj nm q D N bs (.ref W :: [.type "ValueError", .type "Exception", .type "BaseException", .type "object"]) hd sn sub ab col dd k0 k1 k2 k3 k5 newId)) :
    PySem.W.subIn K (.ref D) (.ref c) = some (decide (c = D) || decide (c = W)) ∧ (PySem.W.clsIn K D).isSome = true := by
  have e : ∃ cd : ClassData, PySem.W.clsIn K D = some cd ∧ cd.mro = .ref D :: .ref W :: [.type "ValueError", .type "Exception", .type "BaseException", .type "object"] := by
    unfold PySem.W.clsIn
    rw [xl]
    exact ⟨_, rfl, rfl⟩
  obtain ⟨cd, e1, e2⟩ := e
  refine ⟨?_, by rw [e1]; rfl⟩
  show PySem.W.mroIn K D (.ref c) = _
  unfold PySem.W.mroIn
  rw [e1]
  show (if cd.mro.isEmpty = true then none else some (cd.mro.contains (.ref c))) = _
  rw [e2]
  show some _ = some _
  congr 1
  show (Value.ref c == Value.ref D || (Value.ref c == Value.ref W || _)) = _
  have r : ∀ a b : Addr, (Value.ref a == Value.ref b) = decide (a = b) := fun a b => by
    by_cases h : a = b
    · subst h
      rw [decide_eq_true rfl]
      exact beq_self_eq_true _
    · rw [decide_eq_false h]
      exact beq_eq_false_iff_ne.mpr fun z => h (by cases z; rfl)
  rw [r, r]
  cases decide (c = D) <;> cases decide (c = W) <;> rfl
theorem cls_of_mro {K : PySem.W.Frag} {D : Addr} {v : Value} {b : Bool} (h : PySem.W.mroIn K D v = some b) : (PySem.W.clsIn K D).isSome = true := by
  unfold PySem.W.mroIn at h
  cases e : PySem.W.clsIn K D with
  | none => rw [e] at h; cases h
  | some c => rfl
/-- one class of errors -/
structure EOne (K : PySem.W.Frag) (mg : Str → Option Value) (W : Addr) (z : Str × Addr) : Prop where
  m : mg z.1 = some (.ref z.2)
  x : ExcC K z.2
  s : ∀ c, PySem.W.subIn K (.ref z.2) (.ref c) = some (decide (c = z.2) || decide (c = W))
  v : PySem.W.subIn K (.ref z.2) (.type "ValueError") = some true
  c : (PySem.W.clsIn K z.2).isSome = true
  t : PySem.W.typeIn K (.ref z.2) = some (.type "type")
structure EAll (K : PySem.W.Frag) (mg : Str → Option Value) (W : Addr) (l : List (Str × Addr)) : Prop where
  m : mg "WritingError" = some (.ref W)
  c : (PySem.W.clsIn K W).isSome = true
  t : PySem.W.typeIn K (.ref W) = some (.type "type")
  all : ∀ z ∈ l, EOne K mg W z
  nd : (W :: l.map (·.2)).Nodup
section
variable {K : PySem.W.Frag} {mg : Str → Option Value} {W : Addr} {l : List (Str × Addr)}
theorem kit_cls_of {a c : Addr} {b : Bool} (h : PySem.W.subIn K (.ref a) (.ref c) = some b) (h1 : (PySem.W.clsIn K c).isSome = true) (h2 : PySem.W.typeIn K (.ref c) = some (.type "type")) (hb : a = c → b = true) : PySem.W.kitOne K (.ref a) (.ref c) = some b := by
  unfold PySem.W.kitOne
  by_cases e : a = c
  · rw [hb e, e, if_pos (beq_self_eq_true _)]
  · rw [if_neg (fun z => e (by have := eq_of_beq z; cases this; rfl))]
    show (if ((PySem.W.clsIn K c).isSome && PySem.W.typeIn K (.ref c) == some (.type "type")) = true then PySem.W.subIn K (.ref a) (.ref c) else none) = _
    rw [if_pos (by rw [h1, h2]; rfl), h]
theorem EAll.ve (A : EAll K mg W l) {z : Str × Addr} (hz : z ∈ l) : PySem.W.kitOne K (.ref z.2) (.type "ValueError") = some true := kit_ve (A.all z hz).v
theorem EAll.we (A : EAll K mg W l) {z : Str × Addr} (hz : z ∈ l) {C : Addr} (hm : mg "WritingError" = some (.ref C)) : PySem.W.kitOne K (.ref z.2) (.ref C) = some true := by
  have e := A.m
  rw [hm] at e
  cases e
  refine kit_cls_of ?_ A.c A.t fun _ => rfl
  rw [(A.all z hz).s, decide_eq_true rfl, Bool.or_true]
theorem nodup_names {l : List (Str × Addr)} (h : (l.map (·.2)).Nodup) (hm : ∀ z ∈ l, mg z.1 = some (.ref z.2)) {z y : Str × Addr} (hz : z ∈ l) (hy : y ∈ l) : decide (y.2 = z.2) = decide (z.1 = y.1) := by
  by_cases e : z.1 = y.1
  · have a := hm z hz
    have b := hm y hy
    rw [e, b] at a
    rw [decide_eq_true e]
    refine decide_eq_true ?_
    injection a with a
    injection a
  · rw [decide_eq_false e]
    refine decide_eq_false fun e2 => e ?_
    obtain ⟨i, hi⟩ := List.mem_iff_getElem?.mp hz
    obtain ⟨j, hj⟩ := List.mem_iff_getElem?.mp hy
    have hi1 := (List.getElem?_eq_some_iff.mp hi).1
    have hj1 := (List.getElem?_eq_some_iff.mp hj).1
    have a : (l.map (·.2))[i]? = some z.2 := by rw [List.getElem?_map, hi]; rfl
    have b : (l.map (·.2))[j]? = some z.2 := by rw [List.getElem?_map, hj, ← e2]; rfl
    have ij : i = j := (List.getElem?_inj (by rw [List.length_map]; exact hi1) h).mp (a.trans b.symm)
    rw [ij, hj] at hi
    cases hi
    rfl
theorem EAll.one (A : EAll K mg W l) {z y : Str × Addr} (hz : z ∈ l) (hy : y ∈ l) {C : Addr} (hm : mg y.1 = some (.ref C)) : PySem.W.kitOne K (.ref z.2) (.ref C) = some (decide (z.1 = y.1)) := by
  have e := (A.all y hy).m
  rw [hm] at e
  cases e
  obtain ⟨nw, nd⟩ := List.nodup_cons.mp A.nd
  have ny : decide (y.2 = W) = false := decide_eq_false fun e => nw (by rw [← e]; exact List.mem_map.mpr ⟨y, hy, rfl⟩)
  have h := (A.all z hz).s y.2
  rw [ny, Bool.or_false, nodup_names nd (fun z hz => (A.all z hz).m) hz hy] at h
  refine kit_cls_of h (A.all y hy).c (A.all y hy).t fun e => decide_eq_true ?_
  have q := nodup_names nd (fun z hz => (A.all z hz).m) hz hy
  rw [decide_eq_true e.symm] at q
  exact of_decide_eq_true q.symm
end
end Cal
set_option Elab.async false
set_option linter.all false
set_option maxRecDepth 100000
set_option maxHeartbeats 4000000
namespace Lk00
open PySem L2 PyProof.Rows Cal
open Evl (Ex)
def inClass : Stmt → Nat → Stmt
  | .ClassDef _ _ _ b _ _ _ _ _ _ _, i => b.getD i (.Pass ⟨0, 0, 0, 0⟩)
  | _, _ => .Pass ⟨0, 0, 0, 0⟩
def top (i : Nat) : Stmt := PySem.Challenge.pw_anywriting_k00_errors_of_the_package.main.body.getD i (.Pass ⟨0, 0, 0, 0⟩)
abbrev s_law_hand : Stmt := top 28
abbrev N_law_hand : List Str := ["script", "cell"]
theorem sc_law_hand : FnScope N_law_hand ["script"] (defScope s_law_hand) := ⟨rfl, rfl, rfl, by decide +kernel, rfl, by decide +kernel, by decide +kernel⟩
abbrev s_law_mixed : Stmt := top 29
abbrev N_law_mixed : List Str := ["cell", "turn", "number"]
theorem sc_law_mixed : FnScope N_law_mixed ["cell", "turn"] (defScope s_law_mixed) := ⟨rfl, rfl, rfl, by decide +kernel, rfl, by decide +kernel, by decide +kernel⟩
abbrev s_law_draw : Stmt := top 30
abbrev N_law_draw : List Str := ["hand", "many", "found", "cells", "at", "cell"]
theorem sc_law_draw : FnScope N_law_draw ["hand", "many"] (defScope s_law_draw) := ⟨rfl, rfl, rfl, by decide +kernel, rfl, by decide +kernel, by decide +kernel⟩
abbrev s_law_any : Stmt := top 31
abbrev N_law_any : List Str := ["hand", "some"]
theorem sc_law_any : FnScope N_law_any ["hand", "some"] (defScope s_law_any) := ⟨rfl, rfl, rfl, by decide +kernel, rfl, by decide +kernel, by decide +kernel⟩
abbrev s_law_deep : Stmt := top 32
abbrev N_law_deep : List Str := ["hand", "thing", "turn"]
theorem sc_law_deep : FnScope N_law_deep ["hand"] (defScope s_law_deep) := ⟨rfl, rfl, rfl, by decide +kernel, rfl, by decide +kernel, by decide +kernel⟩
abbrev s_law_with_field : Stmt := top 33
abbrev N_law_with_field : List Str := ["which", "thing"]
theorem sc_law_with_field : FnScope N_law_with_field ["which", "thing"] (defScope s_law_with_field) := ⟨rfl, rfl, rfl, by decide +kernel, rfl, by decide +kernel, by decide +kernel⟩
abbrev s_law_plain : Stmt := top 34
abbrev N_law_plain : List Str := ["found"]
theorem sc_law_plain : FnScope N_law_plain [] (defScope s_law_plain) := ⟨rfl, rfl, rfl, by decide +kernel, rfl, by decide +kernel, by decide +kernel⟩
abbrev s_law_kinds : Stmt := top 35
abbrev N_law_kinds : List Str := ["e", "found"]
theorem sc_law_kinds : FnScope N_law_kinds ["e"] (defScope s_law_kinds) := ⟨rfl, rfl, rfl, by decide +kernel, rfl, by decide +kernel, by decide +kernel⟩
abbrev s_law : Stmt := top 36
abbrev N_law : List Str := ["script", "hand", "things", "errors", "which", "thing", "told", "error"]
theorem sc_law : FnScope N_law ["script"] (defScope s_law) := ⟨rfl, rfl, rfl, by decide +kernel, rfl, by decide +kernel, by decide +kernel⟩
abbrev si_NoBase : Stmt := inClass (top 2) 0
theorem sci_NoBase : FnScope ["self"] ["self"] (defScope si_NoBase) := ⟨rfl, rfl, rfl, by decide +kernel, rfl, by decide +kernel, by decide +kernel⟩
abbrev si_NoRow : Stmt := inClass (top 3) 0
theorem sci_NoRow : FnScope ["self"] ["self"] (defScope si_NoRow) := ⟨rfl, rfl, rfl, by decide +kernel, rfl, by decide +kernel, by decide +kernel⟩
abbrev si_NoNumber : Stmt := inClass (top 4) 0
theorem sci_NoNumber : FnScope ["self"] ["self"] (defScope si_NoNumber) := ⟨rfl, rfl, rfl, by decide +kernel, rfl, by decide +kernel, by decide +kernel⟩
abbrev si_NoMany : Stmt := inClass (top 5) 0
theorem sci_NoMany : FnScope ["self"] ["self"] (defScope si_NoMany) := ⟨rfl, rfl, rfl, by decide +kernel, rfl, by decide +kernel, by decide +kernel⟩
abbrev si_TooMany : Stmt := inClass (top 6) 0
theorem sci_TooMany : FnScope ["self", "most"] ["self", "most"] (defScope si_TooMany) := ⟨rfl, rfl, rfl, by decide +kernel, rfl, by decide +kernel, by decide +kernel⟩
abbrev si_BadMachine : Stmt := inClass (top 7) 0
theorem sci_BadMachine : FnScope ["self", "part"] ["self", "part"] (defScope si_BadMachine) := ⟨rfl, rfl, rfl, by decide +kernel, rfl, by decide +kernel, by decide +kernel⟩
abbrev si_NoState : Stmt := inClass (top 8) 0
theorem sci_NoState : FnScope ["self"] ["self"] (defScope si_NoState) := ⟨rfl, rfl, rfl, by decide +kernel, rfl, by decide +kernel, by decide +kernel⟩
abbrev si_NoDigits : Stmt := inClass (top 9) 0
theorem sci_NoDigits : FnScope ["self"] ["self"] (defScope si_NoDigits) := ⟨rfl, rfl, rfl, by decide +kernel, rfl, by decide +kernel, by decide +kernel⟩
abbrev si_NoWriting : Stmt := inClass (top 10) 0
theorem sci_NoWriting : FnScope ["self"] ["self"] (defScope si_NoWriting) := ⟨rfl, rfl, rfl, by decide +kernel, rfl, by decide +kernel, by decide +kernel⟩
abbrev si_Unsound : Stmt := inClass (top 11) 0
theorem sci_Unsound : FnScope ["self"] ["self"] (defScope si_Unsound) := ⟨rfl, rfl, rfl, by decide +kernel, rfl, by decide +kernel, by decide +kernel⟩
abbrev si_NoFraction : Stmt := inClass (top 12) 0
theorem sci_NoFraction : FnScope ["self"] ["self"] (defScope si_NoFraction) := ⟨rfl, rfl, rfl, by decide +kernel, rfl, by decide +kernel, by decide +kernel⟩
abbrev si_OtherBase : Stmt := inClass (top 13) 0
theorem sci_OtherBase : FnScope ["self"] ["self"] (defScope si_OtherBase) := ⟨rfl, rfl, rfl, by decide +kernel, rfl, by decide +kernel, by decide +kernel⟩
abbrev si_NotWithin : Stmt := inClass (top 14) 0
theorem sci_NotWithin : FnScope ["self", "x"] ["self", "x"] (defScope si_NotWithin) := ⟨rfl, rfl, rfl, by decide +kernel, rfl, by decide +kernel, by decide +kernel⟩
abbrev si_NoChances : Stmt := inClass (top 15) 0
theorem sci_NoChances : FnScope ["self"] ["self"] (defScope si_NoChances) := ⟨rfl, rfl, rfl, by decide +kernel, rfl, by decide +kernel, by decide +kernel⟩
abbrev si_NoTurns : Stmt := inClass (top 16) 0
theorem sci_NoTurns : FnScope ["self"] ["self"] (defScope si_NoTurns) := ⟨rfl, rfl, rfl, by decide +kernel, rfl, by decide +kernel, by decide +kernel⟩
abbrev si_NoHand : Stmt := inClass (top 17) 0
theorem sci_NoHand : FnScope ["self"] ["self"] (defScope si_NoHand) := ⟨rfl, rfl, rfl, by decide +kernel, rfl, by decide +kernel, by decide +kernel⟩
abbrev si_NoChoices : Stmt := inClass (top 18) 0
theorem sci_NoChoices : FnScope ["self"] ["self"] (defScope si_NoChoices) := ⟨rfl, rfl, rfl, by decide +kernel, rfl, by decide +kernel, by decide +kernel⟩
abbrev si_BadDust : Stmt := inClass (top 19) 0
theorem sci_BadDust : FnScope ["self", "part"] ["self", "part"] (defScope si_BadDust) := ⟨rfl, rfl, rfl, by decide +kernel, rfl, by decide +kernel, by decide +kernel⟩
abbrev si_NoDigit : Stmt := inClass (top 20) 0
theorem sci_NoDigit : FnScope ["self"] ["self"] (defScope si_NoDigit) := ⟨rfl, rfl, rfl, by decide +kernel, rfl, by decide +kernel, by decide +kernel⟩
abbrev si_NothingDone : Stmt := inClass (top 21) 0
theorem sci_NothingDone : FnScope ["self"] ["self"] (defScope si_NothingDone) := ⟨rfl, rfl, rfl, by decide +kernel, rfl, by decide +kernel, by decide +kernel⟩
abbrev si_BadAnswer : Stmt := inClass (top 22) 0
theorem sci_BadAnswer : FnScope ["self", "x"] ["self", "x"] (defScope si_BadAnswer) := ⟨rfl, rfl, rfl, by decide +kernel, rfl, by decide +kernel, by decide +kernel⟩
abbrev si_NoFit : Stmt := inClass (top 23) 0
theorem sci_NoFit : FnScope ["self"] ["self"] (defScope si_NoFit) := ⟨rfl, rfl, rfl, by decide +kernel, rfl, by decide +kernel, by decide +kernel⟩
abbrev si_BadText : Stmt := inClass (top 24) 0
theorem sci_BadText : FnScope ["self", "line"] ["self", "line"] (defScope si_BadText) := ⟨rfl, rfl, rfl, by decide +kernel, rfl, by decide +kernel, by decide +kernel⟩
abbrev si_NoLine : Stmt := inClass (top 25) 0
theorem sci_NoLine : FnScope ["self"] ["self"] (defScope si_NoLine) := ⟨rfl, rfl, rfl, by decide +kernel, rfl, by decide +kernel, by decide +kernel⟩
abbrev si_NoName : Stmt := inClass (top 26) 0
theorem sci_NoName : FnScope ["self", "name"] ["self", "name"] (defScope si_NoName) := ⟨rfl, rfl, rfl, by decide +kernel, rfl, by decide +kernel, by decide +kernel⟩
structure Txt (K : PySem.W.Frag) (mg : Str → Option Value) : Prop where
  w_WritingError : XBase K mg "WritingError"
  x_NoBase : XSrc K mg "NoBase" [] si_NoBase "NoBase.__init__"
  x_NoRow : XSrc K mg "NoRow" [] si_NoRow "NoRow.__init__"
  x_NoNumber : XSrc K mg "NoNumber" [] si_NoNumber "NoNumber.__init__"
  x_NoMany : XSrc K mg "NoMany" [] si_NoMany "NoMany.__init__"
  x_TooMany : XSrc K mg "TooMany" ["most"] si_TooMany "TooMany.__init__"
  x_BadMachine : XSrc K mg "BadMachine" ["part"] si_BadMachine "BadMachine.__init__"
  x_NoState : XSrc K mg "NoState" [] si_NoState "NoState.__init__"
  x_NoDigits : XSrc K mg "NoDigits" [] si_NoDigits "NoDigits.__init__"
  x_NoWriting : XSrc K mg "NoWriting" [] si_NoWriting "NoWriting.__init__"
  x_Unsound : XSrc K mg "Unsound" [] si_Unsound "Unsound.__init__"
  x_NoFraction : XSrc K mg "NoFraction" [] si_NoFraction "NoFraction.__init__"
  x_OtherBase : XSrc K mg "OtherBase" [] si_OtherBase "OtherBase.__init__"
  x_NotWithin : XSrc K mg "NotWithin" ["x"] si_NotWithin "NotWithin.__init__"
  x_NoChances : XSrc K mg "NoChances" [] si_NoChances "NoChances.__init__"
  x_NoTurns : XSrc K mg "NoTurns" [] si_NoTurns "NoTurns.__init__"
  x_NoHand : XSrc K mg "NoHand" [] si_NoHand "NoHand.__init__"
  x_NoChoices : XSrc K mg "NoChoices" [] si_NoChoices "NoChoices.__init__"
  x_BadDust : XSrc K mg "BadDust" ["part"] si_BadDust "BadDust.__init__"
  x_NoDigit : XSrc K mg "NoDigit" [] si_NoDigit "NoDigit.__init__"
  x_NothingDone : XSrc K mg "NothingDone" [] si_NothingDone "NothingDone.__init__"
  x_BadAnswer : XSrc K mg "BadAnswer" ["x"] si_BadAnswer "BadAnswer.__init__"
  x_NoFit : XSrc K mg "NoFit" [] si_NoFit "NoFit.__init__"
  x_BadText : XSrc K mg "BadText" ["line"] si_BadText "BadText.__init__"
  x_NoLine : XSrc K mg "NoLine" [] si_NoLine "NoLine.__init__"
  x_NoName : XSrc K mg "NoName" ["name"] si_NoName "NoName.__init__"
  s_law_hand : Src K mg "_law_hand" s_law_hand
  s_law_mixed : Src K mg "_law_mixed" s_law_mixed
  s_law_draw : Src K mg "_law_draw" s_law_draw
  s_law_any : Src K mg "_law_any" s_law_any
  s_law_deep : Src K mg "_law_deep" s_law_deep
  s_law_with_field : Src K mg "_law_with_field" s_law_with_field
  s_law_plain : Src K mg "_law_plain" s_law_plain
  s_law_kinds : Src K mg "_law_kinds" s_law_kinds
  s_law : Src K mg "law" s_law
  errs : ∃ W l, l.map (·.1) = (["NoBase", "NoRow", "NoNumber", "NoMany", "NoState", "NoDigits", "NoWriting", "Unsound", "NoFraction", "OtherBase", "NoChances", "NoTurns", "NoHand", "NoChoices", "NoDigit", "NothingDone", "NoFit", "NoLine", "TooMany", "BadMachine", "NotWithin", "BadDust", "BadAnswer", "BadText", "NoName"] : List Str) ∧ EAll K mg W l
  n_ValueError : mg "ValueError" = none
  n_abs : mg "abs" = none
  n_int : mg "int" = none
  n_isinstance : mg "isinstance" = none
  n_len : mg "len" = none
  n_range : mg "range" = none
  n_repr : mg "repr" = none
  n_set : mg "set" = none
section
variable {P : Program} {w : World} {K : PySem.W.Frag} {mg : Str → Option Value} {bs : Heap}
theorem x_NoBase (T : Txt K mg) : ∃ C, XDef P w K mg bs 1 "NoBase" [] (fun C => spI0 C) C := xdef0 T.x_NoBase T.w_WritingError sci_NoBase (fun _ _ _ _ _ _ us hl => match us, hl with | [_], _ => rfl)
  (fun C f' cdv A outer s H E b1 b2 b3 b4 => by exact pss_one (ps_expr (pe_cinit b1 b2 b3 b4 (pa_cons (pv 0) (pa_cons pe_str pa_nil)))))
theorem x_NoRow (T : Txt K mg) : ∃ C, XDef P w K mg bs 1 "NoRow" [] (fun C => spI0 C) C := xdef0 T.x_NoRow T.w_WritingError sci_NoRow (fun _ _ _ _ _ _ us hl => match us, hl with | [_], _ => rfl)
  (fun C f' cdv A outer s H E b1 b2 b3 b4 => by exact pss_one (ps_expr (pe_cinit b1 b2 b3 b4 (pa_cons (pv 0) (pa_cons pe_str pa_nil)))))
theorem x_NoNumber (T : Txt K mg) : ∃ C, XDef P w K mg bs 1 "NoNumber" [] (fun C => spI0 C) C := xdef0 T.x_NoNumber T.w_WritingError sci_NoNumber (fun _ _ _ _ _ _ us hl => match us, hl with | [_], _ => rfl)
  (fun C f' cdv A outer s H E b1 b2 b3 b4 => by exact pss_one (ps_expr (pe_cinit b1 b2 b3 b4 (pa_cons (pv 0) (pa_cons pe_str pa_nil)))))
theorem x_NoMany (T : Txt K mg) : ∃ C, XDef P w K mg bs 1 "NoMany" [] (fun C => spI0 C) C := xdef0 T.x_NoMany T.w_WritingError sci_NoMany (fun _ _ _ _ _ _ us hl => match us, hl with | [_], _ => rfl)
  (fun C f' cdv A outer s H E b1 b2 b3 b4 => by exact pss_one (ps_expr (pe_cinit b1 b2 b3 b4 (pa_cons (pv 0) (pa_cons pe_str pa_nil)))))
theorem x_TooMany (T : Txt K mg) : ∃ C, XDef P w K mg bs 1 "TooMany" ["most"] (fun C => spI1 C "most") C := xdef1 T.x_TooMany T.w_WritingError sci_TooMany (fun _ _ _ _ _ _ us hl => match us, hl with | [_, _], _ => rfl)
  (fun C f' cdv A outer s H E b1 b2 b3 b4 => by exact pss_cons (ps_expr (pe_cinit b1 b2 b3 b4 (pa_cons (pv 0) (pa_cons pe_str pa_nil)))) (pss_one (ps_ost (pv 0) (pv 1))))
theorem x_BadMachine (T : Txt K mg) : ∃ C, XDef P w K mg bs 1 "BadMachine" ["part"] (fun C => spI1 C "part") C := xdef1 T.x_BadMachine T.w_WritingError sci_BadMachine (fun _ _ _ _ _ _ us hl => match us, hl with | [_, _], _ => rfl)
  (fun C f' cdv A outer s H E b1 b2 b3 b4 => by exact pss_cons (ps_expr (pe_cinit b1 b2 b3 b4 (pa_cons (pv 0) (pa_cons pe_str pa_nil)))) (pss_one (ps_ost (pv 0) (pv 1))))
theorem x_NoState (T : Txt K mg) : ∃ C, XDef P w K mg bs 1 "NoState" [] (fun C => spI0 C) C := xdef0 T.x_NoState T.w_WritingError sci_NoState (fun _ _ _ _ _ _ us hl => match us, hl with | [_], _ => rfl)
  (fun C f' cdv A outer s H E b1 b2 b3 b4 => by exact pss_one (ps_expr (pe_cinit b1 b2 b3 b4 (pa_cons (pv 0) (pa_cons pe_str pa_nil)))))
theorem x_NoDigits (T : Txt K mg) : ∃ C, XDef P w K mg bs 1 "NoDigits" [] (fun C => spI0 C) C := xdef0 T.x_NoDigits T.w_WritingError sci_NoDigits (fun _ _ _ _ _ _ us hl => match us, hl with | [_], _ => rfl)
  (fun C f' cdv A outer s H E b1 b2 b3 b4 => by exact pss_one (ps_expr (pe_cinit b1 b2 b3 b4 (pa_cons (pv 0) (pa_cons pe_str pa_nil)))))
theorem x_NoWriting (T : Txt K mg) : ∃ C, XDef P w K mg bs 1 "NoWriting" [] (fun C => spI0 C) C := xdef0 T.x_NoWriting T.w_WritingError sci_NoWriting (fun _ _ _ _ _ _ us hl => match us, hl with | [_], _ => rfl)
  (fun C f' cdv A outer s H E b1 b2 b3 b4 => by exact pss_one (ps_expr (pe_cinit b1 b2 b3 b4 (pa_cons (pv 0) (pa_cons pe_str pa_nil)))))
theorem x_Unsound (T : Txt K mg) : ∃ C, XDef P w K mg bs 1 "Unsound" [] (fun C => spI0 C) C := xdef0 T.x_Unsound T.w_WritingError sci_Unsound (fun _ _ _ _ _ _ us hl => match us, hl with | [_], _ => rfl)
  (fun C f' cdv A outer s H E b1 b2 b3 b4 => by exact pss_one (ps_expr (pe_cinit b1 b2 b3 b4 (pa_cons (pv 0) (pa_cons pe_str pa_nil)))))
theorem x_NoFraction (T : Txt K mg) : ∃ C, XDef P w K mg bs 1 "NoFraction" [] (fun C => spI0 C) C := xdef0 T.x_NoFraction T.w_WritingError sci_NoFraction (fun _ _ _ _ _ _ us hl => match us, hl with | [_], _ => rfl)
  (fun C f' cdv A outer s H E b1 b2 b3 b4 => by exact pss_one (ps_expr (pe_cinit b1 b2 b3 b4 (pa_cons (pv 0) (pa_cons pe_str pa_nil)))))
theorem x_OtherBase (T : Txt K mg) : ∃ C, XDef P w K mg bs 1 "OtherBase" [] (fun C => spI0 C) C := xdef0 T.x_OtherBase T.w_WritingError sci_OtherBase (fun _ _ _ _ _ _ us hl => match us, hl with | [_], _ => rfl)
  (fun C f' cdv A outer s H E b1 b2 b3 b4 => by exact pss_one (ps_expr (pe_cinit b1 b2 b3 b4 (pa_cons (pv 0) (pa_cons pe_str pa_nil)))))
theorem x_NotWithin (T : Txt K mg) : ∃ C, XDef P w K mg bs 1 "NotWithin" ["x"] (fun C => spI1 C "x") C := xdef1 T.x_NotWithin T.w_WritingError sci_NotWithin (fun _ _ _ _ _ _ us hl => match us, hl with | [_, _], _ => rfl)
  (fun C f' cdv A outer s H E b1 b2 b3 b4 => by exact pss_cons (ps_expr (pe_cinit b1 b2 b3 b4 (pa_cons (pv 0) (pa_cons pe_str pa_nil)))) (pss_one (ps_ost (pv 0) (pv 1))))
theorem x_NoChances (T : Txt K mg) : ∃ C, XDef P w K mg bs 1 "NoChances" [] (fun C => spI0 C) C := xdef0 T.x_NoChances T.w_WritingError sci_NoChances (fun _ _ _ _ _ _ us hl => match us, hl with | [_], _ => rfl)
  (fun C f' cdv A outer s H E b1 b2 b3 b4 => by exact pss_one (ps_expr (pe_cinit b1 b2 b3 b4 (pa_cons (pv 0) (pa_cons pe_str pa_nil)))))
theorem x_NoTurns (T : Txt K mg) : ∃ C, XDef P w K mg bs 1 "NoTurns" [] (fun C => spI0 C) C := xdef0 T.x_NoTurns T.w_WritingError sci_NoTurns (fun _ _ _ _ _ _ us hl => match us, hl with | [_], _ => rfl)
  (fun C f' cdv A outer s H E b1 b2 b3 b4 => by exact pss_one (ps_expr (pe_cinit b1 b2 b3 b4 (pa_cons (pv 0) (pa_cons pe_str pa_nil)))))
theorem x_NoHand (T : Txt K mg) : ∃ C, XDef P w K mg bs 1 "NoHand" [] (fun C => spI0 C) C := xdef0 T.x_NoHand T.w_WritingError sci_NoHand (fun _ _ _ _ _ _ us hl => match us, hl with | [_], _ => rfl)
  (fun C f' cdv A outer s H E b1 b2 b3 b4 => by exact pss_one (ps_expr (pe_cinit b1 b2 b3 b4 (pa_cons (pv 0) (pa_cons pe_str pa_nil)))))
theorem x_NoChoices (T : Txt K mg) : ∃ C, XDef P w K mg bs 1 "NoChoices" [] (fun C => spI0 C) C := xdef0 T.x_NoChoices T.w_WritingError sci_NoChoices (fun _ _ _ _ _ _ us hl => match us, hl with | [_], _ => rfl)
  (fun C f' cdv A outer s H E b1 b2 b3 b4 => by exact pss_one (ps_expr (pe_cinit b1 b2 b3 b4 (pa_cons (pv 0) (pa_cons pe_str pa_nil)))))
theorem x_BadDust (T : Txt K mg) : ∃ C, XDef P w K mg bs 1 "BadDust" ["part"] (fun C => spI1 C "part") C := xdef1 T.x_BadDust T.w_WritingError sci_BadDust (fun _ _ _ _ _ _ us hl => match us, hl with | [_, _], _ => rfl)
  (fun C f' cdv A outer s H E b1 b2 b3 b4 => by exact pss_cons (ps_expr (pe_cinit b1 b2 b3 b4 (pa_cons (pv 0) (pa_cons pe_str pa_nil)))) (pss_one (ps_ost (pv 0) (pv 1))))
theorem x_NoDigit (T : Txt K mg) : ∃ C, XDef P w K mg bs 1 "NoDigit" [] (fun C => spI0 C) C := xdef0 T.x_NoDigit T.w_WritingError sci_NoDigit (fun _ _ _ _ _ _ us hl => match us, hl with | [_], _ => rfl)
  (fun C f' cdv A outer s H E b1 b2 b3 b4 => by exact pss_one (ps_expr (pe_cinit b1 b2 b3 b4 (pa_cons (pv 0) (pa_cons pe_str pa_nil)))))
theorem x_NothingDone (T : Txt K mg) : ∃ C, XDef P w K mg bs 1 "NothingDone" [] (fun C => spI0 C) C := xdef0 T.x_NothingDone T.w_WritingError sci_NothingDone (fun _ _ _ _ _ _ us hl => match us, hl with | [_], _ => rfl)
  (fun C f' cdv A outer s H E b1 b2 b3 b4 => by exact pss_one (ps_expr (pe_cinit b1 b2 b3 b4 (pa_cons (pv 0) (pa_cons pe_str pa_nil)))))
theorem x_BadAnswer (T : Txt K mg) : ∃ C, XDef P w K mg bs 1 "BadAnswer" ["x"] (fun C => spI1 C "x") C := xdef1 T.x_BadAnswer T.w_WritingError sci_BadAnswer (fun _ _ _ _ _ _ us hl => match us, hl with | [_, _], _ => rfl)
  (fun C f' cdv A outer s H E b1 b2 b3 b4 => by exact pss_cons (ps_expr (pe_cinit b1 b2 b3 b4 (pa_cons (pv 0) (pa_cons pe_str pa_nil)))) (pss_one (ps_ost (pv 0) (pv 1))))
theorem x_NoFit (T : Txt K mg) : ∃ C, XDef P w K mg bs 1 "NoFit" [] (fun C => spI0 C) C := xdef0 T.x_NoFit T.w_WritingError sci_NoFit (fun _ _ _ _ _ _ us hl => match us, hl with | [_], _ => rfl)
  (fun C f' cdv A outer s H E b1 b2 b3 b4 => by exact pss_one (ps_expr (pe_cinit b1 b2 b3 b4 (pa_cons (pv 0) (pa_cons pe_str pa_nil)))))
theorem x_BadText (T : Txt K mg) : ∃ C, XDef P w K mg bs 1 "BadText" ["line"] (fun C => spI1 C "line") C := xdef1 T.x_BadText T.w_WritingError sci_BadText (fun _ _ _ _ _ _ us hl => match us, hl with | [_, _], _ => rfl)
  (fun C f' cdv A outer s H E b1 b2 b3 b4 => by exact pss_cons (ps_expr (pe_cinit b1 b2 b3 b4 (pa_cons (pv 0) (pa_cons pe_str pa_nil)))) (pss_one (ps_ost (pv 0) (pv 1))))
theorem x_NoLine (T : Txt K mg) : ∃ C, XDef P w K mg bs 1 "NoLine" [] (fun C => spI0 C) C := xdef0 T.x_NoLine T.w_WritingError sci_NoLine (fun _ _ _ _ _ _ us hl => match us, hl with | [_], _ => rfl)
  (fun C f' cdv A outer s H E b1 b2 b3 b4 => by exact pss_one (ps_expr (pe_cinit b1 b2 b3 b4 (pa_cons (pv 0) (pa_cons pe_str pa_nil)))))
theorem x_NoName (T : Txt K mg) : ∃ C, XDef P w K mg bs 1 "NoName" ["name"] (fun C => spI1 C "name") C := xdef1 T.x_NoName T.w_WritingError sci_NoName (fun _ _ _ _ _ _ us hl => match us, hl with | [_, _], _ => rfl)
  (fun C f' cdv A outer s H E b1 b2 b3 b4 => by exact pss_cons (ps_expr (pe_cinit b1 b2 b3 b4 (pa_cons (pv 0) (pa_cons pe_str pa_nil)))) (pss_one (ps_ost (pv 0) (pv 1))))
end
section
variable {P : Program} {w : World} {K : PySem.W.Frag} {mg : Str → Option Value} {bs : Heap}
local macro_rules | `(tactic| walk_at "arith") => `(tactic| first
  | decide | omega | assumption
  | (refine Or.inl ⟨?_, ?_⟩ <;> first | decide | omega) | (refine Or.inr (Or.inl ⟨?_, ?_⟩) <;> first | decide | omega)
  | (refine ⟨?_, Or.inl ?_⟩ <;> first | decide | omega))
/-- one step of a reading -/
local macro_rules | `(tactic| walk_at "st") => `(tactic| first
  | refine we_var rfl ?_ | refine we_int ?_ | refine we_bl ?_ | refine we_str ?_ | refine we_non ?_ | refine we_I0 ?_ | refine we_I ?_ | refine we_U ?_ | refine we_eqI ?_ | refine we_neI ?_
  | refine ⟨_, rfl, ?_⟩ | refine ⟨by walk_at "arith", ?_⟩ | refine we_int1 ?_ | refine we_abs ?_ | refine we_max2 ?_ | refine we_min2 ?_ | refine we_gcd ?_ | refine we_ixT ?_ | refine we_ixL ?_ | refine wa_cons ?_ | refine wa_nil ?_
  | refine we_call ?_ | refine we_tup ?_ | refine we_lst ?_ | refine we_len ?_ | refine we_isi ?_ | refine wt_T ?_ | refine wt_B ?_ | refine wt_not ?_ | refine wt_yes ?_
  | refine ws_seq ?_ | refine ws_ret ?_ | refine ws_if ?_ | refine ws_drop ?_ | refine ws_par ?_ | refine ws_next ?_ | refine ws_asg ?_ | refine ws_asgG ?_ | refine we_notV ?_
  | refine wg_name ?_ | refine wg_tup ?_ | refine wgs_cons ?_ | refine wgs_nil ?_)
/-! ### the drawing -/
def S_law_mixed : List D → (D → Prop) → Prop := fun ds R => ∃ c t : Int, ds = [.int c, .int t] ∧ ∀ k : Int, R (.int k)
theorem l_law_mixed : ∀ ds R, S_law_mixed ds R → ds.length = 2 := fun ds R ⟨_, _, e, _⟩ => by rw [e]; rfl
theorem d_law_mixed (T : Txt K mg) : Dfn P w K mg bs 1 "_law_mixed" ["cell", "turn"] S_law_mixed := by
  refine mkD (k := 0) T.s_law_mixed sc_law_mixed (fun _ _ _ _ _ _ us hl => match us, hl with | [_, _], _ => rfl) l_law_mixed fun f cdv A outer s H E hr => ?_
  have hu := hu_of hr
  refine ⟨_, (pss_cons (ps_set (i := 2) sc_law_mixed.nd rfl (Or.inl rfl) (pe_op op_mod (pe_callTy call_int1 (by rfl) T.n_int (by decide +kernel) (pa_cons (pe_op op_mulA (pe_op op_add (pe_op op_add (pe_op op_mod (pe_callTy call_int1 (by rfl) T.n_int (by decide +kernel) (pa_cons (pv 0) pa_nil)) pe_int) (pe_op op_mulA pe_int (pv 1))) pe_int) pe_int) pa_nil)) pe_int))
      (pss_cons (ps_set (i := 2) sc_law_mixed.nd rfl (Or.inl rfl) (pe_op op_mod (pe_callTy call_int1 (by rfl) T.n_int (by decide +kernel) (pa_cons (pe_op op_mulA (pv 2) (pe_op op_add (pe_op op_divA (pv 2) pe_int) pe_int)) pa_nil)) pe_int))
      (pss_one (ps_ret (pe_op op_divA (pe_op op_mod (pe_callTy call_int1 (by rfl) T.n_int (by decide +kernel) (pa_cons (pe_op op_mulA (pv 2) (pe_op op_add (pe_op op_divA (pv 2) pe_int) pe_int)) pa_nil)) pe_int) pe_int))))), fun h H0 G0 ds R hS => ?_⟩
  obtain ⟨c, t, rfl, hR⟩ := hS
  repeat walk_at "st"
  exact hR _
def S_law_draw : List D → (D → Prop) → Prop := fun ds R => ∃ m : Int, ds = [.hand, .int m] ∧ 0 < m ∧ m < 18446744073709551616 ∧ ∀ k : Int, 0 ≤ k → k < m → R (.int k)
theorem l_law_draw : ∀ ds R, S_law_draw ds R → ds.length = 2 := fun ds R ⟨_, e, _⟩ => by rw [e]; rfl
theorem d_law_draw (T : Txt K mg) : Dfn P w K mg bs 2 "_law_draw" ["hand", "many"] S_law_draw := by
  have D_law_mixed := d_law_mixed (P := P) (w := w) (bs := bs) T
  refine mkD (k := 1) T.s_law_draw sc_law_draw (fun _ _ _ _ _ _ us hl => match us, hl with | [_, _], _ => rfl) l_law_draw fun f cdv A outer s H E hr => ?_
  have hu := hu_of hr
  refine ⟨_, (pss_cons (ps_asg (pe_op op_add (pe_ix (ix_listK (K0 := K) (by rfl)) (pv 0) pe_int (fun _ _ => rfl)) pe_int) (pg_sub (pv 0) pe_int set_list))
      (pss_cons (ps_if (pt_cmpR op_gt (pe_ix (ix_listK (K0 := K) (by rfl)) (pv 0) pe_int (fun _ _ => rfl)) pe_int (nomark _)) (pss_cons (ps_set (i := 2) sc_law_draw.nd rfl (Or.inl rfl) (pe_op op_mod (pe_callTy call_int1 (by rfl) T.n_int (by decide +kernel) (pa_cons (pe_ix (ix_listK (K0 := K) (by rfl)) (pv 0) pe_int (fun _ _ => rfl)) pa_nil)) (pv 1)))
      (pss_cons (ps_asg (pe_op op_divA (pe_ix (ix_listK (K0 := K) (by rfl)) (pv 0) pe_int (fun _ _ => rfl)) (pv 1)) (pg_sub (pv 0) pe_int set_list))
      (pss_one (ps_ret (pv 2))))) pss_nil)
      (pss_cons (ps_par (i := 3) (j := 4) (by rfl) sc_law_draw.nd rfl rfl (by decide) rfl rfl (pa_cons (pe_ix (ix_listK (K0 := K) (by rfl)) (pv 0) pe_int (fun _ _ => rfl)) (pa_cons (pe_ix (ix_listK (K0 := K) (by rfl)) (pv 0) pe_int (fun _ _ => rfl)) pa_nil)) (by rfl))
      (pss_cons (ps_asg (pe_op op_add (pv 4) pe_int) (pg_sub (pv 0) pe_int set_list))
      (pss_cons (ps_if (pt_cmpR op_eq (pe_callB (call_lenK (K0 := K) (by rfl)) (by rfl) T.n_len (by decide +kernel) (pa_cons (pv 3) pa_nil)) pe_int (nomark _)) (pss_one (ps_ret (pe_op op_mod (pe_callTy call_int1 (by rfl) T.n_int (by decide +kernel) (pa_cons (pe_callK0 (K0 := K) (by rfl) D_law_mixed (hr.mono (by decide)) (pa_cons pe_int (pa_cons (pe_ix (ix_listK (K0 := K) (by rfl)) (pv 0) pe_int (fun _ _ => rfl)) pa_nil))) pa_nil)) (pv 1)))) pss_nil)
      (pss_cons (ps_set (i := 5) sc_law_draw.nd rfl (Or.inl rfl) (pe_ix (ix_listK (K0 := K) (by rfl)) (pv 3) (pe_op op_mod (pe_callTy call_int1 (by rfl) T.n_int (by decide +kernel) (pa_cons (pv 4) pa_nil)) (pe_callB (call_lenK (K0 := K) (by rfl)) (by rfl) T.n_len (by decide +kernel) (pa_cons (pv 3) pa_nil))) (fun _ _ => rfl)))
      (pss_cons (ps_if (PW.pt (pw_and (pt_cmpR op_lt (pv 4) (pe_callB (call_lenK (K0 := K) (by rfl)) (by rfl) T.n_len (by decide +kernel) (pa_cons (pv 3) pa_nil)) (nomark _)) (pw_and1 (pt_cmpR op_ge (pe_callB call_abs (by rfl) T.n_abs (by decide +kernel) (pa_cons (pv 5) pa_nil)) (pe_op op_pow pe_int pe_int) (nomark _))))) (pss_cons (ps_asg (pe_op op_divA (pe_callB call_abs (by rfl) T.n_abs (by decide +kernel) (pa_cons (pv 5) pa_nil)) (pv 1)) (pg_sub (pv 0) pe_int set_list))
      (pss_one (ps_ret (pe_op op_mod (pe_callTy call_int1 (by rfl) T.n_int (by decide +kernel) (pa_cons (pe_callB call_abs (by rfl) T.n_abs (by decide +kernel) (pa_cons (pv 5) pa_nil)) pa_nil)) (pv 1))))) pss_nil)
      (pss_one (ps_ret (pe_op op_mod (pe_callTy call_int1 (by rfl) T.n_int (by decide +kernel) (pa_cons (pe_callK0 (K0 := K) (by rfl) D_law_mixed (hr.mono (by decide)) (pa_cons (pv 5) (pa_cons (pe_ix (ix_listK (K0 := K) (by rfl)) (pv 0) pe_int (fun _ _ => rfl)) pa_nil))) pa_nil)) (pv 1))))))))))), fun h H0 G0 ds R hS => ?_⟩
  obtain ⟨m, rfl, hm, hm2, hR⟩ := hS
  have fin : ∀ k : Int, R (.int (k % m)) := fun k => hR _ (Int.emod_nonneg _ (by omega)) (Int.emod_lt_of_pos _ hm)
  have hmd : ∀ i, CDivA i m := fun i => ⟨hm, .inl hm2⟩
  -- hand[3] = hand[3] + 1
  refine ws_seq (ws_handN (.inr (.inr rfl)) (we_I0 (we_handN (.inr (.inr rfl)) (we_var rfl ⟨rfl, fun n hn => ⟨_, rfl, we_int ⟨_, rfl, _, rfl, by omega, we_var rfl ⟨rfl, ?_⟩⟩⟩⟩))))
  -- if hand[2] > 0
  refine ws_seq (ws_if (wt_T (we_I0 (we_handN (.inr (.inl rfl)) (we_var rfl ⟨rfl, fun r hr' => ⟨_, rfl, we_int ⟨_, rfl, _, rfl, ?_⟩⟩⟩)))))
  refine ite2 (fun hb => ?_) (fun hb => ?_)
  · refine ws_seq (ws_asg (we_I (we_int1 (we_handN (.inr (.inl rfl)) (we_var rfl ⟨rfl, fun r2 hr2 => ⟨_, rfl, _, rfl, we_var rfl ⟨_, rfl, hm, ?_⟩⟩⟩)))))
    refine ws_seq (ws_handN (.inr (.inl rfl)) (we_I (we_handN (.inr (.inl rfl)) (we_var rfl ⟨rfl, fun r3 hr3 => ⟨_, rfl, we_var rfl ⟨_, rfl, hmd _, _, rfl, Int.ediv_nonneg hr3 (by omega), we_var rfl ⟨rfl, ?_⟩⟩⟩⟩))))
    exact ws_ret (we_var rfl (fin _))
  · refine ws_next ?_
    refine ws_seq (ws_par (wa_cons (we_hand0 (we_var rfl ⟨rfl, fun ns hns => wa_cons (we_handN (.inl rfl) (we_var rfl ⟨rfl, fun i hi => wa_nil ⟨_, _, rfl, ?_⟩⟩))⟩))))
    refine ws_seq (ws_handN (.inl rfl) (we_I0 (we_var rfl ⟨_, rfl, we_int ⟨_, rfl, _, rfl, by omega, we_var rfl ⟨rfl, ?_⟩⟩⟩)))
    refine ws_seq (ws_if (wt_T (we_eqI (we_len (we_var rfl ⟨_, .inl rfl, _, rfl, we_int ⟨_, rfl, _, rfl, ?_⟩⟩)))))
    refine ite2 (fun hb => ?_) (fun hne => ?_)
    · refine ws_ret (we_I (we_int1 (we_call (wa_cons ?_))))
      refine we_int (wa_cons (we_handN (.inr (.inr rfl)) (we_var rfl ⟨rfl, fun n2 hn2 => wa_nil ?_⟩)))
      exact ⟨_, _, rfl, fun k => ⟨_, rfl, _, rfl, we_var rfl ⟨_, rfl, hm, fin _⟩⟩⟩
    · rw [List.length_map] at hne
      have hlen : 0 < (ns.length : Int) := by
        have : ¬ ((ns.length : Int) = 0) := by simpa using hne
        omega
      refine ws_next ?_
      have hi0 := Int.emod_nonneg i (b := (ns.length : Int)) (by omega)
      have hi1 := Int.emod_lt_of_pos i hlen
      obtain ⟨x, hx1, hx2⟩ := atI_of (xs := ns.map D.int) hi0 (by rw [List.length_map]; exact hi1)
      obtain ⟨c, rfl⟩ : ∃ c, x = D.int c := by
        rw [List.getElem?_map] at hx2
        obtain ⟨c, _, e⟩ := Option.map_eq_some_iff.mp hx2
        exact ⟨c, e.symm⟩
      refine ws_seq (ws_asg (we_ixL (we_var rfl ⟨_, rfl, we_I (we_int1 (we_var rfl ⟨_, rfl, _, rfl, we_len (we_var rfl ⟨_, .inl rfl, _, rfl, by rw [List.length_map]; exact hlen, _, D.int c, rfl, by rw [List.length_map]; exact hx1, ?_⟩)⟩))⟩)))
      refine ws_seq (ws_if (wt_and (wt_T (we_I0 (we_var rfl ⟨_, rfl, we_len (we_var rfl ⟨_, .inl rfl, _, rfl, _, rfl, fun _ => ?_, fun hb => ?_⟩)⟩)))))
      · refine wt_T (we_I0 (we_abs (we_var rfl ⟨_, rfl, _, rfl, we_I (we_int ⟨_, rfl, we_int ⟨_, rfl, by refine ⟨by decide, by decide, ?_⟩; decide, _, rfl, _, rfl, ?_⟩⟩)⟩)))
        refine ite2 (fun hb => ?_) (fun hb => ?_)
        · refine ws_seq (ws_handN (.inr (.inl rfl)) (we_I (we_abs (we_var rfl ⟨_, rfl, _, rfl, we_var rfl ⟨_, rfl, hmd _, _, rfl, Int.ediv_nonneg (absI_nn c) (by omega), we_var rfl ⟨rfl, ?_⟩⟩⟩))))
          exact ws_ret (we_I (we_int1 (we_abs (we_var rfl ⟨_, rfl, _, rfl, _, rfl, we_var rfl ⟨_, rfl, hm, fin _⟩⟩))))
        · refine ws_next ?_
          refine ws_ret (we_I (we_int1 (we_call (wa_cons ?_))))
          refine we_var rfl (wa_cons (we_handN (.inr (.inr rfl)) (we_var rfl ⟨rfl, fun n2 hn2 => wa_nil ?_⟩)))
          exact ⟨_, _, rfl, fun k => ⟨_, rfl, _, rfl, we_var rfl ⟨_, rfl, hm, fin _⟩⟩⟩
      · refine ws_next ?_
        refine ws_ret (we_I (we_int1 (we_call (wa_cons ?_))))
        refine we_var rfl (wa_cons (we_handN (.inr (.inr rfl)) (we_var rfl ⟨rfl, fun n2 hn2 => wa_nil ?_⟩)))
        exact ⟨_, _, rfl, fun k => ⟨_, rfl, _, rfl, we_var rfl ⟨_, rfl, hm, fin _⟩⟩⟩
def S_law_any : List D → (D → Prop) → Prop := fun ds R => ∃ xs : List D, ds = [.hand, .lst xs] ∧ xs ≠ [] ∧ xs.length < 4000000 ∧ ∀ x ∈ xs, R x
theorem l_law_any : ∀ ds R, S_law_any ds R → ds.length = 2 := fun ds R ⟨_, e, _⟩ => by rw [e]; rfl
theorem d_law_any (T : Txt K mg) : Dfn P w K mg bs 3 "_law_any" ["hand", "some"] S_law_any := by
  have D_law_draw := d_law_draw (P := P) (w := w) (bs := bs) T
  refine mkD (k := 2) T.s_law_any sc_law_any (fun _ _ _ _ _ _ us hl => match us, hl with | [_, _], _ => rfl) l_law_any fun f cdv A outer s H E hr => ?_
  have hu := hu_of hr
  refine ⟨_, (pss_one (ps_ret (pe_ix (ix_listK (K0 := K) (by rfl)) (pv 1) (pe_callK0 (K0 := K) (by rfl) D_law_draw (hr.mono (by decide)) (pa_cons (pv 0) (pa_cons (pe_callB (call_lenK (K0 := K) (by rfl)) (by rfl) T.n_len (by decide +kernel) (pa_cons (pv 1) pa_nil)) pa_nil))) (fun _ _ => rfl)))), fun h H0 G0 ds R hS => ?_⟩
  obtain ⟨xs, rfl, hne, hl, hR⟩ := hS
  have hpos : 0 < xs.length := List.length_pos_iff.mpr hne
  refine ws_ret (we_ixL (we_var rfl ⟨_, rfl, we_call (wa_cons (we_var rfl (wa_cons (we_len (we_var rfl ⟨_, .inl rfl, wa_nil ⟨_, rfl, by omega, by omega, fun k h0 h1 => ?_⟩⟩)))))⟩))
  obtain ⟨x, hx1, hx2⟩ := atI_of h0 h1
  exact ⟨k, x, rfl, hx1, hR x (List.mem_of_getElem? hx2)⟩
theorem l_law_hand : ∀ vs H Q E, spHand K vs H Q E → vs.length = 1 := fun vs H Q E ⟨_, _, e, _⟩ => by rw [e]; rfl
theorem d_law_hand (T : Txt K mg) : DfnR P w K mg bs 1 "_law_hand" ["script"] (spHand K) := by
  refine mkR (k := 0) T.s_law_hand sc_law_hand (fun _ _ _ _ _ _ us hl => match us, hl with | [_], _ => rfl) l_law_hand fun f cdv A outer s H E hr => ?_
  have hu := hu_of hr
  refine ⟨_, (pss_one (ps_ret (pe_lst (pa_cons (pe_lc (own := [("cell", 1)]) (g := (gName 1)) rfl sc_law_hand.nd (pi_listK (K0 := K) (by rfl) (pe_slice (sl_listK (K0 := K) (by rfl)) (pv 0) po_none (po_some pe_int))) (blkOk_by (N := N_law_hand) (sc := defScope s_law_hand) (by decide +kernel)) (fun _ _ _ _ _ => by exact (pg_name (i := 1) sc_law_hand.nd rfl (Or.inl rfl))) (fun _ _ _ _ _ => by exact pts_nil) (fun _ _ _ _ _ => by exact (pe_callTy call_int1 (by rfl) T.n_int (by decide +kernel) (pa_cons (pv 1) pa_nil)))) (pa_cons pe_int (pa_cons pe_int (pa_cons pe_int pa_nil))))))), fun vs Q hsp => ?_⟩
  obtain ⟨a, ns, rfl, hS, hl, hQ⟩ := hsp
  have hcut : cutV (ns.map V.int) none (some 63) = ns.map V.int := by
    unfold cutV
    have e1 : HT.sIx (ns.map V.int).length 0 none = 0 := rfl
    have e2 : HT.sIx (ns.map V.int).length (ns.map V.int).length (some 63) = (ns.map V.int).length := by
      exact (HT.sIx_nat _ _ 63).trans (by rw [List.length_map]; omega)
    rw [e1, e2, List.drop_zero, Nat.sub_zero, List.take_length]
  have key := Evl.el_lcNL (K := K) (σ := L2.start N_law_hand [.ref a]) (H := H) (xs := ns.map V.int) (j := 1) (vs := [1]) (t := tYes) (te := tCB (fun xs H Q => (∃ i, xs = [V.int i] ∧ Q (V.int i) H) ∨ ∃ k, xs = [V.bl k] ∧ Q (V.int (if k = true then 1 else 0)) H) (tCons (tVar 1) tNil))
    (tl := tSl (rSlL K) (tVar 0) tNoPart (tPart (tC (.int 63)))) (fun _ => true) (fun i => (ns.map V.int).getD i .non)
    (by
      have h2 := Evl.el_sl (K := K) (σ := L2.start N_law_hand [.ref a]) (H := H) (te := tVar 0) (tl := tNoPart) (th := tPart (tC (.int 63))) (Evl.ev_var rfl) Evl.eo_none (Evl.eo_some Evl.ev_c) hS
      rw [hcut] at h2
      exact h2) (by rw [List.length_map]; omega) (fun x => rfl) (fun i x H1 _ _ H2 _ Q q => q H2 (Evl.Ex.refl _)) (fun i x H1 _ hx _ => by
        have hi := hx
        rw [List.getElem?_map] at hi
        obtain ⟨z, hz, rfl⟩ := Option.map_eq_some_iff.mp hi
        have e : (ns.map V.int).getD i .non = .int z := by rw [List.getD_eq_getElem?_getD, hx] <;> rfl
        intro H2 _ Q q
        refine ⟨.int z, rfl, .inl ⟨z, rfl, ?_⟩⟩
        have q' := q H2 (Evl.Ex.refl _)
        rw [e] at q'
        exact q')
  have eg : Evl.given (ns.map V.int).length (fun _ => true) (fun i => (ns.map V.int).getD i .non) = ns.map V.int := by
    unfold Evl.given
    rw [List.filter_eq_self.mpr (fun _ _ => rfl)]
    refine List.ext_getElem? fun i => ?_
    rw [List.getElem?_map]
    by_cases hi : i < (ns.map V.int).length
    · rw [List.getElem?_range hi, List.getElem?_eq_getElem hi]
      show some ((ns.map V.int).getD i .non) = _
      rw [List.getD_eq_getElem?_getD, List.getElem?_eq_getElem hi] <;> rfl
    · rw [List.getElem?_eq_none (by rw [List.length_range]; omega), List.getElem?_eq_none (l := ns.map V.int) (by omega)] <;> rfl
  rw [eg] at key
  exact key H (Evl.Ex.refl _) (fun x H1 => tCons (tC (.int 0)) (tCons (tC (.int 0)) (tCons (tC (.int 0)) tNil)) (L2.start N_law_hand [.ref a]) H1 fun xs H2 => (x :: xs).length ≤ sizeLine ∧ ∀ p, H2 p = none → Q (.ref p) (upd H2 p (.lst (x :: xs)))) fun c H1 hc e1 h1 => ⟨sz (Nat.le_of_ble_eq_true rfl), fun h2 hn2 => by
    have hne : h2 ≠ c := fun z => by rw [z, h1] at hn2; cases hn2
    exact hQ h2 c _ (e1.trans (Evl.Ex.new hn2)) hne upd_same (by rw [upd_ne (Ne.symm hne)]; exact h1)⟩
def intL (i : Int) : List Nat := if i < 0 then 45 :: TL.numL i.natAbs else TL.numL i.natAbs
def intT (i : Int) : Str := Str.ofString (toString i)
theorem tl_int (i : Int) : TL.tl (intT i) = intL i := by
  unfold intT intL
  cases i with
  | ofNat n =>
    rw [if_neg (by exact Int.not_lt.mpr (Int.natCast_nonneg n))]
    exact TL.tl_num n
  | negSucc n =>
    rw [if_pos (Int.negSucc_lt_zero n)]
    have e : toString (Int.negSucc n) = "-" ++ toString (n + 1) := rfl
    rw [e, TL.tl_ofString, String.toList_append, List.map_append]
    have k := TL.tl_num (n + 1)
    rw [TL.tl_ofString] at k
    show [45] ++ _ = 45 :: TL.numL (n + 1)
    rw [← k]
    rfl
/-- integers of few figures -/
def Few (i : Int) : Prop := i.natAbs < 10000000000000
theorem few_len {i : Int} (h : Few i) : (intT i).length ≤ 14 := by
  rw [TL.len_tl, tl_int]
  have k := TL.numL_len (n := i.natAbs) (k := 13) (by decide) h
  unfold intL
  by_cases q : i < 0
  · rw [if_pos q, List.length_cons]; omega
  · rw [if_neg q]; omega
theorem few_log {i : Int} (h : Few i) : i.natAbs.log2 < 1920 := by
  have h : i.natAbs < 10000000000000 := h
  by_cases z : i.natAbs = 0
  · rw [z]; decide
  · exact (Nat.log2_lt z).mpr (Nat.lt_of_lt_of_le h (by decide))
/-! ### the classes of errors -/
def plainN : List Str := ["NoBase", "NoRow", "NoNumber", "NoMany", "NoState", "NoDigits", "NoWriting", "Unsound", "NoFraction", "OtherBase", "NoChances", "NoTurns", "NoHand", "NoChoices", "NoDigit", "NothingDone", "NoFit", "NoLine"]
def fieldN : List Str := ["TooMany", "BadMachine", "NotWithin", "BadDust", "BadAnswer", "BadText", "NoName"]
def kindN : List Str := ["NoBase", "NoRow", "NoNumber", "NoMany", "NoState", "NoDigits", "NoWriting", "Unsound", "NoFraction", "OtherBase", "NoChances", "NoTurns", "NoHand", "NoChoices", "NoDigit", "NothingDone", "NoFit", "NoLine", "TooMany", "BadMachine", "NotWithin", "BadDust", "BadAnswer", "BadText", "NoName"]
def cA (mg : Str → Option Value) (n : Str) : Addr := match mg n with | some (.ref C) => C | _ => 0
theorem cA_of {mg : Str → Option Value} {n : Str} {C : Addr} (h : mg n = some (.ref C)) : cA mg n = C := by unfold cA; rw [h]
def eD (mg : Str → Option Value) (n : Str) : D := .exc (cA mg n)
theorem eD_of {mg : Str → Option Value} {n : Str} {C : Addr} (h : mg n = some (.ref C)) : D.exc C = eD mg n := by unfold eD; rw [cA_of h]
/-- one kind of an error, as a flag -/
theorem err_one {mg : Str → Option Value} (T : Txt K mg) {n m : Str} (hn : n ∈ kindN) (hm : m ∈ kindN) {C : Addr} (h : mg m = some (.ref C)) : PySem.W.kitOne K (.ref (cA mg n)) (.ref C) = some (decide (n = m)) ∧ ExcC K (cA mg n) := by
  obtain ⟨W, l, e, A⟩ := T.errs
  rw [show ([_, _, _, _, _, _, _, _, _, _, _, _, _, _, _, _, _, _, _, _, _, _, _, _, _] : List Str) = kindN from rfl] at e
  rw [← e] at hn hm
  obtain ⟨z, hz, rfl⟩ := List.mem_map.mp hn
  obtain ⟨y, hy, rfl⟩ := List.mem_map.mp hm
  rw [cA_of (A.all z hz).m]
  exact ⟨A.one hz hy h, (A.all z hz).x⟩
theorem err_all {mg : Str → Option Value} (T : Txt K mg) {n : Str} (hn : n ∈ kindN) {C : Addr} (h : mg "WritingError" = some (.ref C)) : PySem.W.kitOne K (.ref (cA mg n)) (.ref C) = some true ∧ PySem.W.kitOne K (.ref (cA mg n)) (.type "ValueError") = some true ∧ ExcC K (cA mg n) := by
  obtain ⟨W, l, e, A⟩ := T.errs
  rw [show ([_, _, _, _, _, _, _, _, _, _, _, _, _, _, _, _, _, _, _, _, _, _, _, _, _] : List Str) = kindN from rfl] at e
  rw [← e] at hn
  obtain ⟨z, hz, rfl⟩ := List.mem_map.mp hn
  rw [cA_of (A.all z hz).m]
  exact ⟨A.we hz h, A.ve hz, (A.all z hz).x⟩
/-! ### what is printed -/
structure Dk (k : Nat) (x : D) : Prop where
  c : Cmp x
  s : (toPy x).showable = true
  d : (toPy x).depth ≤ k
  n : (toPy x).hasDict = false
  z : (toPy x).shown.length ≤ 100 + 10 * k
theorem dk_tup {k : Nat} {x : D} (h : Dk k x) : Dk (k + 1) (.tup [x]) := by
  refine ⟨.tup fun y hy => by cases List.mem_singleton.mp hy; exact h.c, ?_, ?_, ?_, ?_⟩
  · rw [toPy, toPyL, toPyL, PyData.showable, PyData.showableAll, PyData.showableAll, h.s]; rfl
  · have := h.d
    rw [toPy, toPyL, toPyL, PyData.depth, PyData.depthAll, PyData.depthAll]; omega
  · rw [toPy, toPyL, toPyL, PyData.hasDict, PyData.hasDictAll, PyData.hasDictAll, h.n]; rfl
  · rw [toPy, toPyL, toPyL, PyData.shown, PyData.shownAll, PyData.shownAll]
    have := tupleText_len_le [(toPy x).shown]
    have := h.z
    simp only [List.map_cons, List.map_nil, List.sum_cons, List.sum_nil, List.length_cons, List.length_nil] at *
    omega
theorem dk_lst {k : Nat} {x : D} (h : Dk k x) : Dk (k + 1) (.lst [x]) := by
  refine ⟨.lst fun y hy => by cases List.mem_singleton.mp hy; exact h.c, ?_, ?_, ?_, ?_⟩
  · rw [toPy, toPyL, toPyL, PyData.showable, PyData.showableAll, PyData.showableAll, h.s]; rfl
  · have := h.d
    rw [toPy, toPyL, toPyL, PyData.depth, PyData.depthAll, PyData.depthAll]; omega
  · rw [toPy, toPyL, toPyL, PyData.hasDict, PyData.hasDictAll, PyData.hasDictAll, h.n]; rfl
  · rw [toPy, toPyL, toPyL, PyData.shown, PyData.shownAll, PyData.shownAll]
    have := listText_len_le [(toPy x).shown]
    have := h.z
    simp only [List.map_cons, List.map_nil, List.sum_cons, List.sum_nil, List.length_cons, List.length_nil] at *
    omega
theorem Dk.prn {k : Nat} {x : D} (h : Dk k x) (hk : k ≤ 60) : ∃ t, Prn x t := ⟨_, .inl ⟨h.c, h.s, Nat.le_trans h.d hk, h.n, by have := h.z; rw [sizeLine_eq]; omega, rfl⟩⟩
theorem dk_int {k : Nat} {i : Int} (h : i.natAbs < 100000000000000000000) : Dk k (.int i) := by
  refine ⟨.int _, ?_, by rw [toPy, PyData.depth]; exact Nat.zero_le _, by rw [toPy, PyData.hasDict], ?_⟩
  · rw [toPy, PyData.showable]
    refine decide_eq_true ?_
    by_cases z : i.natAbs = 0
    · rw [z]; decide
    · exact (Nat.log2_lt z).mpr (Nat.lt_of_lt_of_le h (by decide))
  · rw [toPy, PyData.shown]
    show (intT i).length ≤ _
    rw [TL.len_tl, tl_int]
    have k := TL.numL_len (n := i.natAbs) (k := 20) (by decide) h
    unfold intL
    by_cases q : i < 0
    · rw [if_pos q, List.length_cons]; omega
    · rw [if_neg q]; omega
theorem dk_lit {x : D} (c : Cmp x) (k : Nat) (h : (toPy x).showable = true ∧ (toPy x).depth ≤ k ∧ (toPy x).hasDict = false ∧ (toPy x).shown.length ≤ 100) : Dk k x := ⟨c, h.1, h.2.1, h.2.2.1, by have := h.2.2.2; omega⟩
def S_law_deep : List D → (D → Prop) → Prop := fun ds R => ds = [.hand] ∧ ∀ x, (∃ t, Prn x t) → R x
theorem l_law_deep : ∀ ds R, S_law_deep ds R → ds.length = 1 := fun ds R ⟨e, _⟩ => by rw [e]; rfl
theorem d_law_deep (T : Txt K mg) : Dfn P w K mg bs 4 "_law_deep" ["hand"] S_law_deep := by
  have D_law_any := d_law_any (P := P) (w := w) (bs := bs) T
  have D_law_draw := d_law_draw (P := P) (w := w) (bs := bs) T
  refine mkD (k := 3) T.s_law_deep sc_law_deep (fun _ _ _ _ _ _ us hl => match us, hl with | [_], _ => rfl) l_law_deep fun f cdv A outer s H E hr => ?_
  have hu := hu_of hr
  refine ⟨_, (pss_cons (ps_set (i := 1) sc_law_deep.nd rfl (Or.inl rfl) (pe_callK0 (K0 := K) (by rfl) D_law_any (hr.mono (by decide)) (pa_cons (pv 0) (pa_cons (pe_lst (pa_cons pe_int (pa_cons (pe_tup pa_nil) (pa_cons pe_str pa_nil)))) pa_nil))))
      (pss_cons (ps_for PassesOwn.never rfl (pi_range1 rfl T.n_range (pa_cons (pe_op op_add pe_int (pe_callK0 (K0 := K) (by rfl) D_law_draw (hr.mono (by decide)) (pa_cons (pv 0) (pa_cons pe_int pa_nil)))) pa_nil)) (pg_name (i := 2) sc_law_deep.nd rfl (Or.inl rfl))
      (pss_one (ps_set (i := 1) sc_law_deep.nd rfl (Or.inl rfl) (pe_ifExp (pt_cmpR op_gt (pe_callK0 (K0 := K) (by rfl) D_law_draw (hr.mono (by decide)) (pa_cons (pv 0) (pa_cons pe_int pa_nil))) pe_int (nomark _)) (pe_tup (pa_cons (pv 1) pa_nil)) (pe_lst (pa_cons (pv 1) pa_nil))))))
      (pss_one (ps_ret (pv 1))))), fun h H0 G0 ds R hS => ?_⟩
  obtain ⟨rfl, hR⟩ := hS
  refine ws_seq (ws_asg (we_call (wa_cons (we_var rfl (wa_cons (we_lst (wa_cons (we_int (wa_cons (we_tup (wa_nil ⟨Nat.zero_le _, wa_cons (we_str (wa_nil ⟨Nat.le_of_ble_eq_true rfl, wa_nil ⟨_, rfl, by simp, by simp, fun x hx => ?_⟩⟩))⟩)))))))))))
  have h0 : Dk 1 x := by
    simp only [List.mem_cons, List.not_mem_nil, or_false] at hx
    rcases hx with rfl | rfl | rfl
    · exact dk_int (by decide)
    · exact dk_lit (.tup fun y hy => by cases hy) _ (by decide +kernel)
    · exact dk_lit (.str _) _ (by decide +kernel)
  clear hx
  refine ws_seq (ws_for1 (wa_cons (we_I0 (we_int ⟨_, rfl, we_call (wa_cons (we_var rfl (wa_cons (we_int (wa_nil ⟨12, rfl, by decide, by decide, fun n n0 n1 => ⟨_, rfl, wa_nil ⟨_, rfl, by omega, by omega, fun k ρ => ∃ x r2, ρ = [some (.d .hand), some (.d x), r2] ∧ Dk (k + 1) x, ⟨_, _, rfl, h0⟩, ?_, ?_⟩⟩⟩)))))⟩))))
  · rintro k ρ hk ⟨x, r2, rfl, hx⟩
    refine wg_name (ws_asg (we_if (wt_T (we_I0 (we_call (wa_cons (we_var rfl (wa_cons (we_int (wa_nil ⟨3, rfl, by decide, by decide, fun c c0 c1 => ⟨_, rfl, we_int ⟨_, rfl, _, rfl, ?_⟩⟩⟩))))))))))
    refine ite2 (fun hb => ?_) (fun hb => ?_)
    · refine we_tup (wa_cons (we_var rfl (wa_nil ⟨Nat.le_of_ble_eq_true rfl, ?_⟩)))
      exact ⟨_, _, rfl, dk_tup hx⟩
    · refine we_lst (wa_cons (we_var rfl (wa_nil ⟨Nat.le_of_ble_eq_true rfl, ?_⟩)))
      exact ⟨_, _, rfl, dk_lst hx⟩
  · rintro ρ ⟨x, r2, rfl, hx⟩
    exact ws_ret (we_var rfl (hR _ (hx.prn (by omega))))
def S_law_with_field (mg : Str → Option Value) : List D → (D → Prop) → Prop := fun ds R => ∃ (w : Nat) (n : Str) (x : D), ds = [.int (w : Int), x] ∧ fieldN[w]? = some n ∧ R (.tup [x, eD mg n])
theorem l_law_with_field (mg : Str → Option Value) : ∀ ds R, S_law_with_field mg ds R → ds.length = 2 := fun ds R ⟨_, _, _, e, _⟩ => by rw [e]; rfl
theorem d_law_with_field (T : Txt K mg) : Dfn P w K mg bs 3 "_law_with_field" ["which", "thing"] (S_law_with_field mg) := by
  obtain ⟨C_NoName, X_NoName⟩ := x_NoName (P := P) (w := w) (bs := bs) T
  obtain ⟨C_TooMany, X_TooMany⟩ := x_TooMany (P := P) (w := w) (bs := bs) T
  obtain ⟨C_BadMachine, X_BadMachine⟩ := x_BadMachine (P := P) (w := w) (bs := bs) T
  obtain ⟨C_NotWithin, X_NotWithin⟩ := x_NotWithin (P := P) (w := w) (bs := bs) T
  obtain ⟨C_BadDust, X_BadDust⟩ := x_BadDust (P := P) (w := w) (bs := bs) T
  obtain ⟨C_BadAnswer, X_BadAnswer⟩ := x_BadAnswer (P := P) (w := w) (bs := bs) T
  obtain ⟨C_BadText, X_BadText⟩ := x_BadText (P := P) (w := w) (bs := bs) T
  refine mkD (k := 2) T.s_law_with_field sc_law_with_field (fun _ _ _ _ _ _ us hl => match us, hl with | [_, _], _ => rfl) (l_law_with_field mg) fun f cdv A outer s H E hr => ?_
  have hu := hu_of hr
  refine ⟨_, (pss_cons (ps_if (pt_cmpR op_eq (pv 0) pe_int (nomark _)) (pss_one (ps_ret (pe_tup (pa_cons (pe_excF X_TooMany.xf (X_TooMany.no _ (by simp)) (pe_excV1 X_TooMany (hr.mono (by decide)) (pv 1))) (pa_cons (pe_excV1 X_TooMany (hr.mono (by decide)) (pv 1)) pa_nil))))) pss_nil)
      (pss_cons (ps_if (pt_cmpR op_eq (pv 0) pe_int (nomark _)) (pss_one (ps_ret (pe_tup (pa_cons (pe_excF X_BadMachine.xf (X_BadMachine.no _ (by simp)) (pe_excV1 X_BadMachine (hr.mono (by decide)) (pv 1))) (pa_cons (pe_excV1 X_BadMachine (hr.mono (by decide)) (pv 1)) pa_nil))))) pss_nil)
      (pss_cons (ps_if (pt_cmpR op_eq (pv 0) pe_int (nomark _)) (pss_one (ps_ret (pe_tup (pa_cons (pe_excF X_NotWithin.xf (X_NotWithin.no _ (by simp)) (pe_excV1 X_NotWithin (hr.mono (by decide)) (pv 1))) (pa_cons (pe_excV1 X_NotWithin (hr.mono (by decide)) (pv 1)) pa_nil))))) pss_nil)
      (pss_cons (ps_if (pt_cmpR op_eq (pv 0) pe_int (nomark _)) (pss_one (ps_ret (pe_tup (pa_cons (pe_excF X_BadDust.xf (X_BadDust.no _ (by simp)) (pe_excV1 X_BadDust (hr.mono (by decide)) (pv 1))) (pa_cons (pe_excV1 X_BadDust (hr.mono (by decide)) (pv 1)) pa_nil))))) pss_nil)
      (pss_cons (ps_if (pt_cmpR op_eq (pv 0) pe_int (nomark _)) (pss_one (ps_ret (pe_tup (pa_cons (pe_excF X_BadAnswer.xf (X_BadAnswer.no _ (by simp)) (pe_excV1 X_BadAnswer (hr.mono (by decide)) (pv 1))) (pa_cons (pe_excV1 X_BadAnswer (hr.mono (by decide)) (pv 1)) pa_nil))))) pss_nil)
      (pss_cons (ps_if (pt_cmpR op_eq (pv 0) pe_int (nomark _)) (pss_one (ps_ret (pe_tup (pa_cons (pe_excF X_BadText.xf (X_BadText.no _ (by simp)) (pe_excV1 X_BadText (hr.mono (by decide)) (pv 1))) (pa_cons (pe_excV1 X_BadText (hr.mono (by decide)) (pv 1)) pa_nil))))) pss_nil)
      (pss_one (ps_ret (pe_tup (pa_cons (pe_excF X_NoName.xf (X_NoName.no _ (by simp)) (pe_excV1 X_NoName (hr.mono (by decide)) (pv 1))) (pa_cons (pe_excV1 X_NoName (hr.mono (by decide)) (pv 1)) pa_nil))))))))))), fun h H0 G0 ds R hS => ?_⟩
  obtain ⟨w, n, x, rfl, hw, hR⟩ := hS
  have key : (w = 0 ∧ n = "TooMany") ∨ (w = 1 ∧ n = "BadMachine") ∨ (w = 2 ∧ n = "NotWithin") ∨ (w = 3 ∧ n = "BadDust") ∨ (w = 4 ∧ n = "BadAnswer") ∨ (w = 5 ∧ n = "BadText") ∨ (w = 6 ∧ n = "NoName") := by
    match w, hw with
    | 0, h => cases h; exact .inl ⟨rfl, rfl⟩
    | 1, h => cases h; exact .inr (.inl ⟨rfl, rfl⟩)
    | 2, h => cases h; exact .inr (.inr (.inl ⟨rfl, rfl⟩))
    | 3, h => cases h; exact .inr (.inr (.inr (.inl ⟨rfl, rfl⟩)))
    | 4, h => cases h; exact .inr (.inr (.inr (.inr (.inl ⟨rfl, rfl⟩))))
    | 5, h => cases h; exact .inr (.inr (.inr (.inr (.inr (.inl ⟨rfl, rfl⟩)))))
    | 6, h => cases h; exact .inr (.inr (.inr (.inr (.inr (.inr ⟨rfl, rfl⟩)))))
  clear hw
  have fin : ∀ {n : Str} {C : Addr} {f : Str} {N : Rho → Prop}, mg n = some (.ref C) → R (.tup [x, eD mg n]) → WS (Par.mk K h H0 G0) [some (.d (.int (w : Int))), some (.d x)] (tRet (tTup (tCons (tExf C f (tExc1 C f (tVar 1))) (tCons (tExc1 C f (tVar 1)) tNil)))) ⟨N, R, (retP R).b, (retP R).c⟩ := fun {n C f N} hm hR => by
    rw [← eD_of hm] at hR
    exact ws_ret (we_tup (wa_cons (we_excF (we_var rfl (wa_cons (we_excV1 (we_var rfl (wa_nil ⟨Nat.le_of_ble_eq_true rfl, hR⟩))))))))
  have no : ∀ {i : Int} {P : Post} {t1 t2 : TS}, ¬ ((w : Int) = i) → WS (Par.mk K h H0 G0) [some (.d (.int (w : Int))), some (.d x)] t2 P → WS _ [some (.d (.int (w : Int))), some (.d x)] (tSeq (tIfS (tTest (tOp rEq (tVar 0) (tC (.int i)))) t1 tNext) t2) P := fun {i P t1 t2} hw h => by
    refine ws_seq (ws_if (wt_T (we_eqI (we_var rfl ⟨_, rfl, we_int ⟨_, rfl, _, rfl, ?_⟩⟩))))
    rw [decide_eq_false hw, if_neg (by decide)]
    exact ws_next h
  have yes : ∀ {i : Int} {P : Post} {t1 t2 : TS}, (w : Int) = i → (∀ N, WS (Par.mk K h H0 G0) [some (.d (.int (w : Int))), some (.d x)] t1 ⟨N, P.r, P.b, P.c⟩) → WS _ [some (.d (.int (w : Int))), some (.d x)] (tSeq (tIfS (tTest (tOp rEq (tVar 0) (tC (.int i)))) t1 tNext) t2) P := fun {i P t1 t2} hw h => by
    refine ws_seq (ws_if (wt_T (we_eqI (we_var rfl ⟨_, rfl, we_int ⟨_, rfl, _, rfl, ?_⟩⟩))))
    rw [decide_eq_true hw, if_pos rfl]
    exact h _
  rcases key with ⟨rfl, rfl⟩ | ⟨rfl, rfl⟩ | ⟨rfl, rfl⟩ | ⟨rfl, rfl⟩ | ⟨rfl, rfl⟩ | ⟨rfl, rfl⟩ | ⟨rfl, rfl⟩
  · exact yes rfl (fun N => fin X_TooMany.gC hR)
  · exact no (by decide) (yes rfl (fun N => fin X_BadMachine.gC hR))
  · exact no (by decide) (no (by decide) (yes rfl (fun N => fin X_NotWithin.gC hR)))
  · exact no (by decide) (no (by decide) (no (by decide) (yes rfl (fun N => fin X_BadDust.gC hR))))
  · exact no (by decide) (no (by decide) (no (by decide) (no (by decide) (yes rfl (fun N => fin X_BadAnswer.gC hR)))))
  · exact no (by decide) (no (by decide) (no (by decide) (no (by decide) (no (by decide) (yes rfl (fun N => fin X_BadText.gC hR))))))
  · exact no (by decide) (no (by decide) (no (by decide) (no (by decide) (no (by decide) (no (by decide) (fin X_NoName.gC hR))))))
def S_law_plain (mg : Str → Option Value) : List D → (D → Prop) → Prop := fun ds R => ds = [] ∧ R (.lst (plainN.map (eD mg)))
theorem l_law_plain (mg : Str → Option Value) : ∀ ds R, S_law_plain mg ds R → ds.length = 0 := fun ds R ⟨e, _⟩ => by rw [e]; rfl
theorem d_law_plain (T : Txt K mg) : Dfn P w K mg bs 3 "_law_plain" [] (S_law_plain mg) := by
  obtain ⟨C_NoBase, X_NoBase⟩ := x_NoBase (P := P) (w := w) (bs := bs) T
  obtain ⟨C_NoRow, X_NoRow⟩ := x_NoRow (P := P) (w := w) (bs := bs) T
  obtain ⟨C_NoNumber, X_NoNumber⟩ := x_NoNumber (P := P) (w := w) (bs := bs) T
  obtain ⟨C_NoMany, X_NoMany⟩ := x_NoMany (P := P) (w := w) (bs := bs) T
  obtain ⟨C_NoState, X_NoState⟩ := x_NoState (P := P) (w := w) (bs := bs) T
  obtain ⟨C_NoDigits, X_NoDigits⟩ := x_NoDigits (P := P) (w := w) (bs := bs) T
  obtain ⟨C_NoWriting, X_NoWriting⟩ := x_NoWriting (P := P) (w := w) (bs := bs) T
  obtain ⟨C_Unsound, X_Unsound⟩ := x_Unsound (P := P) (w := w) (bs := bs) T
  obtain ⟨C_NoFraction, X_NoFraction⟩ := x_NoFraction (P := P) (w := w) (bs := bs) T
  obtain ⟨C_OtherBase, X_OtherBase⟩ := x_OtherBase (P := P) (w := w) (bs := bs) T
  obtain ⟨C_NoChances, X_NoChances⟩ := x_NoChances (P := P) (w := w) (bs := bs) T
  obtain ⟨C_NoTurns, X_NoTurns⟩ := x_NoTurns (P := P) (w := w) (bs := bs) T
  obtain ⟨C_NoHand, X_NoHand⟩ := x_NoHand (P := P) (w := w) (bs := bs) T
  obtain ⟨C_NoChoices, X_NoChoices⟩ := x_NoChoices (P := P) (w := w) (bs := bs) T
  obtain ⟨C_NoDigit, X_NoDigit⟩ := x_NoDigit (P := P) (w := w) (bs := bs) T
  obtain ⟨C_NothingDone, X_NothingDone⟩ := x_NothingDone (P := P) (w := w) (bs := bs) T
  obtain ⟨C_NoFit, X_NoFit⟩ := x_NoFit (P := P) (w := w) (bs := bs) T
  obtain ⟨C_NoLine, X_NoLine⟩ := x_NoLine (P := P) (w := w) (bs := bs) T
  refine mkD (k := 2) T.s_law_plain sc_law_plain (fun _ _ _ _ _ _ us hl => match us, hl with | [], _ => rfl) (l_law_plain mg) fun f cdv A outer s H E hr => ?_
  have hu := hu_of hr
  refine ⟨_, (pss_cons (ps_set (i := 0) sc_law_plain.nd rfl (Or.inl rfl) (pe_lst (pa_cons (pe_excV0 X_NoBase (hr.mono (by decide))) (pa_cons (pe_excV0 X_NoRow (hr.mono (by decide))) (pa_cons (pe_excV0 X_NoNumber (hr.mono (by decide))) (pa_cons (pe_excV0 X_NoMany (hr.mono (by decide))) (pa_cons (pe_excV0 X_NoState (hr.mono (by decide))) (pa_cons (pe_excV0 X_NoDigits (hr.mono (by decide))) (pa_cons (pe_excV0 X_NoWriting (hr.mono (by decide))) (pa_cons (pe_excV0 X_Unsound (hr.mono (by decide))) (pa_cons (pe_excV0 X_NoFraction (hr.mono (by decide))) pa_nil)))))))))))
      (pss_cons (ps_set (i := 0) sc_law_plain.nd rfl (Or.inl rfl) (pe_op op_cat (pv 0) (pe_lst (pa_cons (pe_excV0 X_OtherBase (hr.mono (by decide))) (pa_cons (pe_excV0 X_NoChances (hr.mono (by decide))) (pa_cons (pe_excV0 X_NoTurns (hr.mono (by decide))) (pa_cons (pe_excV0 X_NoHand (hr.mono (by decide))) (pa_cons (pe_excV0 X_NoChoices (hr.mono (by decide))) (pa_cons (pe_excV0 X_NoDigit (hr.mono (by decide))) (pa_cons (pe_excV0 X_NothingDone (hr.mono (by decide))) pa_nil))))))))))
      (pss_one (ps_ret (pe_op op_cat (pv 0) (pe_lst (pa_cons (pe_excV0 X_NoFit (hr.mono (by decide))) (pa_cons (pe_excV0 X_NoLine (hr.mono (by decide))) pa_nil)))))))), fun h H0 G0 ds R hS => ?_⟩
  obtain ⟨rfl, hR⟩ := hS
  refine ws_seq (ws_asgF (wf_lst (wa_cons (we_excV0 (wa_cons (we_excV0 (wa_cons (we_excV0 (wa_cons (we_excV0 (wa_cons (we_excV0 (wa_cons (we_excV0 (wa_cons (we_excV0 (wa_cons (we_excV0 (wa_cons (we_excV0 (wa_nil ⟨Nat.le_of_ble_eq_true rfl, ?_⟩)))))))))))))))))))))
  refine ws_freeze 0 rfl rfl ?_
  refine ws_seq (ws_asgF (wf_catL (we_var rfl ⟨_, rfl, we_lst (wa_cons (we_excV0 (wa_cons (we_excV0 (wa_cons (we_excV0 (wa_cons (we_excV0 (wa_cons (we_excV0 (wa_cons (we_excV0 (wa_cons (we_excV0 (wa_nil ⟨Nat.le_of_ble_eq_true rfl, _, rfl, Nat.le_of_ble_eq_true rfl, ?_⟩)))))))))))))))⟩)))
  refine ws_freeze 0 rfl rfl ?_
  refine ws_ret (we_F (wf_catL (we_var rfl ⟨_, rfl, we_lst (wa_cons (we_excV0 (wa_cons (we_excV0 (wa_nil ⟨Nat.le_of_ble_eq_true rfl, _, rfl, Nat.le_of_ble_eq_true rfl, ?_⟩)))))⟩)))
  simp only [plainN, eD, List.map_cons, List.map_nil, cA_of X_NoBase.gC, cA_of X_NoRow.gC, cA_of X_NoNumber.gC, cA_of X_NoMany.gC, cA_of X_NoState.gC, cA_of X_NoDigits.gC, cA_of X_NoWriting.gC, cA_of X_Unsound.gC, cA_of X_NoFraction.gC, cA_of X_OtherBase.gC, cA_of X_NoChances.gC, cA_of X_NoTurns.gC, cA_of X_NoHand.gC, cA_of X_NoChoices.gC, cA_of X_NoDigit.gC, cA_of X_NothingDone.gC, cA_of X_NoFit.gC, cA_of X_NoLine.gC] at hR
  exact hR
def S_law_kinds (mg : Str → Option Value) : List D → (D → Prop) → Prop := fun ds R => ∃ n, ds = [eD mg n] ∧ n ∈ kindN ∧ R (.lst (kindN.map fun m => .bl (decide (n = m))))
theorem l_law_kinds (mg : Str → Option Value) : ∀ ds R, S_law_kinds mg ds R → ds.length = 1 := fun ds R ⟨_, e, _⟩ => by rw [e]; rfl
theorem d_law_kinds (T : Txt K mg) : Dfn P w K mg bs 1 "_law_kinds" ["e"] (S_law_kinds mg) := by
  obtain ⟨C_NoBase, X_NoBase⟩ := x_NoBase (P := P) (w := w) (bs := bs) T
  obtain ⟨C_NoRow, X_NoRow⟩ := x_NoRow (P := P) (w := w) (bs := bs) T
  obtain ⟨C_NoNumber, X_NoNumber⟩ := x_NoNumber (P := P) (w := w) (bs := bs) T
  obtain ⟨C_NoMany, X_NoMany⟩ := x_NoMany (P := P) (w := w) (bs := bs) T
  obtain ⟨C_NoState, X_NoState⟩ := x_NoState (P := P) (w := w) (bs := bs) T
  obtain ⟨C_NoDigits, X_NoDigits⟩ := x_NoDigits (P := P) (w := w) (bs := bs) T
  obtain ⟨C_NoWriting, X_NoWriting⟩ := x_NoWriting (P := P) (w := w) (bs := bs) T
  obtain ⟨C_Unsound, X_Unsound⟩ := x_Unsound (P := P) (w := w) (bs := bs) T
  obtain ⟨C_NoFraction, X_NoFraction⟩ := x_NoFraction (P := P) (w := w) (bs := bs) T
  obtain ⟨C_OtherBase, X_OtherBase⟩ := x_OtherBase (P := P) (w := w) (bs := bs) T
  obtain ⟨C_NoChances, X_NoChances⟩ := x_NoChances (P := P) (w := w) (bs := bs) T
  obtain ⟨C_NoTurns, X_NoTurns⟩ := x_NoTurns (P := P) (w := w) (bs := bs) T
  obtain ⟨C_NoHand, X_NoHand⟩ := x_NoHand (P := P) (w := w) (bs := bs) T
  obtain ⟨C_NoChoices, X_NoChoices⟩ := x_NoChoices (P := P) (w := w) (bs := bs) T
  obtain ⟨C_NoDigit, X_NoDigit⟩ := x_NoDigit (P := P) (w := w) (bs := bs) T
  obtain ⟨C_NothingDone, X_NothingDone⟩ := x_NothingDone (P := P) (w := w) (bs := bs) T
  obtain ⟨C_NoFit, X_NoFit⟩ := x_NoFit (P := P) (w := w) (bs := bs) T
  obtain ⟨C_NoLine, X_NoLine⟩ := x_NoLine (P := P) (w := w) (bs := bs) T
  obtain ⟨C_TooMany, X_TooMany⟩ := x_TooMany (P := P) (w := w) (bs := bs) T
  obtain ⟨C_BadMachine, X_BadMachine⟩ := x_BadMachine (P := P) (w := w) (bs := bs) T
  obtain ⟨C_NotWithin, X_NotWithin⟩ := x_NotWithin (P := P) (w := w) (bs := bs) T
  obtain ⟨C_BadDust, X_BadDust⟩ := x_BadDust (P := P) (w := w) (bs := bs) T
  obtain ⟨C_BadAnswer, X_BadAnswer⟩ := x_BadAnswer (P := P) (w := w) (bs := bs) T
  obtain ⟨C_BadText, X_BadText⟩ := x_BadText (P := P) (w := w) (bs := bs) T
  obtain ⟨C_NoName, X_NoName⟩ := x_NoName (P := P) (w := w) (bs := bs) T
  refine mkD (k := 0) T.s_law_kinds sc_law_kinds (fun _ _ _ _ _ _ us hl => match us, hl with | [_], _ => rfl) (l_law_kinds mg) fun f cdv A outer s H E hr => ?_
  have hu := hu_of hr
  refine ⟨_, (pss_cons (ps_set (i := 1) sc_law_kinds.nd rfl (Or.inl rfl) (pe_lst (pa_cons (pe_callB (cr_isXK (K0 := K) (by rfl)) (by rfl) T.n_isinstance (by decide +kernel) (pa_cons (pv 0) (pa_cons (pe_glob (v := .ref C_NoBase) (by rfl) X_NoBase.gC rfl) pa_nil))) (pa_cons (pe_callB (cr_isXK (K0 := K) (by rfl)) (by rfl) T.n_isinstance (by decide +kernel) (pa_cons (pv 0) (pa_cons (pe_glob (v := .ref C_NoRow) (by rfl) X_NoRow.gC rfl) pa_nil))) (pa_cons (pe_callB (cr_isXK (K0 := K) (by rfl)) (by rfl) T.n_isinstance (by decide +kernel) (pa_cons (pv 0) (pa_cons (pe_glob (v := .ref C_NoNumber) (by rfl) X_NoNumber.gC rfl) pa_nil))) (pa_cons (pe_callB (cr_isXK (K0 := K) (by rfl)) (by rfl) T.n_isinstance (by decide +kernel) (pa_cons (pv 0) (pa_cons (pe_glob (v := .ref C_NoMany) (by rfl) X_NoMany.gC rfl) pa_nil))) pa_nil))))))
      (pss_cons (ps_set (i := 1) sc_law_kinds.nd rfl (Or.inl rfl) (pe_op op_cat (pv 1) (pe_lst (pa_cons (pe_callB (cr_isXK (K0 := K) (by rfl)) (by rfl) T.n_isinstance (by decide +kernel) (pa_cons (pv 0) (pa_cons (pe_glob (v := .ref C_NoState) (by rfl) X_NoState.gC rfl) pa_nil))) (pa_cons (pe_callB (cr_isXK (K0 := K) (by rfl)) (by rfl) T.n_isinstance (by decide +kernel) (pa_cons (pv 0) (pa_cons (pe_glob (v := .ref C_NoDigits) (by rfl) X_NoDigits.gC rfl) pa_nil))) (pa_cons (pe_callB (cr_isXK (K0 := K) (by rfl)) (by rfl) T.n_isinstance (by decide +kernel) (pa_cons (pv 0) (pa_cons (pe_glob (v := .ref C_NoWriting) (by rfl) X_NoWriting.gC rfl) pa_nil))) (pa_cons (pe_callB (cr_isXK (K0 := K) (by rfl)) (by rfl) T.n_isinstance (by decide +kernel) (pa_cons (pv 0) (pa_cons (pe_glob (v := .ref C_Unsound) (by rfl) X_Unsound.gC rfl) pa_nil))) pa_nil)))))))
      (pss_cons (ps_set (i := 1) sc_law_kinds.nd rfl (Or.inl rfl) (pe_op op_cat (pv 1) (pe_lst (pa_cons (pe_callB (cr_isXK (K0 := K) (by rfl)) (by rfl) T.n_isinstance (by decide +kernel) (pa_cons (pv 0) (pa_cons (pe_glob (v := .ref C_NoFraction) (by rfl) X_NoFraction.gC rfl) pa_nil))) (pa_cons (pe_callB (cr_isXK (K0 := K) (by rfl)) (by rfl) T.n_isinstance (by decide +kernel) (pa_cons (pv 0) (pa_cons (pe_glob (v := .ref C_OtherBase) (by rfl) X_OtherBase.gC rfl) pa_nil))) (pa_cons (pe_callB (cr_isXK (K0 := K) (by rfl)) (by rfl) T.n_isinstance (by decide +kernel) (pa_cons (pv 0) (pa_cons (pe_glob (v := .ref C_NoChances) (by rfl) X_NoChances.gC rfl) pa_nil))) pa_nil))))))
      (pss_cons (ps_set (i := 1) sc_law_kinds.nd rfl (Or.inl rfl) (pe_op op_cat (pv 1) (pe_lst (pa_cons (pe_callB (cr_isXK (K0 := K) (by rfl)) (by rfl) T.n_isinstance (by decide +kernel) (pa_cons (pv 0) (pa_cons (pe_glob (v := .ref C_NoTurns) (by rfl) X_NoTurns.gC rfl) pa_nil))) (pa_cons (pe_callB (cr_isXK (K0 := K) (by rfl)) (by rfl) T.n_isinstance (by decide +kernel) (pa_cons (pv 0) (pa_cons (pe_glob (v := .ref C_NoHand) (by rfl) X_NoHand.gC rfl) pa_nil))) (pa_cons (pe_callB (cr_isXK (K0 := K) (by rfl)) (by rfl) T.n_isinstance (by decide +kernel) (pa_cons (pv 0) (pa_cons (pe_glob (v := .ref C_NoChoices) (by rfl) X_NoChoices.gC rfl) pa_nil))) (pa_cons (pe_callB (cr_isXK (K0 := K) (by rfl)) (by rfl) T.n_isinstance (by decide +kernel) (pa_cons (pv 0) (pa_cons (pe_glob (v := .ref C_NoDigit) (by rfl) X_NoDigit.gC rfl) pa_nil))) pa_nil)))))))
      (pss_cons (ps_set (i := 1) sc_law_kinds.nd rfl (Or.inl rfl) (pe_op op_cat (pv 1) (pe_lst (pa_cons (pe_callB (cr_isXK (K0 := K) (by rfl)) (by rfl) T.n_isinstance (by decide +kernel) (pa_cons (pv 0) (pa_cons (pe_glob (v := .ref C_NothingDone) (by rfl) X_NothingDone.gC rfl) pa_nil))) (pa_cons (pe_callB (cr_isXK (K0 := K) (by rfl)) (by rfl) T.n_isinstance (by decide +kernel) (pa_cons (pv 0) (pa_cons (pe_glob (v := .ref C_NoFit) (by rfl) X_NoFit.gC rfl) pa_nil))) (pa_cons (pe_callB (cr_isXK (K0 := K) (by rfl)) (by rfl) T.n_isinstance (by decide +kernel) (pa_cons (pv 0) (pa_cons (pe_glob (v := .ref C_NoLine) (by rfl) X_NoLine.gC rfl) pa_nil))) (pa_cons (pe_callB (cr_isXK (K0 := K) (by rfl)) (by rfl) T.n_isinstance (by decide +kernel) (pa_cons (pv 0) (pa_cons (pe_glob (v := .ref C_TooMany) (by rfl) X_TooMany.gC rfl) pa_nil))) pa_nil)))))))
      (pss_cons (ps_set (i := 1) sc_law_kinds.nd rfl (Or.inl rfl) (pe_op op_cat (pv 1) (pe_lst (pa_cons (pe_callB (cr_isXK (K0 := K) (by rfl)) (by rfl) T.n_isinstance (by decide +kernel) (pa_cons (pv 0) (pa_cons (pe_glob (v := .ref C_BadMachine) (by rfl) X_BadMachine.gC rfl) pa_nil))) (pa_cons (pe_callB (cr_isXK (K0 := K) (by rfl)) (by rfl) T.n_isinstance (by decide +kernel) (pa_cons (pv 0) (pa_cons (pe_glob (v := .ref C_NotWithin) (by rfl) X_NotWithin.gC rfl) pa_nil))) (pa_cons (pe_callB (cr_isXK (K0 := K) (by rfl)) (by rfl) T.n_isinstance (by decide +kernel) (pa_cons (pv 0) (pa_cons (pe_glob (v := .ref C_BadDust) (by rfl) X_BadDust.gC rfl) pa_nil))) pa_nil))))))
      (pss_one (ps_ret (pe_op op_cat (pv 1) (pe_lst (pa_cons (pe_callB (cr_isXK (K0 := K) (by rfl)) (by rfl) T.n_isinstance (by decide +kernel) (pa_cons (pv 0) (pa_cons (pe_glob (v := .ref C_BadAnswer) (by rfl) X_BadAnswer.gC rfl) pa_nil))) (pa_cons (pe_callB (cr_isXK (K0 := K) (by rfl)) (by rfl) T.n_isinstance (by decide +kernel) (pa_cons (pv 0) (pa_cons (pe_glob (v := .ref C_BadText) (by rfl) X_BadText.gC rfl) pa_nil))) (pa_cons (pe_callB (cr_isXK (K0 := K) (by rfl)) (by rfl) T.n_isinstance (by decide +kernel) (pa_cons (pv 0) (pa_cons (pe_glob (v := .ref C_NoName) (by rfl) X_NoName.gC rfl) pa_nil))) pa_nil))))))))))))), fun h H0 G0 ds R hS => ?_⟩
  obtain ⟨n, rfl, hn, hR⟩ := hS
  have q_NoBase := err_one T hn (show ("NoBase" : Str) ∈ kindN by decide +kernel) X_NoBase.gC
  have q_NoRow := err_one T hn (show ("NoRow" : Str) ∈ kindN by decide +kernel) X_NoRow.gC
  have q_NoNumber := err_one T hn (show ("NoNumber" : Str) ∈ kindN by decide +kernel) X_NoNumber.gC
  have q_NoMany := err_one T hn (show ("NoMany" : Str) ∈ kindN by decide +kernel) X_NoMany.gC
  have q_NoState := err_one T hn (show ("NoState" : Str) ∈ kindN by decide +kernel) X_NoState.gC
  have q_NoDigits := err_one T hn (show ("NoDigits" : Str) ∈ kindN by decide +kernel) X_NoDigits.gC
  have q_NoWriting := err_one T hn (show ("NoWriting" : Str) ∈ kindN by decide +kernel) X_NoWriting.gC
  have q_Unsound := err_one T hn (show ("Unsound" : Str) ∈ kindN by decide +kernel) X_Unsound.gC
  have q_NoFraction := err_one T hn (show ("NoFraction" : Str) ∈ kindN by decide +kernel) X_NoFraction.gC
  have q_OtherBase := err_one T hn (show ("OtherBase" : Str) ∈ kindN by decide +kernel) X_OtherBase.gC
  have q_NoChances := err_one T hn (show ("NoChances" : Str) ∈ kindN by decide +kernel) X_NoChances.gC
  have q_NoTurns := err_one T hn (show ("NoTurns" : Str) ∈ kindN by decide +kernel) X_NoTurns.gC
  have q_NoHand := err_one T hn (show ("NoHand" : Str) ∈ kindN by decide +kernel) X_NoHand.gC
  have q_NoChoices := err_one T hn (show ("NoChoices" : Str) ∈ kindN by decide +kernel) X_NoChoices.gC
  have q_NoDigit := err_one T hn (show ("NoDigit" : Str) ∈ kindN by decide +kernel) X_NoDigit.gC
  have q_NothingDone := err_one T hn (show ("NothingDone" : Str) ∈ kindN by decide +kernel) X_NothingDone.gC
  have q_NoFit := err_one T hn (show ("NoFit" : Str) ∈ kindN by decide +kernel) X_NoFit.gC
  have q_NoLine := err_one T hn (show ("NoLine" : Str) ∈ kindN by decide +kernel) X_NoLine.gC
  have q_TooMany := err_one T hn (show ("TooMany" : Str) ∈ kindN by decide +kernel) X_TooMany.gC
  have q_BadMachine := err_one T hn (show ("BadMachine" : Str) ∈ kindN by decide +kernel) X_BadMachine.gC
  have q_NotWithin := err_one T hn (show ("NotWithin" : Str) ∈ kindN by decide +kernel) X_NotWithin.gC
  have q_BadDust := err_one T hn (show ("BadDust" : Str) ∈ kindN by decide +kernel) X_BadDust.gC
  have q_BadAnswer := err_one T hn (show ("BadAnswer" : Str) ∈ kindN by decide +kernel) X_BadAnswer.gC
  have q_BadText := err_one T hn (show ("BadText" : Str) ∈ kindN by decide +kernel) X_BadText.gC
  have q_NoName := err_one T hn (show ("NoName" : Str) ∈ kindN by decide +kernel) X_NoName.gC
  refine ws_seq (ws_asgF (wf_lst (wa_cons (we_isX (fun u h => h) (we_var rfl ⟨_, _, rfl, q_NoBase.2, q_NoBase.1, wa_cons (we_isX (fun u h => h) (we_var rfl ⟨_, _, rfl, q_NoRow.2, q_NoRow.1, wa_cons (we_isX (fun u h => h) (we_var rfl ⟨_, _, rfl, q_NoNumber.2, q_NoNumber.1, wa_cons (we_isX (fun u h => h) (we_var rfl ⟨_, _, rfl, q_NoMany.2, q_NoMany.1, wa_nil ⟨Nat.le_of_ble_eq_true rfl, ?_⟩⟩))⟩))⟩))⟩)))))
  refine ws_freeze 1 rfl rfl ?_
  refine ws_seq (ws_asgF (wf_catL (we_var rfl ⟨_, rfl, we_lst (wa_cons (we_isX (fun u h => h) (we_var rfl ⟨_, _, rfl, q_NoState.2, q_NoState.1, wa_cons (we_isX (fun u h => h) (we_var rfl ⟨_, _, rfl, q_NoDigits.2, q_NoDigits.1, wa_cons (we_isX (fun u h => h) (we_var rfl ⟨_, _, rfl, q_NoWriting.2, q_NoWriting.1, wa_cons (we_isX (fun u h => h) (we_var rfl ⟨_, _, rfl, q_Unsound.2, q_Unsound.1, wa_nil ⟨Nat.le_of_ble_eq_true rfl, _, rfl, Nat.le_of_ble_eq_true rfl, ?_⟩⟩))⟩))⟩))⟩)))⟩)))
  refine ws_freeze 1 rfl rfl ?_
  refine ws_seq (ws_asgF (wf_catL (we_var rfl ⟨_, rfl, we_lst (wa_cons (we_isX (fun u h => h) (we_var rfl ⟨_, _, rfl, q_NoFraction.2, q_NoFraction.1, wa_cons (we_isX (fun u h => h) (we_var rfl ⟨_, _, rfl, q_OtherBase.2, q_OtherBase.1, wa_cons (we_isX (fun u h => h) (we_var rfl ⟨_, _, rfl, q_NoChances.2, q_NoChances.1, wa_nil ⟨Nat.le_of_ble_eq_true rfl, _, rfl, Nat.le_of_ble_eq_true rfl, ?_⟩⟩))⟩))⟩)))⟩)))
  refine ws_freeze 1 rfl rfl ?_
  refine ws_seq (ws_asgF (wf_catL (we_var rfl ⟨_, rfl, we_lst (wa_cons (we_isX (fun u h => h) (we_var rfl ⟨_, _, rfl, q_NoTurns.2, q_NoTurns.1, wa_cons (we_isX (fun u h => h) (we_var rfl ⟨_, _, rfl, q_NoHand.2, q_NoHand.1, wa_cons (we_isX (fun u h => h) (we_var rfl ⟨_, _, rfl, q_NoChoices.2, q_NoChoices.1, wa_cons (we_isX (fun u h => h) (we_var rfl ⟨_, _, rfl, q_NoDigit.2, q_NoDigit.1, wa_nil ⟨Nat.le_of_ble_eq_true rfl, _, rfl, Nat.le_of_ble_eq_true rfl, ?_⟩⟩))⟩))⟩))⟩)))⟩)))
  refine ws_freeze 1 rfl rfl ?_
  refine ws_seq (ws_asgF (wf_catL (we_var rfl ⟨_, rfl, we_lst (wa_cons (we_isX (fun u h => h) (we_var rfl ⟨_, _, rfl, q_NothingDone.2, q_NothingDone.1, wa_cons (we_isX (fun u h => h) (we_var rfl ⟨_, _, rfl, q_NoFit.2, q_NoFit.1, wa_cons (we_isX (fun u h => h) (we_var rfl ⟨_, _, rfl, q_NoLine.2, q_NoLine.1, wa_cons (we_isX (fun u h => h) (we_var rfl ⟨_, _, rfl, q_TooMany.2, q_TooMany.1, wa_nil ⟨Nat.le_of_ble_eq_true rfl, _, rfl, Nat.le_of_ble_eq_true rfl, ?_⟩⟩))⟩))⟩))⟩)))⟩)))
  refine ws_freeze 1 rfl rfl ?_
  refine ws_seq (ws_asgF (wf_catL (we_var rfl ⟨_, rfl, we_lst (wa_cons (we_isX (fun u h => h) (we_var rfl ⟨_, _, rfl, q_BadMachine.2, q_BadMachine.1, wa_cons (we_isX (fun u h => h) (we_var rfl ⟨_, _, rfl, q_NotWithin.2, q_NotWithin.1, wa_cons (we_isX (fun u h => h) (we_var rfl ⟨_, _, rfl, q_BadDust.2, q_BadDust.1, wa_nil ⟨Nat.le_of_ble_eq_true rfl, _, rfl, Nat.le_of_ble_eq_true rfl, ?_⟩⟩))⟩))⟩)))⟩)))
  refine ws_freeze 1 rfl rfl ?_
  refine ws_ret (we_F (wf_catL (we_var rfl ⟨_, rfl, we_lst (wa_cons (we_isX (fun u h => h) (we_var rfl ⟨_, _, rfl, q_BadAnswer.2, q_BadAnswer.1, wa_cons (we_isX (fun u h => h) (we_var rfl ⟨_, _, rfl, q_BadText.2, q_BadText.1, wa_cons (we_isX (fun u h => h) (we_var rfl ⟨_, _, rfl, q_NoName.2, q_NoName.1, wa_nil ⟨Nat.le_of_ble_eq_true rfl, _, rfl, Nat.le_of_ble_eq_true rfl, ?_⟩⟩))⟩))⟩)))⟩)))
  exact hR
/-! ### the law -/
def fl (n : Str) : List Bool := kindN.map fun m => decide (n = m)
def ix (n : Str) : Nat := (fl n).idxOf true
theorem fl_ok : ∀ n ∈ kindN, (fl n).count true = 1 ∧ (fl n)[ix n]? = some true ∧ ∀ m < ix n, (fl n)[m]? = some false := by decide +kernel
theorem ix_nd : ((fieldN ++ plainN).map fun n => (ix n : Int)).Nodup := by decide +kernel
theorem all_in : ∀ n ∈ fieldN ++ plainN, n ∈ kindN := by decide +kernel
theorem fl_lst (n : Str) : D.lst (kindN.map fun m => .bl (decide (n = m))) = .lst ((fl n).map D.bl) := by unfold fl; rw [List.map_map]; rfl
theorem ok_law {f : Addr} {fd : FuncData} (T : Txt K mg) (F : Fun K "law" "law" s_law f fd) : FnG P w K mg bs 5 f fd ["script"] (spLaw K) := by
  have D_law_hand := d_law_hand (P := P) (w := w) (bs := bs) T
  have D_law_any := d_law_any (P := P) (w := w) (bs := bs) T
  have D_law_with_field := d_law_with_field (P := P) (w := w) (bs := bs) T
  have D_law_plain := d_law_plain (P := P) (w := w) (bs := bs) T
  have D_law_deep := d_law_deep (P := P) (w := w) (bs := bs) T
  have D_law_kinds := d_law_kinds (P := P) (w := w) (bs := bs) T
  obtain ⟨C_WritingError, gC_WritingError, _⟩ := T.w_WritingError.ex
  refine funG F sc_law (fun vs H Q E h => ?_) (fun cdv A outer s H vs Q E hg hr h => ?_)
  · obtain ⟨a, ns, rfl, _⟩ := h; rfl
  obtain ⟨a, ns, rfl, hS, hl, hQ⟩ := h
  have hu := hu_of hr
  refine ⟨_, (pss_cons (ps_set (i := 1) sc_law.nd rfl (Or.inl rfl) (pe_callR D_law_hand (hr.mono (by decide)) (pa_cons (pv 0) pa_nil)))
      (pss_cons (ps_par (i := 2) (j := 3) (by rfl) sc_law.nd rfl rfl (by decide) rfl rfl (pa_cons (pe_lst (pa_cons pe_non (pa_cons pe_int (pa_cons pe_bl (pa_cons pe_str (pa_cons (pe_tup pa_nil) (pa_cons (pe_tup (pa_cons pe_str (pa_cons pe_int pa_nil))) (pa_cons (pe_lst (pa_cons pe_int pa_nil)) (pa_cons pe_dnewK (pa_cons (pe_un un_neg pe_int) (pa_cons (pe_op op_pow pe_int pe_int) (pa_cons (pe_callK0 (K0 := K) (by rfl) D_law_deep (hr.mono (by decide)) (pa_cons (pv 1) pa_nil)) pa_nil)))))))))))) (pa_cons (pe_lst pa_nil) pa_nil)) (by rfl))
      (pss_cons (ps_for PassesOwn.never rfl (pi_range1 rfl T.n_range (pa_cons pe_int pa_nil)) (pg_name (i := 4) sc_law.nd rfl (Or.inl rfl))
      (pss_cons (ps_set (i := 5) sc_law.nd rfl (Or.inl rfl) (pe_callK0 (K0 := K) (by rfl) D_law_any (hr.mono (by decide)) (pa_cons (pv 1) (pa_cons (pv 2) pa_nil))))
      (pss_cons (ps_asg (pe_callK0 (K0 := K) (by rfl) D_law_with_field (hr.mono (by decide)) (pa_cons (pv 4) (pa_cons (pv 5) pa_nil))) (pg_tup rfl (pgs_cons (pg_name (i := 6) sc_law.nd rfl (Or.inl rfl)) (pgs_cons (pg_name (i := 7) sc_law.nd rfl (Or.inl rfl)) pgs_nil))))
      (pss_cons (ps_if (pt_cmpR op_ne (pe_callB (callR_or (cr_reprK (K0 := K) (by rfl) hg hr.units) (cr_reprD hg hr.units)) (by rfl) T.n_repr (by decide +kernel) (pa_cons (pv 6) pa_nil)) (pe_callB (callR_or (cr_reprK (K0 := K) (by rfl) hg hr.units) (cr_reprD hg hr.units)) (by rfl) T.n_repr (by decide +kernel) (pa_cons (pv 5) pa_nil)) (nomark _)) (pss_one (ps_ret pe_bl)) pss_nil)
      (pss_one (ps_expr (pe_bm PySem.F.plainAttrs_list PySem.F.slot_list_append PySem.F.type_list_append mt_append (pv 3) (pa_cons (pv 7) pa_nil))))))))
      (pss_cons (ps_set (i := 3) sc_law.nd rfl (Or.inl rfl) (pe_op op_cat (pv 3) (pe_call00 (K0 := K) (by rfl) D_law_plain (hr.mono (by decide)))))
      (pss_cons (ps_for PassesOwn.never rfl (pi_listK (K0 := K) (by rfl) (pv 3)) (pg_name (i := 7) sc_law.nd rfl (Or.inl rfl))
      (pss_cons (ps_if (PW.pt (pw_or (pt_not (pt_val (pe_callB (cr_isXK (K0 := K) (by rfl)) (by rfl) T.n_isinstance (by decide +kernel) (pa_cons (pv 7) (pa_cons (pe_glob (v := .ref C_WritingError) (by rfl) gC_WritingError rfl) pa_nil))))) (pw_or1 (pt_not (pt_val (pe_callB (cr_isXK (K0 := K) (by rfl)) (by rfl) T.n_isinstance (by decide +kernel) (pa_cons (pv 7) (pa_cons (pe_bltn (v := .ty "ValueError") (by rfl) T.n_ValueError (by decide +kernel) rfl) pa_nil)))))))) (pss_one (ps_ret pe_bl)) pss_nil)
      (pss_one (ps_if (pt_cmpR op_ne (pe_bm PySem.F.plainAttrs_list PySem.F.slot_list_count PySem.F.type_list_count (mt_lcountBK (K0 := K) (by rfl)) (pe_callK0 (K0 := K) (by rfl) D_law_kinds (hr.mono (by decide)) (pa_cons (pv 7) pa_nil)) (pa_cons pe_bl pa_nil)) pe_int (nomark _)) (pss_one (ps_ret pe_bl)) pss_nil))))
      (pss_one (ps_ret (pe_cmpR op_eq (pe_lenSetIK (K0 := K) (by rfl) (by rfl) T.n_len (by rfl) T.n_set (pe_lc (own := [("error", 7)]) (g := (gName 7)) rfl sc_law.nd (pi_listK (K0 := K) (by rfl) (pv 3)) (blkOk_by (N := N_law) (sc := defScope s_law) (by decide +kernel)) (fun _ _ _ _ _ => by exact (pg_name (i := 7) sc_law.nd rfl (Or.inl rfl))) (fun _ _ _ _ _ => by exact pts_nil) (fun _ _ _ _ _ => by exact (pe_bmK (K0 := K) (by rfl) PySem.F.plainAttrs_list PySem.F.slot_list_index PySem.F.type_list_index (mt_indexK (K0 := K) (by rfl)) (pe_callK0 (K0 := K) (by rfl) D_law_kinds (hr.mono (by decide)) (pa_cons (pv 7) pa_nil)) (pa_cons pe_bl pa_nil))))) pe_int (nomark _))))))))), ?_⟩
  refine ⟨.ref a, rfl, a, ns, rfl, hS, hl, fun h c H' ex hne hh hc => ?_⟩
  dsimp only
  refine law_go1 (K := K) (a := a) (ts := tSeq (tPar 2 3 _) _) 6 hne hl hh hc (fun H0 G0 => ?_) hQ
  refine ws_seq (ws_to (fun ρ => ∃ (things : List D) (r4 r5 r6 r7 : Option Cell), ρ = [none, some (.d .hand), some (.d (.lst things)), some (.ol []), r4, r5, r6, r7] ∧ things ≠ [] ∧ things.length < 4000000 ∧ ∀ x ∈ things, ∃ t, Prn x t) (ws_newDPar ?_) ?_)
  · refine we_lst (wa_cons (we_non (wa_cons (we_int (wa_cons (we_bl (wa_cons (we_str (wa_cons (we_tup (wa_nil ⟨Nat.le_of_ble_eq_true rfl, ?_⟩)))))))))))
    refine wa_cons (we_tup (wa_cons (we_str (wa_cons (we_int (wa_nil ⟨Nat.le_of_ble_eq_true rfl, wa_cons (we_lst (wa_cons (we_int (wa_nil ⟨Nat.le_of_ble_eq_true rfl, wa_cons (we_F (wf_dK ?_))⟩))))⟩))))))
    refine wa_cons (we_U (we_int ⟨_, rfl, wa_cons (we_I (we_int ⟨_, rfl, we_int ⟨_, rfl, by refine ⟨by decide, by decide, ?_⟩; decide, ?_⟩⟩))⟩))
    refine wa_cons (we_call (wa_cons (we_var rfl (wa_nil ⟨rfl, fun dp hdp => wa_nil ⟨Nat.le_of_ble_eq_true rfl, wf_lst (wa_nil ⟨Nat.le_of_ble_eq_true rfl, ?_⟩)⟩⟩))))
    refine ⟨_, _, _, _, _, rfl, by simp, by simp, fun x hx => ?_⟩
    simp only [List.mem_cons, List.not_mem_nil, or_false] at hx
    rcases hx with rfl | rfl | rfl | rfl | rfl | rfl | rfl | rfl | rfl | rfl | rfl
    · exact (dk_lit .non 1 (by decide +kernel)).prn (by decide)
    · exact (dk_int (k := 1) (by decide)).prn (by decide)
    · exact (dk_lit (.bl _) 1 (by decide +kernel)).prn (by decide)
    · exact (dk_lit (.str _) 1 (by decide +kernel)).prn (by decide)
    · exact (dk_lit (.tup fun y hy => by cases hy) 1 (by decide +kernel)).prn (by decide)
    · exact (dk_lit (.tup fun y hy => by simp only [List.mem_cons, List.not_mem_nil, or_false] at hy; rcases hy with rfl | rfl <;> constructor) 1 (by decide +kernel)).prn (by decide)
    · exact (dk_lst (dk_int (k := 1) (by decide))).prn (by decide)
    · exact ⟨_, .inr ⟨rfl, rfl⟩⟩
    · exact (dk_int (k := 1) (by decide)).prn (by decide)
    · exact (dk_int (k := 1) (by decide)).prn (by decide)
    · exact hdp
  rintro ρ ⟨things, r4, r5, r6, r7, rfl, hne', hlen, hth⟩
  refine ws_seq (ws_for1 (wa_cons (we_int (wa_nil ⟨7, rfl, by decide, by decide, fun k ρ => ∃ r4 r5 r6 r7 : Option Cell, ρ = [none, some (.d .hand), some (.d (.lst things)), some (.ol ((fieldN.take k).map (eD mg))), r4, r5, r6, r7], ⟨_, _, _, _, rfl⟩, ?_, ?_⟩))))
  · rintro k ρ hk ⟨r4, r5, r6, r7, rfl⟩
    obtain ⟨n, hn⟩ : ∃ n, fieldN[k]? = some n := ⟨_, List.getElem?_eq_getElem hk⟩
    refine wg_name (ws_seq (ws_asg (we_call (wa_cons (we_var rfl (wa_cons (we_var rfl (wa_nil ⟨things, rfl, hne', hlen, fun x hx => ?_⟩))))))))
    refine ws_seq (ws_asgG (we_call (wa_cons (we_var rfl (wa_cons (we_var rfl (wa_nil ⟨k, n, x, rfl, hn, wg_tup ⟨_, rfl, rfl, wgs_cons ⟨_, _, rfl, wg_name (wgs_cons ⟨_, _, rfl, wg_name (wgs_nil ⟨rfl, ?_⟩)⟩)⟩⟩⟩)))))))
    obtain ⟨t, ht⟩ := hth x hx
    refine ws_seq (ws_if (wt_T (we_neS (we_reprX (we_var rfl ⟨t, ht, _, rfl, we_reprX (we_var rfl ⟨t, ht, _, rfl, _, rfl, ?_⟩)⟩)))))
    rw [decide_eq_true rfl, if_neg (by decide)]
    refine ws_next (ws_append rfl (by rw [List.length_map, List.length_take]; omega) (we_var rfl ?_))
    show ∃ r4 r5 r6 r7 : Option Cell, _ = [none, some (.d .hand), some (.d (.lst things)), some (.ol ((fieldN.take (k + 1)).map (eD mg))), r4, r5, r6, r7]
    rw [show (fieldN.take (k + 1)).map (eD mg) = (fieldN.take k).map (eD mg) ++ [eD mg n] from by rw [List.take_succ, hn]; simp]
    exact ⟨_, _, _, _, rfl⟩
  · rintro ρ ⟨r4, r5, r6, r7, rfl⟩
    refine ws_freeze 3 rfl rfl (ws_seq (ws_asgF (wf_catL (we_var rfl ⟨_, rfl, we_call (wa_nil ⟨rfl, _, rfl, Nat.le_of_ble_eq_true rfl, ?_⟩)⟩))))
    refine ws_freeze 3 rfl rfl ?_
    generalize hE : (List.map (eD mg) (List.take (Int.toNat 7) fieldN) ++ List.map (eD mg) plainN) = es
    have hE2 : es = (fieldN ++ plainN).map (eD mg) := by rw [← hE, List.map_append]; rfl
    have hes : ∀ x ∈ es, ∃ n ∈ kindN, x = eD mg n := fun x hx => by
      rw [hE2] at hx
      obtain ⟨n, hn, rfl⟩ := List.mem_map.mp hx
      exact ⟨n, all_in n hn, rfl⟩
    refine ws_seq (ws_forL (we_var rfl ⟨es, rfl, fun k ρ => ∃ r4 r5 r6 r7 : Option Cell, ρ = [none, some (.d .hand), some (.d (.lst things)), some (.d (.lst es)), r4, r5, r6, r7], ⟨_, _, _, _, rfl⟩, ?_, ?_⟩))
    · rintro k x ρ hk ⟨r4, r5, r6, r7, rfl⟩
      obtain ⟨n, hn, rfl⟩ := hes x (List.mem_of_getElem? hk)
      obtain ⟨q1, q2, q3⟩ := err_all T hn gC_WritingError
      refine wg_name (ws_seq (ws_if (wt_or (wt_not (wt_B (we_isX (fun u h => h) (we_var rfl ⟨_, _, rfl, q3, q1, _, rfl, fun _ => ?_, fun z => by cases z⟩)))))))
      refine wt_not (wt_B (we_isX (fun u h => h) (we_var rfl ⟨_, _, rfl, q3, q2, _, rfl, ?_⟩)))
      rw [if_neg (by decide)]
      refine ws_next (ws_if (wt_T (we_neI (we_lcountB (we_call (wa_cons (we_var rfl (wa_nil ⟨n, rfl, hn, fl n, fl_lst n, we_bl ⟨true, rfl, _, rfl, we_int ⟨_, rfl, _, rfl, ?_⟩⟩⟩))))))))
      rw [(fl_ok n hn).1, if_neg (by decide)]
      exact ws_next ⟨_, _, _, _, rfl⟩
    · rintro ρ ⟨r4, r5, r6, r7, rfl⟩
      refine ws_ret (we_eqI (we_lenSetI (we_F (wf_lcL (we_var rfl ⟨es, rfl, by rw [hE2, List.length_map]; decide, fun k acc => acc = ((fieldN ++ plainN).take k).map fun n => .int (ix n : Int), rfl, ?_, ?_⟩)))))
      · rintro k x acc hk rfl hle
        rw [hE2, List.getElem?_map] at hk
        obtain ⟨n, hn, rfl⟩ := Option.map_eq_some_iff.mp hk
        have hnk := all_in n (List.mem_of_getElem? hn)
        obtain ⟨_, f2, f3⟩ := fl_ok n hnk
        refine wgp_name (.head _) (wt_yes ?_)
        rw [if_pos rfl]
        refine we_lindexB (we_call (wa_cons (we_var rfl (wa_nil ⟨n, rfl, hnk, fl n, fl_lst n, we_bl ⟨rfl, ix n, f2, fun m b hm hb => ?_, ?_⟩⟩))))
        · rw [f3 m hm] at hb
          cases hb; rfl
        · show _ = List.map (fun n => D.int (ix n : Int)) (List.take (k + 1) (fieldN ++ plainN))
          rw [List.take_succ, hn]; simp
      · rintro acc rfl
        refine ⟨(fieldN ++ plainN).map fun n => (ix n : Int), ?_, by decide, ix_nd, _, rfl, we_int ⟨_, rfl, ?_⟩⟩
        · rw [hE2, List.length_map, List.take_length, List.map_map]
          rfl
        · rw [List.length_map]
          rfl
end
theorem all_mk {l : PySem.W.OpenLaw} {w : World} {K : PySem.W.Frag} {h : Heap} {mg : Str → Option Value} {fa : Addr} (X : K.In h) (G : h.Ns mainGlobals mg) (hfa : mg "law" = some (.ref fa))
    {f_law_hand f_law_mixed f_law_draw f_law_any f_law_deep f_law_with_field f_law_plain f_law_kinds f_law : Addr}
    {od_law_hand an_law_hand od_law_mixed an_law_mixed od_law_draw an_law_draw od_law_any an_law_any od_law_deep an_law_deep od_law_with_field an_law_with_field od_law_plain an_law_plain od_law_kinds an_law_kinds od_law an_law : Option Addr}
    {sl_law_hand sl_law_mixed sl_law_draw sl_law_any sl_law_deep sl_law_with_field sl_law_plain sl_law_kinds sl_law : Array (Option Value)}
    {oc_law_hand kV_law_hand dc_law_hand pm_law_hand cd_law_hand ct_law_hand oc_law_mixed kV_law_mixed dc_law_mixed pm_law_mixed cd_law_mixed ct_law_mixed oc_law_draw kV_law_draw dc_law_draw pm_law_draw cd_law_draw ct_law_draw oc_law_any kV_law_any dc_law_any pm_law_any cd_law_any ct_law_any oc_law_deep kV_law_deep dc_law_deep pm_law_deep cd_law_deep ct_law_deep oc_law_with_field kV_law_with_field dc_law_with_field pm_law_with_field cd_law_with_field ct_law_with_field oc_law_plain kV_law_plain dc_law_plain pm_law_plain cd_law_plain ct_law_plain oc_law_kinds kV_law_kinds dc_law_kinds pm_law_kinds cd_law_kinds ct_law_kinds oc_law kV_law dc_law pm_law cd_law ct_law : Value}
    {C_WritingError C_NoBase nn_NoBase fi_NoBase C_NoRow nn_NoRow fi_NoRow C_NoNumber nn_NoNumber fi_NoNumber C_NoMany nn_NoMany fi_NoMany C_TooMany nn_TooMany fi_TooMany C_BadMachine nn_BadMachine fi_BadMachine C_NoState nn_NoState fi_NoState C_NoDigits nn_NoDigits fi_NoDigits C_NoWriting nn_NoWriting fi_NoWriting C_Unsound nn_Unsound fi_Unsound C_NoFraction nn_NoFraction fi_NoFraction C_OtherBase nn_OtherBase fi_OtherBase C_NotWithin nn_NotWithin fi_NotWithin C_NoChances nn_NoChances fi_NoChances C_NoTurns nn_NoTurns fi_NoTurns C_NoHand nn_NoHand fi_NoHand C_NoChoices nn_NoChoices fi_NoChoices C_BadDust nn_BadDust fi_BadDust C_NoDigit nn_NoDigit fi_NoDigit C_NothingDone nn_NothingDone fi_NothingDone C_BadAnswer nn_BadAnswer fi_BadAnswer C_NoFit nn_NoFit fi_NoFit C_BadText nn_BadText fi_BadText C_NoLine nn_NoLine fi_NoLine C_NoName nn_NoName fi_NoName : Addr}
    {nm_NoBase qn_NoBase nm_NoRow qn_NoRow nm_NoNumber qn_NoNumber nm_NoMany qn_NoMany nm_TooMany qn_TooMany nm_BadMachine qn_BadMachine nm_NoState qn_NoState nm_NoDigits qn_NoDigits nm_NoWriting qn_NoWriting nm_Unsound qn_Unsound nm_NoFraction qn_NoFraction nm_OtherBase qn_OtherBase nm_NotWithin qn_NotWithin nm_NoChances qn_NoChances nm_NoTurns qn_NoTurns nm_NoHand qn_NoHand nm_NoChoices qn_NoChoices nm_BadDust qn_BadDust nm_NoDigit qn_NoDigit nm_NothingDone qn_NothingDone nm_BadAnswer qn_BadAnswer nm_NoFit qn_NoFit nm_BadText qn_BadText nm_NoLine qn_NoLine nm_NoName qn_NoName : Str} {bs_NoBase sb_NoBase bs_NoRow sb_NoRow bs_NoNumber sb_NoNumber bs_NoMany sb_NoMany bs_TooMany sb_TooMany bs_BadMachine sb_BadMachine bs_NoState sb_NoState bs_NoDigits sb_NoDigits bs_NoWriting sb_NoWriting bs_Unsound sb_Unsound bs_NoFraction sb_NoFraction bs_OtherBase sb_OtherBase bs_NotWithin sb_NotWithin bs_NoChances sb_NoChances bs_NoTurns sb_NoTurns bs_NoHand sb_NoHand bs_NoChoices sb_NoChoices bs_BadDust sb_BadDust bs_NoDigit sb_NoDigit bs_NothingDone sb_NothingDone bs_BadAnswer sb_BadAnswer bs_NoFit sb_NoFit bs_BadText sb_BadText bs_NoLine sb_NoLine bs_NoName sb_NoName : List Value} {sn_NoBase sn_NoRow sn_NoNumber sn_NoMany sn_TooMany sn_BadMachine sn_NoState sn_NoDigits sn_NoWriting sn_Unsound sn_NoFraction sn_OtherBase sn_NotWithin sn_NoChances sn_NoTurns sn_NoHand sn_NoChoices sn_BadDust sn_NoDigit sn_NothingDone sn_BadAnswer sn_NoFit sn_BadText sn_NoLine sn_NoName : List Str} {ab_NoBase ab_NoRow ab_NoNumber ab_NoMany ab_TooMany ab_BadMachine ab_NoState ab_NoDigits ab_NoWriting ab_Unsound ab_NoFraction ab_OtherBase ab_NotWithin ab_NoChances ab_NoTurns ab_NoHand ab_NoChoices ab_BadDust ab_NoDigit ab_NothingDone ab_BadAnswer ab_NoFit ab_BadText ab_NoLine ab_NoName : Bool} {cl_NoBase cl_NoRow cl_NoNumber cl_NoMany cl_TooMany cl_BadMachine cl_NoState cl_NoDigits cl_NoWriting cl_Unsound cl_NoFraction cl_OtherBase cl_NotWithin cl_NoChances cl_NoTurns cl_NoHand cl_NoChoices cl_BadDust cl_NoDigit cl_NothingDone cl_BadAnswer cl_NoFit cl_BadText cl_NoLine cl_NoName : Option Bool} {dd_NoBase od_NoBase an_NoBase dd_NoRow od_NoRow an_NoRow dd_NoNumber od_NoNumber an_NoNumber dd_NoMany od_NoMany an_NoMany dd_TooMany od_TooMany an_TooMany dd_BadMachine od_BadMachine an_BadMachine dd_NoState od_NoState an_NoState dd_NoDigits od_NoDigits an_NoDigits dd_NoWriting od_NoWriting an_NoWriting dd_Unsound od_Unsound an_Unsound dd_NoFraction od_NoFraction an_NoFraction dd_OtherBase od_OtherBase an_OtherBase dd_NotWithin od_NotWithin an_NotWithin dd_NoChances od_NoChances an_NoChances dd_NoTurns od_NoTurns an_NoTurns dd_NoHand od_NoHand an_NoHand dd_NoChoices od_NoChoices an_NoChoices dd_BadDust od_BadDust an_BadDust dd_NoDigit od_NoDigit an_NoDigit dd_NothingDone od_NothingDone an_NothingDone dd_BadAnswer od_BadAnswer an_BadAnswer dd_NoFit od_NoFit an_NoFit dd_BadText od_BadText an_BadText dd_NoLine od_NoLine an_NoLine dd_NoName od_NoName an_NoName : Option Addr} {m0_NoBase m1_NoBase m2_NoBase m3_NoBase m5_NoBase m0_NoRow m1_NoRow m2_NoRow m3_NoRow m5_NoRow m0_NoNumber m1_NoNumber m2_NoNumber m3_NoNumber m5_NoNumber m0_NoMany m1_NoMany m2_NoMany m3_NoMany m5_NoMany m0_TooMany m1_TooMany m2_TooMany m3_TooMany m5_TooMany m0_BadMachine m1_BadMachine m2_BadMachine m3_BadMachine m5_BadMachine m0_NoState m1_NoState m2_NoState m3_NoState m5_NoState m0_NoDigits m1_NoDigits m2_NoDigits m3_NoDigits m5_NoDigits m0_NoWriting m1_NoWriting m2_NoWriting m3_NoWriting m5_NoWriting m0_Unsound m1_Unsound m2_Unsound m3_Unsound m5_Unsound m0_NoFraction m1_NoFraction m2_NoFraction m3_NoFraction m5_NoFraction m0_OtherBase m1_OtherBase m2_OtherBase m3_OtherBase m5_OtherBase m0_NotWithin m1_NotWithin m2_NotWithin m3_NotWithin m5_NotWithin m0_NoChances m1_NoChances m2_NoChances m3_NoChances m5_NoChances m0_NoTurns m1_NoTurns m2_NoTurns m3_NoTurns m5_NoTurns m0_NoHand m1_NoHand m2_NoHand m3_NoHand m5_NoHand m0_NoChoices m1_NoChoices m2_NoChoices m3_NoChoices m5_NoChoices m0_BadDust m1_BadDust m2_BadDust m3_BadDust m5_BadDust m0_NoDigit m1_NoDigit m2_NoDigit m3_NoDigit m5_NoDigit m0_NothingDone m1_NothingDone m2_NothingDone m3_NothingDone m5_NothingDone m0_BadAnswer m1_BadAnswer m2_BadAnswer m3_BadAnswer m5_BadAnswer m0_NoFit m1_NoFit m2_NoFit m3_NoFit m5_NoFit m0_BadText m1_BadText m2_BadText m3_BadText m5_BadText m0_NoLine m1_NoLine m2_NoLine m3_NoLine m5_NoLine m0_NoName m1_NoName m2_NoName m3_NoName m5_NoName : Option Value} {sl_NoBase sl_NoRow sl_NoNumber sl_NoMany sl_TooMany sl_BadMachine sl_NoState sl_NoDigits sl_NoWriting sl_Unsound sl_NoFraction sl_OtherBase sl_NotWithin sl_NoChances sl_NoTurns sl_NoHand sl_NoChoices sl_BadDust sl_NoDigit sl_NothingDone sl_BadAnswer sl_NoFit sl_BadText sl_NoLine sl_NoName : Array (Option Value)} {oc_NoBase kV_NoBase dc_NoBase pm_NoBase cd_NoBase ct_NoBase oc_NoRow kV_NoRow dc_NoRow pm_NoRow cd_NoRow ct_NoRow oc_NoNumber kV_NoNumber dc_NoNumber pm_NoNumber cd_NoNumber ct_NoNumber oc_NoMany kV_NoMany dc_NoMany pm_NoMany cd_NoMany ct_NoMany oc_TooMany kV_TooMany dc_TooMany pm_TooMany cd_TooMany ct_TooMany oc_BadMachine kV_BadMachine dc_BadMachine pm_BadMachine cd_BadMachine ct_BadMachine oc_NoState kV_NoState dc_NoState pm_NoState cd_NoState ct_NoState oc_NoDigits kV_NoDigits dc_NoDigits pm_NoDigits cd_NoDigits ct_NoDigits oc_NoWriting kV_NoWriting dc_NoWriting pm_NoWriting cd_NoWriting ct_NoWriting oc_Unsound kV_Unsound dc_Unsound pm_Unsound cd_Unsound ct_Unsound oc_NoFraction kV_NoFraction dc_NoFraction pm_NoFraction cd_NoFraction ct_NoFraction oc_OtherBase kV_OtherBase dc_OtherBase pm_OtherBase cd_OtherBase ct_OtherBase oc_NotWithin kV_NotWithin dc_NotWithin pm_NotWithin cd_NotWithin ct_NotWithin oc_NoChances kV_NoChances dc_NoChances pm_NoChances cd_NoChances ct_NoChances oc_NoTurns kV_NoTurns dc_NoTurns pm_NoTurns cd_NoTurns ct_NoTurns oc_NoHand kV_NoHand dc_NoHand pm_NoHand cd_NoHand ct_NoHand oc_NoChoices kV_NoChoices dc_NoChoices pm_NoChoices cd_NoChoices ct_NoChoices oc_BadDust kV_BadDust dc_BadDust pm_BadDust cd_BadDust ct_BadDust oc_NoDigit kV_NoDigit dc_NoDigit pm_NoDigit cd_NoDigit ct_NoDigit oc_NothingDone kV_NothingDone dc_NothingDone pm_NothingDone cd_NothingDone ct_NothingDone oc_BadAnswer kV_BadAnswer dc_BadAnswer pm_BadAnswer cd_BadAnswer ct_BadAnswer oc_NoFit kV_NoFit dc_NoFit pm_NoFit cd_NoFit ct_NoFit oc_BadText kV_BadText dc_BadText pm_BadText cd_BadText ct_BadText oc_NoLine kV_NoLine dc_NoLine pm_NoLine cd_NoLine ct_NoLine oc_NoName kV_NoName dc_NoName pm_NoName cd_NoName ct_NoName : Value}
    (a_law_hand : PySem.W.nsIn K mainGlobals "_law_hand" = some (some (.ref f_law_hand))) (l_law_hand : K.lookup f_law_hand = some ⟨oc_law_hand, od_law_hand, .func (PySem.W.fnOf "_law_hand" "_law_hand" (defArgs s_law_hand) (defBody s_law_hand) (defScope s_law_hand) .none kV_law_hand dc_law_hand pm_law_hand an_law_hand cd_law_hand ct_law_hand), sl_law_hand⟩) (c_law_hand : PySem.W.codeIn K cd_law_hand "_law_hand" = true) (k_law_hand : PySem.W.keepIn K (.ref f_law_hand) = true)
    (a_law_mixed : PySem.W.nsIn K mainGlobals "_law_mixed" = some (some (.ref f_law_mixed))) (l_law_mixed : K.lookup f_law_mixed = some ⟨oc_law_mixed, od_law_mixed, .func (PySem.W.fnOf "_law_mixed" "_law_mixed" (defArgs s_law_mixed) (defBody s_law_mixed) (defScope s_law_mixed) .none kV_law_mixed dc_law_mixed pm_law_mixed an_law_mixed cd_law_mixed ct_law_mixed), sl_law_mixed⟩) (c_law_mixed : PySem.W.codeIn K cd_law_mixed "_law_mixed" = true) (k_law_mixed : PySem.W.keepIn K (.ref f_law_mixed) = true)
    (a_law_draw : PySem.W.nsIn K mainGlobals "_law_draw" = some (some (.ref f_law_draw))) (l_law_draw : K.lookup f_law_draw = some ⟨oc_law_draw, od_law_draw, .func (PySem.W.fnOf "_law_draw" "_law_draw" (defArgs s_law_draw) (defBody s_law_draw) (defScope s_law_draw) .none kV_law_draw dc_law_draw pm_law_draw an_law_draw cd_law_draw ct_law_draw), sl_law_draw⟩) (c_law_draw : PySem.W.codeIn K cd_law_draw "_law_draw" = true) (k_law_draw : PySem.W.keepIn K (.ref f_law_draw) = true)
    (a_law_any : PySem.W.nsIn K mainGlobals "_law_any" = some (some (.ref f_law_any))) (l_law_any : K.lookup f_law_any = some ⟨oc_law_any, od_law_any, .func (PySem.W.fnOf "_law_any" "_law_any" (defArgs s_law_any) (defBody s_law_any) (defScope s_law_any) .none kV_law_any dc_law_any pm_law_any an_law_any cd_law_any ct_law_any), sl_law_any⟩) (c_law_any : PySem.W.codeIn K cd_law_any "_law_any" = true) (k_law_any : PySem.W.keepIn K (.ref f_law_any) = true)
    (a_law_deep : PySem.W.nsIn K mainGlobals "_law_deep" = some (some (.ref f_law_deep))) (l_law_deep : K.lookup f_law_deep = some ⟨oc_law_deep, od_law_deep, .func (PySem.W.fnOf "_law_deep" "_law_deep" (defArgs s_law_deep) (defBody s_law_deep) (defScope s_law_deep) .none kV_law_deep dc_law_deep pm_law_deep an_law_deep cd_law_deep ct_law_deep), sl_law_deep⟩) (c_law_deep : PySem.W.codeIn K cd_law_deep "_law_deep" = true) (k_law_deep : PySem.W.keepIn K (.ref f_law_deep) = true)
    (a_law_with_field : PySem.W.nsIn K mainGlobals "_law_with_field" = some (some (.ref f_law_with_field))) (l_law_with_field : K.lookup f_law_with_field = some ⟨oc_law_with_field, od_law_with_field, .func (PySem.W.fnOf "_law_with_field" "_law_with_field" (defArgs s_law_with_field) (defBody s_law_with_field) (defScope s_law_with_field) .none kV_law_with_field dc_law_with_field pm_law_with_field an_law_with_field cd_law_with_field ct_law_with_field), sl_law_with_field⟩) (c_law_with_field : PySem.W.codeIn K cd_law_with_field "_law_with_field" = true) (k_law_with_field : PySem.W.keepIn K (.ref f_law_with_field) = true)
    (a_law_plain : PySem.W.nsIn K mainGlobals "_law_plain" = some (some (.ref f_law_plain))) (l_law_plain : K.lookup f_law_plain = some ⟨oc_law_plain, od_law_plain, .func (PySem.W.fnOf "_law_plain" "_law_plain" (defArgs s_law_plain) (defBody s_law_plain) (defScope s_law_plain) .none kV_law_plain dc_law_plain pm_law_plain an_law_plain cd_law_plain ct_law_plain), sl_law_plain⟩) (c_law_plain : PySem.W.codeIn K cd_law_plain "_law_plain" = true) (k_law_plain : PySem.W.keepIn K (.ref f_law_plain) = true)
    (a_law_kinds : PySem.W.nsIn K mainGlobals "_law_kinds" = some (some (.ref f_law_kinds))) (l_law_kinds : K.lookup f_law_kinds = some ⟨oc_law_kinds, od_law_kinds, .func (PySem.W.fnOf "_law_kinds" "_law_kinds" (defArgs s_law_kinds) (defBody s_law_kinds) (defScope s_law_kinds) .none kV_law_kinds dc_law_kinds pm_law_kinds an_law_kinds cd_law_kinds ct_law_kinds), sl_law_kinds⟩) (c_law_kinds : PySem.W.codeIn K cd_law_kinds "_law_kinds" = true) (k_law_kinds : PySem.W.keepIn K (.ref f_law_kinds) = true)
    (a_law : PySem.W.nsIn K mainGlobals "law" = some (some (.ref f_law))) (l_law : K.lookup f_law = some ⟨oc_law, od_law, .func (PySem.W.fnOf "law" "law" (defArgs s_law) (defBody s_law) (defScope s_law) .none kV_law dc_law pm_law an_law cd_law ct_law), sl_law⟩) (c_law : PySem.W.codeIn K cd_law "law" = true) (k_law : PySem.W.keepIn K (.ref f_law) = true)
    (g_WritingError : PySem.W.nsIn K mainGlobals "WritingError" = some (some (.ref C_WritingError))) (ga_WritingError : PySem.W.specialIn K (.ref C_WritingError) "__getattribute__" = some (some (.builtin "type.__getattribute__"))) (rd_WritingError : PySem.W.readsIn K C_WritingError (.type "type") = true) (fc_WritingError : PySem.W.findCls K (.ref C_WritingError) (.type "type") "__init__" = some (.val (.builtin "ValueError.__init__")))
    (g_NoBase : PySem.W.nsIn K mainGlobals "NoBase" = some (some (.ref C_NoBase))) (xl_NoBase : K.lookup C_NoBase = some (excClassObj nm_NoBase qn_NoBase C_NoBase nn_NoBase bs_NoBase (.ref C_WritingError :: [.type "ValueError", .type "Exception", .type "BaseException", .type "object"]) true sn_NoBase sb_NoBase ab_NoBase cl_NoBase dd_NoBase m0_NoBase m1_NoBase m2_NoBase m3_NoBase m5_NoBase "ValueError.__new__"))
    (sa_NoBase : PySem.W.findIn K (.ref C_NoBase) "__setattr__" = some (some (.builtin "object.__setattr__"))) (gt_NoBase : PySem.W.findIn K (.ref C_NoBase) "__getattribute__" = some (some (.builtin "BaseException.__getattribute__"))) (gg_NoBase : PySem.W.findIn K (.ref C_NoBase) "__getattr__" = some none)
    (ii_NoBase : PySem.W.findIn K (.ref C_NoBase) "__init__" = some (some (.ref fi_NoBase))) (ti_NoBase : PySem.W.typeIn K (.ref fi_NoBase) = some (.type "function"))
    (li_NoBase : K.lookup fi_NoBase = some ⟨oc_NoBase, od_NoBase, .func (PySem.W.fnOf "__init__" "NoBase.__init__" (defArgs si_NoBase) (defBody si_NoBase) (defScope si_NoBase) .none kV_NoBase dc_NoBase pm_NoBase an_NoBase cd_NoBase ct_NoBase), sl_NoBase⟩) (ci_NoBase : PySem.W.codeIn K cd_NoBase "NoBase.__init__" = true) (ki_NoBase : PySem.W.keepIn K (.ref fi_NoBase) = true)
    (kC_NoBase : PySem.W.keepIn K (.ref C_NoBase) = true) (eC_NoBase : PySem.W.subIn K (.ref C_NoBase) (.type "BaseException") = some true) (tC_NoBase : PySem.W.typeIn K (.ref C_NoBase) = some (.type "type")) (hC_NoBase : PySem.W.hasDictIn K C_NoBase = true) (iC_NoBase : PySem.W.isClsIn K C_NoBase = true) (sC_NoBase : PySem.W.subIn K (.ref C_NoBase) (.ref C_NoBase) = some true)
    (g_NoRow : PySem.W.nsIn K mainGlobals "NoRow" = some (some (.ref C_NoRow))) (xl_NoRow : K.lookup C_NoRow = some (excClassObj nm_NoRow qn_NoRow C_NoRow nn_NoRow bs_NoRow (.ref C_WritingError :: [.type "ValueError", .type "Exception", .type "BaseException", .type "object"]) true sn_NoRow sb_NoRow ab_NoRow cl_NoRow dd_NoRow m0_NoRow m1_NoRow m2_NoRow m3_NoRow m5_NoRow "ValueError.__new__"))
    (sa_NoRow : PySem.W.findIn K (.ref C_NoRow) "__setattr__" = some (some (.builtin "object.__setattr__"))) (gt_NoRow : PySem.W.findIn K (.ref C_NoRow) "__getattribute__" = some (some (.builtin "BaseException.__getattribute__"))) (gg_NoRow : PySem.W.findIn K (.ref C_NoRow) "__getattr__" = some none)
    (ii_NoRow : PySem.W.findIn K (.ref C_NoRow) "__init__" = some (some (.ref fi_NoRow))) (ti_NoRow : PySem.W.typeIn K (.ref fi_NoRow) = some (.type "function"))
    (li_NoRow : K.lookup fi_NoRow = some ⟨oc_NoRow, od_NoRow, .func (PySem.W.fnOf "__init__" "NoRow.__init__" (defArgs si_NoRow) (defBody si_NoRow) (defScope si_NoRow) .none kV_NoRow dc_NoRow pm_NoRow an_NoRow cd_NoRow ct_NoRow), sl_NoRow⟩) (ci_NoRow : PySem.W.codeIn K cd_NoRow "NoRow.__init__" = true) (ki_NoRow : PySem.W.keepIn K (.ref fi_NoRow) = true)
    (kC_NoRow : PySem.W.keepIn K (.ref C_NoRow) = true) (eC_NoRow : PySem.W.subIn K (.ref C_NoRow) (.type "BaseException") = some true) (tC_NoRow : PySem.W.typeIn K (.ref C_NoRow) = some (.type "type")) (hC_NoRow : PySem.W.hasDictIn K C_NoRow = true) (iC_NoRow : PySem.W.isClsIn K C_NoRow = true) (sC_NoRow : PySem.W.subIn K (.ref C_NoRow) (.ref C_NoRow) = some true)
    (g_NoNumber : PySem.W.nsIn K mainGlobals "NoNumber" = some (some (.ref C_NoNumber))) (xl_NoNumber : K.lookup C_NoNumber = some (excClassObj nm_NoNumber qn_NoNumber C_NoNumber nn_NoNumber bs_NoNumber (.ref C_WritingError :: [.type "ValueError", .type "Exception", .type "BaseException", .type "object"]) true sn_NoNumber sb_NoNumber ab_NoNumber cl_NoNumber dd_NoNumber m0_NoNumber m1_NoNumber m2_NoNumber m3_NoNumber m5_NoNumber "ValueError.__new__"))
    (sa_NoNumber : PySem.W.findIn K (.ref C_NoNumber) "__setattr__" = some (some (.builtin "object.__setattr__"))) (gt_NoNumber : PySem.W.findIn K (.ref C_NoNumber) "__getattribute__" = some (some (.builtin "BaseException.__getattribute__"))) (gg_NoNumber : PySem.W.findIn K (.ref C_NoNumber) "__getattr__" = some none)
    (ii_NoNumber : PySem.W.findIn K (.ref C_NoNumber) "__init__" = some (some (.ref fi_NoNumber))) (ti_NoNumber : PySem.W.typeIn K (.ref fi_NoNumber) = some (.type "function"))
    (li_NoNumber : K.lookup fi_NoNumber = some ⟨oc_NoNumber, od_NoNumber, .func (PySem.W.fnOf "__init__" "NoNumber.__init__" (defArgs si_NoNumber) (defBody si_NoNumber) (defScope si_NoNumber) .none kV_NoNumber dc_NoNumber pm_NoNumber an_NoNumber cd_NoNumber ct_NoNumber), sl_NoNumber⟩) (ci_NoNumber : PySem.W.codeIn K cd_NoNumber "NoNumber.__init__" = true) (ki_NoNumber : PySem.W.keepIn K (.ref fi_NoNumber) = true)
    (kC_NoNumber : PySem.W.keepIn K (.ref C_NoNumber) = true) (eC_NoNumber : PySem.W.subIn K (.ref C_NoNumber) (.type "BaseException") = some true) (tC_NoNumber : PySem.W.typeIn K (.ref C_NoNumber) = some (.type "type")) (hC_NoNumber : PySem.W.hasDictIn K C_NoNumber = true) (iC_NoNumber : PySem.W.isClsIn K C_NoNumber = true) (sC_NoNumber : PySem.W.subIn K (.ref C_NoNumber) (.ref C_NoNumber) = some true)
    (g_NoMany : PySem.W.nsIn K mainGlobals "NoMany" = some (some (.ref C_NoMany))) (xl_NoMany : K.lookup C_NoMany = some (excClassObj nm_NoMany qn_NoMany C_NoMany nn_NoMany bs_NoMany (.ref C_WritingError :: [.type "ValueError", .type "Exception", .type "BaseException", .type "object"]) true sn_NoMany sb_NoMany ab_NoMany cl_NoMany dd_NoMany m0_NoMany m1_NoMany m2_NoMany m3_NoMany m5_NoMany "ValueError.__new__"))
    (sa_NoMany : PySem.W.findIn K (.ref C_NoMany) "__setattr__" = some (some (.builtin "object.__setattr__"))) (gt_NoMany : PySem.W.findIn K (.ref C_NoMany) "__getattribute__" = some (some (.builtin "BaseException.__getattribute__"))) (gg_NoMany : PySem.W.findIn K (.ref C_NoMany) "__getattr__" = some none)
    (ii_NoMany : PySem.W.findIn K (.ref C_NoMany) "__init__" = some (some (.ref fi_NoMany))) (ti_NoMany : PySem.W.typeIn K (.ref fi_NoMany) = some (.type "function"))
    (li_NoMany : K.lookup fi_NoMany = some ⟨oc_NoMany, od_NoMany, .func (PySem.W.fnOf "__init__" "NoMany.__init__" (defArgs si_NoMany) (defBody si_NoMany) (defScope si_NoMany) .none kV_NoMany dc_NoMany pm_NoMany an_NoMany cd_NoMany ct_NoMany), sl_NoMany⟩) (ci_NoMany : PySem.W.codeIn K cd_NoMany "NoMany.__init__" = true) (ki_NoMany : PySem.W.keepIn K (.ref fi_NoMany) = true)
    (kC_NoMany : PySem.W.keepIn K (.ref C_NoMany) = true) (eC_NoMany : PySem.W.subIn K (.ref C_NoMany) (.type "BaseException") = some true) (tC_NoMany : PySem.W.typeIn K (.ref C_NoMany) = some (.type "type")) (hC_NoMany : PySem.W.hasDictIn K C_NoMany = true) (iC_NoMany : PySem.W.isClsIn K C_NoMany = true) (sC_NoMany : PySem.W.subIn K (.ref C_NoMany) (.ref C_NoMany) = some true)
    (g_TooMany : PySem.W.nsIn K mainGlobals "TooMany" = some (some (.ref C_TooMany))) (xl_TooMany : K.lookup C_TooMany = some (excClassObj nm_TooMany qn_TooMany C_TooMany nn_TooMany bs_TooMany (.ref C_WritingError :: [.type "ValueError", .type "Exception", .type "BaseException", .type "object"]) true sn_TooMany sb_TooMany ab_TooMany cl_TooMany dd_TooMany m0_TooMany m1_TooMany m2_TooMany m3_TooMany m5_TooMany "ValueError.__new__"))
    (sa_TooMany : PySem.W.findIn K (.ref C_TooMany) "__setattr__" = some (some (.builtin "object.__setattr__"))) (gt_TooMany : PySem.W.findIn K (.ref C_TooMany) "__getattribute__" = some (some (.builtin "BaseException.__getattribute__"))) (gg_TooMany : PySem.W.findIn K (.ref C_TooMany) "__getattr__" = some none)
    (ii_TooMany : PySem.W.findIn K (.ref C_TooMany) "__init__" = some (some (.ref fi_TooMany))) (ti_TooMany : PySem.W.typeIn K (.ref fi_TooMany) = some (.type "function"))
    (li_TooMany : K.lookup fi_TooMany = some ⟨oc_TooMany, od_TooMany, .func (PySem.W.fnOf "__init__" "TooMany.__init__" (defArgs si_TooMany) (defBody si_TooMany) (defScope si_TooMany) .none kV_TooMany dc_TooMany pm_TooMany an_TooMany cd_TooMany ct_TooMany), sl_TooMany⟩) (ci_TooMany : PySem.W.codeIn K cd_TooMany "TooMany.__init__" = true) (ki_TooMany : PySem.W.keepIn K (.ref fi_TooMany) = true)
    (kC_TooMany : PySem.W.keepIn K (.ref C_TooMany) = true) (eC_TooMany : PySem.W.subIn K (.ref C_TooMany) (.type "BaseException") = some true) (tC_TooMany : PySem.W.typeIn K (.ref C_TooMany) = some (.type "type")) (hC_TooMany : PySem.W.hasDictIn K C_TooMany = true) (iC_TooMany : PySem.W.isClsIn K C_TooMany = true) (sC_TooMany : PySem.W.subIn K (.ref C_TooMany) (.ref C_TooMany) = some true)
    (nf_TooMany : PySem.W.findIn K (.ref C_TooMany) "most" = some none)
    (g_BadMachine : PySem.W.nsIn K mainGlobals "BadMachine" = some (some (.ref C_BadMachine))) (xl_BadMachine : K.lookup C_BadMachine = some (excClassObj nm_BadMachine qn_BadMachine C_BadMachine nn_BadMachine bs_BadMachine (.ref C_WritingError :: [.type "ValueError", .type "Exception", .type "BaseException", .type "object"]) true sn_BadMachine sb_BadMachine ab_BadMachine cl_BadMachine dd_BadMachine m0_BadMachine m1_BadMachine m2_BadMachine m3_BadMachine m5_BadMachine "ValueError.__new__"))
    (sa_BadMachine : PySem.W.findIn K (.ref C_BadMachine) "__setattr__" = some (some (.builtin "object.__setattr__"))) (gt_BadMachine : PySem.W.findIn K (.ref C_BadMachine) "__getattribute__" = some (some (.builtin "BaseException.__getattribute__"))) (gg_BadMachine : PySem.W.findIn K (.ref C_BadMachine) "__getattr__" = some none)
    (ii_BadMachine : PySem.W.findIn K (.ref C_BadMachine) "__init__" = some (some (.ref fi_BadMachine))) (ti_BadMachine : PySem.W.typeIn K (.ref fi_BadMachine) = some (.type "function"))
    (li_BadMachine : K.lookup fi_BadMachine = some ⟨oc_BadMachine, od_BadMachine, .func (PySem.W.fnOf "__init__" "BadMachine.__init__" (defArgs si_BadMachine) (defBody si_BadMachine) (defScope si_BadMachine) .none kV_BadMachine dc_BadMachine pm_BadMachine an_BadMachine cd_BadMachine ct_BadMachine), sl_BadMachine⟩) (ci_BadMachine : PySem.W.codeIn K cd_BadMachine "BadMachine.__init__" = true) (ki_BadMachine : PySem.W.keepIn K (.ref fi_BadMachine) = true)
    (kC_BadMachine : PySem.W.keepIn K (.ref C_BadMachine) = true) (eC_BadMachine : PySem.W.subIn K (.ref C_BadMachine) (.type "BaseException") = some true) (tC_BadMachine : PySem.W.typeIn K (.ref C_BadMachine) = some (.type "type")) (hC_BadMachine : PySem.W.hasDictIn K C_BadMachine = true) (iC_BadMachine : PySem.W.isClsIn K C_BadMachine = true) (sC_BadMachine : PySem.W.subIn K (.ref C_BadMachine) (.ref C_BadMachine) = some true)
    (nf_BadMachine : PySem.W.findIn K (.ref C_BadMachine) "part" = some none)
    (g_NoState : PySem.W.nsIn K mainGlobals "NoState" = some (some (.ref C_NoState))) (xl_NoState : K.lookup C_NoState = some (excClassObj nm_NoState qn_NoState C_NoState nn_NoState bs_NoState (.ref C_WritingError :: [.type "ValueError", .type "Exception", .type "BaseException", .type "object"]) true sn_NoState sb_NoState ab_NoState cl_NoState dd_NoState m0_NoState m1_NoState m2_NoState m3_NoState m5_NoState "ValueError.__new__"))
    (sa_NoState : PySem.W.findIn K (.ref C_NoState) "__setattr__" = some (some (.builtin "object.__setattr__"))) (gt_NoState : PySem.W.findIn K (.ref C_NoState) "__getattribute__" = some (some (.builtin "BaseException.__getattribute__"))) (gg_NoState : PySem.W.findIn K (.ref C_NoState) "__getattr__" = some none)
    (ii_NoState : PySem.W.findIn K (.ref C_NoState) "__init__" = some (some (.ref fi_NoState))) (ti_NoState : PySem.W.typeIn K (.ref fi_NoState) = some (.type "function"))
    (li_NoState : K.lookup fi_NoState = some ⟨oc_NoState, od_NoState, .func (PySem.W.fnOf "__init__" "NoState.__init__" (defArgs si_NoState) (defBody si_NoState) (defScope si_NoState) .none kV_NoState dc_NoState pm_NoState an_NoState cd_NoState ct_NoState), sl_NoState⟩) (ci_NoState : PySem.W.codeIn K cd_NoState "NoState.__init__" = true) (ki_NoState : PySem.W.keepIn K (.ref fi_NoState) = true)
    (kC_NoState : PySem.W.keepIn K (.ref C_NoState) = true) (eC_NoState : PySem.W.subIn K (.ref C_NoState) (.type "BaseException") = some true) (tC_NoState : PySem.W.typeIn K (.ref C_NoState) = some (.type "type")) (hC_NoState : PySem.W.hasDictIn K C_NoState = true) (iC_NoState : PySem.W.isClsIn K C_NoState = true) (sC_NoState : PySem.W.subIn K (.ref C_NoState) (.ref C_NoState) = some true)
    (g_NoDigits : PySem.W.nsIn K mainGlobals "NoDigits" = some (some (.ref C_NoDigits))) (xl_NoDigits : K.lookup C_NoDigits = some (excClassObj nm_NoDigits qn_NoDigits C_NoDigits nn_NoDigits bs_NoDigits (.ref C_WritingError :: [.type "ValueError", .type "Exception", .type "BaseException", .type "object"]) true sn_NoDigits sb_NoDigits ab_NoDigits cl_NoDigits dd_NoDigits m0_NoDigits m1_NoDigits m2_NoDigits m3_NoDigits m5_NoDigits "ValueError.__new__"))
    (sa_NoDigits : PySem.W.findIn K (.ref C_NoDigits) "__setattr__" = some (some (.builtin "object.__setattr__"))) (gt_NoDigits : PySem.W.findIn K (.ref C_NoDigits) "__getattribute__" = some (some (.builtin "BaseException.__getattribute__"))) (gg_NoDigits : PySem.W.findIn K (.ref C_NoDigits) "__getattr__" = some none)
    (ii_NoDigits : PySem.W.findIn K (.ref C_NoDigits) "__init__" = some (some (.ref fi_NoDigits))) (ti_NoDigits : PySem.W.typeIn K (.ref fi_NoDigits) = some (.type "function"))
    (li_NoDigits : K.lookup fi_NoDigits = some ⟨oc_NoDigits, od_NoDigits, .func (PySem.W.fnOf "__init__" "NoDigits.__init__" (defArgs si_NoDigits) (defBody si_NoDigits) (defScope si_NoDigits) .none kV_NoDigits dc_NoDigits pm_NoDigits an_NoDigits cd_NoDigits ct_NoDigits), sl_NoDigits⟩) (ci_NoDigits : PySem.W.codeIn K cd_NoDigits "NoDigits.__init__" = true) (ki_NoDigits : PySem.W.keepIn K (.ref fi_NoDigits) = true)
    (kC_NoDigits : PySem.W.keepIn K (.ref C_NoDigits) = true) (eC_NoDigits : PySem.W.subIn K (.ref C_NoDigits) (.type "BaseException") = some true) (tC_NoDigits : PySem.W.typeIn K (.ref C_NoDigits) = some (.type "type")) (hC_NoDigits : PySem.W.hasDictIn K C_NoDigits = true) (iC_NoDigits : PySem.W.isClsIn K C_NoDigits = true) (sC_NoDigits : PySem.W.subIn K (.ref C_NoDigits) (.ref C_NoDigits) = some true)
    (g_NoWriting : PySem.W.nsIn K mainGlobals "NoWriting" = some (some (.ref C_NoWriting))) (xl_NoWriting : K.lookup C_NoWriting = some (excClassObj nm_NoWriting qn_NoWriting C_NoWriting nn_NoWriting bs_NoWriting (.ref C_WritingError :: [.type "ValueError", .type "Exception", .type "BaseException", .type "object"]) true sn_NoWriting sb_NoWriting ab_NoWriting cl_NoWriting dd_NoWriting m0_NoWriting m1_NoWriting m2_NoWriting m3_NoWriting m5_NoWriting "ValueError.__new__"))
    (sa_NoWriting : PySem.W.findIn K (.ref C_NoWriting) "__setattr__" = some (some (.builtin "object.__setattr__"))) (gt_NoWriting : PySem.W.findIn K (.ref C_NoWriting) "__getattribute__" = some (some (.builtin "BaseException.__getattribute__"))) (gg_NoWriting : PySem.W.findIn K (.ref C_NoWriting) "__getattr__" = some none)
    (ii_NoWriting : PySem.W.findIn K (.ref C_NoWriting) "__init__" = some (some (.ref fi_NoWriting))) (ti_NoWriting : PySem.W.typeIn K (.ref fi_NoWriting) = some (.type "function"))
    (li_NoWriting : K.lookup fi_NoWriting = some ⟨oc_NoWriting, od_NoWriting, .func (PySem.W.fnOf "__init__" "NoWriting.__init__" (defArgs si_NoWriting) (defBody si_NoWriting) (defScope si_NoWriting) .none kV_NoWriting dc_NoWriting pm_NoWriting an_NoWriting cd_NoWriting ct_NoWriting), sl_NoWriting⟩) (ci_NoWriting : PySem.W.codeIn K cd_NoWriting "NoWriting.__init__" = true) (ki_NoWriting : PySem.W.keepIn K (.ref fi_NoWriting) = true)
    (kC_NoWriting : PySem.W.keepIn K (.ref C_NoWriting) = true) (eC_NoWriting : PySem.W.subIn K (.ref C_NoWriting) (.type "BaseException") = some true) (tC_NoWriting : PySem.W.typeIn K (.ref C_NoWriting) = some (.type "type")) (hC_NoWriting : PySem.W.hasDictIn K C_NoWriting = true) (iC_NoWriting : PySem.W.isClsIn K C_NoWriting = true) (sC_NoWriting : PySem.W.subIn K (.ref C_NoWriting) (.ref C_NoWriting) = some true)
    (g_Unsound : PySem.W.nsIn K mainGlobals "Unsound" = some (some (.ref C_Unsound))) (xl_Unsound : K.lookup C_Unsound = some (excClassObj nm_Unsound qn_Unsound C_Unsound nn_Unsound bs_Unsound (.ref C_WritingError :: [.type "ValueError", .type "Exception", .type "BaseException", .type "object"]) true sn_Unsound sb_Unsound ab_Unsound cl_Unsound dd_Unsound m0_Unsound m1_Unsound m2_Unsound m3_Unsound m5_Unsound "ValueError.__new__"))
    (sa_Unsound : PySem.W.findIn K (.ref C_Unsound) "__setattr__" = some (some (.builtin "object.__setattr__"))) (gt_Unsound : PySem.W.findIn K (.ref C_Unsound) "__getattribute__" = some (some (.builtin "BaseException.__getattribute__"))) (gg_Unsound : PySem.W.findIn K (.ref C_Unsound) "__getattr__" = some none)
    (ii_Unsound : PySem.W.findIn K (.ref C_Unsound) "__init__" = some (some (.ref fi_Unsound))) (ti_Unsound : PySem.W.typeIn K (.ref fi_Unsound) = some (.type "function"))
    (li_Unsound : K.lookup fi_Unsound = some ⟨oc_Unsound, od_Unsound, .func (PySem.W.fnOf "__init__" "Unsound.__init__" (defArgs si_Unsound) (defBody si_Unsound) (defScope si_Unsound) .none kV_Unsound dc_Unsound pm_Unsound an_Unsound cd_Unsound ct_Unsound), sl_Unsound⟩) (ci_Unsound : PySem.W.codeIn K cd_Unsound "Unsound.__init__" = true) (ki_Unsound : PySem.W.keepIn K (.ref fi_Unsound) = true)
    (kC_Unsound : PySem.W.keepIn K (.ref C_Unsound) = true) (eC_Unsound : PySem.W.subIn K (.ref C_Unsound) (.type "BaseException") = some true) (tC_Unsound : PySem.W.typeIn K (.ref C_Unsound) = some (.type "type")) (hC_Unsound : PySem.W.hasDictIn K C_Unsound = true) (iC_Unsound : PySem.W.isClsIn K C_Unsound = true) (sC_Unsound : PySem.W.subIn K (.ref C_Unsound) (.ref C_Unsound) = some true)
    (g_NoFraction : PySem.W.nsIn K mainGlobals "NoFraction" = some (some (.ref C_NoFraction))) (xl_NoFraction : K.lookup C_NoFraction = some (excClassObj nm_NoFraction qn_NoFraction C_NoFraction nn_NoFraction bs_NoFraction (.ref C_WritingError :: [.type "ValueError", .type "Exception", .type "BaseException", .type "object"]) true sn_NoFraction sb_NoFraction ab_NoFraction cl_NoFraction dd_NoFraction m0_NoFraction m1_NoFraction m2_NoFraction m3_NoFraction m5_NoFraction "ValueError.__new__"))
    (sa_NoFraction : PySem.W.findIn K (.ref C_NoFraction) "__setattr__" = some (some (.builtin "object.__setattr__"))) (gt_NoFraction : PySem.W.findIn K (.ref C_NoFraction) "__getattribute__" = some (some (.builtin "BaseException.__getattribute__"))) (gg_NoFraction : PySem.W.findIn K (.ref C_NoFraction) "__getattr__" = some none)
    (ii_NoFraction : PySem.W.findIn K (.ref C_NoFraction) "__init__" = some (some (.ref fi_NoFraction))) (ti_NoFraction : PySem.W.typeIn K (.ref fi_NoFraction) = some (.type "function"))
    (li_NoFraction : K.lookup fi_NoFraction = some ⟨oc_NoFraction, od_NoFraction, .func (PySem.W.fnOf "__init__" "NoFraction.__init__" (defArgs si_NoFraction) (defBody si_NoFraction) (defScope si_NoFraction) .none kV_NoFraction dc_NoFraction pm_NoFraction an_NoFraction cd_NoFraction ct_NoFraction), sl_NoFraction⟩) (ci_NoFraction : PySem.W.codeIn K cd_NoFraction "NoFraction.__init__" = true) (ki_NoFraction : PySem.W.keepIn K (.ref fi_NoFraction) = true)
    (kC_NoFraction : PySem.W.keepIn K (.ref C_NoFraction) = true) (eC_NoFraction : PySem.W.subIn K (.ref C_NoFraction) (.type "BaseException") = some true) (tC_NoFraction : PySem.W.typeIn K (.ref C_NoFraction) = some (.type "type")) (hC_NoFraction : PySem.W.hasDictIn K C_NoFraction = true) (iC_NoFraction : PySem.W.isClsIn K C_NoFraction = true) (sC_NoFraction : PySem.W.subIn K (.ref C_NoFraction) (.ref C_NoFraction) = some true)
    (g_OtherBase : PySem.W.nsIn K mainGlobals "OtherBase" = some (some (.ref C_OtherBase))) (xl_OtherBase : K.lookup C_OtherBase = some (excClassObj nm_OtherBase qn_OtherBase C_OtherBase nn_OtherBase bs_OtherBase (.ref C_WritingError :: [.type "ValueError", .type "Exception", .type "BaseException", .type "object"]) true sn_OtherBase sb_OtherBase ab_OtherBase cl_OtherBase dd_OtherBase m0_OtherBase m1_OtherBase m2_OtherBase m3_OtherBase m5_OtherBase "ValueError.__new__"))
    (sa_OtherBase : PySem.W.findIn K (.ref C_OtherBase) "__setattr__" = some (some (.builtin "object.__setattr__"))) (gt_OtherBase : PySem.W.findIn K (.ref C_OtherBase) "__getattribute__" = some (some (.builtin "BaseException.__getattribute__"))) (gg_OtherBase : PySem.W.findIn K (.ref C_OtherBase) "__getattr__" = some none)
    (ii_OtherBase : PySem.W.findIn K (.ref C_OtherBase) "__init__" = some (some (.ref fi_OtherBase))) (ti_OtherBase : PySem.W.typeIn K (.ref fi_OtherBase) = some (.type "function"))
    (li_OtherBase : K.lookup fi_OtherBase = some ⟨oc_OtherBase, od_OtherBase, .func (PySem.W.fnOf "__init__" "OtherBase.__init__" (defArgs si_OtherBase) (defBody si_OtherBase) (defScope si_OtherBase) .none kV_OtherBase dc_OtherBase pm_OtherBase an_OtherBase cd_OtherBase ct_OtherBase), sl_OtherBase⟩) (ci_OtherBase : PySem.W.codeIn K cd_OtherBase "OtherBase.__init__" = true) (ki_OtherBase : PySem.W.keepIn K (.ref fi_OtherBase) = true)
    (kC_OtherBase : PySem.W.keepIn K (.ref C_OtherBase) = true) (eC_OtherBase : PySem.W.subIn K (.ref C_OtherBase) (.type "BaseException") = some true) (tC_OtherBase : PySem.W.typeIn K (.ref C_OtherBase) = some (.type "type")) (hC_OtherBase : PySem.W.hasDictIn K C_OtherBase = true) (iC_OtherBase : PySem.W.isClsIn K C_OtherBase = true) (sC_OtherBase : PySem.W.subIn K (.ref C_OtherBase) (.ref C_OtherBase) = some true)
    (g_NotWithin : PySem.W.nsIn K mainGlobals "NotWithin" = some (some (.ref C_NotWithin))) (xl_NotWithin : K.lookup C_NotWithin = some (excClassObj nm_NotWithin qn_NotWithin C_NotWithin nn_NotWithin bs_NotWithin (.ref C_WritingError :: [.type "ValueError", .type "Exception", .type "BaseException", .type "object"]) true sn_NotWithin sb_NotWithin ab_NotWithin cl_NotWithin dd_NotWithin m0_NotWithin m1_NotWithin m2_NotWithin m3_NotWithin m5_NotWithin "ValueError.__new__"))
    (sa_NotWithin : PySem.W.findIn K (.ref C_NotWithin) "__setattr__" = some (some (.builtin "object.__setattr__"))) (gt_NotWithin : PySem.W.findIn K (.ref C_NotWithin) "__getattribute__" = some (some (.builtin "BaseException.__getattribute__"))) (gg_NotWithin : PySem.W.findIn K (.ref C_NotWithin) "__getattr__" = some none)
    (ii_NotWithin : PySem.W.findIn K (.ref C_NotWithin) "__init__" = some (some (.ref fi_NotWithin))) (ti_NotWithin : PySem.W.typeIn K (.ref fi_NotWithin) = some (.type "function"))
    (li_NotWithin : K.lookup fi_NotWithin = some ⟨oc_NotWithin, od_NotWithin, .func (PySem.W.fnOf "__init__" "NotWithin.__init__" (defArgs si_NotWithin) (defBody si_NotWithin) (defScope si_NotWithin) .none kV_NotWithin dc_NotWithin pm_NotWithin an_NotWithin cd_NotWithin ct_NotWithin), sl_NotWithin⟩) (ci_NotWithin : PySem.W.codeIn K cd_NotWithin "NotWithin.__init__" = true) (ki_NotWithin : PySem.W.keepIn K (.ref fi_NotWithin) = true)
    (kC_NotWithin : PySem.W.keepIn K (.ref C_NotWithin) = true) (eC_NotWithin : PySem.W.subIn K (.ref C_NotWithin) (.type "BaseException") = some true) (tC_NotWithin : PySem.W.typeIn K (.ref C_NotWithin) = some (.type "type")) (hC_NotWithin : PySem.W.hasDictIn K C_NotWithin = true) (iC_NotWithin : PySem.W.isClsIn K C_NotWithin = true) (sC_NotWithin : PySem.W.subIn K (.ref C_NotWithin) (.ref C_NotWithin) = some true)
    (nf_NotWithin : PySem.W.findIn K (.ref C_NotWithin) "x" = some none)
    (g_NoChances : PySem.W.nsIn K mainGlobals "NoChances" = some (some (.ref C_NoChances))) (xl_NoChances : K.lookup C_NoChances = some (excClassObj nm_NoChances qn_NoChances C_NoChances nn_NoChances bs_NoChances (.ref C_WritingError :: [.type "ValueError", .type "Exception", .type "BaseException", .type "object"]) true sn_NoChances sb_NoChances ab_NoChances cl_NoChances dd_NoChances m0_NoChances m1_NoChances m2_NoChances m3_NoChances m5_NoChances "ValueError.__new__"))
    (sa_NoChances : PySem.W.findIn K (.ref C_NoChances) "__setattr__" = some (some (.builtin "object.__setattr__"))) (gt_NoChances : PySem.W.findIn K (.ref C_NoChances) "__getattribute__" = some (some (.builtin "BaseException.__getattribute__"))) (gg_NoChances : PySem.W.findIn K (.ref C_NoChances) "__getattr__" = some none)
    (ii_NoChances : PySem.W.findIn K (.ref C_NoChances) "__init__" = some (some (.ref fi_NoChances))) (ti_NoChances : PySem.W.typeIn K (.ref fi_NoChances) = some (.type "function"))
    (li_NoChances : K.lookup fi_NoChances = some ⟨oc_NoChances, od_NoChances, .func (PySem.W.fnOf "__init__" "NoChances.__init__" (defArgs si_NoChances) (defBody si_NoChances) (defScope si_NoChances) .none kV_NoChances dc_NoChances pm_NoChances an_NoChances cd_NoChances ct_NoChances), sl_NoChances⟩) (ci_NoChances : PySem.W.codeIn K cd_NoChances "NoChances.__init__" = true) (ki_NoChances : PySem.W.keepIn K (.ref fi_NoChances) = true)
    (kC_NoChances : PySem.W.keepIn K (.ref C_NoChances) = true) (eC_NoChances : PySem.W.subIn K (.ref C_NoChances) (.type "BaseException") = some true) (tC_NoChances : PySem.W.typeIn K (.ref C_NoChances) = some (.type "type")) (hC_NoChances : PySem.W.hasDictIn K C_NoChances = true) (iC_NoChances : PySem.W.isClsIn K C_NoChances = true) (sC_NoChances : PySem.W.subIn K (.ref C_NoChances) (.ref C_NoChances) = some true)
    (g_NoTurns : PySem.W.nsIn K mainGlobals "NoTurns" = some (some (.ref C_NoTurns))) (xl_NoTurns : K.lookup C_NoTurns = some (excClassObj nm_NoTurns qn_NoTurns C_NoTurns nn_NoTurns bs_NoTurns (.ref C_WritingError :: [.type "ValueError", .type "Exception", .type "BaseException", .type "object"]) true sn_NoTurns sb_NoTurns ab_NoTurns cl_NoTurns dd_NoTurns m0_NoTurns m1_NoTurns m2_NoTurns m3_NoTurns m5_NoTurns "ValueError.__new__"))
    (sa_NoTurns : PySem.W.findIn K (.ref C_NoTurns) "__setattr__" = some (some (.builtin "object.__setattr__"))) (gt_NoTurns : PySem.W.findIn K (.ref C_NoTurns) "__getattribute__" = some (some (.builtin "BaseException.__getattribute__"))) (gg_NoTurns : PySem.W.findIn K (.ref C_NoTurns) "__getattr__" = some none)
    (ii_NoTurns : PySem.W.findIn K (.ref C_NoTurns) "__init__" = some (some (.ref fi_NoTurns))) (ti_NoTurns : PySem.W.typeIn K (.ref fi_NoTurns) = some (.type "function"))
    (li_NoTurns : K.lookup fi_NoTurns = some ⟨oc_NoTurns, od_NoTurns, .func (PySem.W.fnOf "__init__" "NoTurns.__init__" (defArgs si_NoTurns) (defBody si_NoTurns) (defScope si_NoTurns) .none kV_NoTurns dc_NoTurns pm_NoTurns an_NoTurns cd_NoTurns ct_NoTurns), sl_NoTurns⟩) (ci_NoTurns : PySem.W.codeIn K cd_NoTurns "NoTurns.__init__" = true) (ki_NoTurns : PySem.W.keepIn K (.ref fi_NoTurns) = true)
    (kC_NoTurns : PySem.W.keepIn K (.ref C_NoTurns) = true) (eC_NoTurns : PySem.W.subIn K (.ref C_NoTurns) (.type "BaseException") = some true) (tC_NoTurns : PySem.W.typeIn K (.ref C_NoTurns) = some (.type "type")) (hC_NoTurns : PySem.W.hasDictIn K C_NoTurns = true) (iC_NoTurns : PySem.W.isClsIn K C_NoTurns = true) (sC_NoTurns : PySem.W.subIn K (.ref C_NoTurns) (.ref C_NoTurns) = some true)
    (g_NoHand : PySem.W.nsIn K mainGlobals "NoHand" = some (some (.ref C_NoHand))) (xl_NoHand : K.lookup C_NoHand = some (excClassObj nm_NoHand qn_NoHand C_NoHand nn_NoHand bs_NoHand (.ref C_WritingError :: [.type "ValueError", .type "Exception", .type "BaseException", .type "object"]) true sn_NoHand sb_NoHand ab_NoHand cl_NoHand dd_NoHand m0_NoHand m1_NoHand m2_NoHand m3_NoHand m5_NoHand "ValueError.__new__"))
    (sa_NoHand : PySem.W.findIn K (.ref C_NoHand) "__setattr__" = some (some (.builtin "object.__setattr__"))) (gt_NoHand : PySem.W.findIn K (.ref C_NoHand) "__getattribute__" = some (some (.builtin "BaseException.__getattribute__"))) (gg_NoHand : PySem.W.findIn K (.ref C_NoHand) "__getattr__" = some none)
    (ii_NoHand : PySem.W.findIn K (.ref C_NoHand) "__init__" = some (some (.ref fi_NoHand))) (ti_NoHand : PySem.W.typeIn K (.ref fi_NoHand) = some (.type "function"))
    (li_NoHand : K.lookup fi_NoHand = some ⟨oc_NoHand, od_NoHand, .func (PySem.W.fnOf "__init__" "NoHand.__init__" (defArgs si_NoHand) (defBody si_NoHand) (defScope si_NoHand) .none kV_NoHand dc_NoHand pm_NoHand an_NoHand cd_NoHand ct_NoHand), sl_NoHand⟩) (ci_NoHand : PySem.W.codeIn K cd_NoHand "NoHand.__init__" = true) (ki_NoHand : PySem.W.keepIn K (.ref fi_NoHand) = true)
    (kC_NoHand : PySem.W.keepIn K (.ref C_NoHand) = true) (eC_NoHand : PySem.W.subIn K (.ref C_NoHand) (.type "BaseException") = some true) (tC_NoHand : PySem.W.typeIn K (.ref C_NoHand) = some (.type "type")) (hC_NoHand : PySem.W.hasDictIn K C_NoHand = true) (iC_NoHand : PySem.W.isClsIn K C_NoHand = true) (sC_NoHand : PySem.W.subIn K (.ref C_NoHand) (.ref C_NoHand) = some true)
    (g_NoChoices : PySem.W.nsIn K mainGlobals "NoChoices" = some (some (.ref C_NoChoices))) (xl_NoChoices : K.lookup C_NoChoices = some (excClassObj nm_NoChoices qn_NoChoices C_NoChoices nn_NoChoices bs_NoChoices (.ref C_WritingError :: [.type "ValueError", .type "Exception", .type "BaseException", .type "object"]) true sn_NoChoices sb_NoChoices ab_NoChoices cl_NoChoices dd_NoChoices m0_NoChoices m1_NoChoices m2_NoChoices m3_NoChoices m5_NoChoices "ValueError.__new__"))
    (sa_NoChoices : PySem.W.findIn K (.ref C_NoChoices) "__setattr__" = some (some (.builtin "object.__setattr__"))) (gt_NoChoices : PySem.W.findIn K (.ref C_NoChoices) "__getattribute__" = some (some (.builtin "BaseException.__getattribute__"))) (gg_NoChoices : PySem.W.findIn K (.ref C_NoChoices) "__getattr__" = some none)
    (ii_NoChoices : PySem.W.findIn K (.ref C_NoChoices) "__init__" = some (some (.ref fi_NoChoices))) (ti_NoChoices : PySem.W.typeIn K (.ref fi_NoChoices) = some (.type "function"))
    (li_NoChoices : K.lookup fi_NoChoices = some ⟨oc_NoChoices, od_NoChoices, .func (PySem.W.fnOf "__init__" "NoChoices.__init__" (defArgs si_NoChoices) (defBody si_NoChoices) (defScope si_NoChoices) .none kV_NoChoices dc_NoChoices pm_NoChoices an_NoChoices cd_NoChoices ct_NoChoices), sl_NoChoices⟩) (ci_NoChoices : PySem.W.codeIn K cd_NoChoices "NoChoices.__init__" = true) (ki_NoChoices : PySem.W.keepIn K (.ref fi_NoChoices) = true)
    (kC_NoChoices : PySem.W.keepIn K (.ref C_NoChoices) = true) (eC_NoChoices : PySem.W.subIn K (.ref C_NoChoices) (.type "BaseException") = some true) (tC_NoChoices : PySem.W.typeIn K (.ref C_NoChoices) = some (.type "type")) (hC_NoChoices : PySem.W.hasDictIn K C_NoChoices = true) (iC_NoChoices : PySem.W.isClsIn K C_NoChoices = true) (sC_NoChoices : PySem.W.subIn K (.ref C_NoChoices) (.ref C_NoChoices) = some true)
    (g_BadDust : PySem.W.nsIn K mainGlobals "BadDust" = some (some (.ref C_BadDust))) (xl_BadDust : K.lookup C_BadDust = some (excClassObj nm_BadDust qn_BadDust C_BadDust nn_BadDust bs_BadDust (.ref C_WritingError :: [.type "ValueError", .type "Exception", .type "BaseException", .type "object"]) true sn_BadDust sb_BadDust ab_BadDust cl_BadDust dd_BadDust m0_BadDust m1_BadDust m2_BadDust m3_BadDust m5_BadDust "ValueError.__new__"))
    (sa_BadDust : PySem.W.findIn K (.ref C_BadDust) "__setattr__" = some (some (.builtin "object.__setattr__"))) (gt_BadDust : PySem.W.findIn K (.ref C_BadDust) "__getattribute__" = some (some (.builtin "BaseException.__getattribute__"))) (gg_BadDust : PySem.W.findIn K (.ref C_BadDust) "__getattr__" = some none)
    (ii_BadDust : PySem.W.findIn K (.ref C_BadDust) "__init__" = some (some (.ref fi_BadDust))) (ti_BadDust : PySem.W.typeIn K (.ref fi_BadDust) = some (.type "function"))
    (li_BadDust : K.lookup fi_BadDust = some ⟨oc_BadDust, od_BadDust, .func (PySem.W.fnOf "__init__" "BadDust.__init__" (defArgs si_BadDust) (defBody si_BadDust) (defScope si_BadDust) .none kV_BadDust dc_BadDust pm_BadDust an_BadDust cd_BadDust ct_BadDust), sl_BadDust⟩) (ci_BadDust : PySem.W.codeIn K cd_BadDust "BadDust.__init__" = true) (ki_BadDust : PySem.W.keepIn K (.ref fi_BadDust) = true)
    (kC_BadDust : PySem.W.keepIn K (.ref C_BadDust) = true) (eC_BadDust : PySem.W.subIn K (.ref C_BadDust) (.type "BaseException") = some true) (tC_BadDust : PySem.W.typeIn K (.ref C_BadDust) = some (.type "type")) (hC_BadDust : PySem.W.hasDictIn K C_BadDust = true) (iC_BadDust : PySem.W.isClsIn K C_BadDust = true) (sC_BadDust : PySem.W.subIn K (.ref C_BadDust) (.ref C_BadDust) = some true)
    (nf_BadDust : PySem.W.findIn K (.ref C_BadDust) "part" = some none)
    (g_NoDigit : PySem.W.nsIn K mainGlobals "NoDigit" = some (some (.ref C_NoDigit))) (xl_NoDigit : K.lookup C_NoDigit = some (excClassObj nm_NoDigit qn_NoDigit C_NoDigit nn_NoDigit bs_NoDigit (.ref C_WritingError :: [.type "ValueError", .type "Exception", .type "BaseException", .type "object"]) true sn_NoDigit sb_NoDigit ab_NoDigit cl_NoDigit dd_NoDigit m0_NoDigit m1_NoDigit m2_NoDigit m3_NoDigit m5_NoDigit "ValueError.__new__"))
    (sa_NoDigit : PySem.W.findIn K (.ref C_NoDigit) "__setattr__" = some (some (.builtin "object.__setattr__"))) (gt_NoDigit : PySem.W.findIn K (.ref C_NoDigit) "__getattribute__" = some (some (.builtin "BaseException.__getattribute__"))) (gg_NoDigit : PySem.W.findIn K (.ref C_NoDigit) "__getattr__" = some none)
    (ii_NoDigit : PySem.W.findIn K (.ref C_NoDigit) "__init__" = some (some (.ref fi_NoDigit))) (ti_NoDigit : PySem.W.typeIn K (.ref fi_NoDigit) = some (.type "function"))
    (li_NoDigit : K.lookup fi_NoDigit = some ⟨oc_NoDigit, od_NoDigit, .func (PySem.W.fnOf "__init__" "NoDigit.__init__" (defArgs si_NoDigit) (defBody si_NoDigit) (defScope si_NoDigit) .none kV_NoDigit dc_NoDigit pm_NoDigit an_NoDigit cd_NoDigit ct_NoDigit), sl_NoDigit⟩) (ci_NoDigit : PySem.W.codeIn K cd_NoDigit "NoDigit.__init__" = true) (ki_NoDigit : PySem.W.keepIn K (.ref fi_NoDigit) = true)
    (kC_NoDigit : PySem.W.keepIn K (.ref C_NoDigit) = true) (eC_NoDigit : PySem.W.subIn K (.ref C_NoDigit) (.type "BaseException") = some true) (tC_NoDigit : PySem.W.typeIn K (.ref C_NoDigit) = some (.type "type")) (hC_NoDigit : PySem.W.hasDictIn K C_NoDigit = true) (iC_NoDigit : PySem.W.isClsIn K C_NoDigit = true) (sC_NoDigit : PySem.W.subIn K (.ref C_NoDigit) (.ref C_NoDigit) = some true)
    (g_NothingDone : PySem.W.nsIn K mainGlobals "NothingDone" = some (some (.ref C_NothingDone))) (xl_NothingDone : K.lookup C_NothingDone = some (excClassObj nm_NothingDone qn_NothingDone C_NothingDone nn_NothingDone bs_NothingDone (.ref C_WritingError :: [.type "ValueError", .type "Exception", .type "BaseException", .type "object"]) true sn_NothingDone sb_NothingDone ab_NothingDone cl_NothingDone dd_NothingDone m0_NothingDone m1_NothingDone m2_NothingDone m3_NothingDone m5_NothingDone "ValueError.__new__"))
    (sa_NothingDone : PySem.W.findIn K (.ref C_NothingDone) "__setattr__" = some (some (.builtin "object.__setattr__"))) (gt_NothingDone : PySem.W.findIn K (.ref C_NothingDone) "__getattribute__" = some (some (.builtin "BaseException.__getattribute__"))) (gg_NothingDone : PySem.W.findIn K (.ref C_NothingDone) "__getattr__" = some none)
    (ii_NothingDone : PySem.W.findIn K (.ref C_NothingDone) "__init__" = some (some (.ref fi_NothingDone))) (ti_NothingDone : PySem.W.typeIn K (.ref fi_NothingDone) = some (.type "function"))
    (li_NothingDone : K.lookup fi_NothingDone = some ⟨oc_NothingDone, od_NothingDone, .func (PySem.W.fnOf "__init__" "NothingDone.__init__" (defArgs si_NothingDone) (defBody si_NothingDone) (defScope si_NothingDone) .none kV_NothingDone dc_NothingDone pm_NothingDone an_NothingDone cd_NothingDone ct_NothingDone), sl_NothingDone⟩) (ci_NothingDone : PySem.W.codeIn K cd_NothingDone "NothingDone.__init__" = true) (ki_NothingDone : PySem.W.keepIn K (.ref fi_NothingDone) = true)
    (kC_NothingDone : PySem.W.keepIn K (.ref C_NothingDone) = true) (eC_NothingDone : PySem.W.subIn K (.ref C_NothingDone) (.type "BaseException") = some true) (tC_NothingDone : PySem.W.typeIn K (.ref C_NothingDone) = some (.type "type")) (hC_NothingDone : PySem.W.hasDictIn K C_NothingDone = true) (iC_NothingDone : PySem.W.isClsIn K C_NothingDone = true) (sC_NothingDone : PySem.W.subIn K (.ref C_NothingDone) (.ref C_NothingDone) = some true)
    (g_BadAnswer : PySem.W.nsIn K mainGlobals "BadAnswer" = some (some (.ref C_BadAnswer))) (xl_BadAnswer : K.lookup C_BadAnswer = some (excClassObj nm_BadAnswer qn_BadAnswer C_BadAnswer nn_BadAnswer bs_BadAnswer (.ref C_WritingError :: [.type "ValueError", .type "Exception", .type "BaseException", .type "object"]) true sn_BadAnswer sb_BadAnswer ab_BadAnswer cl_BadAnswer dd_BadAnswer m0_BadAnswer m1_BadAnswer m2_BadAnswer m3_BadAnswer m5_BadAnswer "ValueError.__new__"))
    (sa_BadAnswer : PySem.W.findIn K (.ref C_BadAnswer) "__setattr__" = some (some (.builtin "object.__setattr__"))) (gt_BadAnswer : PySem.W.findIn K (.ref C_BadAnswer) "__getattribute__" = some (some (.builtin "BaseException.__getattribute__"))) (gg_BadAnswer : PySem.W.findIn K (.ref C_BadAnswer) "__getattr__" = some none)
    (ii_BadAnswer : PySem.W.findIn K (.ref C_BadAnswer) "__init__" = some (some (.ref fi_BadAnswer))) (ti_BadAnswer : PySem.W.typeIn K (.ref fi_BadAnswer) = some (.type "function"))
    (li_BadAnswer : K.lookup fi_BadAnswer = some ⟨oc_BadAnswer, od_BadAnswer, .func (PySem.W.fnOf "__init__" "BadAnswer.__init__" (defArgs si_BadAnswer) (defBody si_BadAnswer) (defScope si_BadAnswer) .none kV_BadAnswer dc_BadAnswer pm_BadAnswer an_BadAnswer cd_BadAnswer ct_BadAnswer), sl_BadAnswer⟩) (ci_BadAnswer : PySem.W.codeIn K cd_BadAnswer "BadAnswer.__init__" = true) (ki_BadAnswer : PySem.W.keepIn K (.ref fi_BadAnswer) = true)
    (kC_BadAnswer : PySem.W.keepIn K (.ref C_BadAnswer) = true) (eC_BadAnswer : PySem.W.subIn K (.ref C_BadAnswer) (.type "BaseException") = some true) (tC_BadAnswer : PySem.W.typeIn K (.ref C_BadAnswer) = some (.type "type")) (hC_BadAnswer : PySem.W.hasDictIn K C_BadAnswer = true) (iC_BadAnswer : PySem.W.isClsIn K C_BadAnswer = true) (sC_BadAnswer : PySem.W.subIn K (.ref C_BadAnswer) (.ref C_BadAnswer) = some true)
    (nf_BadAnswer : PySem.W.findIn K (.ref C_BadAnswer) "x" = some none)
    (g_NoFit : PySem.W.nsIn K mainGlobals "NoFit" = some (some (.ref C_NoFit))) (xl_NoFit : K.lookup C_NoFit = some (excClassObj nm_NoFit qn_NoFit C_NoFit nn_NoFit bs_NoFit (.ref C_WritingError :: [.type "ValueError", .type "Exception", .type "BaseException", .type "object"]) true sn_NoFit sb_NoFit ab_NoFit cl_NoFit dd_NoFit m0_NoFit m1_NoFit m2_NoFit m3_NoFit m5_NoFit "ValueError.__new__"))
    (sa_NoFit : PySem.W.findIn K (.ref C_NoFit) "__setattr__" = some (some (.builtin "object.__setattr__"))) (gt_NoFit : PySem.W.findIn K (.ref C_NoFit) "__getattribute__" = some (some (.builtin "BaseException.__getattribute__"))) (gg_NoFit : PySem.W.findIn K (.ref C_NoFit) "__getattr__" = some none)
    (ii_NoFit : PySem.W.findIn K (.ref C_NoFit) "__init__" = some (some (.ref fi_NoFit))) (ti_NoFit : PySem.W.typeIn K (.ref fi_NoFit) = some (.type "function"))
    (li_NoFit : K.lookup fi_NoFit = some ⟨oc_NoFit, od_NoFit, .func (PySem.W.fnOf "__init__" "NoFit.__init__" (defArgs si_NoFit) (defBody si_NoFit) (defScope si_NoFit) .none kV_NoFit dc_NoFit pm_NoFit an_NoFit cd_NoFit ct_NoFit), sl_NoFit⟩) (ci_NoFit : PySem.W.codeIn K cd_NoFit "NoFit.__init__" = true) (ki_NoFit : PySem.W.keepIn K (.ref fi_NoFit) = true)
    (kC_NoFit : PySem.W.keepIn K (.ref C_NoFit) = true) (eC_NoFit : PySem.W.subIn K (.ref C_NoFit) (.type "BaseException") = some true) (tC_NoFit : PySem.W.typeIn K (.ref C_NoFit) = some (.type "type")) (hC_NoFit : PySem.W.hasDictIn K C_NoFit = true) (iC_NoFit : PySem.W.isClsIn K C_NoFit = true) (sC_NoFit : PySem.W.subIn K (.ref C_NoFit) (.ref C_NoFit) = some true)
    (g_BadText : PySem.W.nsIn K mainGlobals "BadText" = some (some (.ref C_BadText))) (xl_BadText : K.lookup C_BadText = some (excClassObj nm_BadText qn_BadText C_BadText nn_BadText bs_BadText (.ref C_WritingError :: [.type "ValueError", .type "Exception", .type "BaseException", .type "object"]) true sn_BadText sb_BadText ab_BadText cl_BadText dd_BadText m0_BadText m1_BadText m2_BadText m3_BadText m5_BadText "ValueError.__new__"))
    (sa_BadText : PySem.W.findIn K (.ref C_BadText) "__setattr__" = some (some (.builtin "object.__setattr__"))) (gt_BadText : PySem.W.findIn K (.ref C_BadText) "__getattribute__" = some (some (.builtin "BaseException.__getattribute__"))) (gg_BadText : PySem.W.findIn K (.ref C_BadText) "__getattr__" = some none)
    (ii_BadText : PySem.W.findIn K (.ref C_BadText) "__init__" = some (some (.ref fi_BadText))) (ti_BadText : PySem.W.typeIn K (.ref fi_BadText) = some (.type "function"))
    (li_BadText : K.lookup fi_BadText = some ⟨oc_BadText, od_BadText, .func (PySem.W.fnOf "__init__" "BadText.__init__" (defArgs si_BadText) (defBody si_BadText) (defScope si_BadText) .none kV_BadText dc_BadText pm_BadText an_BadText cd_BadText ct_BadText), sl_BadText⟩) (ci_BadText : PySem.W.codeIn K cd_BadText "BadText.__init__" = true) (ki_BadText : PySem.W.keepIn K (.ref fi_BadText) = true)
    (kC_BadText : PySem.W.keepIn K (.ref C_BadText) = true) (eC_BadText : PySem.W.subIn K (.ref C_BadText) (.type "BaseException") = some true) (tC_BadText : PySem.W.typeIn K (.ref C_BadText) = some (.type "type")) (hC_BadText : PySem.W.hasDictIn K C_BadText = true) (iC_BadText : PySem.W.isClsIn K C_BadText = true) (sC_BadText : PySem.W.subIn K (.ref C_BadText) (.ref C_BadText) = some true)
    (nf_BadText : PySem.W.findIn K (.ref C_BadText) "line" = some none)
    (g_NoLine : PySem.W.nsIn K mainGlobals "NoLine" = some (some (.ref C_NoLine))) (xl_NoLine : K.lookup C_NoLine = some (excClassObj nm_NoLine qn_NoLine C_NoLine nn_NoLine bs_NoLine (.ref C_WritingError :: [.type "ValueError", .type "Exception", .type "BaseException", .type "object"]) true sn_NoLine sb_NoLine ab_NoLine cl_NoLine dd_NoLine m0_NoLine m1_NoLine m2_NoLine m3_NoLine m5_NoLine "ValueError.__new__"))
    (sa_NoLine : PySem.W.findIn K (.ref C_NoLine) "__setattr__" = some (some (.builtin "object.__setattr__"))) (gt_NoLine : PySem.W.findIn K (.ref C_NoLine) "__getattribute__" = some (some (.builtin "BaseException.__getattribute__"))) (gg_NoLine : PySem.W.findIn K (.ref C_NoLine) "__getattr__" = some none)
    (ii_NoLine : PySem.W.findIn K (.ref C_NoLine) "__init__" = some (some (.ref fi_NoLine))) (ti_NoLine : PySem.W.typeIn K (.ref fi_NoLine) = some (.type "function"))
    (li_NoLine : K.lookup fi_NoLine = some ⟨oc_NoLine, od_NoLine, .func (PySem.W.fnOf "__init__" "NoLine.__init__" (defArgs si_NoLine) (defBody si_NoLine) (defScope si_NoLine) .none kV_NoLine dc_NoLine pm_NoLine an_NoLine cd_NoLine ct_NoLine), sl_NoLine⟩) (ci_NoLine : PySem.W.codeIn K cd_NoLine "NoLine.__init__" = true) (ki_NoLine : PySem.W.keepIn K (.ref fi_NoLine) = true)
    (kC_NoLine : PySem.W.keepIn K (.ref C_NoLine) = true) (eC_NoLine : PySem.W.subIn K (.ref C_NoLine) (.type "BaseException") = some true) (tC_NoLine : PySem.W.typeIn K (.ref C_NoLine) = some (.type "type")) (hC_NoLine : PySem.W.hasDictIn K C_NoLine = true) (iC_NoLine : PySem.W.isClsIn K C_NoLine = true) (sC_NoLine : PySem.W.subIn K (.ref C_NoLine) (.ref C_NoLine) = some true)
    (g_NoName : PySem.W.nsIn K mainGlobals "NoName" = some (some (.ref C_NoName))) (xl_NoName : K.lookup C_NoName = some (excClassObj nm_NoName qn_NoName C_NoName nn_NoName bs_NoName (.ref C_WritingError :: [.type "ValueError", .type "Exception", .type "BaseException", .type "object"]) true sn_NoName sb_NoName ab_NoName cl_NoName dd_NoName m0_NoName m1_NoName m2_NoName m3_NoName m5_NoName "ValueError.__new__"))
    (sa_NoName : PySem.W.findIn K (.ref C_NoName) "__setattr__" = some (some (.builtin "object.__setattr__"))) (gt_NoName : PySem.W.findIn K (.ref C_NoName) "__getattribute__" = some (some (.builtin "BaseException.__getattribute__"))) (gg_NoName : PySem.W.findIn K (.ref C_NoName) "__getattr__" = some none)
    (ii_NoName : PySem.W.findIn K (.ref C_NoName) "__init__" = some (some (.ref fi_NoName))) (ti_NoName : PySem.W.typeIn K (.ref fi_NoName) = some (.type "function"))
    (li_NoName : K.lookup fi_NoName = some ⟨oc_NoName, od_NoName, .func (PySem.W.fnOf "__init__" "NoName.__init__" (defArgs si_NoName) (defBody si_NoName) (defScope si_NoName) .none kV_NoName dc_NoName pm_NoName an_NoName cd_NoName ct_NoName), sl_NoName⟩) (ci_NoName : PySem.W.codeIn K cd_NoName "NoName.__init__" = true) (ki_NoName : PySem.W.keepIn K (.ref fi_NoName) = true)
    (kC_NoName : PySem.W.keepIn K (.ref C_NoName) = true) (eC_NoName : PySem.W.subIn K (.ref C_NoName) (.type "BaseException") = some true) (tC_NoName : PySem.W.typeIn K (.ref C_NoName) = some (.type "type")) (hC_NoName : PySem.W.hasDictIn K C_NoName = true) (iC_NoName : PySem.W.isClsIn K C_NoName = true) (sC_NoName : PySem.W.subIn K (.ref C_NoName) (.ref C_NoName) = some true)
    (nf_NoName : PySem.W.findIn K (.ref C_NoName) "name" = some none)
    (iW_ : PySem.W.mroIn K C_WritingError (.type "object") = some true) (tW_ : PySem.W.typeIn K (.ref C_WritingError) = some (.type "type")) (nd_ : [C_WritingError, C_NoBase, C_NoRow, C_NoNumber, C_NoMany, C_NoState, C_NoDigits, C_NoWriting, C_Unsound, C_NoFraction, C_OtherBase, C_NoChances, C_NoTurns, C_NoHand, C_NoChoices, C_NoDigit, C_NothingDone, C_NoFit, C_NoLine, C_TooMany, C_BadMachine, C_NotWithin, C_BadDust, C_BadAnswer, C_BadText, C_NoName].Nodup)
    (ac_NoBase : PySem.W.findIn K (.ref C_NoBase) "__class__" = some (some (.builtin "object.__class__"))) (mc_NoBase : PySem.W.mroIn K C_NoBase (.type "object") = some true) (sv_NoBase : PySem.W.subIn K (.ref C_NoBase) (.type "ValueError") = some true)
    (ac_NoRow : PySem.W.findIn K (.ref C_NoRow) "__class__" = some (some (.builtin "object.__class__"))) (mc_NoRow : PySem.W.mroIn K C_NoRow (.type "object") = some true) (sv_NoRow : PySem.W.subIn K (.ref C_NoRow) (.type "ValueError") = some true)
    (ac_NoNumber : PySem.W.findIn K (.ref C_NoNumber) "__class__" = some (some (.builtin "object.__class__"))) (mc_NoNumber : PySem.W.mroIn K C_NoNumber (.type "object") = some true) (sv_NoNumber : PySem.W.subIn K (.ref C_NoNumber) (.type "ValueError") = some true)
    (ac_NoMany : PySem.W.findIn K (.ref C_NoMany) "__class__" = some (some (.builtin "object.__class__"))) (mc_NoMany : PySem.W.mroIn K C_NoMany (.type "object") = some true) (sv_NoMany : PySem.W.subIn K (.ref C_NoMany) (.type "ValueError") = some true)
    (ac_NoState : PySem.W.findIn K (.ref C_NoState) "__class__" = some (some (.builtin "object.__class__"))) (mc_NoState : PySem.W.mroIn K C_NoState (.type "object") = some true) (sv_NoState : PySem.W.subIn K (.ref C_NoState) (.type "ValueError") = some true)
    (ac_NoDigits : PySem.W.findIn K (.ref C_NoDigits) "__class__" = some (some (.builtin "object.__class__"))) (mc_NoDigits : PySem.W.mroIn K C_NoDigits (.type "object") = some true) (sv_NoDigits : PySem.W.subIn K (.ref C_NoDigits) (.type "ValueError") = some true)
    (ac_NoWriting : PySem.W.findIn K (.ref C_NoWriting) "__class__" = some (some (.builtin "object.__class__"))) (mc_NoWriting : PySem.W.mroIn K C_NoWriting (.type "object") = some true) (sv_NoWriting : PySem.W.subIn K (.ref C_NoWriting) (.type "ValueError") = some true)
    (ac_Unsound : PySem.W.findIn K (.ref C_Unsound) "__class__" = some (some (.builtin "object.__class__"))) (mc_Unsound : PySem.W.mroIn K C_Unsound (.type "object") = some true) (sv_Unsound : PySem.W.subIn K (.ref C_Unsound) (.type "ValueError") = some true)
    (ac_NoFraction : PySem.W.findIn K (.ref C_NoFraction) "__class__" = some (some (.builtin "object.__class__"))) (mc_NoFraction : PySem.W.mroIn K C_NoFraction (.type "object") = some true) (sv_NoFraction : PySem.W.subIn K (.ref C_NoFraction) (.type "ValueError") = some true)
    (ac_OtherBase : PySem.W.findIn K (.ref C_OtherBase) "__class__" = some (some (.builtin "object.__class__"))) (mc_OtherBase : PySem.W.mroIn K C_OtherBase (.type "object") = some true) (sv_OtherBase : PySem.W.subIn K (.ref C_OtherBase) (.type "ValueError") = some true)
    (ac_NoChances : PySem.W.findIn K (.ref C_NoChances) "__class__" = some (some (.builtin "object.__class__"))) (mc_NoChances : PySem.W.mroIn K C_NoChances (.type "object") = some true) (sv_NoChances : PySem.W.subIn K (.ref C_NoChances) (.type "ValueError") = some true)
    (ac_NoTurns : PySem.W.findIn K (.ref C_NoTurns) "__class__" = some (some (.builtin "object.__class__"))) (mc_NoTurns : PySem.W.mroIn K C_NoTurns (.type "object") = some true) (sv_NoTurns : PySem.W.subIn K (.ref C_NoTurns) (.type "ValueError") = some true)
    (ac_NoHand : PySem.W.findIn K (.ref C_NoHand) "__class__" = some (some (.builtin "object.__class__"))) (mc_NoHand : PySem.W.mroIn K C_NoHand (.type "object") = some true) (sv_NoHand : PySem.W.subIn K (.ref C_NoHand) (.type "ValueError") = some true)
    (ac_NoChoices : PySem.W.findIn K (.ref C_NoChoices) "__class__" = some (some (.builtin "object.__class__"))) (mc_NoChoices : PySem.W.mroIn K C_NoChoices (.type "object") = some true) (sv_NoChoices : PySem.W.subIn K (.ref C_NoChoices) (.type "ValueError") = some true)
    (ac_NoDigit : PySem.W.findIn K (.ref C_NoDigit) "__class__" = some (some (.builtin "object.__class__"))) (mc_NoDigit : PySem.W.mroIn K C_NoDigit (.type "object") = some true) (sv_NoDigit : PySem.W.subIn K (.ref C_NoDigit) (.type "ValueError") = some true)
    (ac_NothingDone : PySem.W.findIn K (.ref C_NothingDone) "__class__" = some (some (.builtin "object.__class__"))) (mc_NothingDone : PySem.W.mroIn K C_NothingDone (.type "object") = some true) (sv_NothingDone : PySem.W.subIn K (.ref C_NothingDone) (.type "ValueError") = some true)
    (ac_NoFit : PySem.W.findIn K (.ref C_NoFit) "__class__" = some (some (.builtin "object.__class__"))) (mc_NoFit : PySem.W.mroIn K C_NoFit (.type "object") = some true) (sv_NoFit : PySem.W.subIn K (.ref C_NoFit) (.type "ValueError") = some true)
    (ac_NoLine : PySem.W.findIn K (.ref C_NoLine) "__class__" = some (some (.builtin "object.__class__"))) (mc_NoLine : PySem.W.mroIn K C_NoLine (.type "object") = some true) (sv_NoLine : PySem.W.subIn K (.ref C_NoLine) (.type "ValueError") = some true)
    (ac_TooMany : PySem.W.findIn K (.ref C_TooMany) "__class__" = some (some (.builtin "object.__class__"))) (mc_TooMany : PySem.W.mroIn K C_TooMany (.type "object") = some true) (sv_TooMany : PySem.W.subIn K (.ref C_TooMany) (.type "ValueError") = some true)
    (ac_BadMachine : PySem.W.findIn K (.ref C_BadMachine) "__class__" = some (some (.builtin "object.__class__"))) (mc_BadMachine : PySem.W.mroIn K C_BadMachine (.type "object") = some true) (sv_BadMachine : PySem.W.subIn K (.ref C_BadMachine) (.type "ValueError") = some true)
    (ac_NotWithin : PySem.W.findIn K (.ref C_NotWithin) "__class__" = some (some (.builtin "object.__class__"))) (mc_NotWithin : PySem.W.mroIn K C_NotWithin (.type "object") = some true) (sv_NotWithin : PySem.W.subIn K (.ref C_NotWithin) (.type "ValueError") = some true)
    (ac_BadDust : PySem.W.findIn K (.ref C_BadDust) "__class__" = some (some (.builtin "object.__class__"))) (mc_BadDust : PySem.W.mroIn K C_BadDust (.type "object") = some true) (sv_BadDust : PySem.W.subIn K (.ref C_BadDust) (.type "ValueError") = some true)
    (ac_BadAnswer : PySem.W.findIn K (.ref C_BadAnswer) "__class__" = some (some (.builtin "object.__class__"))) (mc_BadAnswer : PySem.W.mroIn K C_BadAnswer (.type "object") = some true) (sv_BadAnswer : PySem.W.subIn K (.ref C_BadAnswer) (.type "ValueError") = some true)
    (ac_BadText : PySem.W.findIn K (.ref C_BadText) "__class__" = some (some (.builtin "object.__class__"))) (mc_BadText : PySem.W.mroIn K C_BadText (.type "object") = some true) (sv_BadText : PySem.W.subIn K (.ref C_BadText) (.type "ValueError") = some true)
    (ac_NoName : PySem.W.findIn K (.ref C_NoName) "__class__" = some (some (.builtin "object.__class__"))) (mc_NoName : PySem.W.mroIn K C_NoName (.type "object") = some true) (sv_NoName : PySem.W.subIn K (.ref C_NoName) (.type "ValueError") = some true)
    (nc_ : PySem.W.specialIn K (.builtin "object.__class__") "__get__" = some (some (.builtin "getset_descriptor.__get__"))) (tc_ : PySem.W.takesIn K (.builtin "object.__class__") = some true)
    (n_ValueError : PySem.W.nsIn K mainGlobals "ValueError" = some none)
    (n_abs : PySem.W.nsIn K mainGlobals "abs" = some none)
    (n_int : PySem.W.nsIn K mainGlobals "int" = some none)
    (n_isinstance : PySem.W.nsIn K mainGlobals "isinstance" = some none)
    (n_len : PySem.W.nsIn K mainGlobals "len" = some none)
    (n_range : PySem.W.nsIn K mainGlobals "range" = some none)
    (n_repr : PySem.W.nsIn K mainGlobals "repr" = some none)
    (n_set : PySem.W.nsIn K mainGlobals "set" = some none) :
    ∃ fd : FuncData, (∀ (s : Shared) (v : Value), BindsTo s fd ⟨[v], []⟩ [("script", v)]) ∧ ∀ base : Heap, K.In base → base.Ns mainGlobals mg → FnG l.prog w K mg base 5 fa fd ["script"] (spLaw K) := by
  have e := hfa.symm.trans (PySem.W.mg_of X G a_law)
  cases e
  have T : Txt K mg := ⟨⟨⟨_, PySem.W.mg_of X G g_WritingError, ga_WritingError, rd_WritingError, fc_WritingError⟩⟩,
    ⟨⟨_, _, _, PySem.W.mg_of X G g_NoBase, ⟨⟨_, _, _, _, _, _, _, _, _, _, _, _, _, _, _, xl_NoBase, by rfl⟩, sa_NoBase, eC_NoBase, tC_NoBase, kC_NoBase⟩, ii_NoBase, ti_NoBase, fun_mk (st := si_NoBase) li_NoBase ci_NoBase ki_NoBase, exm_same eC_NoBase iC_NoBase tC_NoBase sC_NoBase, ⟨gt_NoBase, gg_NoBase, eC_NoBase, hC_NoBase⟩, (fun f hf => by cases hf)⟩⟩,
    ⟨⟨_, _, _, PySem.W.mg_of X G g_NoRow, ⟨⟨_, _, _, _, _, _, _, _, _, _, _, _, _, _, _, xl_NoRow, by rfl⟩, sa_NoRow, eC_NoRow, tC_NoRow, kC_NoRow⟩, ii_NoRow, ti_NoRow, fun_mk (st := si_NoRow) li_NoRow ci_NoRow ki_NoRow, exm_same eC_NoRow iC_NoRow tC_NoRow sC_NoRow, ⟨gt_NoRow, gg_NoRow, eC_NoRow, hC_NoRow⟩, (fun f hf => by cases hf)⟩⟩,
    ⟨⟨_, _, _, PySem.W.mg_of X G g_NoNumber, ⟨⟨_, _, _, _, _, _, _, _, _, _, _, _, _, _, _, xl_NoNumber, by rfl⟩, sa_NoNumber, eC_NoNumber, tC_NoNumber, kC_NoNumber⟩, ii_NoNumber, ti_NoNumber, fun_mk (st := si_NoNumber) li_NoNumber ci_NoNumber ki_NoNumber, exm_same eC_NoNumber iC_NoNumber tC_NoNumber sC_NoNumber, ⟨gt_NoNumber, gg_NoNumber, eC_NoNumber, hC_NoNumber⟩, (fun f hf => by cases hf)⟩⟩,
    ⟨⟨_, _, _, PySem.W.mg_of X G g_NoMany, ⟨⟨_, _, _, _, _, _, _, _, _, _, _, _, _, _, _, xl_NoMany, by rfl⟩, sa_NoMany, eC_NoMany, tC_NoMany, kC_NoMany⟩, ii_NoMany, ti_NoMany, fun_mk (st := si_NoMany) li_NoMany ci_NoMany ki_NoMany, exm_same eC_NoMany iC_NoMany tC_NoMany sC_NoMany, ⟨gt_NoMany, gg_NoMany, eC_NoMany, hC_NoMany⟩, (fun f hf => by cases hf)⟩⟩,
    ⟨⟨_, _, _, PySem.W.mg_of X G g_TooMany, ⟨⟨_, _, _, _, _, _, _, _, _, _, _, _, _, _, _, xl_TooMany, by rfl⟩, sa_TooMany, eC_TooMany, tC_TooMany, kC_TooMany⟩, ii_TooMany, ti_TooMany, fun_mk (st := si_TooMany) li_TooMany ci_TooMany ki_TooMany, exm_same eC_TooMany iC_TooMany tC_TooMany sC_TooMany, ⟨gt_TooMany, gg_TooMany, eC_TooMany, hC_TooMany⟩, (fun f hf => by cases hf with | head => exact nf_TooMany | tail _ z => cases z)⟩⟩,
    ⟨⟨_, _, _, PySem.W.mg_of X G g_BadMachine, ⟨⟨_, _, _, _, _, _, _, _, _, _, _, _, _, _, _, xl_BadMachine, by rfl⟩, sa_BadMachine, eC_BadMachine, tC_BadMachine, kC_BadMachine⟩, ii_BadMachine, ti_BadMachine, fun_mk (st := si_BadMachine) li_BadMachine ci_BadMachine ki_BadMachine, exm_same eC_BadMachine iC_BadMachine tC_BadMachine sC_BadMachine, ⟨gt_BadMachine, gg_BadMachine, eC_BadMachine, hC_BadMachine⟩, (fun f hf => by cases hf with | head => exact nf_BadMachine | tail _ z => cases z)⟩⟩,
    ⟨⟨_, _, _, PySem.W.mg_of X G g_NoState, ⟨⟨_, _, _, _, _, _, _, _, _, _, _, _, _, _, _, xl_NoState, by rfl⟩, sa_NoState, eC_NoState, tC_NoState, kC_NoState⟩, ii_NoState, ti_NoState, fun_mk (st := si_NoState) li_NoState ci_NoState ki_NoState, exm_same eC_NoState iC_NoState tC_NoState sC_NoState, ⟨gt_NoState, gg_NoState, eC_NoState, hC_NoState⟩, (fun f hf => by cases hf)⟩⟩,
    ⟨⟨_, _, _, PySem.W.mg_of X G g_NoDigits, ⟨⟨_, _, _, _, _, _, _, _, _, _, _, _, _, _, _, xl_NoDigits, by rfl⟩, sa_NoDigits, eC_NoDigits, tC_NoDigits, kC_NoDigits⟩, ii_NoDigits, ti_NoDigits, fun_mk (st := si_NoDigits) li_NoDigits ci_NoDigits ki_NoDigits, exm_same eC_NoDigits iC_NoDigits tC_NoDigits sC_NoDigits, ⟨gt_NoDigits, gg_NoDigits, eC_NoDigits, hC_NoDigits⟩, (fun f hf => by cases hf)⟩⟩,
    ⟨⟨_, _, _, PySem.W.mg_of X G g_NoWriting, ⟨⟨_, _, _, _, _, _, _, _, _, _, _, _, _, _, _, xl_NoWriting, by rfl⟩, sa_NoWriting, eC_NoWriting, tC_NoWriting, kC_NoWriting⟩, ii_NoWriting, ti_NoWriting, fun_mk (st := si_NoWriting) li_NoWriting ci_NoWriting ki_NoWriting, exm_same eC_NoWriting iC_NoWriting tC_NoWriting sC_NoWriting, ⟨gt_NoWriting, gg_NoWriting, eC_NoWriting, hC_NoWriting⟩, (fun f hf => by cases hf)⟩⟩,
    ⟨⟨_, _, _, PySem.W.mg_of X G g_Unsound, ⟨⟨_, _, _, _, _, _, _, _, _, _, _, _, _, _, _, xl_Unsound, by rfl⟩, sa_Unsound, eC_Unsound, tC_Unsound, kC_Unsound⟩, ii_Unsound, ti_Unsound, fun_mk (st := si_Unsound) li_Unsound ci_Unsound ki_Unsound, exm_same eC_Unsound iC_Unsound tC_Unsound sC_Unsound, ⟨gt_Unsound, gg_Unsound, eC_Unsound, hC_Unsound⟩, (fun f hf => by cases hf)⟩⟩,
    ⟨⟨_, _, _, PySem.W.mg_of X G g_NoFraction, ⟨⟨_, _, _, _, _, _, _, _, _, _, _, _, _, _, _, xl_NoFraction, by rfl⟩, sa_NoFraction, eC_NoFraction, tC_NoFraction, kC_NoFraction⟩, ii_NoFraction, ti_NoFraction, fun_mk (st := si_NoFraction) li_NoFraction ci_NoFraction ki_NoFraction, exm_same eC_NoFraction iC_NoFraction tC_NoFraction sC_NoFraction, ⟨gt_NoFraction, gg_NoFraction, eC_NoFraction, hC_NoFraction⟩, (fun f hf => by cases hf)⟩⟩,
    ⟨⟨_, _, _, PySem.W.mg_of X G g_OtherBase, ⟨⟨_, _, _, _, _, _, _, _, _, _, _, _, _, _, _, xl_OtherBase, by rfl⟩, sa_OtherBase, eC_OtherBase, tC_OtherBase, kC_OtherBase⟩, ii_OtherBase, ti_OtherBase, fun_mk (st := si_OtherBase) li_OtherBase ci_OtherBase ki_OtherBase, exm_same eC_OtherBase iC_OtherBase tC_OtherBase sC_OtherBase, ⟨gt_OtherBase, gg_OtherBase, eC_OtherBase, hC_OtherBase⟩, (fun f hf => by cases hf)⟩⟩,
    ⟨⟨_, _, _, PySem.W.mg_of X G g_NotWithin, ⟨⟨_, _, _, _, _, _, _, _, _, _, _, _, _, _, _, xl_NotWithin, by rfl⟩, sa_NotWithin, eC_NotWithin, tC_NotWithin, kC_NotWithin⟩, ii_NotWithin, ti_NotWithin, fun_mk (st := si_NotWithin) li_NotWithin ci_NotWithin ki_NotWithin, exm_same eC_NotWithin iC_NotWithin tC_NotWithin sC_NotWithin, ⟨gt_NotWithin, gg_NotWithin, eC_NotWithin, hC_NotWithin⟩, (fun f hf => by cases hf with | head => exact nf_NotWithin | tail _ z => cases z)⟩⟩,
    ⟨⟨_, _, _, PySem.W.mg_of X G g_NoChances, ⟨⟨_, _, _, _, _, _, _, _, _, _, _, _, _, _, _, xl_NoChances, by rfl⟩, sa_NoChances, eC_NoChances, tC_NoChances, kC_NoChances⟩, ii_NoChances, ti_NoChances, fun_mk (st := si_NoChances) li_NoChances ci_NoChances ki_NoChances, exm_same eC_NoChances iC_NoChances tC_NoChances sC_NoChances, ⟨gt_NoChances, gg_NoChances, eC_NoChances, hC_NoChances⟩, (fun f hf => by cases hf)⟩⟩,
    ⟨⟨_, _, _, PySem.W.mg_of X G g_NoTurns, ⟨⟨_, _, _, _, _, _, _, _, _, _, _, _, _, _, _, xl_NoTurns, by rfl⟩, sa_NoTurns, eC_NoTurns, tC_NoTurns, kC_NoTurns⟩, ii_NoTurns, ti_NoTurns, fun_mk (st := si_NoTurns) li_NoTurns ci_NoTurns ki_NoTurns, exm_same eC_NoTurns iC_NoTurns tC_NoTurns sC_NoTurns, ⟨gt_NoTurns, gg_NoTurns, eC_NoTurns, hC_NoTurns⟩, (fun f hf => by cases hf)⟩⟩,
    ⟨⟨_, _, _, PySem.W.mg_of X G g_NoHand, ⟨⟨_, _, _, _, _, _, _, _, _, _, _, _, _, _, _, xl_NoHand, by rfl⟩, sa_NoHand, eC_NoHand, tC_NoHand, kC_NoHand⟩, ii_NoHand, ti_NoHand, fun_mk (st := si_NoHand) li_NoHand ci_NoHand ki_NoHand, exm_same eC_NoHand iC_NoHand tC_NoHand sC_NoHand, ⟨gt_NoHand, gg_NoHand, eC_NoHand, hC_NoHand⟩, (fun f hf => by cases hf)⟩⟩,
    ⟨⟨_, _, _, PySem.W.mg_of X G g_NoChoices, ⟨⟨_, _, _, _, _, _, _, _, _, _, _, _, _, _, _, xl_NoChoices, by rfl⟩, sa_NoChoices, eC_NoChoices, tC_NoChoices, kC_NoChoices⟩, ii_NoChoices, ti_NoChoices, fun_mk (st := si_NoChoices) li_NoChoices ci_NoChoices ki_NoChoices, exm_same eC_NoChoices iC_NoChoices tC_NoChoices sC_NoChoices, ⟨gt_NoChoices, gg_NoChoices, eC_NoChoices, hC_NoChoices⟩, (fun f hf => by cases hf)⟩⟩,
    ⟨⟨_, _, _, PySem.W.mg_of X G g_BadDust, ⟨⟨_, _, _, _, _, _, _, _, _, _, _, _, _, _, _, xl_BadDust, by rfl⟩, sa_BadDust, eC_BadDust, tC_BadDust, kC_BadDust⟩, ii_BadDust, ti_BadDust, fun_mk (st := si_BadDust) li_BadDust ci_BadDust ki_BadDust, exm_same eC_BadDust iC_BadDust tC_BadDust sC_BadDust, ⟨gt_BadDust, gg_BadDust, eC_BadDust, hC_BadDust⟩, (fun f hf => by cases hf with | head => exact nf_BadDust | tail _ z => cases z)⟩⟩,
    ⟨⟨_, _, _, PySem.W.mg_of X G g_NoDigit, ⟨⟨_, _, _, _, _, _, _, _, _, _, _, _, _, _, _, xl_NoDigit, by rfl⟩, sa_NoDigit, eC_NoDigit, tC_NoDigit, kC_NoDigit⟩, ii_NoDigit, ti_NoDigit, fun_mk (st := si_NoDigit) li_NoDigit ci_NoDigit ki_NoDigit, exm_same eC_NoDigit iC_NoDigit tC_NoDigit sC_NoDigit, ⟨gt_NoDigit, gg_NoDigit, eC_NoDigit, hC_NoDigit⟩, (fun f hf => by cases hf)⟩⟩,
    ⟨⟨_, _, _, PySem.W.mg_of X G g_NothingDone, ⟨⟨_, _, _, _, _, _, _, _, _, _, _, _, _, _, _, xl_NothingDone, by rfl⟩, sa_NothingDone, eC_NothingDone, tC_NothingDone, kC_NothingDone⟩, ii_NothingDone, ti_NothingDone, fun_mk (st := si_NothingDone) li_NothingDone ci_NothingDone ki_NothingDone, exm_same eC_NothingDone iC_NothingDone tC_NothingDone sC_NothingDone, ⟨gt_NothingDone, gg_NothingDone, eC_NothingDone, hC_NothingDone⟩, (fun f hf => by cases hf)⟩⟩,
    ⟨⟨_, _, _, PySem.W.mg_of X G g_BadAnswer, ⟨⟨_, _, _, _, _, _, _, _, _, _, _, _, _, _, _, xl_BadAnswer, by rfl⟩, sa_BadAnswer, eC_BadAnswer, tC_BadAnswer, kC_BadAnswer⟩, ii_BadAnswer, ti_BadAnswer, fun_mk (st := si_BadAnswer) li_BadAnswer ci_BadAnswer ki_BadAnswer, exm_same eC_BadAnswer iC_BadAnswer tC_BadAnswer sC_BadAnswer, ⟨gt_BadAnswer, gg_BadAnswer, eC_BadAnswer, hC_BadAnswer⟩, (fun f hf => by cases hf with | head => exact nf_BadAnswer | tail _ z => cases z)⟩⟩,
    ⟨⟨_, _, _, PySem.W.mg_of X G g_NoFit, ⟨⟨_, _, _, _, _, _, _, _, _, _, _, _, _, _, _, xl_NoFit, by rfl⟩, sa_NoFit, eC_NoFit, tC_NoFit, kC_NoFit⟩, ii_NoFit, ti_NoFit, fun_mk (st := si_NoFit) li_NoFit ci_NoFit ki_NoFit, exm_same eC_NoFit iC_NoFit tC_NoFit sC_NoFit, ⟨gt_NoFit, gg_NoFit, eC_NoFit, hC_NoFit⟩, (fun f hf => by cases hf)⟩⟩,
    ⟨⟨_, _, _, PySem.W.mg_of X G g_BadText, ⟨⟨_, _, _, _, _, _, _, _, _, _, _, _, _, _, _, xl_BadText, by rfl⟩, sa_BadText, eC_BadText, tC_BadText, kC_BadText⟩, ii_BadText, ti_BadText, fun_mk (st := si_BadText) li_BadText ci_BadText ki_BadText, exm_same eC_BadText iC_BadText tC_BadText sC_BadText, ⟨gt_BadText, gg_BadText, eC_BadText, hC_BadText⟩, (fun f hf => by cases hf with | head => exact nf_BadText | tail _ z => cases z)⟩⟩,
    ⟨⟨_, _, _, PySem.W.mg_of X G g_NoLine, ⟨⟨_, _, _, _, _, _, _, _, _, _, _, _, _, _, _, xl_NoLine, by rfl⟩, sa_NoLine, eC_NoLine, tC_NoLine, kC_NoLine⟩, ii_NoLine, ti_NoLine, fun_mk (st := si_NoLine) li_NoLine ci_NoLine ki_NoLine, exm_same eC_NoLine iC_NoLine tC_NoLine sC_NoLine, ⟨gt_NoLine, gg_NoLine, eC_NoLine, hC_NoLine⟩, (fun f hf => by cases hf)⟩⟩,
    ⟨⟨_, _, _, PySem.W.mg_of X G g_NoName, ⟨⟨_, _, _, _, _, _, _, _, _, _, _, _, _, _, _, xl_NoName, by rfl⟩, sa_NoName, eC_NoName, tC_NoName, kC_NoName⟩, ii_NoName, ti_NoName, fun_mk (st := si_NoName) li_NoName ci_NoName ki_NoName, exm_same eC_NoName iC_NoName tC_NoName sC_NoName, ⟨gt_NoName, gg_NoName, eC_NoName, hC_NoName⟩, (fun f hf => by cases hf with | head => exact nf_NoName | tail _ z => cases z)⟩⟩,
    ⟨⟨_, _, PySem.W.mg_of X G a_law_hand, fun_mk (st := s_law_hand) l_law_hand c_law_hand k_law_hand⟩⟩,
    ⟨⟨_, _, PySem.W.mg_of X G a_law_mixed, fun_mk (st := s_law_mixed) l_law_mixed c_law_mixed k_law_mixed⟩⟩,
    ⟨⟨_, _, PySem.W.mg_of X G a_law_draw, fun_mk (st := s_law_draw) l_law_draw c_law_draw k_law_draw⟩⟩,
    ⟨⟨_, _, PySem.W.mg_of X G a_law_any, fun_mk (st := s_law_any) l_law_any c_law_any k_law_any⟩⟩,
    ⟨⟨_, _, PySem.W.mg_of X G a_law_deep, fun_mk (st := s_law_deep) l_law_deep c_law_deep k_law_deep⟩⟩,
    ⟨⟨_, _, PySem.W.mg_of X G a_law_with_field, fun_mk (st := s_law_with_field) l_law_with_field c_law_with_field k_law_with_field⟩⟩,
    ⟨⟨_, _, PySem.W.mg_of X G a_law_plain, fun_mk (st := s_law_plain) l_law_plain c_law_plain k_law_plain⟩⟩,
    ⟨⟨_, _, PySem.W.mg_of X G a_law_kinds, fun_mk (st := s_law_kinds) l_law_kinds c_law_kinds k_law_kinds⟩⟩,
    ⟨⟨_, _, PySem.W.mg_of X G a_law, fun_mk (st := s_law) l_law c_law k_law⟩⟩,
    ⟨C_WritingError, [("NoBase", C_NoBase), ("NoRow", C_NoRow), ("NoNumber", C_NoNumber), ("NoMany", C_NoMany), ("NoState", C_NoState), ("NoDigits", C_NoDigits), ("NoWriting", C_NoWriting), ("Unsound", C_Unsound), ("NoFraction", C_NoFraction), ("OtherBase", C_OtherBase), ("NoChances", C_NoChances), ("NoTurns", C_NoTurns), ("NoHand", C_NoHand), ("NoChoices", C_NoChoices), ("NoDigit", C_NoDigit), ("NothingDone", C_NothingDone), ("NoFit", C_NoFit), ("NoLine", C_NoLine), ("TooMany", C_TooMany), ("BadMachine", C_BadMachine), ("NotWithin", C_NotWithin), ("BadDust", C_BadDust), ("BadAnswer", C_BadAnswer), ("BadText", C_BadText), ("NoName", C_NoName)], rfl, ⟨PySem.W.mg_of X G g_WritingError, cls_of_mro iW_, tW_, (List.forall_mem_cons.mpr ⟨⟨PySem.W.mg_of X G g_NoBase, ⟨gt_NoBase, gg_NoBase, eC_NoBase, hC_NoBase, ac_NoBase, nc_, tc_, mc_NoBase⟩, fun c => (sub_exc c xl_NoBase).1, sv_NoBase, (sub_exc C_NoBase xl_NoBase).2, tC_NoBase⟩, (List.forall_mem_cons.mpr ⟨⟨PySem.W.mg_of X G g_NoRow, ⟨gt_NoRow, gg_NoRow, eC_NoRow, hC_NoRow, ac_NoRow, nc_, tc_, mc_NoRow⟩, fun c => (sub_exc c xl_NoRow).1, sv_NoRow, (sub_exc C_NoRow xl_NoRow).2, tC_NoRow⟩, (List.forall_mem_cons.mpr ⟨⟨PySem.W.mg_of X G g_NoNumber, ⟨gt_NoNumber, gg_NoNumber, eC_NoNumber, hC_NoNumber, ac_NoNumber, nc_, tc_, mc_NoNumber⟩, fun c => (sub_exc c xl_NoNumber).1, sv_NoNumber, (sub_exc C_NoNumber xl_NoNumber).2, tC_NoNumber⟩, (List.forall_mem_cons.mpr ⟨⟨PySem.W.mg_of X G g_NoMany, ⟨gt_NoMany, gg_NoMany, eC_NoMany, hC_NoMany, ac_NoMany, nc_, tc_, mc_NoMany⟩, fun c => (sub_exc c xl_NoMany).1, sv_NoMany, (sub_exc C_NoMany xl_NoMany).2, tC_NoMany⟩, (List.forall_mem_cons.mpr ⟨⟨PySem.W.mg_of X G g_NoState, ⟨gt_NoState, gg_NoState, eC_NoState, hC_NoState, ac_NoState, nc_, tc_, mc_NoState⟩, fun c => (sub_exc c xl_NoState).1, sv_NoState, (sub_exc C_NoState xl_NoState).2, tC_NoState⟩, (List.forall_mem_cons.mpr ⟨⟨PySem.W.mg_of X G g_NoDigits, ⟨gt_NoDigits, gg_NoDigits, eC_NoDigits, hC_NoDigits, ac_NoDigits, nc_, tc_, mc_NoDigits⟩, fun c => (sub_exc c xl_NoDigits).1, sv_NoDigits, (sub_exc C_NoDigits xl_NoDigits).2, tC_NoDigits⟩, (List.forall_mem_cons.mpr ⟨⟨PySem.W.mg_of X G g_NoWriting, ⟨gt_NoWriting, gg_NoWriting, eC_NoWriting, hC_NoWriting, ac_NoWriting, nc_, tc_, mc_NoWriting⟩, fun c => (sub_exc c xl_NoWriting).1, sv_NoWriting, (sub_exc C_NoWriting xl_NoWriting).2, tC_NoWriting⟩, (List.forall_mem_cons.mpr ⟨⟨PySem.W.mg_of X G g_Unsound, ⟨gt_Unsound, gg_Unsound, eC_Unsound, hC_Unsound, ac_Unsound, nc_, tc_, mc_Unsound⟩, fun c => (sub_exc c xl_Unsound).1, sv_Unsound, (sub_exc C_Unsound xl_Unsound).2, tC_Unsound⟩, (List.forall_mem_cons.mpr ⟨⟨PySem.W.mg_of X G g_NoFraction, ⟨gt_NoFraction, gg_NoFraction, eC_NoFraction, hC_NoFraction, ac_NoFraction, nc_, tc_, mc_NoFraction⟩, fun c => (sub_exc c xl_NoFraction).1, sv_NoFraction, (sub_exc C_NoFraction xl_NoFraction).2, tC_NoFraction⟩, (List.forall_mem_cons.mpr ⟨⟨PySem.W.mg_of X G g_OtherBase, ⟨gt_OtherBase, gg_OtherBase, eC_OtherBase, hC_OtherBase, ac_OtherBase, nc_, tc_, mc_OtherBase⟩, fun c => (sub_exc c xl_OtherBase).1, sv_OtherBase, (sub_exc C_OtherBase xl_OtherBase).2, tC_OtherBase⟩, (List.forall_mem_cons.mpr ⟨⟨PySem.W.mg_of X G g_NoChances, ⟨gt_NoChances, gg_NoChances, eC_NoChances, hC_NoChances, ac_NoChances, nc_, tc_, mc_NoChances⟩, fun c => (sub_exc c xl_NoChances).1, sv_NoChances, (sub_exc C_NoChances xl_NoChances).2, tC_NoChances⟩, (List.forall_mem_cons.mpr ⟨⟨PySem.W.mg_of X G g_NoTurns, ⟨gt_NoTurns, gg_NoTurns, eC_NoTurns, hC_NoTurns, ac_NoTurns, nc_, tc_, mc_NoTurns⟩, fun c => (sub_exc c xl_NoTurns).1, sv_NoTurns, (sub_exc C_NoTurns xl_NoTurns).2, tC_NoTurns⟩, (List.forall_mem_cons.mpr ⟨⟨PySem.W.mg_of X G g_NoHand, ⟨gt_NoHand, gg_NoHand, eC_NoHand, hC_NoHand, ac_NoHand, nc_, tc_, mc_NoHand⟩, fun c => (sub_exc c xl_NoHand).1, sv_NoHand, (sub_exc C_NoHand xl_NoHand).2, tC_NoHand⟩, (List.forall_mem_cons.mpr ⟨⟨PySem.W.mg_of X G g_NoChoices, ⟨gt_NoChoices, gg_NoChoices, eC_NoChoices, hC_NoChoices, ac_NoChoices, nc_, tc_, mc_NoChoices⟩, fun c => (sub_exc c xl_NoChoices).1, sv_NoChoices, (sub_exc C_NoChoices xl_NoChoices).2, tC_NoChoices⟩, (List.forall_mem_cons.mpr ⟨⟨PySem.W.mg_of X G g_NoDigit, ⟨gt_NoDigit, gg_NoDigit, eC_NoDigit, hC_NoDigit, ac_NoDigit, nc_, tc_, mc_NoDigit⟩, fun c => (sub_exc c xl_NoDigit).1, sv_NoDigit, (sub_exc C_NoDigit xl_NoDigit).2, tC_NoDigit⟩, (List.forall_mem_cons.mpr ⟨⟨PySem.W.mg_of X G g_NothingDone, ⟨gt_NothingDone, gg_NothingDone, eC_NothingDone, hC_NothingDone, ac_NothingDone, nc_, tc_, mc_NothingDone⟩, fun c => (sub_exc c xl_NothingDone).1, sv_NothingDone, (sub_exc C_NothingDone xl_NothingDone).2, tC_NothingDone⟩, (List.forall_mem_cons.mpr ⟨⟨PySem.W.mg_of X G g_NoFit, ⟨gt_NoFit, gg_NoFit, eC_NoFit, hC_NoFit, ac_NoFit, nc_, tc_, mc_NoFit⟩, fun c => (sub_exc c xl_NoFit).1, sv_NoFit, (sub_exc C_NoFit xl_NoFit).2, tC_NoFit⟩, (List.forall_mem_cons.mpr ⟨⟨PySem.W.mg_of X G g_NoLine, ⟨gt_NoLine, gg_NoLine, eC_NoLine, hC_NoLine, ac_NoLine, nc_, tc_, mc_NoLine⟩, fun c => (sub_exc c xl_NoLine).1, sv_NoLine, (sub_exc C_NoLine xl_NoLine).2, tC_NoLine⟩, (List.forall_mem_cons.mpr ⟨⟨PySem.W.mg_of X G g_TooMany, ⟨gt_TooMany, gg_TooMany, eC_TooMany, hC_TooMany, ac_TooMany, nc_, tc_, mc_TooMany⟩, fun c => (sub_exc c xl_TooMany).1, sv_TooMany, (sub_exc C_TooMany xl_TooMany).2, tC_TooMany⟩, (List.forall_mem_cons.mpr ⟨⟨PySem.W.mg_of X G g_BadMachine, ⟨gt_BadMachine, gg_BadMachine, eC_BadMachine, hC_BadMachine, ac_BadMachine, nc_, tc_, mc_BadMachine⟩, fun c => (sub_exc c xl_BadMachine).1, sv_BadMachine, (sub_exc C_BadMachine xl_BadMachine).2, tC_BadMachine⟩, (List.forall_mem_cons.mpr ⟨⟨PySem.W.mg_of X G g_NotWithin, ⟨gt_NotWithin, gg_NotWithin, eC_NotWithin, hC_NotWithin, ac_NotWithin, nc_, tc_, mc_NotWithin⟩, fun c => (sub_exc c xl_NotWithin).1, sv_NotWithin, (sub_exc C_NotWithin xl_NotWithin).2, tC_NotWithin⟩, (List.forall_mem_cons.mpr ⟨⟨PySem.W.mg_of X G g_BadDust, ⟨gt_BadDust, gg_BadDust, eC_BadDust, hC_BadDust, ac_BadDust, nc_, tc_, mc_BadDust⟩, fun c => (sub_exc c xl_BadDust).1, sv_BadDust, (sub_exc C_BadDust xl_BadDust).2, tC_BadDust⟩, (List.forall_mem_cons.mpr ⟨⟨PySem.W.mg_of X G g_BadAnswer, ⟨gt_BadAnswer, gg_BadAnswer, eC_BadAnswer, hC_BadAnswer, ac_BadAnswer, nc_, tc_, mc_BadAnswer⟩, fun c => (sub_exc c xl_BadAnswer).1, sv_BadAnswer, (sub_exc C_BadAnswer xl_BadAnswer).2, tC_BadAnswer⟩, (List.forall_mem_cons.mpr ⟨⟨PySem.W.mg_of X G g_BadText, ⟨gt_BadText, gg_BadText, eC_BadText, hC_BadText, ac_BadText, nc_, tc_, mc_BadText⟩, fun c => (sub_exc c xl_BadText).1, sv_BadText, (sub_exc C_BadText xl_BadText).2, tC_BadText⟩, (List.forall_mem_cons.mpr ⟨⟨PySem.W.mg_of X G g_NoName, ⟨gt_NoName, gg_NoName, eC_NoName, hC_NoName, ac_NoName, nc_, tc_, mc_NoName⟩, fun c => (sub_exc c xl_NoName).1, sv_NoName, (sub_exc C_NoName xl_NoName).2, tC_NoName⟩, (fun z hz => nomatch hz)⟩)⟩)⟩)⟩)⟩)⟩)⟩)⟩)⟩)⟩)⟩)⟩)⟩)⟩)⟩)⟩)⟩)⟩)⟩)⟩)⟩)⟩)⟩)⟩)⟩), nd_⟩⟩,
    PySem.W.mg_none_of X G n_ValueError,
    PySem.W.mg_none_of X G n_abs,
    PySem.W.mg_none_of X G n_int,
    PySem.W.mg_none_of X G n_isinstance,
    PySem.W.mg_none_of X G n_len,
    PySem.W.mg_none_of X G n_range,
    PySem.W.mg_none_of X G n_repr,
    PySem.W.mg_none_of X G n_set⟩
  have FL := fun_mk (st := s_law) l_law c_law k_law
  exact ⟨_, fun s v => .of_eq rfl, fun base _ _ => ok_law T FL⟩
theorem walk {l : PySem.W.OpenLaw} {q : Program} {loose : List Str} {XP : (Str → Option Value) → Heap → Prop} {YP : World → Heap → Prop} {d : DefRec} {K : Params → PySem.W.Frag} (hn : l.most = some 63) (hdf : d.params.defaults = [])
    (hY : ∀ (w : World) (h : Heap), YP w h → (K w.params).In h)
    (F : ∀ (w : World) (mg : Str → Option Value) (fa : Addr) (h : Heap), (K w.params).In h → h.Ns mainGlobals mg → mg d.name = some (.ref fa) →
      ∃ fd : FuncData, (∀ (s : Shared) (u : Value), BindsTo s fd ⟨[u], []⟩ [("script", u)]) ∧ ∀ base : Heap, (K w.params).In base → base.Ns mainGlobals mg → FnG l.prog w (K w.params) mg base 5 fa fd ["script"] (spLaw (K w.params))) :
    PySem.W.WalkO q loose XP YP l.row.toRowW d [] (fun f vs => PySem.call f vs) :=
  walkG (n := 63) (k := 5) (x := "script") (sp := fun w => spLaw (K w.params)) ⟨rfl, by decide, by decide⟩ hn (by decide) hdf hY F fun _ _ a ns hl hS => ⟨a, ns, rfl, hS, hl, fun _ => rfl⟩
end Lk00
open PySem PySem.W PyProof.Rows
set_option maxRecDepth 100000 in
set_option maxHeartbeats 0 in
theorem PySem.Challenge.cw_anywriting_k00_errors_of_the_package_holds : PySem.Challenge.rw_anywriting_k00_errors_of_the_package.Holds := by
  w_on; o_law; k_head; (case hw => w_witness2)
  k_fill
  refine Lk00.walk (l := PySem.Challenge.rw_anywriting_k00_errors_of_the_package) rfl rfl (fun w h Y => PySem.W.kIn_of Y) ?F
  case F =>
    intro w mg fa h KX G hmg
    refine' Lk00.all_mk KX G hmg ?a_law_hand ?l_law_hand ?c_law_hand ?k_law_hand ?a_law_mixed ?l_law_mixed ?c_law_mixed ?k_law_mixed ?a_law_draw ?l_law_draw ?c_law_draw ?k_law_draw ?a_law_any ?l_law_any ?c_law_any ?k_law_any ?a_law_deep ?l_law_deep ?c_law_deep ?k_law_deep ?a_law_with_field ?l_law_with_field ?c_law_with_field ?k_law_with_field ?a_law_plain ?l_law_plain ?c_law_plain ?k_law_plain ?a_law_kinds ?l_law_kinds ?c_law_kinds ?k_law_kinds ?a_law ?l_law ?c_law ?k_law ?g_WritingError ?ga_WritingError ?rd_WritingError ?fc_WritingError ?g_NoBase ?xl_NoBase ?sa_NoBase ?gt_NoBase ?gg_NoBase ?ii_NoBase ?ti_NoBase ?li_NoBase ?ci_NoBase ?ki_NoBase ?kC_NoBase ?eC_NoBase ?tC_NoBase ?hC_NoBase ?iC_NoBase ?sC_NoBase ?g_NoRow ?xl_NoRow ?sa_NoRow ?gt_NoRow ?gg_NoRow ?ii_NoRow ?ti_NoRow ?li_NoRow ?ci_NoRow ?ki_NoRow ?kC_NoRow ?eC_NoRow ?tC_NoRow ?hC_NoRow ?iC_NoRow ?sC_NoRow ?g_NoNumber ?xl_NoNumber ?sa_NoNumber ?gt_NoNumber ?gg_NoNumber ?ii_NoNumber ?ti_NoNumber ?li_NoNumber ?ci_NoNumber ?ki_NoNumber ?kC_NoNumber ?eC_NoNumber ?tC_NoNumber ?hC_NoNumber ?iC_NoNumber ?sC_NoNumber ?g_NoMany ?xl_NoMany ?sa_NoMany ?gt_NoMany ?gg_NoMany ?ii_NoMany ?ti_NoMany ?li_NoMany ?ci_NoMany ?ki_NoMany ?kC_NoMany ?eC_NoMany ?tC_NoMany ?hC_NoMany ?iC_NoMany ?sC_NoMany ?g_TooMany ?xl_TooMany ?sa_TooMany ?gt_TooMany ?gg_TooMany ?ii_TooMany ?ti_TooMany ?li_TooMany ?ci_TooMany ?ki_TooMany ?kC_TooMany ?eC_TooMany ?tC_TooMany ?hC_TooMany ?iC_TooMany ?sC_TooMany ?nf_TooMany ?g_BadMachine ?xl_BadMachine ?sa_BadMachine ?gt_BadMachine ?gg_BadMachine ?ii_BadMachine ?ti_BadMachine ?li_BadMachine ?ci_BadMachine ?ki_BadMachine ?kC_BadMachine ?eC_BadMachine ?tC_BadMachine ?hC_BadMachine ?iC_BadMachine ?sC_BadMachine ?nf_BadMachine ?g_NoState ?xl_NoState ?sa_NoState ?gt_NoState ?gg_NoState ?ii_NoState ?ti_NoState ?li_NoState ?ci_NoState ?ki_NoState ?kC_NoState ?eC_NoState ?tC_NoState ?hC_NoState ?iC_NoState ?sC_NoState ?g_NoDigits ?xl_NoDigits ?sa_NoDigits ?gt_NoDigits ?gg_NoDigits ?ii_NoDigits ?ti_NoDigits ?li_NoDigits ?ci_NoDigits ?ki_NoDigits ?kC_NoDigits ?eC_NoDigits ?tC_NoDigits ?hC_NoDigits ?iC_NoDigits ?sC_NoDigits ?g_NoWriting ?xl_NoWriting ?sa_NoWriting ?gt_NoWriting ?gg_NoWriting ?ii_NoWriting ?ti_NoWriting ?li_NoWriting ?ci_NoWriting ?ki_NoWriting ?kC_NoWriting ?eC_NoWriting ?tC_NoWriting ?hC_NoWriting ?iC_NoWriting ?sC_NoWriting ?g_Unsound ?xl_Unsound ?sa_Unsound ?gt_Unsound ?gg_Unsound ?ii_Unsound ?ti_Unsound ?li_Unsound ?ci_Unsound ?ki_Unsound ?kC_Unsound ?eC_Unsound ?tC_Unsound ?hC_Unsound ?iC_Unsound ?sC_Unsound ?g_NoFraction ?xl_NoFraction ?sa_NoFraction ?gt_NoFraction ?gg_NoFraction ?ii_NoFraction ?ti_NoFraction ?li_NoFraction ?ci_NoFraction ?ki_NoFraction ?kC_NoFraction ?eC_NoFraction ?tC_NoFraction ?hC_NoFraction ?iC_NoFraction ?sC_NoFraction ?g_OtherBase ?xl_OtherBase ?sa_OtherBase ?gt_OtherBase ?gg_OtherBase ?ii_OtherBase ?ti_OtherBase ?li_OtherBase ?ci_OtherBase ?ki_OtherBase ?kC_OtherBase ?eC_OtherBase ?tC_OtherBase ?hC_OtherBase ?iC_OtherBase ?sC_OtherBase ?g_NotWithin ?xl_NotWithin ?sa_NotWithin ?gt_NotWithin ?gg_NotWithin ?ii_NotWithin ?ti_NotWithin ?li_NotWithin ?ci_NotWithin ?ki_NotWithin ?kC_NotWithin ?eC_NotWithin ?tC_NotWithin ?hC_NotWithin ?iC_NotWithin ?sC_NotWithin ?nf_NotWithin ?g_NoChances ?xl_NoChances ?sa_NoChances ?gt_NoChances ?gg_NoChances ?ii_NoChances ?ti_NoChances ?li_NoChances ?ci_NoChances ?ki_NoChances ?kC_NoChances ?eC_NoChances ?tC_NoChances ?hC_NoChances ?iC_NoChances ?sC_NoChances ?g_NoTurns ?xl_NoTurns ?sa_NoTurns ?gt_NoTurns ?gg_NoTurns ?ii_NoTurns ?ti_NoTurns ?li_NoTurns ?ci_NoTurns ?ki_NoTurns ?kC_NoTurns ?eC_NoTurns ?tC_NoTurns ?hC_NoTurns ?iC_NoTurns ?sC_NoTurns ?g_NoHand ?xl_NoHand ?sa_NoHand ?gt_NoHand ?gg_NoHand ?ii_NoHand ?ti_NoHand ?li_NoHand ?ci_NoHand ?ki_NoHand ?kC_NoHand ?eC_NoHand ?tC_NoHand ?hC_NoHand ?iC_NoHand ?sC_NoHand ?g_NoChoices ?xl_NoChoices ?sa_NoChoices ?gt_NoChoices ?gg_NoChoices ?ii_NoChoices ?ti_NoChoices ?li_NoChoices ?ci_NoChoices ?ki_NoChoices ?kC_NoChoices ?eC_NoChoices ?tC_NoChoices ?hC_NoChoices ?iC_NoChoices ?sC_NoChoices ?g_BadDust ?xl_BadDust ?sa_BadDust ?gt_BadDust ?gg_BadDust ?ii_BadDust ?ti_BadDust ?li_BadDust ?ci_BadDust ?ki_BadDust ?kC_BadDust ?eC_BadDust ?tC_BadDust ?hC_BadDust ?iC_BadDust ?sC_BadDust ?nf_BadDust ?g_NoDigit ?xl_NoDigit ?sa_NoDigit ?gt_NoDigit ?gg_NoDigit ?ii_NoDigit ?ti_NoDigit ?li_NoDigit ?ci_NoDigit ?ki_NoDigit ?kC_NoDigit ?eC_NoDigit ?tC_NoDigit ?hC_NoDigit ?iC_NoDigit ?sC_NoDigit ?g_NothingDone ?xl_NothingDone ?sa_NothingDone ?gt_NothingDone ?gg_NothingDone ?ii_NothingDone ?ti_NothingDone ?li_NothingDone ?ci_NothingDone ?ki_NothingDone ?kC_NothingDone ?eC_NothingDone ?tC_NothingDone ?hC_NothingDone ?iC_NothingDone ?sC_NothingDone ?g_BadAnswer ?xl_BadAnswer ?sa_BadAnswer ?gt_BadAnswer ?gg_BadAnswer ?ii_BadAnswer ?ti_BadAnswer ?li_BadAnswer ?ci_BadAnswer ?ki_BadAnswer ?kC_BadAnswer ?eC_BadAnswer ?tC_BadAnswer ?hC_BadAnswer ?iC_BadAnswer ?sC_BadAnswer ?nf_BadAnswer ?g_NoFit ?xl_NoFit ?sa_NoFit ?gt_NoFit ?gg_NoFit ?ii_NoFit ?ti_NoFit ?li_NoFit ?ci_NoFit ?ki_NoFit ?kC_NoFit ?eC_NoFit ?tC_NoFit ?hC_NoFit ?iC_NoFit ?sC_NoFit ?g_BadText ?xl_BadText ?sa_BadText ?gt_BadText ?gg_BadText ?ii_BadText ?ti_BadText ?li_BadText ?ci_BadText ?ki_BadText ?kC_BadText ?eC_BadText ?tC_BadText ?hC_BadText ?iC_BadText ?sC_BadText ?nf_BadText ?g_NoLine ?xl_NoLine ?sa_NoLine ?gt_NoLine ?gg_NoLine ?ii_NoLine ?ti_NoLine ?li_NoLine ?ci_NoLine ?ki_NoLine ?kC_NoLine ?eC_NoLine ?tC_NoLine ?hC_NoLine ?iC_NoLine ?sC_NoLine ?g_NoName ?xl_NoName ?sa_NoName ?gt_NoName ?gg_NoName ?ii_NoName ?ti_NoName ?li_NoName ?ci_NoName ?ki_NoName ?kC_NoName ?eC_NoName ?tC_NoName ?hC_NoName ?iC_NoName ?sC_NoName ?nf_NoName ?iW_ ?tW_ ?nd_ ?ac_NoBase ?mc_NoBase ?sv_NoBase ?ac_NoRow ?mc_NoRow ?sv_NoRow ?ac_NoNumber ?mc_NoNumber ?sv_NoNumber ?ac_NoMany ?mc_NoMany ?sv_NoMany ?ac_NoState ?mc_NoState ?sv_NoState ?ac_NoDigits ?mc_NoDigits ?sv_NoDigits ?ac_NoWriting ?mc_NoWriting ?sv_NoWriting ?ac_Unsound ?mc_Unsound ?sv_Unsound ?ac_NoFraction ?mc_NoFraction ?sv_NoFraction ?ac_OtherBase ?mc_OtherBase ?sv_OtherBase ?ac_NoChances ?mc_NoChances ?sv_NoChances ?ac_NoTurns ?mc_NoTurns ?sv_NoTurns ?ac_NoHand ?mc_NoHand ?sv_NoHand ?ac_NoChoices ?mc_NoChoices ?sv_NoChoices ?ac_NoDigit ?mc_NoDigit ?sv_NoDigit ?ac_NothingDone ?mc_NothingDone ?sv_NothingDone ?ac_NoFit ?mc_NoFit ?sv_NoFit ?ac_NoLine ?mc_NoLine ?sv_NoLine ?ac_TooMany ?mc_TooMany ?sv_TooMany ?ac_BadMachine ?mc_BadMachine ?sv_BadMachine ?ac_NotWithin ?mc_NotWithin ?sv_NotWithin ?ac_BadDust ?mc_BadDust ?sv_BadDust ?ac_BadAnswer ?mc_BadAnswer ?sv_BadAnswer ?ac_BadText ?mc_BadText ?sv_BadText ?ac_NoName ?mc_NoName ?sv_NoName ?nc_ ?tc_ ?n_ValueError ?n_abs ?n_int ?n_isinstance ?n_len ?n_range ?n_repr ?n_set
    (case a_law_hand => k_is)
    (case l_law_hand => k_is)
    (case c_law_hand => k_is)
    (case k_law_hand => k_is)
    (case a_law_mixed => k_is)
    (case l_law_mixed => k_is)
    (case c_law_mixed => k_is)
    (case k_law_mixed => k_is)
    (case a_law_draw => k_is)
    (case l_law_draw => k_is)
    (case c_law_draw => k_is)
    (case k_law_draw => k_is)
    (case a_law_any => k_is)
    (case l_law_any => k_is)
    (case c_law_any => k_is)
    (case k_law_any => k_is)
    (case a_law_deep => k_is)
    (case l_law_deep => k_is)
    (case c_law_deep => k_is)
    (case k_law_deep => k_is)
    (case a_law_with_field => k_is)
    (case l_law_with_field => k_is)
    (case c_law_with_field => k_is)
    (case k_law_with_field => k_is)
    (case a_law_plain => k_is)
    (case l_law_plain => k_is)
    (case c_law_plain => k_is)
    (case k_law_plain => k_is)
    (case a_law_kinds => k_is)
    (case l_law_kinds => k_is)
    (case c_law_kinds => k_is)
    (case k_law_kinds => k_is)
    (case a_law => k_is)
    (case l_law => k_is)
    (case c_law => k_is)
    (case k_law => k_is)
    (case g_WritingError => k_is)
    (case ga_WritingError => k_is)
    (case rd_WritingError => k_is)
    (case fc_WritingError => k_is)
    (case g_NoBase => k_is)
    (case xl_NoBase => k_is)
    (case sa_NoBase => k_is)
    (case gt_NoBase => k_is)
    (case gg_NoBase => k_is)
    (case ii_NoBase => k_is)
    (case ti_NoBase => k_is)
    (case li_NoBase => k_is)
    (case ci_NoBase => k_is)
    (case ki_NoBase => k_is)
    (case kC_NoBase => k_is)
    (case eC_NoBase => k_is)
    (case tC_NoBase => k_is)
    (case hC_NoBase => k_is)
    (case iC_NoBase => k_is)
    (case sC_NoBase => k_is)
    (case g_NoRow => k_is)
    (case xl_NoRow => k_is)
    (case sa_NoRow => k_is)
    (case gt_NoRow => k_is)
    (case gg_NoRow => k_is)
    (case ii_NoRow => k_is)
    (case ti_NoRow => k_is)
    (case li_NoRow => k_is)
    (case ci_NoRow => k_is)
    (case ki_NoRow => k_is)
    (case kC_NoRow => k_is)
    (case eC_NoRow => k_is)
    (case tC_NoRow => k_is)
    (case hC_NoRow => k_is)
    (case iC_NoRow => k_is)
    (case sC_NoRow => k_is)
    (case g_NoNumber => k_is)
    (case xl_NoNumber => k_is)
    (case sa_NoNumber => k_is)
    (case gt_NoNumber => k_is)
    (case gg_NoNumber => k_is)
    (case ii_NoNumber => k_is)
    (case ti_NoNumber => k_is)
    (case li_NoNumber => k_is)
    (case ci_NoNumber => k_is)
    (case ki_NoNumber => k_is)
    (case kC_NoNumber => k_is)
    (case eC_NoNumber => k_is)
    (case tC_NoNumber => k_is)
    (case hC_NoNumber => k_is)
    (case iC_NoNumber => k_is)
    (case sC_NoNumber => k_is)
    (case g_NoMany => k_is)
    (case xl_NoMany => k_is)
    (case sa_NoMany => k_is)
    (case gt_NoMany => k_is)
    (case gg_NoMany => k_is)
    (case ii_NoMany => k_is)
    (case ti_NoMany => k_is)
    (case li_NoMany => k_is)
    (case ci_NoMany => k_is)
    (case ki_NoMany => k_is)
    (case kC_NoMany => k_is)
    (case eC_NoMany => k_is)
    (case tC_NoMany => k_is)
    (case hC_NoMany => k_is)
    (case iC_NoMany => k_is)
    (case sC_NoMany => k_is)
    (case g_TooMany => k_is)
    (case xl_TooMany => k_is)
    (case sa_TooMany => k_is)
    (case gt_TooMany => k_is)
    (case gg_TooMany => k_is)
    (case ii_TooMany => k_is)
    (case ti_TooMany => k_is)
    (case li_TooMany => k_is)
    (case ci_TooMany => k_is)
    (case ki_TooMany => k_is)
    (case kC_TooMany => k_is)
    (case eC_TooMany => k_is)
    (case tC_TooMany => k_is)
    (case hC_TooMany => k_is)
    (case iC_TooMany => k_is)
    (case sC_TooMany => k_is)
    (case nf_TooMany => k_is)
    (case g_BadMachine => k_is)
    (case xl_BadMachine => k_is)
    (case sa_BadMachine => k_is)
    (case gt_BadMachine => k_is)
    (case gg_BadMachine => k_is)
    (case ii_BadMachine => k_is)
    (case ti_BadMachine => k_is)
    (case li_BadMachine => k_is)
    (case ci_BadMachine => k_is)
    (case ki_BadMachine => k_is)
    (case kC_BadMachine => k_is)
    (case eC_BadMachine => k_is)
    (case tC_BadMachine => k_is)
    (case hC_BadMachine => k_is)
    (case iC_BadMachine => k_is)
    (case sC_BadMachine => k_is)
    (case nf_BadMachine => k_is)
    (case g_NoState => k_is)
    (case xl_NoState => k_is)
    (case sa_NoState => k_is)
    (case gt_NoState => k_is)
    (case gg_NoState => k_is)
    (case ii_NoState => k_is)
    (case ti_NoState => k_is)
    (case li_NoState => k_is)
    (case ci_NoState => k_is)
    (case ki_NoState => k_is)
    (case kC_NoState => k_is)
    (case eC_NoState => k_is)
    (case tC_NoState => k_is)
    (case hC_NoState => k_is)
    (case iC_NoState => k_is)
    (case sC_NoState => k_is)
    (case g_NoDigits => k_is)
    (case xl_NoDigits => k_is)
    (case sa_NoDigits => k_is)
    (case gt_NoDigits => k_is)
    (case gg_NoDigits => k_is)
    (case ii_NoDigits => k_is)
    (case ti_NoDigits => k_is)
    (case li_NoDigits => k_is)
    (case ci_NoDigits => k_is)
    (case ki_NoDigits => k_is)
    (case kC_NoDigits => k_is)
    (case eC_NoDigits => k_is)
    (case tC_NoDigits => k_is)
    (case hC_NoDigits => k_is)
    (case iC_NoDigits => k_is)
    (case sC_NoDigits => k_is)
    (case g_NoWriting => k_is)
    (case xl_NoWriting => k_is)
    (case sa_NoWriting => k_is)
    (case gt_NoWriting => k_is)
    (case gg_NoWriting => k_is)
    (case ii_NoWriting => k_is)
    (case ti_NoWriting => k_is)
    (case li_NoWriting => k_is)
    (case ci_NoWriting => k_is)
    (case ki_NoWriting => k_is)
    (case kC_NoWriting => k_is)
    (case eC_NoWriting => k_is)
    (case tC_NoWriting => k_is)
    (case hC_NoWriting => k_is)
    (case iC_NoWriting => k_is)
    (case sC_NoWriting => k_is)
    (case g_Unsound => k_is)
    (case xl_Unsound => k_is)
    (case sa_Unsound => k_is)
    (case gt_Unsound => k_is)
    (case gg_Unsound => k_is)
    (case ii_Unsound => k_is)
    (case ti_Unsound => k_is)
    (case li_Unsound => k_is)
    (case ci_Unsound => k_is)
    (case ki_Unsound => k_is)
    (case kC_Unsound => k_is)
    (case eC_Unsound => k_is)
    (case tC_Unsound => k_is)
    (case hC_Unsound => k_is)
    (case iC_Unsound => k_is)
    (case sC_Unsound => k_is)
    (case g_NoFraction => k_is)
    (case xl_NoFraction => k_is)
    (case sa_NoFraction => k_is)
    (case gt_NoFraction => k_is)
    (case gg_NoFraction => k_is)
    (case ii_NoFraction => k_is)
    (case ti_NoFraction => k_is)
    (case li_NoFraction => k_is)
    (case ci_NoFraction => k_is)
    (case ki_NoFraction => k_is)
    (case kC_NoFraction => k_is)
    (case eC_NoFraction => k_is)
    (case tC_NoFraction => k_is)
    (case hC_NoFraction => k_is)
    (case iC_NoFraction => k_is)
    (case sC_NoFraction => k_is)
    (case g_OtherBase => k_is)
    (case xl_OtherBase => k_is)
    (case sa_OtherBase => k_is)
    (case gt_OtherBase => k_is)
    (case gg_OtherBase => k_is)
    (case ii_OtherBase => k_is)
    (case ti_OtherBase => k_is)
    (case li_OtherBase => k_is)
    (case ci_OtherBase => k_is)
    (case ki_OtherBase => k_is)
    (case kC_OtherBase => k_is)
    (case eC_OtherBase => k_is)
    (case tC_OtherBase => k_is)
    (case hC_OtherBase => k_is)
    (case iC_OtherBase => k_is)
    (case sC_OtherBase => k_is)
    (case g_NotWithin => k_is)
    (case xl_NotWithin => k_is)
    (case sa_NotWithin => k_is)
    (case gt_NotWithin => k_is)
    (case gg_NotWithin => k_is)
    (case ii_NotWithin => k_is)
    (case ti_NotWithin => k_is)
    (case li_NotWithin => k_is)
    (case ci_NotWithin => k_is)
    (case ki_NotWithin => k_is)
    (case kC_NotWithin => k_is)
    (case eC_NotWithin => k_is)
    (case tC_NotWithin => k_is)
    (case hC_NotWithin => k_is)
    (case iC_NotWithin => k_is)
    (case sC_NotWithin => k_is)
    (case nf_NotWithin => k_is)
    (case g_NoChances => k_is)
    (case xl_NoChances => k_is)
    (case sa_NoChances => k_is)
    (case gt_NoChances => k_is)
    (case gg_NoChances => k_is)
    (case ii_NoChances => k_is)
    (case ti_NoChances => k_is)
    (case li_NoChances => k_is)
    (case ci_NoChances => k_is)
    (case ki_NoChances => k_is)
    (case kC_NoChances => k_is)
    (case eC_NoChances => k_is)
    (case tC_NoChances => k_is)
    (case hC_NoChances => k_is)
    (case iC_NoChances => k_is)
    (case sC_NoChances => k_is)
    (case g_NoTurns => k_is)
    (case xl_NoTurns => k_is)
    (case sa_NoTurns => k_is)
    (case gt_NoTurns => k_is)
    (case gg_NoTurns => k_is)
    (case ii_NoTurns => k_is)
    (case ti_NoTurns => k_is)
    (case li_NoTurns => k_is)
    (case ci_NoTurns => k_is)
    (case ki_NoTurns => k_is)
    (case kC_NoTurns => k_is)
    (case eC_NoTurns => k_is)
    (case tC_NoTurns => k_is)
    (case hC_NoTurns => k_is)
    (case iC_NoTurns => k_is)
    (case sC_NoTurns => k_is)
    (case g_NoHand => k_is)
    (case xl_NoHand => k_is)
    (case sa_NoHand => k_is)
    (case gt_NoHand => k_is)
    (case gg_NoHand => k_is)
    (case ii_NoHand => k_is)
    (case ti_NoHand => k_is)
    (case li_NoHand => k_is)
    (case ci_NoHand => k_is)
    (case ki_NoHand => k_is)
    (case kC_NoHand => k_is)
    (case eC_NoHand => k_is)
    (case tC_NoHand => k_is)
    (case hC_NoHand => k_is)
    (case iC_NoHand => k_is)
    (case sC_NoHand => k_is)
    (case g_NoChoices => k_is)
    (case xl_NoChoices => k_is)
    (case sa_NoChoices => k_is)
    (case gt_NoChoices => k_is)
    (case gg_NoChoices => k_is)
    (case ii_NoChoices => k_is)
    (case ti_NoChoices => k_is)
    (case li_NoChoices => k_is)
    (case ci_NoChoices => k_is)
    (case ki_NoChoices => k_is)
    (case kC_NoChoices => k_is)
    (case eC_NoChoices => k_is)
    (case tC_NoChoices => k_is)
    (case hC_NoChoices => k_is)
    (case iC_NoChoices => k_is)
    (case sC_NoChoices => k_is)
    (case g_BadDust => k_is)
    (case xl_BadDust => k_is)
    (case sa_BadDust => k_is)
    (case gt_BadDust => k_is)
    (case gg_BadDust => k_is)
    (case ii_BadDust => k_is)
    (case ti_BadDust => k_is)
    (case li_BadDust => k_is)
    (case ci_BadDust => k_is)
    (case ki_BadDust => k_is)
    (case kC_BadDust => k_is)
    (case eC_BadDust => k_is)
    (case tC_BadDust => k_is)
    (case hC_BadDust => k_is)
    (case iC_BadDust => k_is)
    (case sC_BadDust => k_is)
    (case nf_BadDust => k_is)
    (case g_NoDigit => k_is)
    (case xl_NoDigit => k_is)
    (case sa_NoDigit => k_is)
    (case gt_NoDigit => k_is)
    (case gg_NoDigit => k_is)
    (case ii_NoDigit => k_is)
    (case ti_NoDigit => k_is)
    (case li_NoDigit => k_is)
    (case ci_NoDigit => k_is)
    (case ki_NoDigit => k_is)
    (case kC_NoDigit => k_is)
    (case eC_NoDigit => k_is)
    (case tC_NoDigit => k_is)
    (case hC_NoDigit => k_is)
    (case iC_NoDigit => k_is)
    (case sC_NoDigit => k_is)
    (case g_NothingDone => k_is)
    (case xl_NothingDone => k_is)
    (case sa_NothingDone => k_is)
    (case gt_NothingDone => k_is)
    (case gg_NothingDone => k_is)
    (case ii_NothingDone => k_is)
    (case ti_NothingDone => k_is)
    (case li_NothingDone => k_is)
    (case ci_NothingDone => k_is)
    (case ki_NothingDone => k_is)
    (case kC_NothingDone => k_is)
    (case eC_NothingDone => k_is)
    (case tC_NothingDone => k_is)
    (case hC_NothingDone => k_is)
    (case iC_NothingDone => k_is)
    (case sC_NothingDone => k_is)
    (case g_BadAnswer => k_is)
    (case xl_BadAnswer => k_is)
    (case sa_BadAnswer => k_is)
    (case gt_BadAnswer => k_is)
    (case gg_BadAnswer => k_is)
    (case ii_BadAnswer => k_is)
    (case ti_BadAnswer => k_is)
    (case li_BadAnswer => k_is)
    (case ci_BadAnswer => k_is)
    (case ki_BadAnswer => k_is)
    (case kC_BadAnswer => k_is)
    (case eC_BadAnswer => k_is)
    (case tC_BadAnswer => k_is)
    (case hC_BadAnswer => k_is)
    (case iC_BadAnswer => k_is)
    (case sC_BadAnswer => k_is)
    (case nf_BadAnswer => k_is)
    (case g_NoFit => k_is)
    (case xl_NoFit => k_is)
    (case sa_NoFit => k_is)
    (case gt_NoFit => k_is)
    (case gg_NoFit => k_is)
    (case ii_NoFit => k_is)
    (case ti_NoFit => k_is)
    (case li_NoFit => k_is)
    (case ci_NoFit => k_is)
    (case ki_NoFit => k_is)
    (case kC_NoFit => k_is)
    (case eC_NoFit => k_is)
    (case tC_NoFit => k_is)
    (case hC_NoFit => k_is)
    (case iC_NoFit => k_is)
    (case sC_NoFit => k_is)
    (case g_BadText => k_is)
    (case xl_BadText => k_is)
    (case sa_BadText => k_is)
    (case gt_BadText => k_is)
    (case gg_BadText => k_is)
    (case ii_BadText => k_is)
    (case ti_BadText => k_is)
    (case li_BadText => k_is)
    (case ci_BadText => k_is)
    (case ki_BadText => k_is)
    (case kC_BadText => k_is)
    (case eC_BadText => k_is)
    (case tC_BadText => k_is)
    (case hC_BadText => k_is)
    (case iC_BadText => k_is)
    (case sC_BadText => k_is)
    (case nf_BadText => k_is)
    (case g_NoLine => k_is)
    (case xl_NoLine => k_is)
    (case sa_NoLine => k_is)
    (case gt_NoLine => k_is)
    (case gg_NoLine => k_is)
    (case ii_NoLine => k_is)
    (case ti_NoLine => k_is)
    (case li_NoLine => k_is)
    (case ci_NoLine => k_is)
    (case ki_NoLine => k_is)
    (case kC_NoLine => k_is)
    (case eC_NoLine => k_is)
    (case tC_NoLine => k_is)
    (case hC_NoLine => k_is)
    (case iC_NoLine => k_is)
    (case sC_NoLine => k_is)
    (case g_NoName => k_is)
    (case xl_NoName => k_is)
    (case sa_NoName => k_is)
    (case gt_NoName => k_is)
    (case gg_NoName => k_is)
    (case ii_NoName => k_is)
    (case ti_NoName => k_is)
    (case li_NoName => k_is)
    (case ci_NoName => k_is)
    (case ki_NoName => k_is)
    (case kC_NoName => k_is)
    (case eC_NoName => k_is)
    (case tC_NoName => k_is)
    (case hC_NoName => k_is)
    (case iC_NoName => k_is)
    (case sC_NoName => k_is)
    (case nf_NoName => k_is)
    (case iW_ => k_is)
    (case tW_ => k_is)
    (case nd_ => decide)
    (case ac_NoBase => k_is)
    (case mc_NoBase => k_is)
    (case sv_NoBase => k_is)
    (case ac_NoRow => k_is)
    (case mc_NoRow => k_is)
    (case sv_NoRow => k_is)
    (case ac_NoNumber => k_is)
    (case mc_NoNumber => k_is)
    (case sv_NoNumber => k_is)
    (case ac_NoMany => k_is)
    (case mc_NoMany => k_is)
    (case sv_NoMany => k_is)
    (case ac_NoState => k_is)
    (case mc_NoState => k_is)
    (case sv_NoState => k_is)
    (case ac_NoDigits => k_is)
    (case mc_NoDigits => k_is)
    (case sv_NoDigits => k_is)
    (case ac_NoWriting => k_is)
    (case mc_NoWriting => k_is)
    (case sv_NoWriting => k_is)
    (case ac_Unsound => k_is)
    (case mc_Unsound => k_is)
    (case sv_Unsound => k_is)
    (case ac_NoFraction => k_is)
    (case mc_NoFraction => k_is)
    (case sv_NoFraction => k_is)
    (case ac_OtherBase => k_is)
    (case mc_OtherBase => k_is)
    (case sv_OtherBase => k_is)
    (case ac_NoChances => k_is)
    (case mc_NoChances => k_is)
    (case sv_NoChances => k_is)
    (case ac_NoTurns => k_is)
    (case mc_NoTurns => k_is)
    (case sv_NoTurns => k_is)
    (case ac_NoHand => k_is)
    (case mc_NoHand => k_is)
    (case sv_NoHand => k_is)
    (case ac_NoChoices => k_is)
    (case mc_NoChoices => k_is)
    (case sv_NoChoices => k_is)
    (case ac_NoDigit => k_is)
    (case mc_NoDigit => k_is)
    (case sv_NoDigit => k_is)
    (case ac_NothingDone => k_is)
    (case mc_NothingDone => k_is)
    (case sv_NothingDone => k_is)
    (case ac_NoFit => k_is)
    (case mc_NoFit => k_is)
    (case sv_NoFit => k_is)
    (case ac_NoLine => k_is)
    (case mc_NoLine => k_is)
    (case sv_NoLine => k_is)
    (case ac_TooMany => k_is)
    (case mc_TooMany => k_is)
    (case sv_TooMany => k_is)
    (case ac_BadMachine => k_is)
    (case mc_BadMachine => k_is)
    (case sv_BadMachine => k_is)
    (case ac_NotWithin => k_is)
    (case mc_NotWithin => k_is)
    (case sv_NotWithin => k_is)
    (case ac_BadDust => k_is)
    (case mc_BadDust => k_is)
    (case sv_BadDust => k_is)
    (case ac_BadAnswer => k_is)
    (case mc_BadAnswer => k_is)
    (case sv_BadAnswer => k_is)
    (case ac_BadText => k_is)
    (case mc_BadText => k_is)
    (case sv_BadText => k_is)
    (case ac_NoName => k_is)
    (case mc_NoName => k_is)
    (case sv_NoName => k_is)
    (case nc_ => k_is)
    (case tc_ => k_is)
    (case n_ValueError => k_is)
    (case n_abs => k_is)
    (case n_int => k_is)
    (case n_isinstance => k_is)
    (case n_len => k_is)
    (case n_range => k_is)
    (case n_repr => k_is)
    (case n_set => k_is)
#print axioms PySem.Challenge.cw_anywriting_k00_errors_of_the_package_holds

