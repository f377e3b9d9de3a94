import PyProof.Rows.All
import Wide.All
import OpenK.AllK
import Wide.FinOn
import HandS.ForMost
import HandS.Wide
import HandS.Gcd
import HandS.Walk
import HandS.TupAny
import HandS.TupMul
import HandS.Lambda
import HandS.IsInst
import HandS.More
import KE.KMathG
import Flt.RightSqrt
import PyProof.StrLawsRepr
import HandS.Deep
import HandS.Zip
import HandS.Style
import PyProof.EnumMake
import KE.GoesMore
import HandS.SortRule
import HandS.TupSets
import HandS.SortInts
import PyProof.Rows.SortShell
import PyProof.SumAny
import KE.SortData
import KE.DataMinMax
import HandS.SortKw
import PyProof.StrBlock2
import HandS.Conv
import KE.KDictZip
import PyProof.CollectWalk
import HandS.NoneIn
import HandS.Flt
import KE.KDictSum
import KE.KDictCopyH
import HandS.Nested
import KE.KNestM
import HandS.Flow
import HandS.Dict
import KE.GoesZip
import KE.GoesEnum
import KE.SortKeyHeap
import PyProof.SetRoads
import HandS.SetFor
import PyProof.EqKinds
import KE.KEqNest
import PySem.Challenge.RW_lampsaloft_k14_rows_of_depth
set_option Elab.async false
set_option linter.all false
set_option maxRecDepth 100000
namespace DV
open PySem PySem.Spec PyProof.Rows L2
open LamX (ExtN TabS Tabs CodeO)
def LkL (K : PySem.W.Frag) (N : Addr → Prop) (H : Hp) (a : Addr) (xs : List V) : Prop := H a = some (.lst xs) ∧ ¬ N a
def LkT (K : PySem.W.Frag) (N : Addr → Prop) (H : Hp) (a : Addr) (xs : List V) : Prop := (Rd H a (.tup xs) ∧ ¬ N a) ∨ SqT K (fun _ => none) a xs
theorem sql_none {K : PySem.W.Frag} {H : Hp} {a : Addr} {xs : List V} (h : SqL K (fun _ => none) a xs) : SqL K H a xs := by
  rcases h with (h | ⟨o, h⟩) | h
  · cases h
  · cases h
  · exact .inr h
theorem sqt_none {K : PySem.W.Frag} {H : Hp} {a : Addr} {xs : List V} (h : SqT K (fun _ => none) a xs) : SqT K H a xs := by
  rcases h with (h | ⟨o, h⟩) | h
  · cases h
  · cases h
  · exact .inr h
theorem LkL.sq {K : PySem.W.Frag} {N : Addr → Prop} {H : Hp} {a : Addr} {xs : List V} (h : LkL K N H a xs) : SqL K H a xs := .of h.1
theorem LkT.sq {K : PySem.W.Frag} {N : Addr → Prop} {H : Hp} {a : Addr} {xs : List V} (h : LkT K N H a xs) : SqT K H a xs := by
  rcases h with ⟨h, _⟩ | h
  · exact .inl h
  · exact sqt_none h
/-- no table of code objects -/
def nt (o : HO) : Prop := ∀ ps, o ≠ .tbl ps
theorem nt_lst {xs : List V} : nt (.lst xs) := fun _ z => nomatch z
theorem nt_tup {xs : List V} : nt (.tup xs) := fun _ z => nomatch z
theorem nt_frz {o : Obj} {u : HO} : nt (.frz o u) := fun _ z => nomatch z
theorem nt_dT {xs : List (List L2.Key × V)} : nt (.dT xs) := fun _ z => nomatch z
/-- from one heap to the next: all but N stands; N grows by new ones alone -/
structure Go (N N' : Addr → Prop) (H H' : Hp) : Prop where
  st : ∀ a o, ¬ N a → H a = some o → nt o → H' a = some o
  nw : ∀ a, N' a → N a ∨ H a = none
theorem Rd.go {N N' : Addr → Prop} {H H' : Hp} (g : Go N N' H H') {a : Addr} {u : HO} (h : Rd H a u) (n : ¬ N a) (hu : nt u) : Rd H' a u ∧ ¬ N' a := by
  refine ⟨?_, fun z => ?_⟩
  · rcases h with h | ⟨o, h⟩
    · exact .inl (g.st _ _ n h hu)
    · exact .inr ⟨o, g.st _ _ n h nt_frz⟩
  · rcases g.nw a z with z | z
    · exact n z
    · rcases h with h | ⟨o, h⟩
      · rw [z] at h; cases h
      · rw [z] at h; cases h
theorem LkL.go {K : PySem.W.Frag} {N N' : Addr → Prop} {H H' : Hp} (g : Go N N' H H') {a : Addr} {xs : List V} (h : LkL K N H a xs) : LkL K N' H' a xs := by
  refine ⟨g.st _ _ h.2 h.1 nt_lst, fun z => ?_⟩
  rcases g.nw a z with z | z
  · exact h.2 z
  · have := h.1; rw [z] at this; cases this
theorem LkT.go {K : PySem.W.Frag} {N N' : Addr → Prop} {H H' : Hp} (g : Go N N' H H') {a : Addr} {xs : List V} (h : LkT K N H a xs) : LkT K N' H' a xs := by
  rcases h with ⟨h, n⟩ | h
  · exact .inl (Rd.go g h n nt_tup)
  · exact .inr h
/-- keys of dicts as data -/
def kD : L2.Key → PyData
  | .inl i => .int i
  | .inr x => .str x
theorem nt_dK {xs : List (L2.Key × V)} : nt (.dK xs) := fun _ z => nomatch z
def LkD (N : Addr → Prop) (H : Hp) (a : Addr) (kvs : List (L2.Key × V)) : Prop := (∃ o, H a = some (.frz o (.dK kvs))) ∧ ¬ N a
theorem LkD.go {N N' : Addr → Prop} {H H' : Hp} (g : Go N N' H H') {a : Addr} {kvs : List (L2.Key × V)} (h : LkD N H a kvs) : LkD N' H' a kvs := by
  obtain ⟨⟨o, h⟩, n⟩ := h
  refine ⟨⟨o, g.st _ _ n h nt_frz⟩, fun z => ?_⟩
  rcases g.nw a z with z | z
  · exact n z
  · rw [z] at h; cases h
theorem LkD.rd {N : Addr → Prop} {H : Hp} {a : Addr} {kvs : List (L2.Key × V)} (h : LkD N H a kvs) : Rd H a (.dK kvs) := .inr h.1
mutual
/-- what a value is as data: lists, tuples, dicts whose keys are ints and texts -/
inductive Dp (K : PySem.W.Frag) (H : Hp) : V → PyData → Prop
  | non : Dp K H .non .none
  | bl (b : Bool) : Dp K H (.bl b) (.bool b)
  | int (i : Int) : Dp K H (.int i) (.int i)
  | str (x : Str) : Dp K H (.str x) (.str x)
  | lst {a : Addr} {us : List V} {qs : List PyData} : SqL K H a us → DpAll K H us qs → Dp K H (.ref a) (.list qs)
  | tup {a : Addr} {us : List V} {qs : List PyData} : SqT K H a us → DpAll K H us qs → Dp K H (.ref a) (.tuple qs)
  | dic {a : Addr} {kvs : List (L2.Key × V)} {qs : List (PyData × PyData)} : Rd H a (.dK kvs) → DpKv K H kvs qs → Dp K H (.ref a) (.dict qs)
inductive DpAll (K : PySem.W.Frag) (H : Hp) : List V → List PyData → Prop
  | nil : DpAll K H [] []
  | cons {v : V} {vs : List V} {d : PyData} {qs : List PyData} : Dp K H v d → DpAll K H vs qs → DpAll K H (v :: vs) (d :: qs)
inductive DpKv (K : PySem.W.Frag) (H : Hp) : List (L2.Key × V) → List (PyData × PyData) → Prop
  | nil : DpKv K H [] []
  | cons {k : L2.Key} {v : V} {vs : List (L2.Key × V)} {d : PyData} {qs : List (PyData × PyData)} : Dp K H v d → DpKv K H vs qs → DpKv K H ((k, v) :: vs) ((kD k, d) :: qs)
end
mutual
theorem Dp.l2 {K : PySem.W.Frag} {H : Hp} : ∀ {d : PyData} {v : V}, Dp K H v d → d.canLay0 = true → L2.Dp K H v d
  | .none, _, h, _ => by cases h; exact .non
  | .bool _, _, h, _ => by cases h; exact .bl _
  | .int _, _, h, _ => by cases h; exact .int _
  | .str _, _, h, _ => by cases h; exact .str _
  | .list _, _, h, c => by
    cases h with
    | lst l t => exact .lst l (DpAll.l2 t (by simpa only [PyData.canLay0] using c))
  | .tuple _, _, h, c => by
    cases h with
    | tup l t => exact .tup l (DpAll.l2 t (by simpa only [PyData.canLay0] using c))
  | .dict _, _, h, c => by simp only [PyData.canLay0] at c; cases c
theorem DpAll.l2 {K : PySem.W.Frag} {H : Hp} : ∀ {qs : List PyData} {vs : List V}, DpAll K H vs qs → PyData.canLayAll0 qs = true → L2.DpAll K H vs qs
  | [], _, h, _ => by cases h; exact .nil
  | _ :: _, _, h, c => by
    cases h with
    | cons y1 y2 =>
      simp only [PyData.canLayAll0, Bool.and_eq_true] at c
      exact .cons (Dp.l2 y1 c.1) (DpAll.l2 y2 c.2)
end
mutual
theorem Dp.nd {K : PySem.W.Frag} {H : Hp} : ∀ {d : PyData} {v : V}, Dp K H v d → d.hasDict = false → L2.Dp K H v d
  | .none, _, h, _ => by cases h; exact .non
  | .bool _, _, h, _ => by cases h; exact .bl _
  | .int _, _, h, _ => by cases h; exact .int _
  | .str _, _, h, _ => by cases h; exact .str _
  | .list _, _, h, c => by
    cases h with
    | lst l t => exact .lst l (DpAll.nd t (by simpa only [PyData.hasDict] using c))
  | .tuple _, _, h, c => by
    cases h with
    | tup l t => exact .tup l (DpAll.nd t (by simpa only [PyData.hasDict] using c))
  | .dict _, _, h, c => by simp only [PyData.hasDict] at c; cases c
theorem DpAll.nd {K : PySem.W.Frag} {H : Hp} : ∀ {qs : List PyData} {vs : List V}, DpAll K H vs qs → PyData.hasDictAll qs = false → L2.DpAll K H vs qs
  | [], _, h, _ => by cases h; exact .nil
  | _ :: _, _, h, c => by
    cases h with
    | cons y1 y2 =>
      simp only [PyData.hasDictAll, Bool.or_eq_false_iff] at c
      exact .cons (Dp.nd y1 c.1) (DpAll.nd y2 c.2)
end
section
variable {X : Cx} {pins : List (Addr × Obj)} {σ : L2.St} {H : Hp} {s : Shared}
theorem key_reads {h : Heap} {k : L2.Key} {u : Value} (e : keyIs k u = true) : Reads h u (kD k) [] := by
  rcases keyIs_shape e with ⟨i, t, rfl, rfl⟩ | ⟨x, t, rfl, rfl⟩
  · exact Reads.int i t
  · exact Reads.str x t
mutual
theorem Dp.reads (I : L2.Inv X pins σ H s) : ∀ (d : PyData) (v : V) (u : Value), Dp X.K H v d → RelV v u → ∃ as, Reads s.heap u d as
  | .none, _, _, h, r => by
    cases h
    cases r
    exact ⟨_, Reads.none⟩
  | .bool b, _, _, h, r => by
    cases h
    cases r
    exact ⟨_, Reads.bool b⟩
  | .int i, _, _, h, r => by
    cases h
    obtain ⟨t, rfl⟩ := r
    exact ⟨_, Reads.int i t⟩
  | .str x, _, _, h, r => by
    cases h
    obtain ⟨t, rfl⟩ := r
    exact ⟨_, Reads.str x t⟩
  | .list qs, _, _, h, r => by
    cases h with
    | lst k1 k2 =>
      cases r
      obtain ⟨tis, rv, ⟨o, n, e0, e1c, _, e2d⟩, _⟩ := I.list k1
      obtain ⟨as, kr⟩ := Dp.readsAll I qs _ tis k2 rv
      exact ⟨_, Reads.list e0 e1c e2d kr⟩
  | .tuple qs, _, _, h, r => by
    cases h with
    | tup k1 k2 =>
      cases r
      obtain ⟨tis, rv, ⟨o, e0, e1c, n, e2d⟩, _⟩ := I.tuple k1
      obtain ⟨as, kr⟩ := Dp.readsAll I qs _ tis k2 rv
      exact ⟨_, Reads.tuple e0 e1c e2d kr⟩
  | .dict qs, _, _, h, r => by
    cases h with
    | dic l t =>
      cases r
      obtain ⟨_, _, vs, kv, o, es, ep, y1, y2, h3, h4, h5, h6⟩ := dk_rd I.hok l
      obtain ⟨⟨as, g1⟩, bs, g2⟩ := DpKv.reads I qs _ vs es.toList t kv h5
      exact ⟨_, Reads.dict y1 y2.1 h3 g1 g2⟩
theorem Dp.readsAll (I : L2.Inv X pins σ H s) : ∀ (qs : List PyData) (vs : List V) (us : List Value), DpAll X.K H vs qs → Vals vs us → ∃ as, ReadsAll s.heap us qs as
  | [], _, _, h, r => by
    cases h
    cases r
    exact ⟨_, ReadsAll.nil⟩
  | d :: qs, _, _, h, r => by
    cases h with
    | cons y1 y2 =>
      cases r with
      | cons z1 z2 =>
        obtain ⟨as, g1⟩ := Dp.reads I d _ _ y1 z1
        obtain ⟨bs, g2⟩ := Dp.readsAll I qs _ _ y2 z2
        exact ⟨_, ReadsAll.cons g1 g2⟩
theorem DpKv.reads (I : L2.Inv X pins σ H s) : ∀ (qs : List (PyData × PyData)) (kvs : List (L2.Key × V)) (vs : List (L2.Key × Value)) (es : List DictEntry), DpKv X.K H kvs qs → KV kvs vs → Pairs (mixKind X.prog X.w) es vs →
    (∃ as, ReadsAll s.heap (es.map (·.key)) (qs.map (·.1)) as) ∧ ∃ bs, ReadsAll s.heap (es.map (·.val)) (qs.map (·.2)) bs
  | [], _, _, _, h, kv, p => by
    cases h
    cases kv
    cases p
    exact ⟨⟨_, ReadsAll.nil⟩, _, ReadsAll.nil⟩
  | (k, d) :: qs, _, _, _, h, kv, p => by
    cases h with
    | cons y1 y2 =>
      cases kv with
      | cons z1 z2 =>
        cases p with
        | cons p1 p2 p3 =>
          obtain ⟨⟨as, g1⟩, bs, g2⟩ := DpKv.reads I qs _ _ _ y2 z2 p3
          obtain ⟨e1, rv⟩ := z1
          obtain ⟨cs, q3⟩ := Dp.reads I d _ _ y1 rv
          dsimp only at e1 p1
          rw [← e1] at p1
          rw [← p2] at q3
          exact ⟨⟨_, ReadsAll.cons (key_reads p1) g1⟩, _, ReadsAll.cons q3 g2⟩
end
end
mutual
def Im (K : PySem.W.Frag) (N : Addr → Prop) (H : Hp) : PyData → V → Prop
  | .none, v => v = .non
  | .bool b, v => v = .bl b
  | .int i, v => v = .int i
  | .str x, v => v = .str x
  | .list ds, v => ∃ a xs, v = .ref a ∧ LkL K N H a xs ∧ ImAll K N H ds xs
  | .tuple ds, v => ∃ a xs, v = .ref a ∧ LkT K N H a xs ∧ ImAll K N H ds xs
  | .dict ds, v => ∃ a kvs, v = .ref a ∧ LkD N H a kvs ∧ ImKv K N H ds kvs
def ImAll (K : PySem.W.Frag) (N : Addr → Prop) (H : Hp) : List PyData → List V → Prop
  | [], vs => vs = []
  | d :: ds, vs => ∃ x xs, vs = x :: xs ∧ Im K N H d x ∧ ImAll K N H ds xs
def ImKv (K : PySem.W.Frag) (N : Addr → Prop) (H : Hp) : List (PyData × PyData) → List (L2.Key × V) → Prop
  | [], vs => vs = []
  | (k, d) :: ds, vs => ∃ q x xs, vs = (q, x) :: xs ∧ k = kD q ∧ Im K N H d x ∧ ImKv K N H ds xs
end
section
variable {K : PySem.W.Frag} {N N' : Addr → Prop} {H H' : Hp}
mutual
theorem Im.go (g : Go N N' H H') : ∀ {d : PyData} {v : V}, Im K N H d v → Im K N' H' d v
  | .none, _, h => by simpa only [Im] using h
  | .bool _, _, h => by simpa only [Im] using h
  | .int _, _, h => by simpa only [Im] using h
  | .str _, _, h => by simpa only [Im] using h
  | .list _, _, h => by
    simp only [Im] at h ⊢
    obtain ⟨a, xs, e, l, t⟩ := h
    exact ⟨a, xs, e, l.go g, ImAll.go g t⟩
  | .tuple _, _, h => by
    simp only [Im] at h ⊢
    obtain ⟨a, xs, e, l, t⟩ := h
    exact ⟨a, xs, e, l.go g, ImAll.go g t⟩
  | .dict _, _, h => by
    simp only [Im] at h ⊢
    obtain ⟨a, kvs, e, l, t⟩ := h
    exact ⟨a, kvs, e, l.go g, ImKv.go g t⟩
theorem ImAll.go (g : Go N N' H H') : ∀ {ds : List PyData} {vs : List V}, ImAll K N H ds vs → ImAll K N' H' ds vs
  | [], _, h => by simpa only [ImAll] using h
  | _ :: _, _, h => by
    simp only [ImAll] at h ⊢
    obtain ⟨x, xs, e, l, t⟩ := h
    exact ⟨x, xs, e, Im.go g l, ImAll.go g t⟩
theorem ImKv.go (g : Go N N' H H') : ∀ {ds : List (PyData × PyData)} {vs : List (L2.Key × V)}, ImKv K N H ds vs → ImKv K N' H' ds vs
  | [], _, h => by simpa only [ImKv] using h
  | (_, _) :: _, _, h => by
    simp only [ImKv] at h ⊢
    obtain ⟨q, x, xs, e, k, l, t⟩ := h
    exact ⟨q, x, xs, e, k, Im.go g l, ImKv.go g t⟩
end
mutual
theorem Im.dp : ∀ {d : PyData} {v : V}, Im K N H d v → Dp K H v d
  | .none, _, h => by simp only [Im] at h; subst h; exact .non
  | .bool _, _, h => by simp only [Im] at h; subst h; exact .bl _
  | .int _, _, h => by simp only [Im] at h; subst h; exact .int _
  | .str _, _, h => by simp only [Im] at h; subst h; exact .str _
  | .list _, _, h => by
    simp only [Im] at h
    obtain ⟨a, xs, rfl, l, t⟩ := h
    exact .lst l.sq (ImAll.dp t)
  | .tuple _, _, h => by
    simp only [Im] at h
    obtain ⟨a, xs, rfl, l, t⟩ := h
    exact .tup l.sq (ImAll.dp t)
  | .dict _, _, h => by
    simp only [Im] at h
    obtain ⟨a, kvs, rfl, l, t⟩ := h
    exact .dic l.rd (ImKv.dp t)
theorem ImAll.dp : ∀ {ds : List PyData} {vs : List V}, ImAll K N H ds vs → DpAll K H vs ds
  | [], _, h => by simp only [ImAll] at h; subst h; exact .nil
  | _ :: _, _, h => by
    simp only [ImAll] at h
    obtain ⟨x, xs, rfl, l, t⟩ := h
    exact .cons (Im.dp l) (ImAll.dp t)
theorem ImKv.dp : ∀ {ds : List (PyData × PyData)} {vs : List (L2.Key × V)}, ImKv K N H ds vs → DpKv K H vs ds
  | [], _, h => by simp only [ImKv] at h; subst h; exact .nil
  | (_, _) :: _, _, h => by
    simp only [ImKv] at h
    obtain ⟨q, x, xs, rfl, rfl, l, t⟩ := h
    exact .cons (Im.dp l) (ImKv.dp t)
end
theorem ImAll.length : ∀ {ds : List PyData} {vs : List V}, ImAll K N H ds vs → vs.length = ds.length
  | [], _, h => by simp only [ImAll] at h; subst h; rfl
  | _ :: _, _, h => by
    simp only [ImAll] at h
    obtain ⟨x, xs, rfl, l, t⟩ := h
    simp [ImAll.length t]
theorem ImAll.get : ∀ {ds : List PyData} {vs : List V} {i : Nat} {d : PyData}, ImAll K N H ds vs → ds[i]? = some d → ∃ v, vs[i]? = some v ∧ Im K N H d v
  | [], _, _, _, _, e => by simp at e
  | d :: ds, _, 0, _, h, e => by
    simp only [ImAll] at h
    obtain ⟨x, xs, rfl, l, t⟩ := h
    simp at e; subst e
    exact ⟨x, rfl, l⟩
  | d :: ds, _, i + 1, _, h, e => by
    simp only [ImAll] at h
    obtain ⟨x, xs, rfl, l, t⟩ := h
    obtain ⟨v, e1, l1⟩ := ImAll.get (i := i) t (by simpa using e)
    exact ⟨v, by simpa using e1, l1⟩
theorem ImAll.getV : ∀ {ds : List PyData} {vs : List V} {i : Nat} {v : V}, ImAll K N H ds vs → vs[i]? = some v → ∃ d, ds[i]? = some d ∧ Im K N H d v
  | [], _, _, _, h, e => by simp only [ImAll] at h; subst h; simp at e
  | d :: ds, _, 0, _, h, e => by
    simp only [ImAll] at h
    obtain ⟨x, xs, rfl, l, t⟩ := h
    simp at e; subst e
    exact ⟨d, rfl, l⟩
  | d :: ds, _, i + 1, _, h, e => by
    simp only [ImAll] at h
    obtain ⟨x, xs, rfl, l, t⟩ := h
    obtain ⟨v, e1, l1⟩ := ImAll.getV (i := i) t (by simpa using e)
    exact ⟨v, by simpa using e1, l1⟩
theorem ImAll.append : ∀ {ds es : List PyData} {vs us : List V}, ImAll K N H ds vs → ImAll K N H es us → ImAll K N H (ds ++ es) (vs ++ us)
  | [], _, _, _, h, k => by simp only [ImAll] at h; subst h; exact k
  | d :: ds, es, _, us, h, k => by
    simp only [ImAll] at h
    obtain ⟨x, xs, rfl, l, t⟩ := h
    show ImAll K N H (d :: (ds ++ es)) (x :: (xs ++ us))
    simp only [ImAll]
    exact ⟨x, _, rfl, l, ImAll.append t k⟩
theorem ImAll.cons {d : PyData} {ds : List PyData} {v : V} {vs : List V} (h : Im K N H d v) (k : ImAll K N H ds vs) : ImAll K N H (d :: ds) (v :: vs) := by
  simp only [ImAll]; exact ⟨v, vs, rfl, h, k⟩
theorem ImAll.nil : ImAll K N H [] [] := by simp only [ImAll]
theorem ImAll.take : ∀ {ds : List PyData} {vs : List V} (n : Nat), ImAll K N H ds vs → ImAll K N H (ds.take n) (vs.take n)
  | _, _, 0, _ => by simp only [List.take_zero]; exact .nil
  | [], _, n + 1, h => by simp only [ImAll] at h; subst h; exact .nil
  | d :: ds, _, n + 1, h => by
    simp only [ImAll] at h
    obtain ⟨x, xs, rfl, l, t⟩ := h
    exact ImAll.cons l (ImAll.take n t)
theorem ImAll.drop : ∀ {ds : List PyData} {vs : List V} (n : Nat), ImAll K N H ds vs → ImAll K N H (ds.drop n) (vs.drop n)
  | _, _, 0, h => h
  | [], _, n + 1, h => by simp only [ImAll] at h; subst h; exact .nil
  | d :: ds, _, n + 1, h => by
    simp only [ImAll] at h
    obtain ⟨x, xs, rfl, l, t⟩ := h
    exact ImAll.drop n t
theorem ImAll.set : ∀ {ds : List PyData} {vs : List V} {d : PyData} {v : V} (i : Nat), ImAll K N H ds vs → Im K N H d v → ImAll K N H (ds.set i d) (vs.set i v)
  | [], _, _, _, _, h, _ => by simp only [ImAll] at h; subst h; exact .nil
  | d :: ds, _, _, _, 0, h, k => by
    simp only [ImAll] at h
    obtain ⟨x, xs, rfl, l, t⟩ := h
    exact ImAll.cons k t
  | d :: ds, _, _, _, i + 1, h, k => by
    simp only [ImAll] at h
    obtain ⟨x, xs, rfl, l, t⟩ := h
    exact ImAll.cons l (ImAll.set i t k)
theorem Im.int {i : Int} : Im K N H (.int i) (.int i) := by simp only [Im]
theorem Im.bool {b : Bool} : Im K N H (.bool b) (.bl b) := by simp only [Im]
theorem Im.none : Im K N H .none .non := by simp only [Im]
theorem Im.str {x : Str} : Im K N H (.str x) (.str x) := by simp only [Im]
theorem Im.int_iff {i : Int} {v : V} : Im K N H (.int i) v ↔ v = .int i := by simp only [Im]
theorem Im.bool_iff {b : Bool} {v : V} : Im K N H (.bool b) v ↔ v = .bl b := by simp only [Im]
theorem ImAll.ints : ∀ ns : List Int, ImAll K N H (ns.map .int) (ns.map .int)
  | [] => .nil
  | n :: ns => .cons .int (ImAll.ints ns)
end
/-- K the written part; H0 the heap at its start; N what callers may change; L what is lent to this body -/
structure Fm where
  K : PySem.W.Frag
  H0 : Hp
  N : Addr → Prop
  L : Addr → Prop
  fix : Nat → Prop
  T : List (Addr × Str)
inductive Ent
  | d (x : PyData)
  | own (xs : List PyData)
  | dic (kvs : List (List L2.Key × PyData))
  | dik (kvs : List (L2.Key × PyData))
  | ro (x : PyData)
  | raw (v : V)
/-- it is of this body's own: a list, a dict -/
def Ent.mine : Ent → Prop
  | .own _ => True
  | .dic _ => True
  | .dik _ => True
  | _ => False
abbrev Rho := List (Option Ent)
inductive R
  | d (x : PyData)
  | o (i : Nat)
  | raw (v : V)
inductive Pin
  | val (v : V) (r : R)
  | acc (a : Addr) (xs : List PyData)
  | frz (a : Addr) (o : Obj)
def accs : List Pin → List Addr
  | [] => []
  | .acc a _ :: ps => a :: accs ps
  | .val _ _ :: ps => accs ps
  | .frz _ _ :: ps => accs ps
theorem mem_accs {a : Addr} : ∀ {ps : List Pin}, a ∈ accs ps ↔ ∃ xs, Pin.acc a xs ∈ ps
  | [] => by simp [accs]
  | .acc b ys :: ps => by
    simp only [accs, List.mem_cons, mem_accs (ps := ps)]
    constructor
    · rintro (rfl | ⟨xs, h⟩)
      · exact ⟨ys, .inl rfl⟩
      · exact ⟨xs, .inr h⟩
    · rintro ⟨xs, h | h⟩
      · cases h; exact .inl rfl
      · exact .inr ⟨xs, h⟩
  | .val v r :: ps => by
    simp only [accs, mem_accs (ps := ps), List.mem_cons]
    constructor
    · rintro ⟨xs, h⟩; exact ⟨xs, .inr h⟩
    · rintro ⟨xs, h | h⟩
      · cases h
      · exact ⟨xs, h⟩
  | .frz v r :: ps => by
    simp only [accs, mem_accs (ps := ps), List.mem_cons]
    constructor
    · rintro ⟨xs, h⟩; exact ⟨xs, .inr h⟩
    · rintro ⟨xs, h | h⟩
      · cases h
      · exact ⟨xs, h⟩
def OwnAt (ρ : Rho) (σ : L2.St) (i : Nat) (a : Addr) : Prop := (∃ e : Ent, ρ[i]? = some (some e) ∧ e.mine) ∧ σ[i]? = some (some (.ref a))
/-- what may be changed while this body runs -/
def Av (F : Fm) (pins : List Pin) (ρ : Rho) (σ : L2.St) : Addr → Prop := fun a => F.N a ∨ (∃ i, OwnAt ρ σ i a) ∨ a ∈ accs pins
/-- a list that callers may change, but nobody while this body runs -/
def LkR (F : Fm) (a : Addr) (us : List V) : Prop := (Rd F.H0 a (.lst us) ∧ ¬ F.L a) ∨ SqL F.K (fun _ => none) a us
def RoOk (F : Fm) (A : Addr → Prop) (H : Hp) (x : PyData) (v : V) : Prop := Im F.K A H x v ∨ ∃ a us xs, v = .ref a ∧ x = .list xs ∧ LkR F a us ∧ ImAll F.K A H xs us
def EntOk (F : Fm) (A : Addr → Prop) (H : Hp) : Ent → V → Prop
  | .d x, v => Im F.K A H x v
  | .own xs, v => ∃ a vs, v = .ref a ∧ H a = some (.lst vs) ∧ ImAll F.K A H xs vs ∧ (F.L a ∨ F.H0 a = none)
  | .dic kvs, v => ∃ a vs, v = .ref a ∧ H a = some (.dT vs) ∧ vs.map (·.1) = kvs.map (·.1) ∧ ImAll F.K A H (kvs.map (·.2)) (vs.map (·.2)) ∧ F.H0 a = none
  | .dik kvs, v => ∃ a vs, v = .ref a ∧ H a = some (.dK vs) ∧ vs.map (·.1) = kvs.map (·.1) ∧ ImAll F.K A H (kvs.map (·.2)) (vs.map (·.2)) ∧ F.H0 a = none
  | .ro x, v => RoOk F A H x v
  | .raw u, v => v = u
/-- a slot's data -/
def slot (ρ : Rho) (i : Nat) : Option PyData :=
  match ρ[i]? with
  | some (some (.d x)) => some x
  | some (some (.own xs)) => some (.list xs)
  | some (some (.ro x)) => some x
  | _ => none
def val (ρ : Rho) : R → Option PyData
  | .d x => some x
  | .o i => slot ρ i
  | .raw _ => none
def ROk (F : Fm) (A : Addr → Prop) (ρ : Rho) (σ : L2.St) (H : Hp) : R → V → Prop
  | .d x, v => Im F.K A H x v
  | .o i, v => σ[i]? = some (some v) ∧ ∃ x, slot ρ i = some x
  | .raw u, v => v = u
def PinOk (F : Fm) (A : Addr → Prop) (ρ : Rho) (σ : L2.St) (H : Hp) : Pin → Prop
  | .val v r => ROk F A ρ σ H r v
  | .acc a xs => ∃ vs, H a = some (.lst vs) ∧ ImAll F.K A H xs vs ∧ F.H0 a = none ∧ (¬ ∃ i, OwnAt ρ σ i a)
  | .frz a o => ∃ u, H a = some (.frz o u)
/-- what may be changed in place: a list, a dict -/
def Mutab : HO → Prop
  | .lst _ => True
  | .dT _ => True
  | .dK _ => True
  | _ => False
/-- the heap has grown; tables of code objects may have changed -/
structure Gr (H H' : Hp) : Prop where
  ext : ExtN H H'
  tbl : ∀ a ps, H a = some (.tbl ps) → ∃ qs, H' a = some (.tbl qs)
theorem Gr.of {H H' : Hp} (g : ∀ a o, H a = some o → H' a = some o) : Gr H H' := ⟨ExtN.of g, fun a ps h => ⟨ps, g _ _ h⟩⟩
theorem Gr.refl (H : Hp) : Gr H H := .of fun _ _ h => h
theorem Gr.trans {H H1 H2 : Hp} (g : Gr H H1) (k : Gr H1 H2) : Gr H H2 := ⟨g.ext.trans k.ext, fun a ps h => let ⟨qs, h1⟩ := g.tbl a ps h; k.tbl a qs h1⟩
def TbOk (F : Fm) (H : Hp) : Prop := Tabs F.T H ∧ ∀ a ps, F.H0 a = some (.tbl ps) → ∃ qs, H a = some (.tbl qs)
theorem TbOk.gr {F : Fm} {H H' : Hp} (t : TbOk F H) (g : Gr H H') (k : Tabs F.T H') : TbOk F H' := ⟨k, fun a ps h => let ⟨qs, h1⟩ := t.2 a ps h; g.tbl a qs h1⟩
theorem TbOk.ext {F : Fm} {H H' : Hp} (t : TbOk F H) (g : ∀ a o, H a = some o → H' a = some o) : TbOk F H' := t.gr (.of g) (t.1.ext g)
theorem code_nm {c : Addr} {q : Str} : ¬ Mutab (CodeO c q) := by
  unfold CodeO
  exact fun z => z
theorem tabs_upd {T : List (Addr × Str)} {H : Hp} (t : Tabs T H) {a : Addr} {o u : HO} (h : H a = some o) (m : Mutab o) : Tabs T (upd H a u) := fun p hp => by
  obtain ⟨ps, h1, h2, h3⟩ := t p hp
  have ne : ∀ {b : Addr} {v : HO}, H b = some v → ¬ Mutab v → b ≠ a := fun e n z => by
    subst z
    rw [h] at e
    cases e
    exact n m
  refine ⟨ps, by rw [upd_ne (ne h1 (fun z => z))]; exact h1, h2, fun pos cv hc => ?_⟩
  obtain ⟨c, e1, e2⟩ := h3 pos cv hc
  exact ⟨c, e1, by rw [upd_ne (ne e2 code_nm)]; exact e2⟩
theorem TbOk.upd {F : Fm} {H : Hp} (t : TbOk F H) {a : Addr} {o u : HO} (h : H a = some o) (m : Mutab o) : TbOk F (upd H a u) := by
  refine ⟨tabs_upd t.1 h m, fun b ps e => ?_⟩
  obtain ⟨qs, h1⟩ := t.2 b ps e
  refine ⟨qs, ?_⟩
  rw [upd_ne (fun z => ?_)]
  · exact h1
  · subst z; rw [h] at h1; cases h1; exact m
theorem Mutab.nt {o : HO} (h : Mutab o) : DV.nt o := fun ps e => by
  subst e
  exact h
structure Ok (F : Fm) (pins : List Pin) (ρ : Rho) (σ : L2.St) (H : Hp) : Prop where
  len : σ.length = ρ.length
  ent : ∀ (i : Nat) (e : Ent), ρ[i]? = some (some e) → ∃ v, σ[i]? = some (some v) ∧ EntOk F (Av F pins ρ σ) H e v
  own : ∀ (i j : Nat) (a : Addr), OwnAt ρ σ i a → OwnAt ρ σ j a → i = j
  pin : ∀ p ∈ pins, PinOk F (Av F pins ρ σ) ρ σ H p
  acs : (accs pins).Nodup
  fr : ∀ a o, ¬ F.L a → F.H0 a = some o → nt o → H a = some o
  nh : ∀ a, F.N a → ∃ o, H a = some o ∧ Mutab o
  ln : ∀ a, F.L a → F.N a
  h0 : ∀ a, F.N a → ∃ o, F.H0 a = some o
  lf : ∀ (i : Nat) (a : Addr), OwnAt ρ σ i a → F.L a → F.fix i
  tb : TbOk F H
section
variable {F : Fm} {pins : List Pin} {ρ : Rho} {σ : L2.St} {H H' : Hp}
theorem Ok.ownM (O : Ok F pins ρ σ H) {i : Nat} {a : Addr} (h : OwnAt ρ σ i a) : ∃ o, H a = some o ∧ Mutab o ∧ (F.L a ∨ F.H0 a = none) := by
  obtain ⟨⟨e, h1, hm⟩, h2⟩ := h
  obtain ⟨v, h3, h4⟩ := O.ent i _ h1
  rw [h2] at h3
  cases h3
  cases e with
  | own xs =>
    obtain ⟨b, vs, e, h5, _, h6⟩ := h4
    cases e
    exact ⟨_, h5, trivial, h6⟩
  | dic kvs =>
    obtain ⟨b, vs, e, h5, _, _, h6⟩ := h4
    cases e
    exact ⟨_, h5, trivial, .inr h6⟩
  | dik kvs =>
    obtain ⟨b, vs, e, h5, _, _, h6⟩ := h4
    cases e
    exact ⟨_, h5, trivial, .inr h6⟩
  | d x => exact hm.elim
  | ro x => exact hm.elim
  | raw x => exact hm.elim
theorem Ok.ownL (O : Ok F pins ρ σ H) {i : Nat} {a : Addr} (h : OwnAt ρ σ i a) : ∃ o, H a = some o ∧ (F.L a ∨ F.H0 a = none) := by
  obtain ⟨o, h1, _, h2⟩ := O.ownM h
  exact ⟨o, h1, h2⟩
theorem Ok.avM (O : Ok F pins ρ σ H) {a : Addr} (h : Av F pins ρ σ a) : ∃ o, H a = some o ∧ Mutab o := by
  rcases h with h | ⟨i, h⟩ | h
  · exact O.nh a h
  · obtain ⟨vs, h, m, _⟩ := O.ownM h; exact ⟨_, h, m⟩
  · obtain ⟨xs, h⟩ := mem_accs.mp h
    obtain ⟨vs, h, _⟩ := O.pin _ h
    exact ⟨_, h, trivial⟩
theorem Ok.avH (O : Ok F pins ρ σ H) {a : Addr} (h : Av F pins ρ σ a) : ∃ o, H a = some o := by
  obtain ⟨o, h, _⟩ := O.avM h
  exact ⟨o, h⟩
theorem RoOk.go {A A' : Addr → Prop} (g : Go A A' H H') {x : PyData} {v : V} (h : RoOk F A H x v) : RoOk F A' H' x v := by
  rcases h with h | ⟨a, us, xs, e, e2, l, t⟩
  · exact .inl (h.go g)
  · exact .inr ⟨a, us, xs, e, e2, l, t.go g⟩
/-- a change of the heap that Av does not feel -/
theorem Ok.heapE (O : Ok F pins ρ σ H) (g : ExtN H H') (tb : TbOk F H') : Ok F pins ρ σ H' := by
  have G : Go (Av F pins ρ σ) (Av F pins ρ σ) H H' := ⟨fun a o _ h m => g a o h m, fun a h => .inl h⟩
  refine ⟨O.len, fun i e h => ?_, O.own, fun p hp => ?_, O.acs, fun a o n h m => g _ _ (O.fr a o n h m) m, fun a h => ?_, O.ln, O.h0, O.lf, tb⟩
  · obtain ⟨v, h1, h2⟩ := O.ent i e h
    refine ⟨v, h1, ?_⟩
    cases e with
    | d x => exact Im.go G h2
    | own xs =>
      obtain ⟨a, vs, e, h5, h6, h7⟩ := h2
      exact ⟨a, vs, e, g _ _ h5 nt_lst, h6.go G, h7⟩
    | dic kvs =>
      obtain ⟨a, vs, e, h5, h6, h7, h8⟩ := h2
      exact ⟨a, vs, e, g _ _ h5 nt_dT, h6, h7.go G, h8⟩
    | dik kvs =>
      obtain ⟨a, vs, e, h5, h6, h7, h8⟩ := h2
      exact ⟨a, vs, e, g _ _ h5 nt_dK, h6, h7.go G, h8⟩
    | ro x => exact RoOk.go G h2
    | raw u => exact h2
  · have h := O.pin p hp
    cases p with
    | val v r =>
      cases r with
      | d x => exact Im.go G h
      | o i => exact h
      | raw u => exact h
    | acc a xs =>
      obtain ⟨vs, h1, h2, h3⟩ := h
      exact ⟨vs, g _ _ h1 nt_lst, h2.go G, h3⟩
    | frz a o =>
      obtain ⟨u, h1⟩ := h
      exact ⟨u, g _ _ h1 nt_frz⟩
  · obtain ⟨o, h, m⟩ := O.nh a h
    exact ⟨o, g _ _ h (Mutab.nt m), m⟩
theorem Ok.heapN (O : Ok F pins ρ σ H) (g : Gr H H') (tb : Tabs F.T H') : Ok F pins ρ σ H' := O.heapE g.ext (O.tb.gr g tb)
theorem Ok.fr0 (O : Ok F pins ρ σ H) : ∀ a o, ¬ F.L a → F.H0 a = some o → H a ≠ none := fun a o n h z => by
  by_cases m : nt o
  · rw [O.fr a o n h m] at z; cases z
  · have : ∃ ps, o = .tbl ps := Classical.byContradiction fun q => m fun ps e => q ⟨ps, e⟩
    obtain ⟨ps, rfl⟩ := this
    obtain ⟨qs, e⟩ := O.tb.2 a ps h
    rw [e] at z; cases z
theorem Ok.heap (O : Ok F pins ρ σ H) (g : ∀ a o, H a = some o → H' a = some o) : Ok F pins ρ σ H' := O.heapN (Gr.of g) (O.tb.1.ext g)
theorem grow_new {p : Addr} {o : HO} (h : H p = none) : ∀ a u, H a = some u → upd H p o a = some u := fun a u e => by
  rw [upd_ne (ne_of_none e h)]; exact e
theorem Ok.new (O : Ok F pins ρ σ H) {p : Addr} {o : HO} (h : H p = none) : Ok F pins ρ σ (upd H p o) := O.heap (grow_new h)
/-- a value is kept in mind -/
theorem Ok.push (O : Ok F pins ρ σ H) {v : V} {r : R} (h : ROk F (Av F pins ρ σ) ρ σ H r v) : Ok F (.val v r :: pins) ρ σ H := by
  have e : Av F (.val v r :: pins) ρ σ = Av F pins ρ σ := rfl
  refine ⟨O.len, by rw [e]; exact O.ent, O.own, fun p hp => ?_, O.acs, O.fr, O.nh, O.ln, O.h0, O.lf, O.tb⟩
  rw [e]
  rcases List.mem_cons.mp hp with rfl | hp
  · exact h
  · exact O.pin p hp
theorem Ok.popV {v : V} {r : R} (O : Ok F (.val v r :: pins) ρ σ H) : Ok F pins ρ σ H ∧ ROk F (Av F pins ρ σ) ρ σ H r v := by
  have e : Av F (.val v r :: pins) ρ σ = Av F pins ρ σ := rfl
  refine ⟨⟨O.len, by have := O.ent; rw [e] at this; exact this, O.own, fun p hp => ?_, O.acs, O.fr, O.nh, O.ln, O.h0, O.lf, O.tb⟩, ?_⟩
  · have := O.pin p (List.mem_cons_of_mem _ hp)
    rw [e] at this; exact this
  · have := O.pin _ (List.mem_cons_self ..)
    rw [e] at this; exact this
theorem ROk.go {A A' : Addr → Prop} (g : Go A A' H H') {r : R} {v : V} (h : ROk F A ρ σ H r v) : ROk F A' ρ σ H' r v := by
  cases r with
  | d x => exact Im.go g h
  | o i => exact h
  | raw u => exact h
/-- a new list, kept in mind: nobody else knows it -/
theorem Ok.pushL (O : Ok F pins ρ σ H) {p : Addr} {xs : List PyData} {vs : List V} (hp : H p = none) (h : ImAll F.K (Av F pins ρ σ) H xs vs) : Ok F (.acc p xs :: pins) ρ σ (upd H p (.lst vs)) := by
  have G : Go (Av F pins ρ σ) (Av F (.acc p xs :: pins) ρ σ) H (upd H p (.lst vs)) := by
    refine ⟨fun a o _ h _ => grow_new hp a o h, fun a h => ?_⟩
    rcases h with h | h | h
    · exact .inl (.inl h)
    · exact .inl (.inr (.inl h))
    · rcases List.mem_cons.mp (show a ∈ p :: accs pins from h) with rfl | h
      · exact .inr hp
      · exact .inl (.inr (.inr h))
  have nAv : ¬ Av F pins ρ σ p := fun h => by obtain ⟨o, h⟩ := O.avH h; rw [hp] at h; cases h
  have g := grow_new (o := .lst vs) hp
  refine ⟨O.len, fun i e h => ?_, O.own, fun q hq => ?_, ?_, fun a o n h m => g _ _ (O.fr a o n h m), fun a h => ?_, O.ln, O.h0, O.lf, O.tb.ext g⟩
  · obtain ⟨v, h1, h2⟩ := O.ent i e h
    refine ⟨v, h1, ?_⟩
    cases e with
    | d x => exact Im.go G h2
    | own ys =>
      obtain ⟨a, us, e, h5, h6, h7⟩ := h2
      exact ⟨a, us, e, g _ _ h5, h6.go G, h7⟩
    | dic kvs =>
      obtain ⟨a, vs, e, h5, h6, h7, h8⟩ := h2
      exact ⟨a, vs, e, g _ _ h5, h6, h7.go G, h8⟩
    | dik kvs =>
      obtain ⟨a, vs, e, h5, h6, h7, h8⟩ := h2
      exact ⟨a, vs, e, g _ _ h5, h6, h7.go G, h8⟩
    | ro x => exact RoOk.go G h2
    | raw u => exact h2
  · rcases List.mem_cons.mp hq with rfl | hq
    · refine ⟨vs, upd_same, h.go G, ?_, fun ⟨i, z⟩ => nAv (.inr (.inl ⟨i, z⟩))⟩
      cases e : F.H0 p with
      | none => rfl
      | some o =>
        by_cases hl : F.L p
        · exact absurd (.inl (O.ln p hl)) nAv
        · exact absurd hp (O.fr0 p o hl e)
    · have h := O.pin q hq
      cases q with
      | val v r => exact ROk.go G h
      | acc a ys =>
        obtain ⟨us, h1, h2, h3⟩ := h
        exact ⟨us, g _ _ h1, h2.go G, h3⟩
      | frz a o =>
        obtain ⟨u, h1⟩ := h
        exact ⟨u, g _ _ h1⟩
  · show (p :: accs pins).Nodup
    refine List.nodup_cons.mpr ⟨fun h => nAv (.inr (.inr h)), O.acs⟩
  · obtain ⟨o, h, m⟩ := O.nh a h
    exact ⟨o, g _ _ h, m⟩
/-- it is data from now on -/
theorem Ok.popL {p : Addr} {xs : List PyData} (O : Ok F (.acc p xs :: pins) ρ σ H) : Ok F pins ρ σ H ∧ Im F.K (Av F pins ρ σ) H (.list xs) (.ref p) := by
  have G : Go (Av F (.acc p xs :: pins) ρ σ) (Av F pins ρ σ) H H := by
    refine ⟨fun a o _ h _ => h, fun a h => .inl ?_⟩
    rcases h with h | h | h
    · exact .inl h
    · exact .inr (.inl h)
    · exact .inr (.inr (List.mem_cons_of_mem _ h))
  obtain ⟨vs, h1, h2, h3, h4⟩ := O.pin _ (List.mem_cons_self ..)
  have hnd := List.nodup_cons.mp (show (p :: accs pins).Nodup from O.acs)
  refine ⟨⟨O.len, fun i e h => ?_, O.own, fun q hq => ?_, hnd.2, O.fr, O.nh, O.ln, O.h0, O.lf, O.tb⟩, ?_⟩
  · obtain ⟨v, h1, h2⟩ := O.ent i e h
    refine ⟨v, h1, ?_⟩
    cases e with
    | d x => exact Im.go G h2
    | own ys =>
      obtain ⟨a, us, e, h5, h6, h7⟩ := h2
      exact ⟨a, us, e, h5, h6.go G, h7⟩
    | dic kvs =>
      obtain ⟨a, vs, e, h5, h6, h7, h8⟩ := h2
      exact ⟨a, vs, e, h5, h6, h7.go G, h8⟩
    | dik kvs =>
      obtain ⟨a, vs, e, h5, h6, h7, h8⟩ := h2
      exact ⟨a, vs, e, h5, h6, h7.go G, h8⟩
    | ro x => exact RoOk.go G h2
    | raw u => exact h2
  · have h := O.pin q (List.mem_cons_of_mem _ hq)
    cases q with
    | val v r => exact ROk.go G h
    | acc a ys =>
      obtain ⟨us, h1, h2, h3⟩ := h
      exact ⟨us, h1, h2.go G, h3⟩
    | frz a o => exact h
  · simp only [Im]
    refine ⟨p, vs, rfl, ⟨h1, ?_⟩, h2.go G⟩
    rintro (h | h | h)
    · obtain ⟨o, h⟩ := O.h0 p h
      rw [h3] at h; cases h
    · exact h4 h
    · exact hnd.1 h
end
end DV
namespace DV
open PySem PySem.Spec PyProof.Rows L2
open LamX (ExtN TabS Tabs CodeO)
section
variable {F : Fm} {pins : List Pin} {ρ : Rho} {σ : L2.St} {H H' : Hp}
theorem EntOk.goM {A A' : Addr → Prop} (g : Go A A' H H') {e : Ent} {v : V} (h : EntOk F A H e v) (hown : ∀ a o, v = .ref a → H a = some o → e.mine → Mutab o → H' a = some o) : EntOk F A' H' e v := by
  cases e with
  | d x => exact Im.go g h
  | own ys =>
    obtain ⟨a, us, e, h5, h6, h7⟩ := h
    exact ⟨a, us, e, hown a _ e h5 trivial trivial, h6.go g, h7⟩
  | dic kvs =>
    obtain ⟨a, us, e, h5, h6, h7, h8⟩ := h
    exact ⟨a, us, e, hown a _ e h5 trivial trivial, h6, h7.go g, h8⟩
  | dik kvs =>
    obtain ⟨a, us, e, h5, h6, h7, h8⟩ := h
    exact ⟨a, us, e, hown a _ e h5 trivial trivial, h6, h7.go g, h8⟩
  | ro x => exact RoOk.go g h
  | raw u => exact h
theorem EntOk.go {A A' : Addr → Prop} (g : Go A A' H H') {e : Ent} {v : V} (h : EntOk F A H e v) (hown : ∀ a o, v = .ref a → H a = some o → e.mine → H' a = some o) : EntOk F A' H' e v := EntOk.goM g h fun a o e1 e2 m _ => hown a o e1 e2 m
theorem setOwn_iff {i : Nat} {a : Addr} {xs : List PyData} (h : OwnAt ρ σ i a) (j : Nat) (b : Addr) : OwnAt (ρ.set i (some (.own xs))) σ j b ↔ OwnAt ρ σ j b := by
  obtain ⟨⟨ys, h1, hm⟩, h2⟩ := h
  have hi : i < ρ.length := by
    rcases Nat.lt_or_ge i ρ.length with z | z
    · exact z
    · rw [List.getElem?_eq_none z] at h1; cases h1
  by_cases e : i = j
  · subst e
    constructor
    · rintro ⟨_, h3⟩; exact ⟨⟨ys, h1, hm⟩, h3⟩
    · rintro ⟨_, h3⟩; exact ⟨⟨.own xs, by simp [hi], trivial⟩, h3⟩
  · unfold OwnAt
    rw [List.getElem?_set_ne e]
theorem Ok.setOwn (O : Ok F pins ρ σ H) {i : Nat} {a : Addr} {xs : List PyData} {vs : List V} (h : OwnAt ρ σ i a) (hx : ImAll F.K (Av F pins ρ σ) H xs vs) :
    Ok F pins (ρ.set i (some (.own xs))) σ (upd H a (.lst vs)) := by
  have oe := setOwn_iff (xs := xs) h
  have ae : Av F pins (ρ.set i (some (.own xs))) σ = Av F pins ρ σ := by
    funext b
    unfold Av
    simp only [oe]
  have aa : Av F pins ρ σ a := .inr (.inl ⟨i, h⟩)
  have G : Go (Av F pins ρ σ) (Av F pins ρ σ) H (upd H a (.lst vs)) := ⟨fun b o n e _ => by
    have hb : b ≠ a := fun z => n (by rw [z]; exact aa)
    rw [upd_ne hb]; exact e, fun b z => .inl z⟩
  obtain ⟨vs0, hH, hl⟩ := O.ownL h
  obtain ⟨⟨ys, h1, hm⟩, h2⟩ := id h
  have hi : i < ρ.length := by
    rcases Nat.lt_or_ge i ρ.length with z | z
    · exact z
    · rw [List.getElem?_eq_none z] at h1; cases h1
  refine ⟨by rw [List.length_set]; exact O.len, fun j e hj => ?_, fun j k b z1 z2 => O.own j k b ((oe j b).mp z1) ((oe k b).mp z2), fun p hp => ?_, O.acs, fun b o n e m => ?_, fun b z => ?_, O.ln, O.h0, fun j b z => O.lf j b ((oe j b).mp z), ?_⟩
  · rw [ae]
    by_cases e2 : i = j
    · subst e2
      rw [List.getElem?_set_self hi] at hj
      cases hj
      exact ⟨.ref a, h2, a, vs, rfl, upd_same, hx.go G, hl⟩
    · rw [List.getElem?_set_ne e2] at hj
      obtain ⟨v, h3, h4⟩ := O.ent j e hj
      refine ⟨v, h3, EntOk.go G h4 fun b us ev hb ex => ?_⟩
      subst ev
      rw [upd_ne (fun z => e2 (O.own i j a h (by subst z; exact ⟨⟨e, hj, ex⟩, h3⟩)))]
      exact hb
  · rw [ae]
    have hq := O.pin p hp
    cases p with
    | val v r =>
      cases r with
      | d x => exact Im.go G hq
      | o j =>
        refine ⟨hq.1, ?_⟩
        by_cases e2 : i = j
        · subst e2
          exact ⟨.list xs, by unfold slot; rw [List.getElem?_set_self hi]⟩
        · obtain ⟨x, hx2⟩ := hq.2
          refine ⟨x, ?_⟩
          unfold slot at hx2 ⊢
          rw [List.getElem?_set_ne e2]
          exact hx2
      | raw u => exact hq
    | acc b ys =>
      obtain ⟨us, h3, h4, h5, h6⟩ := hq
      refine ⟨us, ?_, h4.go G, h5, fun ⟨j, z⟩ => h6 ⟨j, (oe j b).mp z⟩⟩
      rw [upd_ne (fun z => h6 (by subst z; exact ⟨i, h⟩))]
      exact h3
    | frz b o =>
      obtain ⟨u, h1⟩ := hq
      refine ⟨u, ?_⟩
      rw [upd_ne (fun z => ?_)]
      · exact h1
      · subst z
        obtain ⟨w, g1, g2, _⟩ := O.ownM h
        rw [h1] at g1; cases g1; exact g2.elim
  · rw [upd_ne (fun z => ?_)]
    · exact O.fr b o n e m
    · subst z
      rcases hl with hl | hl
      · exact n hl
      · rw [hl] at e; cases e
  · by_cases e : b = a
    · subst e; exact ⟨_, upd_same, trivial⟩
    · rw [upd_ne e]; exact O.nh b z
  · obtain ⟨o0, e0, m0⟩ := O.avM aa
    exact O.tb.upd e0 m0
theorem Ok.setAcc {a : Addr} {xs ys : List PyData} {vs : List V} (O : Ok F (.acc a xs :: pins) ρ σ H) (hx : ImAll F.K (Av F (.acc a xs :: pins) ρ σ) H ys vs) :
    Ok F (.acc a ys :: pins) ρ σ (upd H a (.lst vs)) := by
  have ae : Av F (.acc a ys :: pins) ρ σ = Av F (.acc a xs :: pins) ρ σ := rfl
  have aa : Av F (.acc a xs :: pins) ρ σ a := .inr (.inr (List.mem_cons_self ..))
  have G : Go (Av F (.acc a xs :: pins) ρ σ) (Av F (.acc a xs :: pins) ρ σ) H (upd H a (.lst vs)) := ⟨fun b o n e _ => by
    have hb : b ≠ a := fun z => n (by rw [z]; exact aa)
    rw [upd_ne hb]; exact e, fun b z => .inl z⟩
  obtain ⟨vs0, hH, hi0, h00, hno⟩ := O.pin _ (List.mem_cons_self ..)
  have hnd := List.nodup_cons.mp (show (a :: accs pins).Nodup from O.acs)
  refine ⟨O.len, fun j e hj => ?_, O.own, fun p hp => ?_, O.acs, fun b o n e m => ?_, fun b z => ?_, O.ln, O.h0, O.lf, O.tb.upd hH trivial⟩
  · rw [ae]
    obtain ⟨v, h3, h4⟩ := O.ent j e hj
    refine ⟨v, h3, EntOk.go G h4 fun b us ev hb ex => ?_⟩
    subst ev
    rw [upd_ne (fun z => hno (by subst z; exact ⟨j, ⟨e, hj, ex⟩, h3⟩))]
    exact hb
  · rw [ae]
    rcases List.mem_cons.mp hp with rfl | hp1
    · exact ⟨vs, upd_same, hx.go G, h00, hno⟩
    · have hq := O.pin p (List.mem_cons_of_mem _ hp1)
      cases p with
      | val v r => exact ROk.go G hq
      | acc b zs =>
        obtain ⟨us, h3, h4, h5⟩ := hq
        refine ⟨us, ?_, h4.go G, h5⟩
        rw [upd_ne (fun z => hnd.1 (by subst z; exact mem_accs.mpr ⟨zs, hp1⟩))]
        exact h3
      | frz b o =>
        obtain ⟨u, h1⟩ := hq
        refine ⟨u, ?_⟩
        rw [upd_ne (fun z => ?_)]
        · exact h1
        · subst z
          obtain ⟨ws, g1, _⟩ := O.pin _ (List.mem_cons_self ..)
          rw [h1] at g1; cases g1
  · rw [upd_ne (fun z => ?_)]
    · exact O.fr b o n e m
    · subst z; rw [h00] at e; cases e
  · by_cases e : b = a
    · subst e; exact ⟨_, upd_same, trivial⟩
    · rw [upd_ne e]; exact O.nh b z
/-- no value in mind stands for the i-th slot -/
def Fr (pins : List Pin) (i : Nat) : Prop := ∀ v j, Pin.val v (.o j) ∈ pins → j ≠ i
def SPn (F : Fm) (pins : List Pin) : Prop := ∀ v j, Pin.val v (.o j) ∈ pins → F.fix j
theorem SPn.fr (h : SPn F pins) {i : Nat} (hi : ¬ F.fix i) : Fr pins i := fun v j hp e => hi (e ▸ h v j hp)
theorem SPn.cons (h : SPn F pins) {v : V} {x : PyData} : SPn F (.val v (.d x) :: pins) := fun u j hp => by
  rcases List.mem_cons.mp hp with z | z
  · cases z
  · exact h u j z
theorem slot_ne {i j : Nat} {e : Option Ent} (h : j ≠ i) : slot (ρ.set i e) j = slot ρ j := by
  unfold slot; rw [List.getElem?_set_ne (fun z => h z.symm)]
theorem getset {α : Type} {l : List α} {i j : Nat} {x y : α} (h : (l.set i x)[j]? = some y) : (j = i ∧ y = x ∧ i < l.length) ∨ (j ≠ i ∧ l[j]? = some y) := by
  by_cases e : i = j
  · subst e
    by_cases hl : i < l.length
    · rw [List.getElem?_set_self hl] at h; cases h; exact .inl ⟨rfl, rfl, hl⟩
    · rw [List.getElem?_eq_none (by rw [List.length_set]; omega)] at h; cases h
  · rw [List.getElem?_set_ne e] at h
    exact .inr ⟨fun z => e z.symm, h⟩
theorem own_put {i j : Nat} {b : Addr} {e : Option Ent} {u : Option V} (he : ∀ f, e = some f → ¬ f.mine) (h : OwnAt (ρ.set i e) (σ.set i u) j b) : j ≠ i ∧ OwnAt ρ σ j b := by
  obtain ⟨⟨xs, h1, hm⟩, h2⟩ := h
  rcases getset h1 with ⟨_, q, _⟩ | ⟨ne, q⟩
  · exact absurd hm (he xs q.symm)
  · rw [List.getElem?_set_ne (fun z => ne z.symm)] at h2
    exact ⟨ne, ⟨xs, q, hm⟩, h2⟩
/-- a name takes a value that is no list of its own -/
theorem Ok.put (O : Ok F pins ρ σ H) {i : Nat} {e : Option Ent} {u : Option V} (hi : Fr pins i) (he : ∀ f, e = some f → ¬ f.mine) (hv : ∀ f, e = some f → ∃ v, u = some v ∧ EntOk F (Av F pins ρ σ) H f v) :
    Ok F pins (ρ.set i e) (σ.set i u) H := by
  have G : Go (Av F pins ρ σ) (Av F pins (ρ.set i e) (σ.set i u)) H H := by
    refine ⟨fun _ _ _ h _ => h, fun a h => .inl ?_⟩
    rcases h with h | ⟨j, h⟩ | h
    · exact .inl h
    · exact .inr (.inl ⟨j, (own_put he h).2⟩)
    · exact .inr (.inr h)
  refine ⟨by rw [List.length_set, List.length_set]; exact O.len, fun j f hj => ?_, fun j k b z1 z2 => O.own j k b (own_put he z1).2 (own_put he z2).2, fun p hp => ?_, O.acs, O.fr, O.nh, O.ln, O.h0, fun j b z => O.lf j b (own_put he z).2, O.tb⟩
  · rcases getset hj with ⟨rfl, q, hl⟩ | ⟨ne, q⟩
    · obtain ⟨v, hu, ho⟩ := hv f q.symm
      subst hu
      exact ⟨v, by rw [List.getElem?_set_self (by rw [O.len]; exact hl)], EntOk.go G ho fun _ _ _ z _ => z⟩
    · obtain ⟨v, h3, h4⟩ := O.ent j f q
      exact ⟨v, by rw [List.getElem?_set_ne (fun z => ne z.symm)]; exact h3, EntOk.go G h4 fun _ _ _ z _ => z⟩
  · have hq := O.pin p hp
    cases p with
    | val v r =>
      cases r with
      | d x => exact Im.go G hq
      | o j =>
        have ne := hi v j hp
        obtain ⟨h1, x, h2⟩ := hq
        exact ⟨by rw [List.getElem?_set_ne (fun z => ne z.symm)]; exact h1, x, by rw [slot_ne ne]; exact h2⟩
      | raw u => exact hq
    | acc b ys =>
      obtain ⟨us, h3, h4, h5, h6⟩ := hq
      exact ⟨us, h3, h4.go G, h5, fun ⟨j, z⟩ => h6 ⟨j, (own_put he z).2⟩⟩
    | frz b o => exact hq
/-- a name takes a new list of its own -/
theorem Ok.putL {p : Addr} {xs : List PyData} (O : Ok F (.acc p xs :: pins) ρ σ H) {i : Nat} (hi : Fr pins i) :
    Ok F pins (ρ.set i (some (.own xs))) (σ.set i (some (.ref p))) H := by
  obtain ⟨vs, hH, hx, h00, hno⟩ := O.pin _ (List.mem_cons_self ..)
  have hnd := List.nodup_cons.mp (show (p :: accs pins).Nodup from O.acs)
  have ow : ∀ j b, OwnAt (ρ.set i (some (.own xs))) (σ.set i (some (.ref p))) j b → (j = i ∧ b = p) ∨ (j ≠ i ∧ OwnAt ρ σ j b) := fun j b h => by
    obtain ⟨⟨ys, h1, hm⟩, h2⟩ := h
    rcases getset h1 with ⟨rfl, q, hl⟩ | ⟨ne, q⟩
    · rw [List.getElem?_set_self (by rw [O.len]; exact hl)] at h2
      cases h2; exact .inl ⟨rfl, rfl⟩
    · rw [List.getElem?_set_ne (fun z => ne z.symm)] at h2
      exact .inr ⟨ne, ⟨ys, q, hm⟩, h2⟩
  have G : Go (Av F (.acc p xs :: pins) ρ σ) (Av F pins (ρ.set i (some (.own xs))) (σ.set i (some (.ref p)))) H H := by
    refine ⟨fun _ _ _ h _ => h, fun a h => .inl ?_⟩
    rcases h with h | ⟨j, h⟩ | h
    · exact .inl h
    · rcases ow j a h with ⟨_, rfl⟩ | ⟨_, h⟩
      · exact .inr (.inr (List.mem_cons_self ..))
      · exact .inr (.inl ⟨j, h⟩)
    · exact .inr (.inr (List.mem_cons_of_mem _ h))
  refine ⟨by rw [List.length_set, List.length_set]; exact O.len, fun j f hj => ?_, fun j k b z1 z2 => ?_, fun q hq => ?_, hnd.2, O.fr, O.nh, O.ln, O.h0, fun j b z hL => ?_, O.tb⟩
  · rcases getset hj with ⟨rfl, q, hl⟩ | ⟨ne, q⟩
    · cases q
      exact ⟨.ref p, by rw [List.getElem?_set_self (by rw [O.len]; exact hl)], p, vs, rfl, hH, hx.go G, .inr h00⟩
    · obtain ⟨v, h3, h4⟩ := O.ent j f q
      exact ⟨v, by rw [List.getElem?_set_ne (fun z => ne z.symm)]; exact h3, EntOk.go G h4 fun _ _ _ z _ => z⟩
  · rcases ow j b z1 with ⟨e1, e2⟩ | ⟨n1, y1⟩
    · rcases ow k b z2 with ⟨e3, _⟩ | ⟨n2, y2⟩
      · rw [e1, e3]
      · rw [e2] at y2; exact absurd ⟨k, y2⟩ hno
    · rcases ow k b z2 with ⟨e3, e4⟩ | ⟨n2, y2⟩
      · rw [e4] at y1; exact absurd ⟨j, y1⟩ hno
      · exact O.own j k b y1 y2
  · have h := O.pin q (List.mem_cons_of_mem _ hq)
    cases q with
    | val v r =>
      cases r with
      | d x => exact Im.go G h
      | o j =>
        have ne := hi v j hq
        obtain ⟨h1, x, h2⟩ := h
        exact ⟨by rw [List.getElem?_set_ne (fun z => ne z.symm)]; exact h1, x, by rw [slot_ne ne]; exact h2⟩
      | raw u => exact h
    | acc b ys =>
      obtain ⟨us, h3, h4, h5, h6⟩ := h
      refine ⟨us, h3, h4.go G, h5, fun ⟨j, z⟩ => ?_⟩
      rcases ow j b z with ⟨_, rfl⟩ | ⟨_, z⟩
      · exact hnd.1 (mem_accs.mpr ⟨ys, hq⟩)
      · exact h6 ⟨j, z⟩
    | frz b o => exact h
  · rcases ow j b z with ⟨_, rfl⟩ | ⟨_, z⟩
    · obtain ⟨o, h⟩ := O.h0 b (O.ln b hL)
      rw [h00] at h; cases h
    · exact O.lf j b z hL
/-- a list of one's own is data from now on -/
theorem Ok.frz (O : Ok F pins ρ σ H) {i : Nat} {xs : List PyData} (h : ρ[i]? = some (some (.own xs))) (hf : ¬ F.fix i) : Ok F pins (ρ.set i (some (.d (.list xs)))) σ H := by
  obtain ⟨v, hσ, a, vs, rfl, hH, hx, hl⟩ := O.ent i _ h
  have hil : i < ρ.length := by
    rcases Nat.lt_or_ge i ρ.length with z | z
    · exact z
    · rw [List.getElem?_eq_none z] at h; cases h
  have hown : OwnAt ρ σ i a := ⟨⟨_, h, trivial⟩, hσ⟩
  have ow : ∀ j b, OwnAt (ρ.set i (some (.d (.list xs)))) σ j b → j ≠ i ∧ OwnAt ρ σ j b := fun j b h => by
    obtain ⟨⟨ys, h1, hm⟩, h2⟩ := h
    rcases getset h1 with ⟨_, q, _⟩ | ⟨ne, q⟩
    · cases q; exact hm.elim
    · exact ⟨ne, ⟨ys, q, hm⟩, h2⟩
  have G : Go (Av F pins ρ σ) (Av F pins (ρ.set i (some (.d (.list xs)))) σ) H H := by
    refine ⟨fun _ _ _ h _ => h, fun a h => .inl ?_⟩
    rcases h with h | ⟨j, h⟩ | h
    · exact .inl h
    · exact .inr (.inl ⟨j, (ow j a h).2⟩)
    · exact .inr (.inr h)
  have h0a : F.H0 a = none := by
    rcases hl with hl | hl
    · exact absurd (O.lf i a hown hl) hf
    · exact hl
  have nav : ¬ Av F pins (ρ.set i (some (.d (.list xs)))) σ a := by
    rintro (z | ⟨j, z⟩ | z)
    · obtain ⟨o, e⟩ := O.h0 a z
      rw [h0a] at e; cases e
    · exact (ow j a z).1 (O.own j i a (ow j a z).2 hown)
    · obtain ⟨ys, hp⟩ := mem_accs.mp z
      obtain ⟨_, _, _, _, hno⟩ := O.pin _ hp
      exact hno ⟨i, hown⟩
  have im : Im F.K (Av F pins (ρ.set i (some (.d (.list xs)))) σ) H (.list xs) (.ref a) := by
    simp only [Im]
    exact ⟨a, vs, rfl, ⟨hH, nav⟩, hx.go G⟩
  refine ⟨by rw [List.length_set]; exact O.len, fun j f hj => ?_, fun j k b z1 z2 => O.own j k b (ow j b z1).2 (ow k b z2).2, fun p hp => ?_, O.acs, O.fr, O.nh, O.ln, O.h0, fun j b z => O.lf j b (ow j b z).2, O.tb⟩
  · rcases getset hj with ⟨rfl, q, hl⟩ | ⟨ne, q⟩
    · cases q
      exact ⟨.ref a, hσ, im⟩
    · obtain ⟨v, h3, h4⟩ := O.ent j f q
      exact ⟨v, h3, EntOk.go G h4 fun _ _ _ z _ => z⟩
  · have hq := O.pin p hp
    cases p with
    | val v r =>
      cases r with
      | d x => exact Im.go G hq
      | o j =>
        obtain ⟨h1, x, h2⟩ := hq
        refine ⟨h1, ?_⟩
        by_cases e : j = i
        · subst e
          exact ⟨.list xs, by unfold slot; rw [List.getElem?_set_self hil]⟩
        · exact ⟨x, by rw [slot_ne e]; exact h2⟩
      | raw u => exact hq
    | acc b ys =>
      obtain ⟨us, h3, h4, h5, h6⟩ := hq
      exact ⟨us, h3, h4.go G, h5, fun ⟨j, z⟩ => h6 ⟨j, (ow j b z).2⟩⟩
    | frz b o => exact hq
/-- slots forgotten -/
theorem Ok.clr (O : Ok F pins ρ σ H) {i : Nat} (hi : Fr pins i) : Ok F pins (ρ.set i none) (σ.set i none) H := O.put hi (fun _ z => nomatch z) fun _ z => nomatch z
theorem Ok.unclr {i : Nat} (O : Ok F pins ρ (σ.set i none) H) (hi : ρ[i]? = some none) : Ok F pins ρ σ H := by
  have hs : ∀ j v, (σ.set i none)[j]? = some (some v) → σ[j]? = some (some v) := fun j v h => by
    rcases getset h with ⟨_, q, _⟩ | ⟨_, q⟩
    · cases q
    · exact q
  have hs' : ∀ j v, j ≠ i → σ[j]? = some (some v) → (σ.set i none)[j]? = some (some v) := fun j v ne h => by rw [List.getElem?_set_ne (fun z => ne z.symm)]; exact h
  have ne : ∀ j e, ρ[j]? = some (some e) → j ≠ i := fun j e h z => by subst z; rw [hi] at h; cases h
  have ow : ∀ j b, OwnAt ρ σ j b ↔ OwnAt ρ (σ.set i none) j b := fun j b =>
    ⟨fun ⟨⟨xs, h1, hm⟩, h2⟩ => ⟨⟨xs, h1, hm⟩, hs' j _ (ne j _ h1) h2⟩, fun ⟨h1, h2⟩ => ⟨h1, hs j _ h2⟩⟩
  have ae : Av F pins ρ σ = Av F pins ρ (σ.set i none) := by
    funext b; unfold Av; simp only [ow]
  refine ⟨by have := O.len; rw [List.length_set] at this; exact this, fun j e h => ?_, fun j k b z1 z2 => O.own j k b ((ow j b).mp z1) ((ow k b).mp z2), fun p hp => ?_, O.acs, O.fr, O.nh, O.ln, O.h0, fun j b z => O.lf j b ((ow j b).mp z), O.tb⟩
  · obtain ⟨v, h1, h2⟩ := O.ent j e h
    exact ⟨v, hs j v h1, by rw [ae]; exact h2⟩
  · have hq := O.pin p hp
    cases p with
    | val v r =>
      cases r with
      | d x => rw [ae]; exact hq
      | o j => exact ⟨hs j v hq.1, hq.2⟩
      | raw u => exact hq
    | acc b ys =>
      obtain ⟨us, h3, h4, h5, h6⟩ := hq
      exact ⟨us, h3, by rw [ae]; exact h4, h5, fun ⟨j, z⟩ => h6 ⟨j, (ow j b).mp z⟩⟩
    | frz b o => exact hq
def wipeR (ρ : Rho) : List Nat → Rho
  | [] => ρ
  | i :: r => (wipeR ρ r).set i none
theorem Ok.wipe (O : Ok F pins ρ σ H) : ∀ {vs : List Nat}, (∀ i ∈ vs, Fr pins i) → Ok F pins (wipeR ρ vs) (wipe σ vs) H
  | [], _ => O
  | i :: r, h => by
    have := Ok.wipe O (vs := r) fun j hj => h j (List.mem_cons_of_mem _ hj)
    exact this.clr (h i (List.mem_cons_self ..))
theorem wipeR_len : ∀ vs : List Nat, (wipeR ρ vs).length = ρ.length
  | [] => rfl
  | i :: r => by show ((wipeR ρ r).set i none).length = _; rw [List.length_set]; exact wipeR_len r
theorem wipeR_none : ∀ {vs : List Nat} {i : Nat}, i ∈ vs → i < ρ.length → (wipeR ρ vs)[i]? = some none
  | j :: r, i, h, hl => by
    show ((wipeR ρ r).set j none)[i]? = some none
    by_cases e : j = i
    · subst e
      rw [List.getElem?_set_self (by rw [wipeR_len]; exact hl)]
    · rw [List.getElem?_set_ne e]
      rcases List.mem_cons.mp h with z | z
      · exact absurd z.symm e
      · exact wipeR_none z hl
theorem Ok.unwipe : ∀ {vs : List Nat} {σ : L2.St}, Ok F pins ρ (L2.wipe σ vs) H → (∀ i ∈ vs, ρ[i]? = some none ∨ ρ[i]? = none) → Ok F pins ρ σ H
  | [], _, O, _ => O
  | i :: r, σ, O, h => by
    have O' : Ok F pins ρ ((L2.wipe σ r).set i none) H := O
    rcases h i (List.mem_cons_self ..) with z | z
    · exact Ok.unwipe (O'.unclr z) fun j hj => h j (List.mem_cons_of_mem _ hj)
    · have hl : ρ.length ≤ i := List.getElem?_eq_none_iff.mp z
      have hw : (L2.wipe σ r).length = ρ.length := by have := O'.len; rw [List.length_set] at this; exact this
      rw [List.set_eq_of_length_le (by omega)] at O'
      exact Ok.unwipe O' fun j hj => h j (List.mem_cons_of_mem _ hj)
end
end DV
namespace DV
open PySem PySem.Spec PyProof.Rows L2
open LamX (ExtN TabS Tabs CodeO)
abbrev TDE := Rho → (R → Rho → Prop) → Prop
abbrev TDL := Rho → (List PyData → Rho → Prop) → Prop
abbrev TDA := Rho → (List R → Rho → Prop) → Prop
abbrev TDT := Rho → (Bool → Rho → Prop) → Prop
structure DEnds where
  nx : Rho → Prop
  rt : R → Rho → Prop
  bk : Rho → Prop := fun _ => False
  ct : Rho → Prop := fun _ => False
  rl : List PyData → Rho → Prop := fun _ _ => False
abbrev TDS := DEnds → Rho → Prop
/-- what a reading tells of data -/
structure DE (F : Fm) (te : TE) (td : TDE) : Prop where
  run : ∀ (pins : List Pin) (ρ : Rho) (σ : L2.St) (H : Hp) (Q : VK), Ok F pins ρ σ H →
    td ρ (fun r ρ' => ∀ v H', Ok F pins ρ' σ H' → ROk F (Av F pins ρ' σ) ρ' σ H' r v → Q v H') → te σ H Q
  mono : ∀ ρ Q Q', (∀ r ρ', Q r ρ' → Q' r ρ') → td ρ Q → td ρ Q'
structure DL (F : Fm) (te : TE) (td : TDL) : Prop where
  run : ∀ (pins : List Pin) (ρ : Rho) (σ : L2.St) (H : Hp) (Q : VK), Ok F pins ρ σ H →
    td ρ (fun xs ρ' => ∀ p H', Ok F (.acc p xs :: pins) ρ' σ H' → Q (.ref p) H') → te σ H Q
  mono : ∀ ρ Q Q', (∀ r ρ', Q r ρ' → Q' r ρ') → td ρ Q → td ρ Q'
structure DT (F : Fm) (tt : TT) (td : TDT) : Prop where
  run : ∀ (pins : List Pin) (ρ : Rho) (σ : L2.St) (H : Hp) (Q : Bool → Hp → Prop), Ok F pins ρ σ H →
    td ρ (fun b ρ' => ∀ H', Ok F pins ρ' σ H' → Q b H') → tt σ H Q
  mono : ∀ ρ Q Q', (∀ r ρ', Q r ρ' → Q' r ρ') → td ρ Q → td ρ Q'
def ROks (F : Fm) (A : Addr → Prop) (ρ : Rho) (σ : L2.St) (H : Hp) : List R → List V → Prop
  | [], vs => vs = []
  | r :: rs, vs => ∃ v us, vs = v :: us ∧ ROk F A ρ σ H r v ∧ ROks F A ρ σ H rs us
structure DA (F : Fm) (ta : TA) (td : TDA) : Prop where
  run : ∀ (pins : List Pin) (ρ : Rho) (σ : L2.St) (H : Hp) (Q : List V → Hp → Prop), Ok F pins ρ σ H →
    td ρ (fun rs ρ' => ∀ vs H', Ok F pins ρ' σ H' → ROks F (Av F pins ρ' σ) ρ' σ H' rs vs → Q vs H') → ta σ H Q
  mono : ∀ ρ Q Q', (∀ r ρ', Q r ρ' → Q' r ρ') → td ρ Q → td ρ Q'
structure PD (X : Cx) (F : Fm) (e : Expr) (te : TE) (td : TDE) : Prop where
  pe : PE X e te
  de : DE F te td
structure PDL (X : Cx) (F : Fm) (e : Expr) (te : TE) (td : TDL) : Prop where
  pe : PE X e te
  dl : DL F te td
structure PDT (X : Cx) (F : Fm) (e : Expr) (tt : TT) (td : TDT) : Prop where
  pt : PT X e tt
  dt : DT F tt td
structure PDW (X : Cx) (F : Fm) (e : Expr) (tt : TT) (td : TDT) : Prop where
  pw : PW X e tt
  dt : DT F tt td
structure PDA (X : Cx) (F : Fm) (es : List Expr) (ta : TA) (td : TDA) : Prop where
  pa : PA X es ta
  da : DA F ta td
section
variable {F : Fm} {pins : List Pin} {ρ : Rho} {σ : L2.St} {H H' : Hp}
theorem LkR.sq (O : Ok F pins ρ σ H) {a : Addr} {us : List V} (h : LkR F a us) : SqL F.K H a us := by
  rcases h with ⟨h | ⟨o, h⟩, n⟩ | h
  · exact .inl (.inl (O.fr _ _ n h nt_lst))
  · exact .inl (.inr ⟨o, O.fr _ _ n h nt_frz⟩)
  · exact sql_none h
theorem slot_dp (O : Ok F pins ρ σ H) {i : Nat} {v : V} {x : PyData} (h1 : σ[i]? = some (some v)) (h2 : slot ρ i = some x) : Dp F.K H v x := by
  unfold slot at h2
  cases e : ρ[i]? with
  | none => rw [e] at h2; cases h2
  | some f =>
    rw [e] at h2
    cases f with
    | none => cases h2
    | some f =>
      obtain ⟨u, h3, h4⟩ := O.ent i f e
      rw [h1] at h3; cases h3
      cases f with
      | d y => cases h2; exact Im.dp h4
      | own ys =>
        cases h2
        obtain ⟨a, vs, rfl, h5, h6, _⟩ := h4
        exact .lst (.of h5) h6.dp
      | dic kvs => cases h2
      | dik kvs => cases h2
      | ro y =>
        cases h2
        rcases h4 with h4 | ⟨a, us, xs, rfl, rfl, l, t⟩
        · exact Im.dp h4
        · exact .lst (l.sq O) t.dp
      | raw u => cases h2
theorem val_dp (O : Ok F pins ρ σ H) {A : Addr → Prop} {r : R} {v : V} {x : PyData} (h : ROk F A ρ σ H r v) (h2 : val ρ r = some x) : Dp F.K H v x := by
  cases r with
  | d y => cases h2; exact Im.dp h
  | o i => exact slot_dp O h.1 h2
  | raw u => cases h2
def vals (ρ : Rho) : List R → Option (List PyData)
  | [] => some []
  | r :: rs => match val ρ r, vals ρ rs with
    | some x, some xs => some (x :: xs)
    | _, _ => none
theorem vals_dp (O : Ok F pins ρ σ H) {A : Addr → Prop} : ∀ {rs : List R} {vs : List V} {xs : List PyData}, ROks F A ρ σ H rs vs → vals ρ rs = some xs → DpAll F.K H vs xs
  | [], _, _, h, e => by
    simp only [ROks] at h; simp only [vals] at e; subst h; cases e; exact .nil
  | r :: rs, _, _, h, e => by
    simp only [ROks] at h
    obtain ⟨v, us, rfl, h1, h2⟩ := h
    simp only [vals] at e
    cases e1 : val ρ r with
    | none => rw [e1] at e; cases e
    | some x =>
      cases e2 : vals ρ rs with
      | none => rw [e1, e2] at e; cases e
      | some xs =>
        rw [e1, e2] at e; cases e
        exact .cons (val_dp O h1 e1) (vals_dp O h2 e2)
end
/-- a value without a heap -/
def Sc (z : PyData) (v : V) : Prop := ∀ K N H, Im K N H z v
theorem Sc.int {i : Int} : Sc (.int i) (.int i) := fun _ _ _ => Im.int
theorem Sc.bool {b : Bool} : Sc (.bool b) (.bl b) := fun _ _ _ => Im.bool
theorem Sc.str {x : Str} : Sc (.str x) (.str x) := fun _ _ _ => Im.str
theorem Sc.none : Sc .none .non := fun _ _ _ => Im.none
theorem ROk.sc {F : Fm} {A : Addr → Prop} {ρ : Rho} {σ : L2.St} {H : Hp} {z : PyData} {v : V} (h : Sc z v) : ROk F A ρ σ H (.d z) v := h _ _ _
section
variable {X : Cx} {F : Fm} {a b c e : Expr} {es : List Expr} {ta tb tc te : TE} {da db dc de : TDE} {pos : Pos}
def dVar (i : Nat) : TDE := fun ρ Q => match ρ[i]? with
  | some (some (.d x)) => Q (.d x) ρ
  | some (some (.own _)) => Q (.o i) ρ
  | some (some (.ro _)) => Q (.o i) ρ
  | some (some (.raw v)) => Q (.raw v) ρ
  | _ => False
theorem de_var (i : Nat) : DE F (tVar i) (dVar i) := by
  constructor
  · intro pins ρ σ H Q O h
    unfold dVar at h
    cases e : ρ[i]? with
    | none => rw [e] at h; exact h.elim
    | some f =>
      rw [e] at h
      cases f with
      | none => exact h.elim
      | some f =>
        obtain ⟨v, h1, h2⟩ := O.ent i f e
        refine ⟨v, h1, ?_⟩
        cases f with
        | d x => exact h v H O h2
        | own xs => exact h v H O ⟨h1, .list xs, by unfold slot; rw [e]⟩
        | dic kvs => exact h.elim
        | dik kvs => exact h.elim
        | ro x => exact h v H O ⟨h1, x, by unfold slot; rw [e]⟩
        | raw u => exact h v H O h2
  · intro ρ Q Q' hq h
    unfold dVar at h ⊢
    split at h <;> first | exact hq _ _ h | exact h
theorem pdv (i : Nat) {x : Str} (hN : X.N[i]? = some x := by rfl) (hv : Vis X.env.scope x := by first | exact Or.inl rfl | exact Or.inr (Or.inl rfl) | exact Or.inr (Or.inr rfl)) (hd : (x == ("__debug__" : Str)) = false := by decide)
    (hcd : (x == ("__classdict__" : Str)) = false := by decide) : PD X F (.Name x pos) (tVar i) (dVar i) := ⟨pe_var hN hv hd hcd, de_var i⟩
def dC (z : PyData) : TDE := fun ρ Q => Q (.d z) ρ
theorem de_c {v : V} {z : PyData} (h : Sc z v) : DE F (tC v) (dC z) := ⟨fun pins ρ σ H Q O h2 => h2 v H O (h _ _ _), fun _ _ _ hq h => hq _ _ h⟩
theorem pd_int {i : Int} {j} : PD X F (.Constant (.int i) j pos) (tC (.int i)) (dC (.int i)) := ⟨pe_int, de_c .int⟩
theorem pd_bl {i : Bool} {j} : PD X F (.Constant (.bool i) j pos) (tC (.bl i)) (dC (.bool i)) := ⟨pe_bl, de_c .bool⟩
theorem pd_str {i : Str} {j} : PD X F (.Constant (.str i) j pos) (tC (.str i)) (dC (.str i)) := ⟨pe_str, de_c .str⟩
theorem pd_non {j} : PD X F (.Constant .none j pos) (tC .non) (dC .none) := ⟨pe_non, de_c .none⟩
abbrev F2 := PyData → PyData → (PyData → Prop) → Prop
/-- the operator's reading from data, the answer without a heap -/
structure SO (K : PySem.W.Frag) (r : R2) (f : F2) : Prop where
  run : ∀ (H : Hp) (x y : V) (dx dy : PyData) (Q : VK), Dp K H x dx → Dp K H y dy → f dx dy (fun z => ∀ v, Sc z v → Q v H) → r x y H Q
  mono : ∀ x y Q Q', (∀ z, Q z → Q' z) → f x y Q → f x y Q'
def onV2 (ρ : Rho) (r s : R) (f : PyData → PyData → Prop) : Prop := match val ρ r, val ρ s with
  | some x, some y => f x y
  | _, _ => False
theorem onV2_of {ρ : Rho} {r s : R} {f : PyData → PyData → Prop} (h : onV2 ρ r s f) : ∃ x y, val ρ r = some x ∧ val ρ s = some y ∧ f x y := by
  unfold onV2 at h
  split at h
  · exact ⟨_, _, by assumption, by assumption, h⟩
  · exact h.elim
theorem onV2_mono {ρ : Rho} {r s : R} {f g : PyData → PyData → Prop} (h : onV2 ρ r s f) (k : ∀ x y, f x y → g x y) : onV2 ρ r s g := by
  unfold onV2 at h ⊢
  split at h
  · exact k _ _ h
  · exact h.elim
def onV (ρ : Rho) (r : R) (f : PyData → Prop) : Prop := match val ρ r with
  | some x => f x
  | _ => False
theorem onV_of {ρ : Rho} {r : R} {f : PyData → Prop} (h : onV ρ r f) : ∃ x, val ρ r = some x ∧ f x := by
  unfold onV at h
  split at h
  · exact ⟨_, by assumption, h⟩
  · exact h.elim
theorem onV_mono {ρ : Rho} {r : R} {f g : PyData → Prop} (h : onV ρ r f) (k : ∀ x, f x → g x) : onV ρ r g := by
  unfold onV at h ⊢
  split at h
  · exact k _ h
  · exact h.elim
def onVs (ρ : Rho) (rs : List R) (f : List PyData → Prop) : Prop := match vals ρ rs with
  | some xs => f xs
  | _ => False
theorem onVs_of {ρ : Rho} {rs : List R} {f : List PyData → Prop} (h : onVs ρ rs f) : ∃ xs, vals ρ rs = some xs ∧ f xs := by
  unfold onVs at h
  split at h
  · exact ⟨_, by assumption, h⟩
  · exact h.elim
theorem onVs_mono {ρ : Rho} {rs : List R} {f g : List PyData → Prop} (h : onVs ρ rs f) (k : ∀ xs, f xs → g xs) : onVs ρ rs g := by
  unfold onVs at h ⊢
  split at h
  · exact k _ h
  · exact h.elim
def dBin (ta tb : TDE) (k : R → R → Rho → (R → Rho → Prop) → Prop) : TDE := fun ρ Q => ta ρ fun r ρ1 => tb ρ1 fun s ρ2 => k r s ρ2 Q
/-- two operands, one behind the other -/
theorem de_bin {t : V → V → Hp → VK → Prop} {k : R → R → Rho → (R → Rho → Prop) → Prop} (ha : DE F ta da) (hb : DE F tb db)
    (hk : ∀ pins ρ σ H x y r s (Q : VK), Ok F pins ρ σ H → ROk F (Av F pins ρ σ) ρ σ H r x → ROk F (Av F pins ρ σ) ρ σ H s y → k r s ρ (fun z ρ' => ∀ v H', Ok F pins ρ' σ H' → ROk F (Av F pins ρ' σ) ρ' σ H' z v → Q v H') → t x y H Q)
    (hm : ∀ r s ρ Q Q', (∀ r ρ', Q r ρ' → Q' r ρ') → k r s ρ Q → k r s ρ Q') :
    DE F (fun σ H Q => ta σ H fun x H1 => tb σ H1 fun y H2 => t x y H2 Q) (dBin da db k) := by
  constructor
  · intro pins ρ σ H Q O h
    refine ha.run pins ρ σ H _ O (ha.mono _ _ _ (fun r ρ1 h1 x H1 O1 R1 => ?_) h)
    refine hb.run (.val x r :: pins) ρ1 σ H1 _ (O1.push R1) (hb.mono _ _ _ (fun s ρ2 h2 y H2 O2 R2 => ?_) h1)
    obtain ⟨O3, R3⟩ := O2.popV
    exact hk pins ρ2 σ H2 x y r s Q O3 R3 R2 h2
  · intro ρ Q Q' hq h
    exact ha.mono _ _ _ (fun r ρ1 h1 => hb.mono _ _ _ (fun s ρ2 h2 => hm r s ρ2 Q Q' hq h2) h1) h
def dOp (f : F2) (ta tb : TDE) : TDE := dBin ta tb fun r s ρ Q => onV2 ρ r s fun x y => f x y fun z => Q (.d z) ρ
theorem de_op {r : R2} {f : F2} (hf : SO F.K r f) (ha : DE F ta da) (hb : DE F tb db) : DE F (tOp r ta tb) (dOp f da db) := by
  refine de_bin ha hb (fun pins ρ σ H x y r s Q O R1 R2 h => ?_) fun r s ρ Q Q' hq h => onV2_mono h fun x y h => hf.mono _ _ _ _ (fun z => hq _ _) h
  obtain ⟨dx, dy, e1, e2, h⟩ := onV2_of h
  exact hf.run H x y dx dy Q (val_dp O R1 e1) (val_dp O R2 e2) (hf.mono _ _ _ _ (fun z q v hv => q v H O (hv _ _ _)) h)
theorem pd_op {op : Operator} {r : R2} {f : F2} (ho : OpR X (binaryOp op) r) (hf : SO F.K r f) (ha : PD X F a ta da) (hb : PD X F b tb db) : PD X F (.BinOp a op b pos) (tOp r ta tb) (dOp f da db) := ⟨pe_op ho ha.pe hb.pe, de_op hf ha.de hb.de⟩
theorem pd_cmp {op : CmpOp} {r : R2} {f : F2} (ho : OpR X (compareOp op) r) (hm : behindInMarks op b = false) (hf : SO F.K r f) (ha : PD X F a ta da) (hb : PD X F b tb db) : PD X F (.Compare a [op] [b] pos) (tOp r ta tb) (dOp f da db) := ⟨pe_cmpR ho ha.pe hb.pe hm, de_op hf ha.de hb.de⟩
/-- of two whole numbers -/
def fI (C : Int → Int → Prop) (g : Int → Int → PyData) : F2
  | .int i, .int j, Q => C i j ∧ Q (g i j)
  | _, _, _ => False
theorem so_I {K : PySem.W.Frag} {C : Int → Int → Prop} {g : Int → Int → PyData} {g' : Int → Int → V} (h : ∀ i j, Sc (g i j) (g' i j)) : SO K (rI C g') (fI C g) := by
  constructor
  · intro H x y dx dy Q h1 h2 q
    cases dx <;> cases dy <;> first | exact q.elim | skip
    cases h1; cases h2
    exact ⟨_, _, rfl, rfl, q.1, q.2 _ (h _ _)⟩
  · intro x y Q Q' hq q
    cases x <;> cases y <;> first | exact q.elim | skip
    exact ⟨q.1, hq _ q.2⟩
def fI0 (g : Int → Int → PyData) : F2
  | .int i, .int j, Q => Q (g i j)
  | _, _, _ => False
theorem so_I0 {K : PySem.W.Frag} {g : Int → Int → PyData} {g' : Int → Int → V} (h : ∀ i j, Sc (g i j) (g' i j)) : SO K (rI0 g') (fI0 g) := by
  constructor
  · intro H x y dx dy Q h1 h2 q
    cases dx <;> cases dy <;> first | exact q.elim | skip
    cases h1; cases h2
    exact ⟨_, _, rfl, rfl, q _ (h _ _)⟩
  · intro x y Q Q' hq q
    cases x <;> cases y <;> first | exact q.elim | skip
    exact hq _ q
abbrev fAdd : F2 := fI0 fun i j => .int (i + j)
abbrev fSub : F2 := fI0 fun i j => .int (i - j)
abbrev fMul : F2 := fI CMulW fun i j => .int (i * j)
abbrev fDiv : F2 := fI CDivW fun i j => .int (i / j)
abbrev fMod : F2 := fI (fun _ j => 0 < j) fun i j => .int (i % j)
abbrev fLt : F2 := fI0 fun i j => .bool (decide (i < j))
abbrev fLe : F2 := fI0 fun i j => .bool (decide (i ≤ j))
abbrev fGt : F2 := fI0 fun i j => .bool (decide (j < i))
abbrev fGe : F2 := fI0 fun i j => .bool (decide (j ≤ i))
theorem pd_add (ha : PD X F a ta da) (hb : PD X F b tb db) : PD X F (.BinOp a .Add b pos) (tOp (rI0 fun i j => .int (i + j)) ta tb) (dOp fAdd da db) := pd_op op_add (so_I0 fun _ _ => .int) ha hb
theorem pd_sub (ha : PD X F a ta da) (hb : PD X F b tb db) : PD X F (.BinOp a .Sub b pos) (tOp (rI0 fun i j => .int (i - j)) ta tb) (dOp fSub da db) := pd_op op_sub (so_I0 fun _ _ => .int) ha hb
theorem pd_mul (ha : PD X F a ta da) (hb : PD X F b tb db) : PD X F (.BinOp a .Mult b pos) (tOp (rI CMulW fun i j => .int (i * j)) ta tb) (dOp fMul da db) := pd_op op_mulW (so_I fun _ _ => .int) ha hb
theorem pd_div (ha : PD X F a ta da) (hb : PD X F b tb db) : PD X F (.BinOp a .FloorDiv b pos) (tOp (rI CDivW fun i j => .int (i / j)) ta tb) (dOp fDiv da db) := pd_op op_fdivW (so_I fun _ _ => .int) ha hb
/-- by any divisor but 0 -/
def CDivZ (_ j : Int) : Prop := j ≠ 0 ∧ j.natAbs.log2 < 9000
abbrev fDivZ : F2 := fI CDivZ fun i j => .int (i.fdiv j)
theorem pd_mod (ha : PD X F a ta da) (hb : PD X F b tb db) : PD X F (.BinOp a .Mod b pos) (tOp (rI (fun _ j => 0 < j) fun i j => .int (i % j)) ta tb) (dOp fMod da db) := pd_op op_mod (so_I fun _ _ => .int) ha hb
theorem pd_ge (ha : PD X F a ta da) (hb : PD X F b tb db) : PD X F (.Compare a [.GtE] [b] pos) (tOp (rI0 fun i j => .bl (decide (j ≤ i))) ta tb) (dOp fGe da db) := pd_cmp op_ge (nomark _) (so_I0 fun _ _ => .bool) ha hb
/-- == of any data -/
def fEq : F2 := fun x y Q => SeqAt.shaped x = true ∧ SeqAt.shaped y = true ∧ Q (.bool (PyData.eqv x y))
def fNe : F2 := fun x y Q => SeqAt.shaped x = true ∧ SeqAt.shaped y = true ∧ Q (.bool (!PyData.eqv x y))
theorem so_Eq {K : PySem.W.Frag} : SO K (rEqD K) fEq := ⟨fun H x y dx dy Q h1 h2 q => ⟨dx, dy, h1.l2 (SeqAt.canLay_of_shaped q.1), h2.l2 (SeqAt.canLay_of_shaped q.2.1), q.1, q.2.1, q.2.2 _ .bool⟩, fun _ _ _ _ hq q => ⟨q.1, q.2.1, hq _ q.2.2⟩⟩
theorem so_Ne {K : PySem.W.Frag} : SO K (rNeD K) fNe := ⟨fun H x y dx dy Q h1 h2 q => ⟨dx, dy, h1.l2 (SeqAt.canLay_of_shaped q.1), h2.l2 (SeqAt.canLay_of_shaped q.2.1), q.1, q.2.1, q.2.2 _ .bool⟩, fun _ _ _ _ hq q => ⟨q.1, q.2.1, hq _ q.2.2⟩⟩
theorem pd_eq (hu : X.A.units + 64 < cLine) (hK : X.K = F.K := by rfl) (ha : PD X F a ta da) (hb : PD X F b tb db) : PD X F (.Compare a [.Eq] [b] pos) (tOp (rEqD F.K) ta tb) (dOp fEq da db) := by
  have h := pd_cmp (X := X) (F := F) (pos := pos) (op_eqD hu) (nomark _) (by rw [hK]; exact so_Eq) ha hb
  rw [hK] at h; exact h
/-- == of two texts -/
def fEqS : F2
  | .str x, .str y, Q => Q (.bool (decide (x = y)))
  | _, _, _ => False
theorem so_EqS {K : PySem.W.Frag} : SO K rEq fEqS := by
  constructor
  · intro H x y dx dy Q h1 h2 q
    cases dx <;> cases dy <;> first | exact q.elim | skip
    cases h1; cases h2
    refine ⟨rfl, q _ ?_⟩
    rw [dec_str, ← Bool.beq_eq_decide_eq]
    exact .bool
  · intro x y Q Q' hq q
    cases x <;> cases y <;> first | exact q.elim | skip
    exact hq _ q
theorem pd_eqS (ha : PD X F a ta da) (hb : PD X F b tb db) : PD X F (.Compare a [.Eq] [b] pos) (tOp rEq ta tb) (dOp fEqS da db) := pd_cmp op_eq (nomark _) so_EqS ha hb
def dUn (f : PyData → (PyData → Prop) → Prop) (ta : TDE) : TDE := fun ρ Q => ta ρ fun r ρ1 => onV ρ1 r fun x => f x fun z => Q (.d z) ρ1
def fNeg : PyData → (PyData → Prop) → Prop
  | .int i, Q => Q (.int (-i))
  | _, _ => False
theorem pd_neg (ha : PD X F a ta da) : PD X F (.UnaryOp .USub a pos) (tUn (rU fun i => .int (-i)) ta) (dUn fNeg da) := by
  refine ⟨pe_un un_neg ha.pe, ?_, ?_⟩
  · intro pins ρ σ H Q O h
    refine ha.de.run pins ρ σ H _ O (ha.de.mono _ _ _ (fun r ρ1 h1 x H1 O1 R1 => ?_) h)
    obtain ⟨dx, e, h2⟩ := onV_of h1
    have d := val_dp O1 R1 e
    cases dx <;> first | exact h2.elim | skip
    cases d
    exact ⟨_, rfl, h2 _ _ O1 (.sc .int)⟩
  · intro ρ Q Q' hq h
    refine ha.de.mono _ _ _ (fun r ρ1 h1 => onV_mono h1 fun x h2 => ?_) h
    cases x <;> first | exact h2.elim | skip
    exact hq _ _ h2
end
end DV
namespace DV
open PySem PySem.Spec PyProof.Rows L2
open LamX (ExtN TabS Tabs CodeO)
section
variable {X : Cx} {F : Fm} {a b c e : Expr} {es : List Expr} {ta tb tc te : TE} {da db dc de : TDE} {pos : Pos} {t : TA} {d : TDA}
def dNil : TDA := fun ρ Q => Q [] ρ
def dCons (te : TDE) (t : TDA) : TDA := fun ρ Q => te ρ fun r ρ1 => t ρ1 fun rs ρ2 => Q (r :: rs) ρ2
theorem da_nil : DA F tNil dNil := ⟨fun pins ρ σ H Q O h => h [] H O (by simp only [ROks]), fun _ _ _ hq h => hq _ _ h⟩
theorem da_cons (h1 : DE F te de) (h2 : DA F t d) : DA F (tCons te t) (dCons de d) := by
  constructor
  · intro pins ρ σ H Q O h
    refine h1.run pins ρ σ H _ O (h1.mono _ _ _ (fun r ρ1 h3 x H1 O1 R1 => ?_) h)
    refine h2.run (.val x r :: pins) ρ1 σ H1 _ (O1.push R1) (h2.mono _ _ _ (fun rs ρ2 h4 vs H2 O2 R2 => ?_) h3)
    obtain ⟨O3, R3⟩ := O2.popV
    refine h4 _ H2 O3 ?_
    simp only [ROks]
    exact ⟨x, vs, rfl, R3, R2⟩
  · intro ρ Q Q' hq h
    exact h1.mono _ _ _ (fun r ρ1 h3 => h2.mono _ _ _ (fun rs ρ2 h4 => hq _ _ h4) h3) h
theorem pda_nil : PDA X F [] tNil dNil := ⟨pa_nil, da_nil⟩
theorem pda_cons (h1 : PD X F e te de) (h2 : PDA X F es t d) (hs : starEach (e :: es) X.env = (false, eval e X.env) :: starEach es X.env := by rfl) : PDA X F (e :: es) (tCons te t) (dCons de d) := ⟨pa_cons h1.pe h2.pa hs, da_cons h1.de h2.da⟩
/-- all of them data that nobody changes -/
def dats : List R → Option (List PyData)
  | [] => some []
  | .d x :: rs => (dats rs).map (x :: ·)
  | _ :: _ => none
theorem dats_im {A : Addr → Prop} {ρ : Rho} {σ : L2.St} {H : Hp} : ∀ {rs : List R} {vs : List V} {xs : List PyData}, ROks F A ρ σ H rs vs → dats rs = some xs → ImAll F.K A H xs vs
  | [], _, _, h, e => by simp only [ROks] at h; simp only [dats] at e; subst h; cases e; exact .nil
  | .d x :: rs, _, _, h, e => by
    simp only [ROks] at h
    obtain ⟨v, us, rfl, h1, h2⟩ := h
    simp only [dats] at e
    cases e1 : dats rs with
    | none => rw [e1] at e; cases e
    | some xs => rw [e1] at e; cases e; exact .cons h1 (dats_im h2 e1)
  | .o _ :: _, _, _, _, e => by cases e
  | .raw _ :: _, _, _, _, e => by cases e
def onD (rs : List R) (f : List PyData → Prop) : Prop := match dats rs with
  | some xs => f xs
  | _ => False
theorem onD_of {rs : List R} {f : List PyData → Prop} (h : onD rs f) : ∃ xs, dats rs = some xs ∧ f xs := by
  unfold onD at h
  split at h
  · exact ⟨_, by assumption, h⟩
  · exact h.elim
theorem onD_mono {rs : List R} {f g : List PyData → Prop} (h : onD rs f) (k : ∀ xs, f xs → g xs) : onD rs g := by
  unfold onD at h ⊢
  split at h
  · exact k _ h
  · exact h.elim
def Few (n : Nat) : Prop := n ≤ sizeLine
def dTup (t : TDA) : TDE := fun ρ Q => t ρ fun rs ρ1 => onD rs fun xs => Few xs.length ∧ Q (.d (.tuple xs)) ρ1
theorem newTup {pins : List Pin} {ρ : Rho} {σ : L2.St} {H : Hp} (O : Ok F pins ρ σ H) {p : Addr} {xs : List PyData} {vs : List V} (hp : H p = none) (h : ImAll F.K (Av F pins ρ σ) H xs vs) :
    Ok F pins ρ σ (upd H p (.tup vs)) ∧ Im F.K (Av F pins ρ σ) (upd H p (.tup vs)) (.tuple xs) (.ref p) := by
  have g := grow_new (o := .tup vs) hp
  refine ⟨O.new hp, ?_⟩
  simp only [Im]
  refine ⟨p, vs, rfl, .inl ⟨.inl upd_same, fun z => ?_⟩, h.go ⟨fun a o _ e _ => g a o e, fun a z => .inl z⟩⟩
  obtain ⟨o, e⟩ := O.avH z
  rw [hp] at e; cases e
theorem pd_tup {x1} (h : PDA X F es t d) : PD X F (.Tuple es x1 pos) (tTup t) (dTup d) := by
  refine ⟨pe_tup h.pa, ?_, ?_⟩
  · intro pins ρ σ H Q O hq
    refine h.da.run pins ρ σ H _ O (h.da.mono _ _ _ (fun rs ρ1 h1 vs H1 O1 R1 => ?_) hq)
    obtain ⟨xs, e, hl, h2⟩ := onD_of h1
    have im := dats_im R1 e
    refine ⟨by rw [im.length]; exact hl, fun p hp => ?_⟩
    obtain ⟨O2, i2⟩ := newTup O1 hp im
    exact h2 _ _ O2 i2
  · intro ρ Q Q' hq hh
    exact h.da.mono _ _ _ (fun rs ρ1 h1 => onD_mono h1 fun xs h2 => ⟨h2.1, hq _ _ h2.2⟩) hh
def dLst (t : TDA) : TDL := fun ρ Q => t ρ fun rs ρ1 => onD rs fun xs => Few xs.length ∧ Q xs ρ1
theorem pl_lst (h : PDA X F es t d) : PDL X F (.List es pos) (tLst t) (dLst d) := by
  refine ⟨pe_lst h.pa, ?_, ?_⟩
  · intro pins ρ σ H Q O hq
    refine h.da.run pins ρ σ H _ O (h.da.mono _ _ _ (fun rs ρ1 h1 vs H1 O1 R1 => ?_) hq)
    obtain ⟨xs, e, hl, h2⟩ := onD_of h1
    have im := dats_im R1 e
    refine ⟨by rw [im.length]; exact hl, fun p hp => ?_⟩
    exact h2 _ _ (O1.pushL hp im)
  · intro ρ Q Q' hq hh
    exact h.da.mono _ _ _ (fun rs ρ1 h1 => onD_mono h1 fun xs h2 => ⟨h2.1, hq _ _ h2.2⟩) hh
/-- a new list as data -/
def dOfL (t : TDL) : TDE := fun ρ Q => t ρ fun xs ρ1 => Q (.d (.list xs)) ρ1
theorem pd_l {dl : TDL} (h : PDL X F e te dl) : PD X F e te (dOfL dl) := by
  refine ⟨h.pe, ?_, ?_⟩
  · intro pins ρ σ H Q O hq
    refine h.dl.run pins ρ σ H _ O (h.dl.mono _ _ _ (fun xs ρ1 h1 p H1 O1 => ?_) hq)
    obtain ⟨O2, i2⟩ := O1.popL
    exact h1 _ _ O2 i2
  · intro ρ Q Q' hq hh
    exact h.dl.mono _ _ _ (fun xs ρ1 h1 => hq _ _ h1) hh
abbrev FA := List PyData → (PyData → Prop) → Prop
structure SC (K : PySem.W.Frag) (r : List V → Hp → VK → Prop) (f : FA) : Prop where
  run : ∀ (H : Hp) (vs : List V) (ds : List PyData) (Q : VK), DpAll K H vs ds → f ds (fun z => ∀ v, Sc z v → Q v H) → r vs H Q
  mono : ∀ ds Q Q', (∀ z, Q z → Q' z) → f ds Q → f ds Q'
def dCB (f : FA) (t : TDA) : TDE := fun ρ Q => t ρ fun rs ρ1 => onVs ρ1 rs fun xs => f xs fun z => Q (.d z) ρ1
theorem de_cb {r : List V → Hp → VK → Prop} {f : FA} (hf : SC F.K r f) (h : DA F t d) : DE F (tCB r t) (dCB f d) := by
  constructor
  · intro pins ρ σ H Q O hq
    refine h.run pins ρ σ H _ O (h.mono _ _ _ (fun rs ρ1 h1 vs H1 O1 R1 => ?_) hq)
    obtain ⟨xs, e, h2⟩ := onVs_of h1
    exact hf.run H1 vs xs Q (vals_dp O1 R1 e) (hf.mono _ _ _ (fun z q v hv => q v H1 O1 (.sc hv)) h2)
  · intro ρ Q Q' hq hh
    exact h.mono _ _ _ (fun rs ρ1 h1 => onVs_mono h1 fun xs h2 => hf.mono _ _ _ (fun z => hq _ _) h2) hh
theorem pd_callB {r : List V → Hp → VK → Prop} {f : FA} {x : Str} {p : Pos} {id : String} (hc : CallR X (.builtin id) r) (hf : SC F.K r f) (hg : Gl X x) (hm : X.mg x = none) (hv : bootBuiltins x = some (.builtin id)) (ha : PDA X F (e :: es) t d) (hn : x ≠ "__name__" := by decide) (hdb : (x == ("__debug__" : Str)) = false := by decide)
    (he : starEach (e :: es) X.env = (false, eval e X.env) :: starEach es X.env := by rfl) (hpl : (backTo pos (starEach es X.env)).any (·.1) = false := by rfl) : PD X F (.Call (.Name x p) (e :: es) [] pos) (tCB r t) (dCB f d) :=
  ⟨pe_callB hc hg hm hv ha.pa hn hdb he hpl, de_cb hf ha.da⟩
theorem pd_callTy {r : List V → Hp → VK → Prop} {f : FA} {x : Str} {p : Pos} {T : String} (hc : CallR X (.type T) r) (hf : SC F.K r f) (hg : Gl X x) (hm : X.mg x = none) (hv : bootBuiltins x = some (.type T)) (ha : PDA X F (e :: es) t d) (hn : x ≠ "__name__" := by decide) (hdb : (x == ("__debug__" : Str)) = false := by decide)
    (he : starEach (e :: es) X.env = (false, eval e X.env) :: starEach es X.env := by rfl) (hpl : (backTo pos (starEach es X.env)).any (·.1) = false := by rfl) : PD X F (.Call (.Name x p) (e :: es) [] pos) (tCB r t) (dCB f d) :=
  ⟨pe_callTy hc hg hm hv ha.pa hn hdb he hpl, de_cb hf ha.da⟩
def fAbs : FA
  | [.int i], Q => Q (.int (if i < 0 then -i else i))
  | _, _ => False
theorem dpall1 {K : PySem.W.Frag} {H : Hp} {vs : List V} {d : PyData} (h : DpAll K H vs [d]) : ∃ v, vs = [v] ∧ Dp K H v d := by
  cases h with
  | cons h1 h2 => cases h2; exact ⟨_, rfl, h1⟩
theorem dp_int {K : PySem.W.Frag} {H : Hp} {v : V} {i : Int} (h : Dp K H v (.int i)) : v = .int i := by cases h; rfl
theorem dp_bool {K : PySem.W.Frag} {H : Hp} {v : V} {i : Bool} (h : Dp K H v (.bool i)) : v = .bl i := by cases h; rfl
theorem sc_abs {K : PySem.W.Frag} : SC K (fun xs H Q => ∃ i, xs = [.int i] ∧ Q (.int (if i < 0 then -i else i)) H) fAbs := by
  constructor
  · intro H vs ds Q h q
    unfold fAbs at q
    split at q
    · obtain ⟨v, rfl, h1⟩ := dpall1 h
      cases dp_int h1
      exact ⟨_, rfl, q _ .int⟩
    · exact q.elim
  · intro ds Q Q' hq q
    unfold fAbs at q ⊢
    split at q
    · exact hq _ q
    · exact q.elim
def fInt : FA
  | [.int i], Q => Q (.int i)
  | [.bool k], Q => Q (.int (if k then 1 else 0))
  | _, _ => False
theorem sc_int {K : PySem.W.Frag} : SC K (fun xs H Q => (∃ i, xs = [.int i] ∧ Q (.int i) H) ∨ ∃ k, xs = [.bl k] ∧ Q (.int (if k then 1 else 0)) H) fInt := by
  constructor
  · intro H vs ds Q h q
    unfold fInt at q
    split at q
    · obtain ⟨v, rfl, h1⟩ := dpall1 h
      cases dp_int h1
      exact .inl ⟨_, rfl, q _ .int⟩
    · obtain ⟨v, rfl, h1⟩ := dpall1 h
      cases dp_bool h1
      exact .inr ⟨_, rfl, q _ .int⟩
    · exact q.elim
  · intro ds Q Q' hq q
    unfold fInt at q ⊢
    split at q <;> first | exact hq _ q | exact q.elim
def fMax : FA
  | [.int i, .int j], Q => Q (.int (if j > i then j else i))
  | _, _ => False
def fMin : FA
  | [.int i, .int j], Q => Q (.int (if j < i then j else i))
  | _, _ => False
def fGcd : FA
  | [.int i, .int j], Q => Q (.int ((Nat.gcd i.natAbs j.natAbs : Nat) : Int))
  | _, _ => False
/-- len of a list or a tuple -/
def fLen : FA
  | [.list xs], Q => Q (.int (xs.length : Nat))
  | [.tuple xs], Q => Q (.int (xs.length : Nat))
  | _, _ => False
theorem DpAll.length {K : PySem.W.Frag} {H : Hp} : ∀ {vs : List V} {ds : List PyData}, DpAll K H vs ds → vs.length = ds.length
  | _, [], h => by cases h; rfl
  | _, _ :: _, h => by cases h with | cons h1 h2 => simp [DpAll.length h2]
theorem sc_len {K : PySem.W.Frag} : SC K (fun xs H Q => ∃ p ys, xs = [.ref p] ∧ (SqL K H p ys ∨ SqT K H p ys) ∧ Q (.int ys.length) H) fLen := by
  constructor
  · intro H vs ds Q h q
    unfold fLen at q
    split at q
    · obtain ⟨v, rfl, h1⟩ := dpall1 h
      cases h1 with
      | lst h2 h3 => exact ⟨_, _, rfl, .inl h2, by rw [DpAll.length h3]; exact q _ .int⟩
    · obtain ⟨v, rfl, h1⟩ := dpall1 h
      cases h1 with
      | tup h2 h3 => exact ⟨_, _, rfl, .inr h2, by rw [DpAll.length h3]; exact q _ .int⟩
    · exact q.elim
  · intro ds Q Q' hq q
    unfold fLen at q ⊢
    split at q <;> first | exact hq _ q | exact q.elim
/-- repr of data -/
def rRepr (K : PySem.W.Frag) : List V → Hp → VK → Prop := fun vs H Q => ∃ v d, vs = [v] ∧ Dp K H v d ∧ d.showable = true ∧ d.hasDict = false ∧ d.depth ≤ 60 ∧ d.shown.length ≤ sizeLine ∧ Q (.str d.shown) H
theorem call_repr (hr : X.A.guards = some []) (hu : X.A.units + 64 < cLine) : CallR X (.builtin "repr") (rRepr X.K) := by
  intro pins s σ H vs us Q I r h
  obtain ⟨v, d, rfl, hd, hs, hn, hdp, hsz, q⟩ := h
  obtain ⟨u, rfl, ru⟩ := vals1 r
  obtain ⟨as, rd⟩ := L2.Dp.reads I d v u (hd.nd hn) ru
  have fin : ∀ (h' : Heap) (u' : Tok) (tk : Nat), (∀ b o, s.heap.get? b = some o → h'.get? b = some o) → EP X pins σ Q (.str d.shown u') { s with heap := h', toks := tk } := fun h' u' tk hk =>
    ⟨.str d.shown, H, I.kept hk, ⟨u', rfl⟩, q⟩
  cases d with
  | none =>
    cases hd; cases (show u = Value.none from ru)
    rw [PyData.shown_none] at q
    exact PySem.P.repr_of_none ⟨.str _, H, I.tok _, ⟨_, rfl⟩, q⟩
  | bool b =>
    cases hd; cases (show u = Value.bool b from ru)
    rw [PyData.shown_bool] at q
    exact PySem.P.repr_of_bool ⟨.str _, H, I.tok _, ⟨_, rfl⟩, q⟩
  | int i =>
    cases hd; obtain ⟨tk, rfl⟩ := (show ∃ t, u = Value.int i t from ru)
    have hz : i.natAbs.log2 < 1920 := by simpa [PyData.showable] using hs
    rw [PyData.shown_int] at q
    exact PySem.P.repr_of_int hz ⟨.str _, H, I.tok _, ⟨_, rfl⟩, q⟩
  | str x =>
    cases hd; obtain ⟨tk, rfl⟩ := (show ∃ t, u = Value.str x t from ru)
    rw [PyData.shown_str] at q hsz
    exact PySem.P.repr_of_str ⟨.str _, H, I.tok _, ⟨_, rfl⟩, q⟩ hsz
  | list xs =>
    cases hd; rename_i a vs h1 h2; cases (show u = Value.ref a from ru)
    exact repr_of_reads' rd hs (PyData.noDict_hsm hn) hr (by omega) (fun _ _ e => e) fin hsz
  | tuple xs =>
    cases hd; rename_i a vs h1 h2; cases (show u = Value.ref a from ru)
    exact repr_of_reads' rd hs (PyData.noDict_hsm hn) hr (by omega) (fun _ _ e => e) fin hsz
  | dict _ => simp only [PyData.hasDict] at hn; cases hn
def Plain (d : PyData) : Prop := d.showable = true ∧ d.hasDict = false ∧ d.depth ≤ 60 ∧ d.shown.length ≤ sizeLine
def fRepr : FA
  | [d], Q => Plain d ∧ Q (.str d.shown)
  | _, _ => False
theorem sc_repr {K : PySem.W.Frag} : SC K (rRepr K) fRepr := by
  constructor
  · intro H vs ds Q h q
    unfold fRepr at q
    split at q
    · obtain ⟨v, rfl, h1⟩ := dpall1 h
      exact ⟨v, _, rfl, h1, q.1.1, q.1.2.1, q.1.2.2.1, q.1.2.2.2, q.2 _ .str⟩
    · exact q.elim
  · intro ds Q Q' hq q
    unfold fRepr at q ⊢
    split at q
    · exact ⟨q.1, hq _ q.2⟩
    · exact q.elim
end
end DV
namespace DV
open PySem PySem.Spec PyProof.Rows L2
open LamX (ExtN TabS Tabs CodeO)
structure FnG (P : Program) (w : World) (K : PySem.W.Frag) (mg : Str → Option Value) (base : Heap) (CX : CXT) (k : Nat) (f : Addr) (fd : FuncData) (ps : List Str) (sp : Sp) : Prop where
  size : ∀ vs H Q E, sp vs H Q E → vs.length = ps.length
  goes : ∀ (A : Around) (out : List Env) (s : Shared) (H : Hp) (ar : Args) (us : List Value) (vs : List V) (Q : VK) (E : XK),
    Room k A → A.guards = some [] → Env0 P w K mg base A out s H → BindsTo s fd ar (ps.zip us) → Vals vs us → sp vs H Q E → codeAny (model P w) A (.call (.ref f) ar) (CR CX out P w H s Q E) s
theorem FnG.up {P : Program} {w : World} {K : PySem.W.Frag} {mg : Str → Option Value} {base : Heap} {CX : CXT} {j k : Nat} {f : Addr} {fd : FuncData} {ps : List Str} {sp : Sp} (G : FnG P w K mg base CX j f fd ps sp) (h : j ≤ k) : FnG P w K mg base CX k f fd ps sp :=
  ⟨G.size, fun A out s H ar us vs Q E hr => G.goes A out s H ar us vs Q E (hr.mono h)⟩
section
variable {P : Program} {w : World} {K : PySem.W.Frag} {mg : Str → Option Value} {base : Heap} {T : List (Addr × Str)}
theorem fg_ofC {x qual : Str} {st : Stmt} {f : Addr} {fd : FuncData} {N ps : List Str} {k : Nat} {sp : Sp} (W : Fun K x qual st f fd) (S : FnScope N ps (defScope st)) (hlen : ∀ vs H Q E, sp vs H Q E → vs.length = ps.length)
    (body : ∀ (cdv : Value), fd.code = cdv → ∀ (A : Around) (out : List Env) (s : Shared) (H : Hp) (vs : List V) (Q : VK) (E : XK), Room k (A.deeper (envOfC qual (defScope st) s.heap.objs.size f cdv)) → A.guards = some [] → sp vs H Q E →
      ∃ t, PSs (cxOf CX0 P w K mg base N qual (defScope st) f cdv A out s H E).nox (defBody st) t ∧ t { nx := fun _ H' => Q .non H', rt := Q } (start N vs) H) : FnG P w K mg base CX0 (k + 1) f fd ps sp := by
  obtain ⟨oc, od, kV, doc, pm, an, cdv, ct, osl, rfl, lk, cd⟩ := W.ex
  constructor
  · exact hlen
  intro A out s H ar us vs Q E room hgd env0 hbind rel hs
  have inK : K.In s.heap := env0.mod.kin.keeps fun b o e => (env0.bs b o e).1
  have names : ∀ y ∈ ps.zip us, (defScope st).names.lookup y.1 = some .local ∨ ((defScope st).names.lookup y.1 = some .cell ∧ ((cellsFrom (s.heap.objs.size + 1) (defScope st).names []).lookup y.1).isSome = true) := by
    rintro ⟨n, v⟩ hy
    cases S.par n (List.of_mem_zip hy).1 with
    | inl q => exact .inl q
    | inr q => exact .inr ⟨q, PySem.W.cellsFrom_some _ _ _ (.inl q)⟩
  apply codeAny_call_function room.depth (inK _ _ lk) rfl S.co S.gen rfl (PySem.W.codeRec_of inK cd)
  apply hbind
  apply wpAny_newFunctionEnv_cells S.kind names
  rintro env rfl s1 ic
  constructor
  · exact (env0.mod.nolimit.keeps fun b o e => (env0.bs b o e).1).keeps ic.toInCall.keep
  apply codeAny_func
  obtain ⟨t, ht0, hq⟩ := body cdv rfl A out s H vs Q E (room.deeper _) hgd hs
  have ht := ht0.nox
  have I0 := inv_start (CX := CX0) (E := E) S room.hd env0 (hlen _ _ _ _ hs) rel ic
  refine wpAny_mono (ht.run [] s1 (start N vs) H _ I0 hq) ?_ fun _ _ z => z
  intro fl s' z
  cases fl with
  | ret u =>
    obtain ⟨v, σ', H', J, rv, q⟩ := z
    exact ⟨v, H', J.os, J.bare, J.base, J.hok, rv, q⟩
  | next =>
    obtain ⟨σ', H', J, q⟩ := z
    exact ⟨V.non, H', J.os, J.bare, J.base, J.hok, rfl, q⟩
  | brk => exact z.elim fun _ z => z.elim fun _ z => z.2.elim
  | cont => exact z.elim fun _ z => z.elim fun _ z => z.2.elim
theorem fg_of {x qual : Str} {st : Stmt} {f : Addr} {fd : FuncData} {N ps : List Str} {k : Nat} {sp : Sp} (W : Fun K x qual st f fd) (S : FnScope N ps (defScope st)) (hlen : ∀ vs H Q E, sp vs H Q E → vs.length = ps.length)
    (body : ∀ (cdv : Value) (A : Around) (out : List Env) (s : Shared) (H : Hp) (vs : List V) (Q : VK) (E : XK), Room k (A.deeper (envOfC qual (defScope st) s.heap.objs.size f cdv)) → A.guards = some [] → sp vs H Q E →
      ∃ t, PSs (cxOf CX0 P w K mg base N qual (defScope st) f cdv A out s H E).nox (defBody st) t ∧ t { nx := fun _ H' => Q .non H', rt := Q } (start N vs) H) : FnG P w K mg base CX0 (k + 1) f fd ps sp :=
  fg_ofC W S hlen fun cdv _ => body cdv
end
section
variable {X : Cx} {k : Nat} {f : Addr} {fd : FuncData} {ps : List Str} {sp : Sp} {E : XK} {x : Str} {p pos : Pos} {e : Expr} {es : List Expr} {t : TA}
theorem goes_fn {pins : List (Addr × Obj)} {σ : L2.St} {H : Hp} {s : Shared} {Q : VK} {us : List Value} {vs : List V} (G : FnG X.prog X.w X.K X.mg X.base CX0 k f fd ps sp) (hr : Room k X.A) (hgd : X.A.guards = some []) (hb : Binds X.K fd ps [])
    (I : Inv X pins σ H s) (r : Vals vs us) (h : sp vs H Q E) : wpAny (model X.prog X.w) X.A (call (.ref f) us) (EP X pins σ Q) X.xe s := by
  have bl : (us ++ []).length = ps.length := by rw [List.append_nil, ← r.length]; exact G.size _ _ _ _ h
  have bd := hb s us I.kIn bl
  rw [List.append_nil] at bd
  apply wpAny_call
  refine codeAny_mono (G.goes X.A X.stack s H ⟨us, []⟩ us vs Q E hr hgd I.env0 bd r h) ?_
  rintro (e | (u | _ | _ | _)) s' z
  all_goals first | exact I.after z | exact False.elim z
/-- f(e, ..) -/
theorem pe_callG (G : FnG X.prog X.w X.K X.mg X.base CX0 k f fd ps sp) (hr : Room k X.A) (hgd : X.A.guards = some []) (hg : Gl X x) (hm : X.mg x = some (.ref f)) (hk : PySem.W.keepIn X.K (.ref f) = true) (hb : Binds X.K fd ps [])
    (ha : PA X (e :: es) t) (hdb : (x == ("__debug__" : Str)) = false := by decide) (he : starEach (e :: es) X.env = (false, eval e X.env) :: starEach es X.env := by rfl) (hpl : (backTo pos (starEach es X.env)).any (·.1) = false := by rfl) :
    PE X (.Call (.Name x p) (e :: es) [] pos) (fun σ H Q => t σ H fun vs H1 => sp vs H1 Q E) := by
  constructor
  intro pins s σ H Q I h
  apply wpAny_Call_Name_kw
  apply ld_glob I hg hm _ hdb
  refine PySem.W.callWith_K (h₀ := X.base) I.ok.mod.kin hk (thn (ha.run pos pins s σ H _ I h) ?_) he hpl
  rintro us s1 ⟨vs, H1, I1, r, q⟩
  exact ⟨I1.kIn, goes_fn G hr hgd hb I1 r q⟩
end
end DV
namespace DV
open PySem PySem.Spec PyProof.Rows L2
open LamX (ExtN TabS Tabs CodeO)
section
variable {X : Cx} {F : Fm} {a b c e : Expr} {es : List Expr} {ta tb tc te : TE} {da db dc de : TDE} {pos : Pos} {t : TA} {d : TDA} {tt tu : TT} {dt du : TDT}
def dTV (te : TDE) : TDT := fun ρ Q => te ρ fun r ρ1 => match val ρ1 r with
  | some (.bool k) => Q k ρ1
  | _ => False
theorem dt_tv {k : TE → TT} (hk : ∀ te, k te = fun σ H Q => te σ H fun x H1 => ∃ c, x = .bl c ∧ Q c H1) (h : DE F te de) : DT F (k te) (dTV de) := by
  rw [hk]
  constructor
  · intro pins ρ σ H Q O hq
    refine h.run pins ρ σ H _ O (h.mono _ _ _ (fun r ρ1 h1 v H1 O1 R1 => ?_) hq)
    split at h1
    · rename_i k e
      cases dp_bool (val_dp O1 R1 e)
      exact ⟨k, rfl, h1 H1 O1⟩
    · exact h1.elim
  · intro ρ Q Q' hq hh
    refine h.mono _ _ _ (fun r ρ1 h1 => ?_) hh
    show match val ρ1 r with
      | some (.bool k) => Q' k ρ1
      | _ => False
    split at h1
    · rename_i k e
      exact hq _ _ h1
    · exact h1.elim
theorem pt_v (h : PD X F e te de) (he : ∀ whole, isTrue e X.env whole = (do let v ← whole; standAt e.pos; holding [v] (truthy v)) := by intro _; rfl) : PDT X F e (tB te) (dTV de) := ⟨pt_val h.pe he, dt_tv (k := tB) (fun _ => rfl) h.de⟩
def dNot (t : TDT) : TDT := fun ρ Q => t ρ fun k ρ1 => Q (!k) ρ1
theorem pt_no (h : PDT X F a tt dt) : PDT X F (.UnaryOp .Not a pos) (tNot tt) (dNot dt) :=
  ⟨pt_not h.pt, fun pins ρ σ H Q O hq => h.dt.run pins ρ σ H _ O (h.dt.mono _ _ _ (fun k ρ1 h1 H1 O1 => h1 H1 O1) hq), fun ρ Q Q' hq hh => h.dt.mono _ _ _ (fun k ρ1 h1 => hq _ _ h1) hh⟩
def dAnd (t u : TDT) : TDT := fun ρ Q => t ρ fun k ρ1 => if k = true then u ρ1 Q else Q false ρ1
def dOr (t u : TDT) : TDT := fun ρ Q => t ρ fun k ρ1 => if k = true then Q true ρ1 else u ρ1 Q
theorem dt_and (h1 : DT F tt dt) (h2 : DT F tu du) : DT F (tAnd tt tu) (dAnd dt du) := by
  constructor
  · intro pins ρ σ H Q O hq
    refine h1.run pins ρ σ H _ O (h1.mono _ _ _ (fun k ρ1 h3 H1 O1 => ?_) hq)
    cases k with
    | true => exact h2.run pins ρ1 σ H1 Q O1 h3
    | false => exact h3 H1 O1
  · intro ρ Q Q' hq hh
    refine h1.mono _ _ _ (fun k ρ1 h3 => ?_) hh
    cases k with
    | true => exact h2.mono _ _ _ hq h3
    | false => exact hq _ _ h3
theorem dt_or (h1 : DT F tt dt) (h2 : DT F tu du) : DT F (tOr tt tu) (dOr dt du) := by
  constructor
  · intro pins ρ σ H Q O hq
    refine h1.run pins ρ σ H _ O (h1.mono _ _ _ (fun k ρ1 h3 H1 O1 => ?_) hq)
    cases k with
    | false => exact h2.run pins ρ1 σ H1 Q O1 h3
    | true => exact h3 H1 O1
  · intro ρ Q Q' hq hh
    refine h1.mono _ _ _ (fun k ρ1 h3 => ?_) hh
    cases k with
    | false => exact h2.mono _ _ _ hq h3
    | true => exact hq _ _ h3
theorem pwd_and1 (h : PDT X F a tt dt) : PDW X F (.BoolOp .And [a] pos) tt dt := ⟨pw_and1 h.pt, h.dt⟩
theorem pwd_or1 (h : PDT X F a tt dt) : PDW X F (.BoolOp .Or [a] pos) tt dt := ⟨pw_or1 h.pt, h.dt⟩
theorem pwd_and {rest : List Expr} (h : PDT X F a tt dt) (k : PDW X F (.BoolOp .And (b :: rest) pos) tu du) : PDW X F (.BoolOp .And (a :: b :: rest) pos) (tAnd tt tu) (dAnd dt du) := ⟨pw_and h.pt k.pw, dt_and h.dt k.dt⟩
theorem pwd_or {rest : List Expr} (h : PDT X F a tt dt) (k : PDW X F (.BoolOp .Or (b :: rest) pos) tu du) : PDW X F (.BoolOp .Or (a :: b :: rest) pos) (tOr tt tu) (dOr dt du) := ⟨pw_or h.pt k.pw, dt_or h.dt k.dt⟩
theorem pt_w (h : PDW X F e tt dt) : PDT X F e tt dt := ⟨h.pw.pt, h.dt⟩
/-- and, or, not as values: truths -/
def dAndV (ta tb : TDE) : TDE := fun ρ Q => ta ρ fun r ρ1 => match val ρ1 r with
  | some (.bool k) => if k = true then tb ρ1 Q else Q (.d (.bool false)) ρ1
  | _ => False
def dOrV (ta tb : TDE) : TDE := fun ρ Q => ta ρ fun r ρ1 => match val ρ1 r with
  | some (.bool k) => if k = true then Q (.d (.bool true)) ρ1 else tb ρ1 Q
  | _ => False
def dNotV (ta : TDE) : TDE := fun ρ Q => ta ρ fun r ρ1 => match val ρ1 r with
  | some (.bool k) => Q (.d (.bool !k)) ρ1
  | _ => False
theorem pdn_one {op : BoolOp} (h : PD X F a ta da) : PD X F (.BoolOp op [a] pos) ta da := ⟨pe_one h.pe, h.de⟩
theorem pd_and {rest : List Expr} (ha : PD X F a ta da) (hb : PD X F (.BoolOp .And (b :: rest) pos) tb db) : PD X F (.BoolOp .And (a :: b :: rest) pos) (L2.tAndV ta tb) (dAndV da db) := by
  refine ⟨pe_and ha.pe hb.pe, ?_, ?_⟩
  · intro pins ρ σ H Q O hq
    refine ha.de.run pins ρ σ H _ O (ha.de.mono _ _ _ (fun r ρ1 h1 v H1 O1 R1 => ?_) hq)
    split at h1
    · rename_i k e
      cases dp_bool (val_dp O1 R1 e)
      refine ⟨k, rfl, ?_⟩
      cases k with
      | true => exact hb.de.run pins ρ1 σ H1 Q O1 h1
      | false => exact h1 _ H1 O1 (.sc .bool)
    · exact h1.elim
  · intro ρ Q Q' hq hh
    refine ha.de.mono _ _ _ (fun r ρ1 h1 => ?_) hh
    revert h1
    split
    · rename_i k e
      cases k with
      | true => exact fun h1 => hb.de.mono _ _ _ hq h1
      | false => exact fun h1 => hq _ _ h1
    · exact fun h1 => h1
theorem pd_not (ha : PD X F a ta da) : PD X F (.UnaryOp .Not a pos) (L2.tNotV ta) (dNotV da) := by
  refine ⟨pe_not ha.pe, ?_, ?_⟩
  · intro pins ρ σ H Q O hq
    refine ha.de.run pins ρ σ H _ O (ha.de.mono _ _ _ (fun r ρ1 h1 v H1 O1 R1 => ?_) hq)
    split at h1
    · rename_i k e
      cases dp_bool (val_dp O1 R1 e)
      exact ⟨k, rfl, h1 _ H1 O1 (.sc .bool)⟩
    · exact h1.elim
  · intro ρ Q Q' hq hh
    refine ha.de.mono _ _ _ (fun r ρ1 h1 => ?_) hh
    revert h1
    split
    · exact fun h1 => hq _ _ h1
    · exact fun h1 => h1
def dIfE (t : TDT) (ta tb : TDE) : TDE := fun ρ Q => t ρ fun k ρ1 => if k = true then ta ρ1 Q else tb ρ1 Q
theorem pd_ifExp (hc : PDT X F c tt dt) (ha : PD X F a ta da) (hb : PD X F b tb db) : PD X F (.IfExp c a b pos) (tIf tt ta tb) (dIfE dt da db) := by
  refine ⟨pe_ifExp hc.pt ha.pe hb.pe, ?_, ?_⟩
  · intro pins ρ σ H Q O hq
    refine hc.dt.run pins ρ σ H _ O (hc.dt.mono _ _ _ (fun k ρ1 h1 H1 O1 => ?_) hq)
    cases k with
    | true => exact ha.de.run pins ρ1 σ H1 Q O1 h1
    | false => exact hb.de.run pins ρ1 σ H1 Q O1 h1
  · intro ρ Q Q' hq hh
    refine hc.dt.mono _ _ _ (fun k ρ1 h1 => ?_) hh
    cases k with
    | true => exact ha.de.mono _ _ _ hq h1
    | false => exact hb.de.mono _ _ _ hq h1
end
structure Rel (F : Fm) (pins : List Pin) (D : Ends) (DD : DEnds) : Prop where
  nx : ∀ ρ σ H, Ok F pins ρ σ H → DD.nx ρ → D.nx σ H
  rt : ∀ ρ σ H v r, Ok F pins ρ σ H → ROk F (Av F pins ρ σ) ρ σ H r v → DD.rt r ρ → D.rt v H
  bk : ∀ ρ σ H, Ok F pins ρ σ H → DD.bk ρ → D.bk σ H
  ct : ∀ ρ σ H, Ok F pins ρ σ H → DD.ct ρ → D.ct σ H
  rl : ∀ ρ σ H p xs, Ok F (.acc p xs :: pins) ρ σ H → DD.rl xs ρ → D.rt (.ref p) H
def DS (F : Fm) (ts : TS) (tds : TDS) : Prop := ∀ (pins : List Pin) (ρ : Rho) (σ : L2.St) (H : Hp) (D : Ends) (DD : DEnds), Ok F pins ρ σ H → SPn F pins → Rel F pins D DD → tds DD ρ → ts D σ H
structure PDS (X : Cx) (F : Fm) (st : Stmt) (ts : TS) (tds : TDS) : Prop where
  ps : PS X st ts
  ds : DS F ts tds
structure PDSs (X : Cx) (F : Fm) (st : List Stmt) (ts : TS) (tds : TDS) : Prop where
  pss : PSs X st ts
  ds : DS F ts tds
section
variable {X : Cx} {F : Fm} {a b c e : Expr} {es : List Expr} {ta tb tc te : TE} {da db dc de : TDE} {pos : Pos} {t : TA} {d : TDA} {tt tu : TT} {dt du : TDT} {st : Stmt} {rest sts : List Stmt} {ts us : TS} {ds dus : TDS}
def dNext : TDS := fun DD ρ => DD.nx ρ
def dSeq (t u : TDS) : TDS := fun DD ρ => t { DD with nx := u DD } ρ
theorem dss_nil : PDSs X F [] tNext dNext := ⟨pss_nil, fun pins ρ σ H D DD O S R h => R.nx ρ σ H O h⟩
theorem dss_cons (h1 : PDS X F st ts ds) (h2 : PDSs X F rest us dus) : PDSs X F (st :: rest) (tSeq ts us) (dSeq ds dus) :=
  ⟨pss_cons h1.ps h2.pss, fun pins ρ σ H D DD O S R h => h1.ds pins ρ σ H { D with nx := us D } { DD with nx := dus DD } O S
    ⟨fun ρ1 σ1 H1 O1 q => h2.ds pins ρ1 σ1 H1 D DD O1 S R q, R.rt, R.bk, R.ct, R.rl⟩ h⟩
theorem dss_one (h1 : PDS X F st ts ds) : PDSs X F [st] ts ds := ⟨pss_one h1.ps, h1.ds⟩
def dBreak : TDS := fun DD ρ => DD.bk ρ
def dCont : TDS := fun DD ρ => DD.ct ρ
def dDrop (te : TDE) : TDS := fun DD ρ => te ρ fun _ ρ1 => DD.nx ρ1
theorem ds_expr (he : PD X F e te de) (hs : swapsWith e none pos.line X.env = pure false := by rfl) : PDS X F (.Expr e pos) (tDrop te) (dDrop de) :=
  ⟨ps_expr he.pe hs, fun pins ρ σ H D DD O S R h => he.de.run pins ρ σ H _ O (he.de.mono _ _ _ (fun r ρ1 h1 v H1 O1 _ => R.nx ρ1 σ H1 O1 h1) h)⟩
def dRet (te : TDE) : TDS := fun DD ρ => te ρ DD.rt
theorem ds_ret (he : PD X F e te de) : PDS X F (.Return (some e) pos) (tRet te) (dRet de) :=
  ⟨ps_ret he.pe, fun pins ρ σ H D DD O S R h => he.de.run pins ρ σ H _ O (he.de.mono _ _ _ (fun r ρ1 h1 v H1 O1 R1 => R.rt ρ1 σ H1 v r O1 R1 h1) h)⟩
def dRetN : TDS := fun DD ρ => DD.rt (.d .none) ρ
def dIfS (c : TDT) (t u : TDS) : TDS := fun DD ρ => c ρ fun k ρ1 => if k = true then t DD ρ1 else u DD ρ1
theorem ds_if {c : Expr} {x y : List Stmt} (hc : PDT X F c tt dt) (h1 : PDSs X F x ts ds) (h2 : PDSs X F y us dus) : PDS X F (.If c x y pos) (tIfS tt ts us) (dIfS dt ds dus) := by
  refine ⟨ps_if hc.pt h1.pss h2.pss, fun pins ρ σ H D DD O S R h => ?_⟩
  refine hc.dt.run pins ρ σ H _ O (hc.dt.mono _ _ _ (fun k ρ1 h3 H1 O1 => ?_) h)
  cases k with
  | true => exact h1.ds pins ρ1 σ H1 D DD O1 S R h3
  | false => exact h2.ds pins ρ1 σ H1 D DD O1 S R h3
def setR (i : Nat) (r : R) (ρ : Rho) (k : Rho → Prop) : Prop := match r with
  | .d x => k (ρ.set i (some (.d x)))
  | .raw v => k (ρ.set i (some (.raw v)))
  | .o j => match ρ[j]? with
    | some (some (.ro x)) => k (ρ.set i (some (.ro x)))
    | _ => False
def SameOut (σ σ' : L2.St) (sl : List Nat) : Prop := ∀ vs : List Nat, (∀ i ∈ sl, i ∈ vs) → wipe σ' vs = wipe σ vs
abbrev TDGt := R → Rho → (Rho → Prop) → Prop
structure DG (F : Fm) (g : TG) (dg : TDGt) (sl : List Nat) : Prop where
  run : ∀ (pins : List Pin) (ρ : Rho) (σ : L2.St) (H : Hp) (v : V) (r : R) (Q : L2.St → Hp → Prop) (P : Rho → Prop), Ok F pins ρ σ H → (∀ i ∈ sl, Fr pins i) → ROk F (Av F pins ρ σ) ρ σ H r v → dg r ρ P →
    (∀ ρ' σ' H', Ok F pins ρ' σ' H' → SameOut σ σ' sl → P ρ' → Q σ' H') → g v σ H Q
  mono : ∀ r ρ P P', (∀ ρ', P ρ' → P' ρ') → dg r ρ P → dg r ρ P'
theorem wipe_out1 {σ : L2.St} {i : Nat} {u : Option V} : ∀ {vs : List Nat}, i ∈ vs → wipe (σ.set i u) vs = wipe σ vs
  | j :: r, h => by
    show (wipe (σ.set i u) r).set j none = (wipe σ r).set j none
    by_cases hr : i ∈ r
    · rw [wipe_out1 hr]
    · have e : i = j := by
        rcases List.mem_cons.mp h with z | z
        · exact z
        · exact absurd z hr
      subst e
      have : ∀ (vs : List Nat) (σ : L2.St), i ∉ vs → wipe (σ.set i u) vs = (wipe σ vs).set i u := fun vs => by
        induction vs with
        | nil => intro σ _; rfl
        | cons k ks ih =>
          intro σ hn
          show (wipe (σ.set i u) ks).set k none = ((wipe σ ks).set k none).set i u
          rw [ih σ (fun z => hn (List.mem_cons_of_mem _ z)), List.set_comm _ _ (fun z => hn (by rw [z]; exact List.mem_cons_self ..))]
      rw [this r σ hr, List.set_set]
theorem dg_name (i : Nat) : DG F (gName i) (setR i) [i] := by
  constructor
  · intro pins ρ σ H v r Q P O hf Rv h k
    have so : SameOut σ (σ.set i (some v)) [i] := fun vs hv => wipe_out1 (hv i (List.mem_singleton.mpr rfl))
    have hi := hf i (List.mem_singleton.mpr rfl)
    cases r with
    | d x => exact k _ _ _ (O.put hi (fun _ z => by cases z; exact id) fun f e => by cases e; exact ⟨v, rfl, Rv⟩) so h
    | raw u => exact k _ _ _ (O.put hi (fun _ z => by cases z; exact id) fun f e => by cases e; exact ⟨v, rfl, Rv⟩) so h
    | o j =>
      unfold setR at h
      dsimp only at h
      split at h
      · rename_i x e
        obtain ⟨u, h1, h2⟩ := O.ent j _ e
        have h3 := Rv.1
        rw [h1] at h3; cases h3
        exact k _ _ _ (O.put hi (fun _ z => by cases z; exact id) fun f e => by cases e; exact ⟨_, rfl, h2⟩) so h
      · exact h.elim
  · intro r ρ P P' hp h
    cases r with
    | d x => exact hp _ h
    | raw v => exact hp _ h
    | o j =>
      unfold setR at h ⊢
      dsimp only at h ⊢
      split at h
      · exact hp _ h
      · exact h.elim
structure DGs (F : Fm) (g : TGs) (dg : List PyData → Rho → (Rho → Prop) → Prop) (sl : List Nat) : Prop where
  run : ∀ (pins : List Pin) (ρ : Rho) (σ : L2.St) (H : Hp) (vs : List V) (xs : List PyData) (Q : L2.St → Hp → Prop) (P : Rho → Prop), Ok F pins ρ σ H → (∀ i ∈ sl, Fr pins i) → ImAll F.K (Av F pins ρ σ) H xs vs → dg xs ρ P →
    (∀ ρ' σ' H', Ok F pins ρ' σ' H' → SameOut σ σ' sl → P ρ' → Q σ' H') → g vs σ H Q
  mono : ∀ xs ρ P P', (∀ ρ', P ρ' → P' ρ') → dg xs ρ P → dg xs ρ P'
def dgNil : List PyData → Rho → (Rho → Prop) → Prop
  | [], ρ, P => P ρ
  | _, _, _ => False
def dgCons (g : TDGt) (gs : List PyData → Rho → (Rho → Prop) → Prop) : List PyData → Rho → (Rho → Prop) → Prop
  | x :: xs, ρ, P => g (.d x) ρ fun ρ' => gs xs ρ' P
  | _, _, _ => False
theorem dgs_nil : DGs F gNil dgNil [] := by
  constructor
  · intro pins ρ σ H vs xs Q P O hf hv h k
    cases xs with
    | nil => simp only [ImAll] at hv; exact ⟨hv, k ρ σ H O (fun _ _ => rfl) h⟩
    | cons x xs => exact h.elim
  · intro xs ρ P P' hp h
    cases xs with
    | nil => exact hp _ h
    | cons x xs => exact h.elim
def pinsOf : List V → List PyData → List Pin
  | v :: vs, x :: xs => .val v (.d x) :: pinsOf vs xs
  | _, _ => []
theorem Ok.pushAll {pins : List Pin} {ρ : Rho} {σ : L2.St} {H : Hp} (O : Ok F pins ρ σ H) : ∀ {xs : List PyData} {vs : List V}, ImAll F.K (Av F pins ρ σ) H xs vs → Ok F (pinsOf vs xs ++ pins) ρ σ H ∧ Av F (pinsOf vs xs ++ pins) ρ σ = Av F pins ρ σ
  | [], vs, h => by simp only [ImAll] at h; subst h; exact ⟨O, rfl⟩
  | x :: xs, vs, h => by
    simp only [ImAll] at h
    obtain ⟨v, us, rfl, h1, h2⟩ := h
    obtain ⟨O1, e⟩ := O.pushAll h2
    exact ⟨O1.push (v := v) (r := .d x) (by rw [e]; exact h1), e⟩
theorem Ok.popAll {pins : List Pin} {ρ : Rho} {σ : L2.St} {H : Hp} : ∀ {xs : List PyData} {vs : List V}, vs.length = xs.length → Ok F (pinsOf vs xs ++ pins) ρ σ H → Ok F pins ρ σ H ∧ Av F (pinsOf vs xs ++ pins) ρ σ = Av F pins ρ σ ∧ ImAll F.K (Av F pins ρ σ) H xs vs
  | [], [], _, O => ⟨O, rfl, .nil⟩
  | x :: xs, [], h, _ => by cases h
  | [], v :: vs, h, _ => by cases h
  | x :: xs, v :: vs, h, O => by
    obtain ⟨O1, r1⟩ := Ok.popV (show Ok F (.val v (.d x) :: (pinsOf vs xs ++ pins)) ρ σ H from O)
    obtain ⟨O2, e, r2⟩ := Ok.popAll (by simpa using h) O1
    have r1 : Im F.K (Av F (pinsOf vs xs ++ pins) ρ σ) H x v := r1
    rw [e] at r1
    exact ⟨O2, e, .cons r1 r2⟩
theorem fr_pinsOf {pins : List Pin} {i : Nat} (h : Fr pins i) : ∀ (vs : List V) (xs : List PyData), Fr (pinsOf vs xs ++ pins) i
  | [], _ => h
  | v :: vs, [] => h
  | v :: vs, x :: xs => fun u j hp => by
    rcases List.mem_cons.mp (show Pin.val u (.o j) ∈ Pin.val v (.d x) :: (pinsOf vs xs ++ pins) from hp) with z | z
    · cases z
    · exact fr_pinsOf h vs xs u j z
theorem SameOut.trans {σ σ1 σ2 : L2.St} {s t : List Nat} (h : SameOut σ σ1 s) (k : SameOut σ1 σ2 t) : SameOut σ σ2 (s ++ t) := fun vs hv =>
  (k vs fun i hi => hv i (List.mem_append_right _ hi)).trans (h vs fun i hi => hv i (List.mem_append_left _ hi))
theorem dgs_cons {g : TG} {dg : TDGt} {s t : List Nat} {gs : TGs} {dgs : List PyData → Rho → (Rho → Prop) → Prop} (h1 : DG F g dg s) (h2 : DGs F gs dgs t) : DGs F (gCons g gs) (dgCons dg dgs) (s ++ t) := by
  constructor
  · intro pins ρ σ H vs xs Q P O hf hv h k
    cases xs with
    | nil => exact h.elim
    | cons x xs =>
      simp only [ImAll] at hv
      obtain ⟨v, us, rfl, h3, h4⟩ := hv
      obtain ⟨O1, e1⟩ := O.pushAll h4
      refine ⟨v, us, rfl, h1.run (pinsOf us xs ++ pins) ρ σ H v (.d x) _ _ O1 (fun i hi => fr_pinsOf (hf i (List.mem_append_left _ hi)) us xs) (by rw [e1]; exact h3) h fun ρ' σ' H' O2 so q => ?_⟩
      obtain ⟨O3, _, r3⟩ := Ok.popAll h4.length O2
      exact h2.run pins ρ' σ' H' us xs Q P O3 (fun i hi => hf i (List.mem_append_right _ hi)) r3 q fun ρ2 σ2 H2 O4 so2 q2 => k ρ2 σ2 H2 O4 (so.trans so2) q2
  · intro xs ρ P P' hp h
    cases xs with
    | nil => exact h.elim
    | cons x xs => exact h1.mono _ _ _ _ (fun ρ' q => h2.mono _ _ _ _ hp q) h
def dgTup (n : Nat) (gs : List PyData → Rho → (Rho → Prop) → Prop) : TDGt := fun r ρ P => match r with
  | .d (.tuple xs) => xs.length = n ∧ gs xs ρ P
  | _ => False
theorem dg_tup {n : Nat} {gs : TGs} {dgs : List PyData → Rho → (Rho → Prop) → Prop} {s : List Nat} (h : DGs F gs dgs s) : DG F (gTup F.K n gs) (dgTup n dgs) s := by
  constructor
  · intro pins ρ σ H v r Q P O hf Rv hd k
    unfold dgTup at hd
    split at hd
    · rename_i xs
      have Rv : Im F.K (Av F pins ρ σ) H (.tuple xs) v := Rv
      simp only [Im] at Rv
      obtain ⟨a, vs, rfl, l, im⟩ := Rv
      exact ⟨a, vs, rfl, l.sq, by rw [im.length]; exact hd.1, h.run pins ρ σ H vs xs Q P O hf im hd.2 k⟩
    · exact hd.elim
  · intro r ρ P P' hp hd
    unfold dgTup at hd ⊢
    split at hd
    · exact ⟨hd.1, h.mono _ _ _ _ hp hd.2⟩
    · exact hd.elim
structure PDG (X : Cx) (F : Fm) (tg : Expr) (g : TG) (dg : TDGt) (sl : List Nat) : Prop where
  pg : PG X tg g
  dg : DG F g dg sl
structure PDGs (X : Cx) (F : Fm) (tgs : List Expr) (g : TGs) (dg : List PyData → Rho → (Rho → Prop) → Prop) (sl : List Nat) : Prop where
  pgs : PGs X tgs g
  dgs : DGs F g dg sl
theorem pgd_name {i : Nat} {x : Str} (hN : X.N.Nodup) (hi : X.N[i]? = some x := by rfl) (hx : Loc X.env.scope x := by first | exact Or.inl rfl | exact Or.inr rfl) (hf : X.fn x = true ∨ X.env.scope.names.lookup x = some .local := by first | exact .inl rfl | exact .inr rfl) : PDG X F (.Name x pos) (gName i) (setR i) [i] := ⟨pg_name hN hi hx hf, dg_name i⟩
theorem pgds_nil : PDGs X F [] gNil dgNil [] := ⟨pgs_nil, dgs_nil⟩
end
end DV
namespace DV
open PySem PySem.Spec PyProof.Rows L2
open LamX (ExtN TabS Tabs CodeO)
section
variable {X : Cx} {F : Fm} {a b c e : Expr} {es : List Expr} {ta tb tc te : TE} {da db dc de : TDE} {dl : TDL} {pos : Pos} {t : TA} {d : TDA} {tt tu : TT} {dt du : TDT} {st : Stmt} {rest sts : List Stmt} {ts us : TS} {ds dus : TDS}
theorem pgds_cons {tg : Expr} {tgs : List Expr} {g : TG} {dg : TDGt} {s u : List Nat} {gs : TGs} {dgs : List PyData → Rho → (Rho → Prop) → Prop} (h1 : PDG X F tg g dg s) (h2 : PDGs X F tgs gs dgs u)
    (hs : (assignEach (tg :: tgs) X.env).map (·.2) = assign tg X.env :: (assignEach tgs X.env).map (·.2) := by rfl) : PDGs X F (tg :: tgs) (gCons g gs) (dgCons dg dgs) (s ++ u) := ⟨pgs_cons h1.pg h2.pgs hs, dgs_cons h1.dg h2.dgs⟩
theorem pgd_tup {tgs : List Expr} {k n : Nat} {gs : TGs} {dgs : List PyData → Rho → (Rho → Prop) → Prop} {s : List Nat} (hc : X.calm = true) (h : PDGs X F tgs gs dgs s) (hK : X.K = F.K := by rfl)
    (hn : (assignEach tgs X.env).length = n := by rfl) (hst : (assignEach tgs X.env).findIdx? (·.1) = none := by rfl) : PDG X F (.Tuple tgs k pos) (gTup F.K n gs) (dgTup n dgs) s := by
  refine ⟨?_, dg_tup h.dgs⟩
  have := pg_tup (pos := pos) (k := k) hc h.pgs hn hst
  rw [hK] at this
  exact this
def dAsg (te : TDE) (dg : TDGt) : TDS := fun DD ρ => te ρ fun r ρ1 => dg r ρ1 DD.nx
theorem dsa {g : TG} {dg : TDGt} {s : List Nat} (he : DE F te de) (hg : DG F g dg s) (hf : ∀ i ∈ s, ¬ F.fix i) : DS F (tAsg te g) (dAsg de dg) := fun pins ρ σ H D DD O S R h =>
  he.run pins ρ σ H _ O (he.mono _ _ _ (fun r ρ1 h1 v H1 O1 R1 => hg.run pins ρ1 σ H1 v r _ _ O1 (fun i hi => S.fr (hf i hi)) R1 h1 fun ρ2 σ2 H2 O2 _ q => R.nx ρ2 σ2 H2 O2 q) h)
theorem ds_asg {tg : Expr} {g : TG} {dg : TDGt} {s : List Nat} (he : PD X F e te de) (hg : PDG X F tg g dg s) (hf : ∀ i ∈ s, ¬ F.fix i) (hs : swapsWithSole [tg] e pos.line X.env = pure false := by rfl) (hw : swappedStores [tg] e X.env = pure none := by rfl)
    (h1 : (assignEach [tg] X.env).map (·.2) = [assign tg X.env] := by rfl) : PDS X F (.Assign [tg] e pos) (tAsg te g) (dAsg de dg) := ⟨ps_asg he.pe hg.pg hs hw h1, dsa he.de hg.dg hf⟩
theorem ds_set {i : Nat} {x : Str} {pos' : Pos} (hN : X.N.Nodup) (he : PD X F e te de) (hf : ¬ F.fix i) (hi : X.N[i]? = some x := by rfl) (hx : Loc X.env.scope x := by first | exact Or.inl rfl | exact Or.inr rfl) (hs : swapsWith e (some (.Name x pos')) pos.line X.env = pure false := by rfl) (hfn : X.fn x = true ∨ X.env.scope.names.lookup x = some .local := by first | exact .inl rfl | exact .inr rfl) :
    PDS X F (.Assign [.Name x pos'] e pos) (tAsg te (gName i)) (dAsg de (setR i)) := ⟨ps_set hN hi hx he.pe hs hfn, dsa he.de (dg_name i) fun j hj => by rw [List.mem_singleton.mp hj]; exact hf⟩
/-- x = a new list that is changed later -/
def dSetL (i : Nat) (tl : TDL) : TDS := fun DD ρ => tl ρ fun xs ρ1 => DD.nx (ρ1.set i (some (.own xs)))
theorem dsl {i : Nat} (he : DL F te dl) (hf : ¬ F.fix i) : DS F (tAsg te (gName i)) (dSetL i dl) := fun pins ρ σ H D DD O S R h =>
  he.run pins ρ σ H _ O (he.mono _ _ _ (fun xs ρ1 h1 p H1 O1 => R.nx _ _ H1 (O1.putL (S.fr hf)) h1) h)
theorem ds_setL {i : Nat} {x : Str} {pos' : Pos} (hN : X.N.Nodup) (he : PDL X F e te dl) (hf : ¬ F.fix i) (hi : X.N[i]? = some x := by rfl) (hx : Loc X.env.scope x := by first | exact Or.inl rfl | exact Or.inr rfl) (hs : swapsWith e (some (.Name x pos')) pos.line X.env = pure false := by rfl) (hfn : X.fn x = true ∨ X.env.scope.names.lookup x = some .local := by first | exact .inl rfl | exact .inr rfl) :
    PDS X F (.Assign [.Name x pos'] e pos) (tAsg te (gName i)) (dSetL i dl) := ⟨ps_set hN hi hx he.pe hs hfn, dsl he.dl hf⟩
def noO : R → Prop
  | .o _ => False
  | _ => True
/-- x, y = e, e' with plain locals -/
def dPar (i j : Nat) (t : TDA) : TDS := fun DD ρ => t ρ fun rs ρ1 => match rs with
  | [r, s] => noO s ∧ setR i r ρ1 fun ρ2 => setR j s ρ2 DD.nx
  | _ => False
theorem ds_par {i j : Nat} {x y : Str} {px py pt : Pos} {pt2 : Pos} {kt' k2'} (hc : X.calm = true) (hN : X.N.Nodup) (ha : PDA X F [a, b] t d) (hfi : ¬ F.fix i) (hfj : ¬ F.fix j) (hij : i ≠ j := by decide) (hi : X.N[i]? = some x := by rfl) (hj : X.N[j]? = some y := by rfl)
    (hx : X.env.scope.names.lookup x = some .local := by rfl) (hy : X.env.scope.names.lookup y = some .local := by rfl)
    (hw : swappedStores [.Tuple [.Name x px, .Name y py] kt' pt] (.Tuple [a, b] k2' pt2) X.env = pure (some [x, y]) := by rfl)
    (hs : swapsWithSole [.Tuple [.Name x px, .Name y py] kt' pt] (.Tuple [a, b] k2' pt2) pos.line X.env = pure false := by rfl) :
    PDS X F (.Assign [.Tuple [.Name x px, .Name y py] kt' pt] (.Tuple [a, b] k2' pt2) pos) (tPar i j t) (dPar i j d) := by
  refine ⟨ps_par hc hN hi hj hij hx hy ha.pa hw hs, fun pins ρ σ H D DD O S R h => ?_⟩
  refine ha.da.run pins ρ σ H _ O (ha.da.mono _ _ _ (fun rs ρ1 h1 vs H1 O1 R1 => ?_) h)
  split at h1
  · rename_i r s
    simp only [ROks] at R1
    obtain ⟨v, us, rfl, r1, w, us2, rfl, r2, rfl⟩ := R1
    refine ⟨v, w, rfl, ?_⟩
    have O2 := O1.push r2
    have g1 : gName i v σ H1 fun σ2 H2 => gName j w σ2 H2 fun σ3 H3 => D.nx σ3 H3 := by
      refine (dg_name (F := F) i).run (.val w s :: pins) ρ1 σ H1 v r _ _ O2 (fun k hk => ?_) (by exact r1) h1.2 fun ρ2 σ2 H2 O3 _ q => ?_
      · rw [List.mem_singleton.mp hk]
        intro u l hp
        rcases List.mem_cons.mp hp with z | z
        · cases z
          exact h1.1.elim
        · exact S.fr hfi u l z
      · obtain ⟨O4, r3⟩ := O3.popV
        exact (dg_name (F := F) j).run pins ρ2 σ2 H2 w s _ _ O4 (fun k hk => by rw [List.mem_singleton.mp hk]; exact S.fr hfj) r3 q fun ρ4 σ4 H4 O5 _ q2 => R.nx _ _ _ O5 q2
    exact g1
  · exact h1.elim
/-- the own list that stands in slot i -/
def onOwn (ρ : Rho) (i : Nat) (f : List PyData → Prop) : Prop := match ρ[i]? with
  | some (some (.own xs)) => f xs
  | _ => False
theorem onOwn_of {ρ : Rho} {i : Nat} {f : List PyData → Prop} (h : onOwn ρ i f) : ∃ xs, ρ[i]? = some (some (.own xs)) ∧ f xs := by
  unfold onOwn at h
  split at h
  · exact ⟨_, by assumption, h⟩
  · exact h.elim
theorem onOwn_mono {ρ : Rho} {i : Nat} {f g : List PyData → Prop} (h : onOwn ρ i f) (k : ∀ x, f x → g x) : onOwn ρ i g := by
  unfold onOwn at h ⊢
  split at h
  · exact k _ h
  · exact h.elim
/-- a datum -/
def onDat (r : R) (f : PyData → Prop) : Prop := match r with
  | .d x => f x
  | _ => False
theorem Ok.ownGet {pins : List Pin} {ρ : Rho} {σ : L2.St} {H : Hp} (O : Ok F pins ρ σ H) {i : Nat} {xs : List PyData} (h : ρ[i]? = some (some (.own xs))) :
    ∃ p vs, σ[i]? = some (some (.ref p)) ∧ H p = some (.lst vs) ∧ ImAll F.K (Av F pins ρ σ) H xs vs ∧ OwnAt ρ σ i p := by
  obtain ⟨v, h1, p, vs, rfl, h2, h3, _⟩ := O.ent i _ h
  exact ⟨p, vs, h1, h2, h3, ⟨_, h, trivial⟩, h1⟩
/-- a method of the own list at slot i -/
def dOwnM (i : Nat) (t : TDA) (k : List PyData → List R → (PyData → List PyData → Prop) → Prop) : TDE := fun ρ Q => onOwn ρ i fun _ => t ρ fun rs ρ1 => onOwn ρ1 i fun xs => k xs rs fun z ys => Q (.d z) (ρ1.set i (some (.own ys)))
/-- its reading r by values, from data; the answer is without a heap -/
structure SM (F : Fm) (r : V → List V → Hp → VK → Prop) (k : List PyData → List R → (PyData → List PyData → Prop) → Prop) : Prop where
  run : ∀ (pins : List Pin) (ρ : Rho) (σ : L2.St) (H : Hp) (p : Addr) (vs us : List V) (xs : List PyData) (rs : List R) (Q : VK), Ok F pins ρ σ H → H p = some (.lst vs) → ImAll F.K (Av F pins ρ σ) H xs vs → ROks F (Av F pins ρ σ) ρ σ H rs us →
    k xs rs (fun z ys => ∀ v ws, Sc z v → ImAll F.K (Av F pins ρ σ) H ys ws → Q v (upd H p (.lst ws))) → r (.ref p) us H Q
  mono : ∀ xs rs Q Q', (∀ z ys, Q z ys → Q' z ys) → k xs rs Q → k xs rs Q'
theorem de_ownM {i : Nat} {r : V → List V → Hp → VK → Prop} {k : List PyData → List R → (PyData → List PyData → Prop) → Prop} (hr : SM F r k) (ha : DA F t d) : DE F (tBM F.K "list" r (tVar i) t) (dOwnM i d k) := by
  constructor
  · intro pins ρ σ H Q O h
    obtain ⟨xs0, e0, h⟩ := onOwn_of h
    obtain ⟨p, vs0, h1, h2, h3, _⟩ := O.ownGet e0
    refine ⟨.ref p, h1, .inl ⟨rfl, vs0, .of h2⟩, ?_⟩
    refine ha.run pins ρ σ H _ O (ha.mono _ _ _ (fun rs ρ1 h4 us H1 O1 R1 => ?_) h)
    obtain ⟨xs, e1, h5⟩ := onOwn_of h4
    obtain ⟨q, vs, g1, g2, g3, g4⟩ := O1.ownGet e1
    rw [h1] at g1; cases g1
    refine hr.run pins ρ1 σ H1 p vs us xs rs Q O1 g2 g3 R1 (hr.mono _ _ _ _ (fun z ys q v ws hv hw => ?_) h5)
    exact q v _ (O1.setOwn g4 hw) (.sc hv)
  · intro ρ Q Q' hq h
    exact onOwn_mono h fun xs0 h => ha.mono _ _ _ (fun rs ρ1 h4 => onOwn_mono h4 fun xs h5 => hr.mono _ _ _ _ (fun z ys q => hq _ _ q) h5) h
def kAppend : List PyData → List R → (PyData → List PyData → Prop) → Prop
  | xs, [.d y], Q => Few (xs.length + 1) ∧ Q .none (xs ++ [y])
  | _, _, _ => False
theorem sm_append : SM F rAppend kAppend := by
  constructor
  · intro pins ρ σ H p vs us xs rs Q O h1 h2 h3 h
    unfold kAppend at h
    split at h
    · rename_i xs y
      simp only [ROks] at h3
      obtain ⟨v, _, rfl, h4, rfl⟩ := h3
      refine ⟨p, vs, v, rfl, rfl, h1, ?_, h.2 _ _ .none (h2.append (.cons h4 .nil))⟩
      have := h.1
      unfold Few at this
      rw [h2.length]; omega
    · exact h.elim
  · intro xs rs Q Q' hq h
    unfold kAppend at h ⊢
    split at h
    · exact ⟨h.1, hq _ _ h.2⟩
    · exact h.elim
def kInsert : List PyData → List R → (PyData → List PyData → Prop) → Prop
  | xs, [.d (.int i), .d y], Q => (Few (xs.length + 1) ∧ 0 ≤ i ∧ i < 2 ^ 63) ∧ Q .none (xs.take i.toNat ++ [y] ++ xs.drop i.toNat)
  | _, _, _ => False
section
variable {name : Str} {apos cpos : Pos} {x : Str} {vpos : Pos} {i : Nat}
theorem pd_append (ha : PDA X F [e] t d) (hK : X.K = F.K := by rfl) (hN : X.N[i]? = some x := by rfl) (hv : Vis X.env.scope x := by first | exact Or.inl rfl | exact Or.inr (Or.inl rfl) | exact Or.inr (Or.inr rfl)) (hd : (x == ("__debug__" : Str)) = false := by decide)
    (hcd : (x == ("__classdict__" : Str)) = false := by decide)
    (hbase : attributeBase (.Name x vpos) "append" X.env (eval (.Name x vpos) X.env) = eval (.Name x vpos) X.env := by rfl)
    (hfew : ((backTo cpos (starEach [e] X.env)).all (fun x => !x.1) && (backToKw cpos (keywordEach [] X.env)).all (fun x => x.1.isSome)
      && decide (([e] : List Expr).length + ([] : List Keyword).length + (if ([] : List Keyword).isEmpty then 0 else 1) < 30)) = true := by rfl)
    (hline : (apos.endLine == cpos.line) = true := by rfl) (hs : starEach [e] X.env = (false, eval e X.env) :: starEach [] X.env := by rfl) (hplain : (backTo cpos (starEach [] X.env)).any (·.1) = false := by rfl) :
    PD X F (.Call (.Attribute (.Name x vpos) "append" apos) [e] [] cpos) (tBM F.K "list" rAppend (tVar i) t) (dOwnM i d kAppend) := by
  refine ⟨?_, de_ownM sm_append ha.da⟩
  have := pe_bm (cpos := cpos) (apos := apos) PySem.F.plainAttrs_list PySem.F.slot_list_append PySem.F.type_list_append mt_append (pe_var (pos := vpos) hN hv hd hcd) ha.pa hbase hfew hline hs hplain
  rw [hK] at this
  exact this
end
/-- x[k] = e -/
def dSetItem (i : Nat) (te tk : TDE) : TDS := fun DD ρ => te ρ fun r ρ1 => onDat r fun y => onOwn ρ1 i fun _ => tk ρ1 fun s ρ2 => onV ρ2 s fun k => onOwn ρ2 i fun xs => match k with
  | .int k => (0 ≤ k ∧ k < xs.length) ∧ DD.nx (ρ2.set i (some (.own (xs.set k.toNat y))))
  | _ => False
theorem ixN_nat {n : Nat} {k : Int} (h0 : 0 ≤ k) (h1 : k < n) : ixN n k = some k.toNat := by
  unfold ixN; rw [if_pos h0, if_pos h1]
theorem ds_setItem {i : Nat} {k : Expr} {tk : TE} {dk : TDE} {x : Str} {vpos spos : Pos} (he : PD X F e te de) (hk : PD X F k tk dk) (hg : PG X (.Subscript (.Name x vpos) k spos) (gSub (tVar i) tk rSetL)) (hs : swapsWithSole [.Subscript (.Name x vpos) k spos] e pos.line X.env = pure false := by rfl) (hw : swappedStores [.Subscript (.Name x vpos) k spos] e X.env = pure none := by rfl)
    (h1 : (assignEach [.Subscript (.Name x vpos) k spos] X.env).map (·.2) = [assign (.Subscript (.Name x vpos) k spos) X.env] := by rfl) :
    PDS X F (.Assign [.Subscript (.Name x vpos) k spos] e pos) (tAsg te (gSub (tVar i) tk rSetL)) (dSetItem i de dk) := by
  refine ⟨ps_asg he.pe hg hs hw h1, fun pins ρ σ H D DD O S R h => ?_⟩
  refine he.de.run pins ρ σ H _ O (he.de.mono _ _ _ (fun r ρ1 h2 v H1 O1 R1 => ?_) h)
  cases r with
  | o j => exact h2.elim
  | raw u => exact h2.elim
  | d y =>
    obtain ⟨xs0, e0, h2⟩ := onOwn_of h2
    obtain ⟨p, vs0, g1, g2, g3, _⟩ := O1.ownGet e0
    refine ⟨.ref p, g1, ?_⟩
    refine hk.de.run (.val v (.d y) :: pins) ρ1 σ H1 _ (O1.push R1) (hk.de.mono _ _ _ (fun s ρ2 h3 u H2 O2 R2 => ?_) h2)
    obtain ⟨O3, R3⟩ := O2.popV
    obtain ⟨kk, e1, h4⟩ := onV_of h3
    obtain ⟨xs, e2, h5⟩ := onOwn_of h4
    obtain ⟨q, vs, f1, f2, f3, f4⟩ := O3.ownGet e2
    rw [g1] at f1; cases f1
    cases kk <;> first | exact h5.elim | skip
    rename_i k0
    cases dp_int (val_dp O2 R2 e1)
    refine ⟨p, vs, k0, k0.toNat, rfl, rfl, f2, ?_, R.nx _ _ _ (O3.setOwn f4 (f3.set _ R3)) h5.2⟩
    rw [f3.length]
    exact ixN_nat h5.1.1 h5.1.2
/-- x[k] += e, whole numbers -/
def dAddItem (i : Nat) (tk te : TDE) : TDS := fun DD ρ => onOwn ρ i fun _ => tk ρ fun s ρ1 => onV ρ1 s fun k => onOwn ρ1 i fun xs => match k with
  | .int k => (0 ≤ k ∧ k < xs.length) ∧ match xs[k.toNat]? with
    | some (.int n) => te ρ1 fun r ρ2 => onV ρ2 r fun y => onOwn ρ2 i fun ys => match y with
      | .int m => ys.length = xs.length ∧ DD.nx (ρ2.set i (some (.own (ys.set k.toNat (.int (n + m))))))
      | _ => False
    | _ => False
  | _ => False
theorem ds_addItem {i : Nat} {k : Expr} {tk : TE} {dk : TDE} {x : Str} {vpos spos : Pos} (hk : PD X F k tk dk) (he : PD X F e te de) (hp : PS X (.AugAssign (.Subscript (.Name x vpos) k spos) .Add e pos) (tAugS (tVar i) tk te (rIxL F.K) (ipI fun i j => i + j) rSetL)) :
    PDS X F (.AugAssign (.Subscript (.Name x vpos) k spos) .Add e pos) (tAugS (tVar i) tk te (rIxL F.K) (ipI fun i j => i + j) rSetL) (dAddItem i dk de) := by
  refine ⟨hp, fun pins ρ σ H D DD O S R h => ?_⟩
  obtain ⟨xs0, e0, h⟩ := onOwn_of h
  obtain ⟨p, vs0, g1, g2, g3, _⟩ := O.ownGet e0
  refine ⟨.ref p, g1, ?_⟩
  refine hk.de.run pins ρ σ H _ O (hk.de.mono _ _ _ (fun s ρ1 h3 u H1 O1 R1 => ?_) h)
  obtain ⟨kk, e1, h4⟩ := onV_of h3
  obtain ⟨xs, e2, h5⟩ := onOwn_of h4
  obtain ⟨q, vs, f1, f2, f3, f4⟩ := O1.ownGet e2
  rw [g1] at f1; cases f1
  cases kk <;> first | exact h5.elim | skip
  rename_i k0
  cases dp_int (val_dp O1 R1 e1)
  obtain ⟨hb, h6⟩ := h5
  split at h6
  · rename_i n en
    obtain ⟨v0, ev, iv⟩ := f3.get en
    cases (Im.int_iff.mp iv)
    refine ⟨p, vs, k0, .int n, rfl, rfl, .of f2, ?_, ?_⟩
    · unfold atI
      rw [f3.length, ixN_nat hb.1 hb.2]
      exact ev
    refine he.de.run pins ρ1 σ H1 _ O1 (he.de.mono _ _ _ (fun r ρ2 h7 w H2 O2 R2 => ?_) h6)
    obtain ⟨y, e3, h8⟩ := onV_of h7
    obtain ⟨ys, e4, h9⟩ := onOwn_of h8
    obtain ⟨q2, us, j1, j2, j3, j4⟩ := O2.ownGet e4
    rw [g1] at j1; cases j1
    cases y <;> first | exact h9.elim | skip
    rename_i m
    cases dp_int (val_dp O2 R2 e3)
    refine ⟨n, m, rfl, rfl, p, us, k0, k0.toNat, rfl, rfl, j2, ?_, R.nx _ _ _ (O2.setOwn j4 (j3.set _ .int)) h9.2⟩
    rw [j3.length, h9.1]
    exact ixN_nat hb.1 hb.2
  · exact h6.elim
end
end DV
namespace DV
open PySem PySem.Spec PyProof.Rows L2
open LamX (ExtN TabS Tabs CodeO)
section
variable {X : Cx} {F : Fm} {a b c e : Expr} {es : List Expr} {ta tb tc te : TE} {da db dc de : TDE} {dl : TDL} {pos : Pos} {t : TA} {d : TDA} {tt tu : TT} {dt du : TDT} {st : Stmt} {rest sts : List Stmt} {ts us : TS} {ds dus : TDS}
def dWhile (c : TDT) (tb : TDS) : TDS := fun DD ρ => ∃ (I : Rho → Prop) (μ : Rho → Nat), I ρ ∧ ∀ ρ, I ρ → c ρ fun k ρ1 => if k = true then tb { DD with nx := fun ρ' => I ρ' ∧ μ ρ' < μ ρ, ct := fun ρ' => I ρ' ∧ μ ρ' < μ ρ, bk := DD.nx } ρ1 else DD.nx ρ1
theorem ds_while {c : Expr} {body : List Stmt} (hp : PassesOwn (model X.prog X.w) X.A X.env X.xe) (hc : PDT X F c tt dt) (hb : PDSs X F body ts ds) : PDS X F (.While c body [] pos) (tWhile tt ts) (dWhile dt ds) := by
  refine ⟨ps_while hp hc.pt hb.pss, fun pins ρ σ H D DD O S R h => ?_⟩
  obtain ⟨I, μ, h0, h⟩ := h
  refine ⟨fun m σ H => ∃ ρ, Ok F pins ρ σ H ∧ I ρ ∧ m = μ ρ, ⟨_, ρ, O, h0, rfl⟩, ?_⟩
  rintro m σ1 H1 ⟨ρ1, O1, i1, rfl⟩
  refine hc.dt.run pins ρ1 σ1 H1 _ O1 (hc.dt.mono _ _ _ (fun k ρ2 h2 H2 O2 => ?_) (h ρ1 i1))
  cases k with
  | false => exact R.nx _ _ _ O2 h2
  | true =>
    refine ⟨fun σ' H' => ∃ ρ', Ok F pins ρ' σ' H' ∧ I ρ' ∧ μ ρ' < μ ρ1, fun σ' H' ⟨ρ', O', i', lt⟩ => ⟨μ ρ', lt, ρ', O', i', rfl⟩, ?_⟩
    exact hb.ds pins ρ2 σ1 H2 _ { DD with nx := fun ρ' => I ρ' ∧ μ ρ' < μ ρ1, ct := fun ρ' => I ρ' ∧ μ ρ' < μ ρ1, bk := DD.nx } O2 S ⟨fun ρ3 σ3 H3 O3 q => ⟨ρ3, O3, q⟩, R.rt, R.nx, fun ρ3 σ3 H3 O3 q => ⟨ρ3, O3, q⟩, R.rl⟩ h2
/-- what is walked: J gives the items, while the values pl are in mind -/
structure WOk (F : Fm) (J : It) (items : List PyData) (pl : List Pin) : Prop where
  goes : ∀ (i : Nat) (pins : List Pin) (ρ : Rho) (σ : L2.St) (H : Hp), (∀ p ∈ pl, p ∈ pins) → i < items.length → Ok F pins ρ σ H → J.go i H
  stops : ∀ (pins : List Pin) (ρ : Rho) (σ : L2.St) (H : Hp), (∀ p ∈ pl, p ∈ pins) → Ok F pins ρ σ H → J.stop items.length H
  yld : ∀ (i : Nat) (pins : List Pin) (ρ : Rho) (σ : L2.St) (H : Hp) (x : V) (H' : Hp), (∀ p ∈ pl, p ∈ pins) → i < items.length → Ok F pins ρ σ H → J.yld i H x H' → ∃ y, items[i]? = some y ∧ Ok F pins ρ σ H' ∧ Im F.K (Av F pins ρ σ) H' y x
abbrev TDI := Rho → (List PyData → Rho → Prop) → Prop
def IsV (p : Pin) : Prop := (∃ v x, p = .val v (.d x)) ∨ ∃ a o, p = .frz a o
structure DI (F : Fm) (wi : TI) (dw : TDI) : Prop where
  run : ∀ (pins : List Pin) (ρ : Rho) (σ : L2.St) (H : Hp) (R : It → Hp → Prop), Ok F pins ρ σ H →
    dw ρ (fun items ρ' => ∀ J H' pl, WOk F J items pl → (∀ p ∈ pl, IsV p) → Ok F (pl ++ pins) ρ' σ H' → R J H') → wi σ H R
  mono : ∀ ρ Q Q', (∀ r ρ', Q r ρ' → Q' r ρ') → dw ρ Q → dw ρ Q'
structure PDI (X : Cx) (F : Fm) (tg iter : Expr) (wi : TI) (dw : TDI) : Prop where
  pi : PI X tg iter wi
  di : DI F wi dw
theorem Ok.popZ {a : Addr} {o : Obj} {pins : List Pin} {ρ : Rho} {σ : L2.St} {H : Hp} (O : Ok F (.frz a o :: pins) ρ σ H) : Ok F pins ρ σ H ∧ ∃ u, H a = some (.frz o u) := by
  have e : Av F (.frz a o :: pins) ρ σ = Av F pins ρ σ := rfl
  refine ⟨⟨O.len, by have := O.ent; rw [e] at this; exact this, O.own, fun p hp => ?_, O.acs, O.fr, O.nh, O.ln, O.h0, O.lf, O.tb⟩, O.pin _ (List.mem_cons_self ..)⟩
  have := O.pin p (List.mem_cons_of_mem _ hp)
  rw [e] at this; exact this
theorem Ok.popVs {pins : List Pin} {ρ : Rho} {σ : L2.St} {H : Hp} : ∀ {pl : List Pin}, (∀ p ∈ pl, IsV p) → Ok F (pl ++ pins) ρ σ H → Ok F pins ρ σ H ∧ Av F (pl ++ pins) ρ σ = Av F pins ρ σ
  | [], _, O => ⟨O, rfl⟩
  | p :: pl, h, O => by
    rcases h p (List.mem_cons_self ..) with ⟨v, x, rfl⟩ | ⟨a, o, rfl⟩
    · obtain ⟨O1, _⟩ := Ok.popV (show Ok F (.val v (.d x) :: (pl ++ pins)) ρ σ H from O)
      obtain ⟨O2, e⟩ := O1.popVs fun q hq => h q (List.mem_cons_of_mem _ hq)
      exact ⟨O2, e⟩
    · obtain ⟨O1, _⟩ := Ok.popZ (show Ok F (.frz a o :: (pl ++ pins)) ρ σ H from O)
      obtain ⟨O2, e⟩ := O1.popVs fun q hq => h q (List.mem_cons_of_mem _ hq)
      exact ⟨O2, e⟩
theorem SPn.app {pins : List Pin} (S : SPn F pins) {pl : List Pin} (h : ∀ p ∈ pl, IsV p) : SPn F (pl ++ pins) := fun v j hp => by
  rcases List.mem_append.mp hp with z | z
  · rcases h _ z with ⟨u, x, e⟩ | ⟨u, x, e⟩
    · cases e
    · cases e
  · exact S v j z
theorem accs_app {pins : List Pin} : ∀ {pl : List Pin}, (∀ p ∈ pl, IsV p) → accs (pl ++ pins) = accs pins
  | [], _ => rfl
  | p :: pl, h => by
    rcases h p (List.mem_cons_self ..) with ⟨v, x, rfl⟩ | ⟨a, o, rfl⟩
    · exact accs_app (pl := pl) fun q hq => h q (List.mem_cons_of_mem _ hq)
    · exact accs_app (pl := pl) fun q hq => h q (List.mem_cons_of_mem _ hq)
/-- fewer things in mind -/
theorem Ok.sub {pins qs : List Pin} {ρ : Rho} {σ : L2.St} {H : Hp} (O : Ok F pins ρ σ H) (h : ∀ p ∈ qs, p ∈ pins) (e : accs qs = accs pins) : Ok F qs ρ σ H := by
  have ae : Av F qs ρ σ = Av F pins ρ σ := by unfold Av; rw [e]
  exact ⟨O.len, by rw [ae]; exact O.ent, O.own, fun p hp => by rw [ae]; exact O.pin p (h p hp), by rw [e]; exact O.acs, O.fr, O.nh, O.ln, O.h0, O.lf, O.tb⟩
theorem Ok.popAV {pins : List Pin} {ρ : Rho} {σ : L2.St} {H : Hp} {p : Addr} {xs : List PyData} {pl : List Pin} (O : Ok F (.acc p xs :: (pl ++ pins)) ρ σ H) (h : ∀ p ∈ pl, IsV p) : Ok F (.acc p xs :: pins) ρ σ H := by
  refine O.sub (fun q hq => ?_) ?_
  · rcases List.mem_cons.mp hq with z | z
    · rw [z]; exact List.mem_cons_self ..
    · exact List.mem_cons_of_mem _ (List.mem_append_right _ z)
  · show p :: accs pins = p :: accs (pl ++ pins)
    rw [accs_app h]
theorem Rel.app {pins : List Pin} {D : Ends} {DD : DEnds} (R : Rel F pins D DD) {pl : List Pin} (h : ∀ p ∈ pl, IsV p) : Rel F (pl ++ pins) D DD :=
  ⟨fun ρ σ H O q => R.nx ρ σ H (O.popVs h).1 q, fun ρ σ H v r O r1 q => R.rt ρ σ H v r (O.popVs h).1 (by rw [(O.popVs h).2] at r1; exact r1) q, fun ρ σ H O q => R.bk ρ σ H (O.popVs h).1 q, fun ρ σ H O q => R.ct ρ σ H (O.popVs h).1 q, fun ρ σ H p xs O q => R.rl ρ σ H p xs (O.popAV h) q⟩
def dFor (wi : TDI) (g : TDGt) (tb : TDS) : TDS := fun DD ρ => wi ρ fun xs ρ1 => ∃ I : Nat → Rho → Prop, I 0 ρ1 ∧
  (∀ i x ρ, xs[i]? = some x → I i ρ → g (.d x) ρ fun ρ2 => tb { DD with nx := I (i + 1), ct := I (i + 1), bk := DD.nx } ρ2) ∧ ∀ ρ, I xs.length ρ → DD.nx ρ
theorem ds_for {tg iter : Expr} {body : List Stmt} {wi : TI} {dw : TDI} {g : TG} {dg : TDGt} {sl : List Nat} (hp : PassesOwn (model X.prog X.w) X.A X.env X.xe) (hc : X.calm = true) (hi : PDI X F tg iter wi dw) (hg : PDG X F tg g dg sl) (hb : PDSs X F body ts ds) (hf : ∀ i ∈ sl, ¬ F.fix i)
    (hs : ∀ x, foldedSetIterable iter X.env x = pure x := by intro _; rfl) : PDS X F (.For tg iter body [] pos) (tFor wi g ts) (dFor dw dg ds) := by
  refine ⟨?_, fun pins ρ σ H D DD O S R h => ?_⟩
  · first | exact ps_for hp hc hi.pi hg.pg hb.pss | exact ps_for hp hc hi.pi hg.pg hb.pss hs
  refine hi.di.run pins ρ σ H _ O (hi.di.mono _ _ _ (fun xs ρ1 h1 J H1 pl W hpl O1 => ?_) h)
  obtain ⟨I, h0, hturn, hend⟩ := h1
  have hin : ∀ p ∈ pl, p ∈ pl ++ pins := fun p hp => List.mem_append_left _ hp
  have R2 := R.app hpl
  refine ⟨fun i m σ H => ∃ ρ, Ok F (pl ++ pins) ρ σ H ∧ I i ρ ∧ i ≤ xs.length ∧ m = xs.length - i, ⟨_, ρ1, O1, h0, Nat.zero_le _, rfl⟩, ?_⟩
  rintro i m σ2 H2 ⟨ρ2, O2, i2, hle, rfl⟩
  by_cases hlt : i < xs.length
  · refine .inr ⟨W.goes i _ ρ2 σ2 H2 hin hlt O2, fun σ' H' => ∃ ρ', Ok F (pl ++ pins) ρ' σ' H' ∧ I (i + 1) ρ', fun σ' H' ⟨ρ', O', i'⟩ => ⟨xs.length - (i + 1), by omega, ρ', O', i', by omega, rfl⟩, fun x H3 hy => ?_⟩
    obtain ⟨y, ey, O3, im⟩ := W.yld i _ ρ2 σ2 H2 x H3 hin hlt O2 hy
    refine hg.dg.run _ ρ2 σ2 H3 x (.d y) _ _ O3 (fun j hj => (S.app hpl).fr (hf j hj)) im (hturn i y ρ2 ey i2) fun ρ4 σ4 H4 O4 _ q => ?_
    exact hb.ds _ ρ4 σ4 H4 _ { DD with nx := I (i + 1), ct := I (i + 1), bk := DD.nx } O4 (S.app hpl) ⟨fun ρ5 σ5 H5 O5 q => ⟨ρ5, O5, q⟩, R2.rt, R2.nx, fun ρ5 σ5 H5 O5 q => ⟨ρ5, O5, q⟩, R2.rl⟩ q
  · have e : i = xs.length := by omega
    subst e
    exact .inl ⟨W.stops _ ρ2 σ2 H2 hin O2, R2.nx _ _ _ O2 (hend ρ2 i2)⟩
def dLc (wi : TDI) (g : TDGt) (tt : TDT) (te : TDE) (vs : List Nat) : TDL := fun ρ Q => wi ρ fun xs ρ1 => (∀ i ∈ vs, ρ1[i]? = some none) ∧ ∃ I : Nat → List PyData → Rho → Prop, I 0 [] ρ1 ∧
  (∀ i x acc ρ, xs[i]? = some x → I i acc ρ → g (.d x) ρ fun ρ2 => tt ρ2 fun k ρ3 => if k = true then te ρ3 fun r ρ4 => onDat r fun y => Few (acc.length + 1) ∧ I (i + 1) (acc ++ [y]) (wipeR ρ4 vs) else I (i + 1) acc (wipeR ρ3 vs)) ∧
  ∀ acc ρ, I xs.length acc ρ → Q acc (wipeR ρ vs)
def dYes : TDT := fun ρ Q => Q true ρ
structure PDTs (X : Cx) (F : Fm) (ifs : List Expr) (tt : TT) (td : TDT) : Prop where
  pts : PTs X ifs tt
  dt : DT F tt td
theorem dts_nil : PDTs X F [] tYes dYes := ⟨pts_nil, fun pins ρ σ H Q O h => h H O, fun ρ Q Q' hq h => hq _ _ h⟩
theorem dts_one (h : PDT X F c tt dt) : PDTs X F [c] tt dt := ⟨pts_one h.pt, h.dt⟩
theorem dl_lc {wi : TI} {dw : TDI} {g : TG} {dg : TDGt} {vs : List Nat} (hi : DI F wi dw) (hg : DG F g dg vs) (ht : DT F tt dt) (he : DE F te de) : DL F (tLc wi g tt te vs) (dLc dw dg dt de vs) := by
  constructor
  · intro pins ρ σ H Q O h
    refine hi.run pins ρ σ H _ O (hi.mono _ _ _ (fun xs ρ1 h1 J H1 pl W hpl O1 D hD => ?_) h)
    obtain ⟨hno, I, h0, hturn, hend⟩ := h1
    have hfr : ∀ {p : List Pin}, (∀ q ∈ p, q ∈ pl ++ pins ∨ ∃ a ys, q = .acc a ys) → ∀ i ∈ vs, Fr p i := fun {p} hp i hi v j hm e => by
      subst e
      rcases hp _ hm with z | ⟨a, ys, z⟩
      · obtain ⟨_, x, hx⟩ := O1.pin _ z
        unfold slot at hx
        rw [hno j hi] at hx
        cases hx
      · cases z
    -- the state of a turn: the values pl, the new list, at the wiped slots
    have hin : ∀ acc, ∀ p ∈ pl, p ∈ (Pin.acc D acc :: (pl ++ pins)) := fun acc p hp => List.mem_cons_of_mem _ (List.mem_append_left _ hp)
    have hfr2 : ∀ acc, ∀ i ∈ vs, Fr (Pin.acc D acc :: (pl ++ pins)) i := fun acc => hfr fun q hq => by
      rcases List.mem_cons.mp hq with z | z
      · exact .inr ⟨_, _, z⟩
      · exact .inl z
    have start : Ok F (.acc D [] :: (pl ++ pins)) ρ1 σ (upd H1 D (.lst [])) := O1.pushL hD .nil
    have hw1 : wipeR ρ1 vs = ρ1 := by
      have : ∀ (us : List Nat), (∀ i ∈ us, ρ1[i]? = some none) → wipeR ρ1 us = ρ1 := fun us => by
        induction us with
        | nil => intro _; rfl
        | cons k ks ih =>
          intro hk
          show (wipeR ρ1 ks).set k none = ρ1
          rw [ih fun i hi => hk i (List.mem_cons_of_mem _ hi)]
          apply List.ext_getElem?
          intro n
          by_cases e : k = n
          · subst e
            have := hk k (List.mem_cons_self ..)
            have hl : k < ρ1.length := by
              rcases Nat.lt_or_ge k ρ1.length with z | z
              · exact z
              · rw [List.getElem?_eq_none z] at this; cases this
            rw [List.getElem?_set_self hl, this]
          · rw [List.getElem?_set_ne e]
      exact this vs hno
    have start2 : Ok F (.acc D [] :: (pl ++ pins)) ρ1 (wipe σ vs) (upd H1 D (.lst [])) := by
      have := start.wipe (hfr2 [])
      rw [hw1] at this
      exact this
    refine ⟨fun i m H => ∃ acc ρ, Ok F (.acc D acc :: (pl ++ pins)) ρ (wipe σ vs) H ∧ I i acc ρ ∧ i ≤ xs.length ∧ m = xs.length - i, ⟨_, [], ρ1, start2, h0, Nat.zero_le _, rfl⟩, ?_⟩
    rintro i m H2 ⟨acc, ρ2, O2, i2, hle, rfl⟩
    by_cases hlt : i < xs.length
    · refine .inr ⟨W.goes i _ ρ2 _ H2 (hin acc) hlt O2, fun H' => ∃ acc ρ, Ok F (.acc D acc :: (pl ++ pins)) ρ (wipe σ vs) H' ∧ I (i + 1) acc ρ, fun H' ⟨acc', ρ', O', i'⟩ => ⟨xs.length - (i + 1), by omega, acc', ρ', O', i', by omega, rfl⟩, fun x H3 hy => ?_⟩
      obtain ⟨y, ey, O3, im⟩ := W.yld i _ ρ2 _ H2 x H3 (hin acc) hlt O2 hy
      refine hg.run _ ρ2 _ H3 x (.d y) _ _ O3 (hfr2 acc) im (hturn i y acc ρ2 ey i2) fun ρ4 σ4 H4 O4 so q => ?_
      have hw4 : wipe σ4 vs = wipe σ vs := by
        have := so vs fun _ h => h
        rw [this]
        have idem : ∀ (us : List Nat) (τ : L2.St), (∀ i ∈ us, i ∈ vs) → wipe (wipe σ vs) us = wipe σ vs := fun us => by
          induction us with
          | nil => intro _ _; rfl
          | cons k ks ih =>
            intro τ hk
            show (wipe (wipe σ vs) ks).set k none = wipe σ vs
            rw [ih τ fun i hi => hk i (List.mem_cons_of_mem _ hi)]
            apply List.ext_getElem?
            intro n
            by_cases e : k = n
            · subst e
              have hk1 := hk k (List.mem_cons_self ..)
              by_cases hl : k < (wipe σ vs).length
              · rw [List.getElem?_set_self hl]
                have : ∀ (ws : List Nat), k ∈ ws → k < σ.length → (wipe σ ws)[k]? = some none := fun ws => by
                  induction ws with
                  | nil => intro h _; cases h
                  | cons w ws ih2 =>
                    intro h hl2
                    show ((wipe σ ws).set w none)[k]? = some none
                    by_cases e2 : w = k
                    · subst e2
                      rw [List.getElem?_set_self (by rw [wipe_length]; exact hl2)]
                    · rw [List.getElem?_set_ne e2]
                      rcases List.mem_cons.mp h with z | z
                      · exact absurd z.symm e2
                      · exact ih2 z hl2
                rw [this vs hk1 (by rw [wipe_length] at hl; exact hl)]
              · rw [List.getElem?_eq_none (by rw [List.length_set]; omega), List.getElem?_eq_none (by omega)]
            · rw [List.getElem?_set_ne e]
        exact idem vs σ fun _ h => h
      refine ⟨hw4, ?_⟩
      refine ht.run _ ρ4 σ4 H4 _ O4 (ht.mono _ _ _ (fun k ρ5 h5 H5 O5 => ?_) q)
      cases k with
      | false =>
        have := O5.wipe (hfr2 acc)
        rw [hw4] at this
        exact ⟨acc, _, this, h5⟩
      | true =>
        refine he.run _ ρ5 σ4 H5 _ O5 (he.mono _ _ _ (fun r ρ6 h6 w H6 O6 R6 => ?_) h5)
        cases r with
        | o j => exact h6.elim
        | raw u => exact h6.elim
        | d z =>
          obtain ⟨vsD, hHD, hiD, _, _⟩ := O6.pin _ (List.mem_cons_self ..)
          refine ⟨vsD, hHD, ?_, acc ++ [z], wipeR ρ6 vs, ?_, h6.2⟩
          · have := h6.1
            unfold Few at this
            rw [hiD.length]; omega
          · have O7 := (O6.setAcc (hiD.append (.cons R6 .nil))).wipe (hfr2 (acc ++ [z]))
            rw [hw4] at O7
            exact O7
    · have e : i = xs.length := by omega
      subst e
      refine .inl ⟨W.stops _ ρ2 _ H2 (hin acc) O2, ?_⟩
      have hq := hend acc ρ2 i2
      refine hq D H2 ?_
      have O3 := O2.wipe (hfr2 acc)
      have hww : wipe (wipe σ vs) vs = wipe (wipe σ vs) vs := rfl
      have O4 : Ok F (.acc D acc :: (pl ++ pins)) (wipeR ρ2 vs) σ H2 := by
        refine Ok.unwipe (vs := vs) (Ok.unwipe (vs := vs) O3 ?_) ?_
        all_goals
          intro i hi
          by_cases hl : i < ρ2.length
          · exact .inl (wipeR_none hi hl)
          · exact .inr (List.getElem?_eq_none (by rw [wipeR_len]; omega))
      refine O4.sub (fun p hp => ?_) (by show D :: accs pins = D :: accs (pl ++ pins); rw [accs_app hpl])
      rcases List.mem_cons.mp hp with z | z
      · exact z ▸ List.mem_cons_self ..
      · exact List.mem_cons_of_mem _ (List.mem_append_right _ z)
  · intro ρ Q Q' hq h
    refine hi.mono _ _ _ (fun xs ρ1 h1 => ?_) h
    obtain ⟨hno, I, h0, hturn, hend⟩ := h1
    exact ⟨hno, I, h0, hturn, fun acc ρ i => hq _ _ (hend acc ρ i)⟩
end
end DV
namespace DV
open PySem PySem.Spec PyProof.Rows L2
open LamX (ExtN TabS Tabs CodeO)
section
variable {X : Cx} {F : Fm} {a b c e : Expr} {es : List Expr} {ta tb tc te : TE} {da db dc de : TDE} {dl : TDL} {pos : Pos} {t : TA} {d : TDA} {tt tu : TT} {dt du : TDT}
/-- what a def's parameter is handed: data that nobody changes (d), or a list that is read alone (ro) -/
inductive Kd
  | d | ro
def ArgOk (K : PySem.W.Frag) (N Z : Addr → Prop) (H : Hp) : Kd → PyData → V → Prop
  | .d, x, v => Im K N H x v
  | .ro, x, v => Im K N H x v ∨ ∃ a us xs, v = .ref a ∧ x = .list xs ∧ ((Rd H a (.lst us) ∧ ¬ Z a) ∨ SqL K (fun _ => none) a us) ∧ ImAll K N H xs us
def ArgsOk (K : PySem.W.Frag) (N Z : Addr → Prop) (H : Hp) : List Kd → List PyData → List V → Prop
  | k :: ks, x :: xs, vs => ∃ v us, vs = v :: us ∧ ArgOk K N Z H k x v ∧ ArgsOk K N Z H ks xs us
  | [], [], vs => vs = []
  | _, _, _ => False
def noZ : Addr → Prop := fun _ => False
abbrev Sd := List PyData → (PyData → Prop) → Prop
/-- the promise of a def that changes nothing -/
def spP (K : PySem.W.Frag) (T : List (Addr × Str)) (ks : List Kd) (S : Sd) : Sp := fun vs H Q _ => ∃ (N : Addr → Prop) (xs : List PyData), Tabs T H ∧ (∀ a, N a → ∃ o, H a = some o ∧ Mutab o) ∧ ArgsOk K N noZ H ks xs vs ∧
  S xs fun z => ∀ v H', Gr H H' → Tabs T H' → Im K N H' z v → Q v H'
abbrev Sb := List PyData → List PyData → (PyData → List PyData → Prop) → Prop
/-- all but B has grown -/
structure GrB (B : Addr) (H H' : Hp) : Prop where
  ext : ∀ a o, a ≠ B → H a = some o → nt o → H' a = some o
  tbl : ∀ a ps, H a = some (.tbl ps) → ∃ qs, H' a = some (.tbl qs)
/-- of one that changes its first argument, a list, alone -/
def spB (K : PySem.W.Frag) (T : List (Addr × Str)) (ks : List Kd) (S : Sb) : Sp := fun vs H Q _ => ∃ (N : Addr → Prop) (B : Addr) (bvs ws : List V) (bag xs : List PyData), Tabs T H ∧ vs = .ref B :: ws ∧ N B ∧ (∀ a, N a → ∃ o, H a = some o ∧ Mutab o) ∧ H B = some (.lst bvs) ∧ ImAll K N H bag bvs ∧ ArgsOk K N (fun a => a = B) H ks xs ws ∧
  S bag xs fun z bag' => ∀ v H' bvs', GrB B H H' → Tabs T H' → H' B = some (.lst bvs') → ImAll K N H' bag' bvs' → Im K N H' z v → Q v H'
def dats2 (ρ : Rho) : List Kd → List R → Option (List PyData)
  | .d :: ks, .d x :: rs => (dats2 ρ ks rs).map (x :: ·)
  | .ro :: ks, r :: rs => match val ρ r, dats2 ρ ks rs with
    | some x, some xs => some (x :: xs)
    | _, _ => none
  | [], [] => some []
  | _, _ => none
theorem ro_arg {Z : Addr → Prop} {pins : List Pin} {ρ : Rho} {σ : L2.St} {H : Hp} (O : Ok F pins ρ σ H) {r : R} {v : V} {x : PyData} (h2 : ∀ a, Z a → F.L a ∨ F.H0 a = none) (h1 : ∀ j a, r = .o j → OwnAt ρ σ j a → ¬ Z a)
    (h : ROk F (Av F pins ρ σ) ρ σ H r v) (hv : val ρ r = some x) : ArgOk F.K (Av F pins ρ σ) Z H .ro x v := by
  have ro : ∀ {x : PyData} {v : V}, RoOk F (Av F pins ρ σ) H x v → ArgOk F.K (Av F pins ρ σ) Z H .ro x v := by
    rintro x v (h | ⟨a, us, xs, e, e2, l, t⟩)
    · exact .inl h
    · refine .inr ⟨a, us, xs, e, e2, ?_, t⟩
      rcases l with ⟨l, n⟩ | l
      · refine .inl ⟨?_, fun z => ?_⟩
        · rcases l with l | ⟨o, l⟩
          · exact .inl (O.fr _ _ n l nt_lst)
          · exact .inr ⟨o, O.fr _ _ n l nt_frz⟩
        · rcases h2 a z with z | z
          · exact n z
          · rcases l with l | ⟨o, l⟩
            · rw [z] at l; cases l
            · rw [z] at l; cases l
      · exact .inr l
  cases r with
  | d y => cases hv; exact .inl h
  | raw u => cases hv
  | o i =>
    have g1 := h.1
    have hv : slot ρ i = some x := hv
    unfold slot at hv
    split at hv
    · rename_i y e; cases hv
      obtain ⟨u, g2, g3⟩ := O.ent i _ e
      rw [g1] at g2; cases g2
      exact .inl g3
    · rename_i ys e; cases hv
      obtain ⟨p, vs, g2, g3, g4, g5⟩ := O.ownGet e
      rw [g1] at g2; cases g2
      exact .inr ⟨p, vs, ys, rfl, rfl, .inl ⟨.inl g3, h1 i p rfl g5⟩, g4⟩
    · rename_i y e; cases hv
      obtain ⟨u, g2, g3⟩ := O.ent i _ e
      rw [g1] at g2; cases g2
      exact ro g3
    · cases hv
theorem args_ok {Z : Addr → Prop} {pins : List Pin} {ρ : Rho} {σ : L2.St} {H : Hp} (O : Ok F pins ρ σ H) (h2 : ∀ a, Z a → F.L a ∨ F.H0 a = none) : ∀ {ks : List Kd} {rs : List R} {vs : List V} {xs : List PyData}, (∀ r ∈ rs, ∀ j a, r = .o j → OwnAt ρ σ j a → ¬ Z a) → ROks F (Av F pins ρ σ) ρ σ H rs vs → dats2 ρ ks rs = some xs → ArgsOk F.K (Av F pins ρ σ) Z H ks xs vs
  | [], [], vs, xs, _, h, e => by
    simp only [ROks] at h; simp only [dats2] at e; cases e
    simp only [ArgsOk]; exact h
  | .d :: ks, .d x :: rs, vs, xs, hz, h, e => by
    simp only [ROks] at h
    obtain ⟨v, us, rfl, h1, h3⟩ := h
    simp only [dats2] at e
    cases e1 : dats2 ρ ks rs with
    | none => rw [e1] at e; cases e
    | some ys =>
      rw [e1] at e; cases e
      simp only [ArgsOk]
      exact ⟨v, us, rfl, h1, args_ok O h2 (fun r hr => hz r (List.mem_cons_of_mem _ hr)) h3 e1⟩
  | .ro :: ks, r :: rs, vs, xs, hz, h, e => by
    simp only [ROks] at h
    obtain ⟨v, us, rfl, h1, h3⟩ := h
    simp only [dats2] at e
    cases e0 : val ρ r with
    | none => rw [e0] at e; cases e
    | some x =>
      cases e1 : dats2 ρ ks rs with
      | none => rw [e0, e1] at e; cases e
      | some ys =>
        rw [e0, e1] at e; cases e
        simp only [ArgsOk]
        exact ⟨v, us, rfl, ro_arg O h2 (hz r (List.mem_cons_self ..)) h1 e0, args_ok O h2 (fun r hr => hz r (List.mem_cons_of_mem _ hr)) h3 e1⟩
  | [], _ :: _, _, _, _, _, e => by simp only [dats2] at e; cases e
  | .d :: _, [], _, _, _, _, e => by simp only [dats2] at e; cases e
  | .ro :: _, [], _, _, _, _, e => by simp only [dats2] at e; cases e
  | .d :: _, .o _ :: _, _, _, _, _, e => by simp only [dats2] at e; cases e
  | .d :: _, .raw _ :: _, _, _, _, _, e => by simp only [dats2] at e; cases e
def onArgs (ρ : Rho) (ks : List Kd) (rs : List R) (f : List PyData → Prop) : Prop := match dats2 ρ ks rs with
  | some xs => f xs
  | _ => False
theorem onArgs_of {ρ : Rho} {ks : List Kd} {rs : List R} {f : List PyData → Prop} (h : onArgs ρ ks rs f) : ∃ xs, dats2 ρ ks rs = some xs ∧ f xs := by
  unfold onArgs at h
  split at h
  · exact ⟨_, by assumption, h⟩
  · exact h.elim
theorem onArgs_mono {ρ : Rho} {ks : List Kd} {rs : List R} {f g : List PyData → Prop} (h : onArgs ρ ks rs f) (k : ∀ xs, f xs → g xs) : onArgs ρ ks rs g := by
  unfold onArgs at h ⊢
  split at h
  · exact k _ h
  · exact h.elim
def MonoP (S : Sd) : Prop := ∀ xs Q Q', (∀ z, Q z → Q' z) → S xs Q → S xs Q'
def MonoB (S : Sb) : Prop := ∀ bag xs Q Q', (∀ z b, Q z b → Q' z b) → S bag xs Q → S bag xs Q'
def dCallP (ks : List Kd) (S : Sd) (t : TDA) : TDE := fun ρ Q => t ρ fun rs ρ1 => onArgs ρ1 ks rs fun xs => S xs fun z => Q (.d z) ρ1
theorem de_callP {ks : List Kd} {S : Sd} {E : XK} (hS : MonoP S) (h : DA F t d) : DE F (fun σ H Q => t σ H fun vs H1 => spP F.K F.T ks S vs H1 Q E) (dCallP ks S d) := by
  constructor
  · intro pins ρ σ H Q O hq
    refine h.run pins ρ σ H _ O (h.mono _ _ _ (fun rs ρ1 h1 vs H1 O1 R1 => ?_) hq)
    obtain ⟨xs, e, h2⟩ := onArgs_of h1
    refine ⟨Av F pins ρ1 σ, xs, O1.tb.1, fun a ha => O1.avM ha, args_ok O1 (fun a z => z.elim) (fun _ _ _ _ _ _ z => z) R1 e, hS _ _ _ (fun z q v H' g tb im => ?_) h2⟩
    exact q v H' (O1.heapN g tb) im
  · intro ρ Q Q' hq hh
    exact h.mono _ _ _ (fun rs ρ1 h1 => onArgs_mono h1 fun xs h2 => hS _ _ _ (fun z => hq _ _) h2) hh
theorem pd_callP {ks : List Kd} {S : Sd} {k : Nat} {f : Addr} {fd : FuncData} {ps : List Str} {x : Str} {p : Pos} (G : FnG X.prog X.w X.K X.mg X.base CX0 k f fd ps (spP F.K F.T ks S)) (hS : MonoP S) (hr : Room k X.A) (hgd : X.A.guards = some []) (hg : Gl X x) (hm : X.mg x = some (.ref f)) (hk : PySem.W.keepIn X.K (.ref f) = true) (hb : Binds X.K fd ps [])
    (ha : PDA X F (e :: es) t d) (hdb : (x == ("__debug__" : Str)) = false := by decide) (he : starEach (e :: es) X.env = (false, eval e X.env) :: starEach es X.env := by rfl) (hpl : (backTo pos (starEach es X.env)).any (·.1) = false := by rfl) :
    PD X F (.Call (.Name x p) (e :: es) [] pos) (fun σ H Q => t σ H fun vs H1 => spP F.K F.T ks S vs H1 Q E0) (dCallP ks S d) :=
  ⟨pe_callG G hr hgd hg hm hk hb ha.pa hdb he hpl, de_callP hS ha.da⟩
def noSelf (i : Nat) : List R → Prop
  | [] => True
  | .o j :: rs => j ≠ i ∧ noSelf i rs
  | _ :: rs => noSelf i rs
theorem noSelf_mem {i : Nat} : ∀ {rs : List R}, noSelf i rs → ∀ r ∈ rs, ∀ j, r = .o j → j ≠ i
  | .o k :: rs, h, r, hr, j, e => by
    rcases List.mem_cons.mp hr with z | z
    · rw [z] at e; cases e; exact h.1
    · exact noSelf_mem h.2 r z j e
  | .d _ :: rs, h, r, hr, j, e => by
    rcases List.mem_cons.mp hr with z | z
    · rw [z] at e; cases e
    · exact noSelf_mem (show noSelf i rs from h) r z j e
  | .raw _ :: rs, h, r, hr, j, e => by
    rcases List.mem_cons.mp hr with z | z
    · rw [z] at e; cases e
    · exact noSelf_mem (show noSelf i rs from h) r z j e
/-- f(bag, ..): the first argument the own list at slot i -/
def dCallB (ks : List Kd) (S : Sb) (t : TDA) : TDE := fun ρ Q => t ρ fun rs ρ1 => match rs with
  | .o i :: rs => noSelf i rs ∧ onOwn ρ1 i fun bag => onArgs ρ1 ks rs fun xs => S bag xs fun z bag' => Q (.d z) (ρ1.set i (some (.own bag')))
  | _ => False
theorem Ok.lent {pins : List Pin} {ρ : Rho} {σ : L2.St} {H H' : Hp} (O : Ok F pins ρ σ H) {i : Nat} {B : Addr} {vs : List V} {ys : List PyData} (h : OwnAt ρ σ i B) (g : GrB B H H') (tb : Tabs F.T H') (hB : H' B = some (.lst vs)) (hv : ImAll F.K (Av F pins ρ σ) H' ys vs) :
    Ok F pins (ρ.set i (some (.own ys))) σ H' ∧ Av F pins (ρ.set i (some (.own ys))) σ = Av F pins ρ σ := by
  have ae : Av F pins (ρ.set i (some (.own ys))) σ = Av F pins ρ σ := by
    funext b
    unfold Av
    simp only [setOwn_iff (xs := ys) h]
  have aB : Av F pins ρ σ B := .inr (.inl ⟨i, h⟩)
  have G : Go (Av F pins ρ σ) (Av F pins ρ σ) H H' := ⟨fun a o n e m => g.ext a o (fun z => n (by rw [z]; exact aB)) e m, fun a z => .inl z⟩
  -- first a heap with an empty list at B, then the heap H'
  have O1 := O.setOwn (xs := []) (vs := []) h .nil
  have ae1 : Av F pins (ρ.set i (some (.own []))) σ = Av F pins ρ σ := by
    funext b
    unfold Av
    simp only [setOwn_iff (xs := []) h]
  have hi : i < ρ.length := by
    obtain ⟨⟨zs, h1, _⟩, _⟩ := h
    rcases Nat.lt_or_ge i ρ.length with z | z
    · exact z
    · rw [List.getElem?_eq_none z] at h1; cases h1
  refine ⟨?_, ae⟩
  refine ⟨by rw [List.length_set]; exact O.len, fun j f hj => ?_, fun j k b z1 z2 => O.own j k b ((setOwn_iff h j b).mp z1) ((setOwn_iff h k b).mp z2), fun p hp => ?_, O.acs, fun b o n e m => ?_, fun b z => ?_, O.ln, O.h0, fun j b z => O.lf j b ((setOwn_iff h j b).mp z), ⟨tb, fun a ps e => let ⟨qs, h1⟩ := O.tb.2 a ps e; g.tbl a qs h1⟩⟩
  · rw [ae]
    rcases getset hj with ⟨rfl, q, hl⟩ | ⟨ne, q⟩
    · cases q
      obtain ⟨_, _, hl⟩ := O.ownL h
      exact ⟨.ref B, h.2, B, vs, rfl, hB, hv, hl⟩
    · obtain ⟨v, h3, h4⟩ := O.ent j f q
      refine ⟨v, h3, EntOk.goM G h4 fun b us ev hb ex mu => ?_⟩
      subst ev
      exact g.ext b _ (fun z => ne (O.own j i B (by subst z; exact ⟨⟨f, q, ex⟩, h3⟩) h)) hb mu.nt
  · rw [ae]
    have hq := O.pin p hp
    cases p with
    | val v r =>
      cases r with
      | d x => exact Im.go G hq
      | o j =>
        refine ⟨hq.1, ?_⟩
        by_cases e2 : j = i
        · subst e2
          exact ⟨.list ys, by unfold slot; rw [List.getElem?_set_self hi]⟩
        · obtain ⟨x, hx2⟩ := hq.2
          exact ⟨x, by rw [slot_ne e2]; exact hx2⟩
      | raw u => exact hq
    | acc b zs =>
      obtain ⟨us, h3, h4, h5, h6⟩ := hq
      exact ⟨us, g.ext b _ (fun z => h6 (by subst z; exact ⟨i, h⟩)) h3 nt_lst, h4.go G, h5, fun ⟨j, z⟩ => h6 ⟨j, (setOwn_iff h j b).mp z⟩⟩
    | frz b o =>
      obtain ⟨u, h1⟩ := hq
      refine ⟨u, g.ext b _ (fun z => ?_) h1 nt_frz⟩
      subst z
      obtain ⟨w, g1, g2, _⟩ := O.ownM h
      rw [h1] at g1; cases g1; exact g2.elim
  · obtain ⟨_, _, hl⟩ := O.ownL h
    refine g.ext b o (fun z => ?_) (O.fr b o n e m) m
    subst z
    rcases hl with hl | hl
    · exact n hl
    · rw [hl] at e; cases e
  · by_cases e : b = B
    · subst e; exact ⟨_, hB, trivial⟩
    · obtain ⟨o, z, m⟩ := O.nh b z
      exact ⟨o, g.ext b o e z m.nt, m⟩
theorem de_callB {ks : List Kd} {S : Sb} {E : XK} (hS : MonoB S) (h : DA F t d) : DE F (fun σ H Q => t σ H fun vs H1 => spB F.K F.T ks S vs H1 Q E) (dCallB ks S d) := by
  constructor
  · intro pins ρ σ H Q O hq
    refine h.run pins ρ σ H _ O (h.mono _ _ _ (fun rs ρ1 h1 vs H1 O1 R1 => ?_) hq)
    cases rs with
    | nil => exact h1.elim
    | cons r rs =>
      cases r with
      | d x => exact h1.elim
      | raw u => exact h1.elim
      | o i =>
        obtain ⟨hns, h1⟩ := h1
        obtain ⟨bag, e0, h2⟩ := onOwn_of h1
        obtain ⟨xs, e, h3⟩ := onArgs_of h2
        simp only [ROks] at R1
        obtain ⟨v, us, rfl, R0, R1⟩ := R1
        obtain ⟨B, bvs, g1, g2, g3, g4⟩ := O1.ownGet e0
        have := R0.1
        rw [g1] at this; cases this
        refine ⟨Av F pins ρ1 σ, B, bvs, us, bag, xs, O1.tb.1, rfl, .inr (.inl ⟨i, g4⟩), fun a ha => O1.avM ha, g2, g3, args_ok O1 (fun a z => by obtain ⟨_, _, hl⟩ := O1.ownL g4; rw [z]; exact hl) (fun r hr j a e z ea => noSelf_mem hns r hr j e (O1.own j i B (by rw [← ea]; exact z) g4)) R1 e, hS _ _ _ _ (fun z bag' q v H' bvs' g tb hB hv im => ?_) h3⟩
        obtain ⟨O2, ae⟩ := O1.lent g4 g tb hB hv
        exact q v H' O2 (by show Im F.K (Av F pins (ρ1.set i (some (.own bag'))) σ) H' z v; rw [ae]; exact im)
  · intro ρ Q Q' hq hh
    refine h.mono _ _ _ (fun rs ρ1 h1 => ?_) hh
    cases rs with
    | nil => exact h1.elim
    | cons r rs =>
      cases r with
      | d x => exact h1.elim
      | raw u => exact h1.elim
      | o i => exact ⟨h1.1, onOwn_mono h1.2 fun bag h2 => onArgs_mono h2 fun xs h3 => hS _ _ _ _ (fun z b => hq _ _) h3⟩
theorem pd_callBag {ks : List Kd} {S : Sb} {k : Nat} {f : Addr} {fd : FuncData} {ps : List Str} {x : Str} {p : Pos} (G : FnG X.prog X.w X.K X.mg X.base CX0 k f fd ps (spB F.K F.T ks S)) (hS : MonoB S) (hr : Room k X.A) (hgd : X.A.guards = some []) (hg : Gl X x) (hm : X.mg x = some (.ref f)) (hk : PySem.W.keepIn X.K (.ref f) = true) (hb : Binds X.K fd ps [])
    (ha : PDA X F (e :: es) t d) (hdb : (x == ("__debug__" : Str)) = false := by decide) (he : starEach (e :: es) X.env = (false, eval e X.env) :: starEach es X.env := by rfl) (hpl : (backTo pos (starEach es X.env)).any (·.1) = false := by rfl) :
    PD X F (.Call (.Name x p) (e :: es) [] pos) (fun σ H Q => t σ H fun vs H1 => spB F.K F.T ks S vs H1 Q E0) (dCallB ks S d) :=
  ⟨pe_callG G hr hgd hg hm hk hb ha.pa hdb he hpl, de_callB hS ha.da⟩
end
def entOf : Kd → PyData → Ent
  | .d, x => .d x
  | .ro, x => .ro x
def rhoP (n : Nat) (ks : List Kd) (xs : List PyData) : Rho := (ks.zip xs).map (fun p => some (entOf p.1 p.2)) ++ List.replicate (n - xs.length) none
def frP (K : PySem.W.Frag) (H : Hp) (N : Addr → Prop) (T : List (Addr × Str)) : Fm := ⟨K, H, N, fun _ => False, fun _ => False, T⟩
def frB (K : PySem.W.Frag) (H : Hp) (N : Addr → Prop) (B : Addr) (T : List (Addr × Str)) : Fm := ⟨K, H, N, fun a => a = B, fun i => i = 0, T⟩
theorem ArgsOk.len {K : PySem.W.Frag} {N Z : Addr → Prop} {H : Hp} : ∀ {ks : List Kd} {xs : List PyData} {vs : List V}, ArgsOk K N Z H ks xs vs → vs.length = ks.length ∧ xs.length = ks.length
  | [], [], _, h => by simp only [ArgsOk] at h; subst h; exact ⟨rfl, rfl⟩
  | k :: ks, x :: xs, _, h => by
    simp only [ArgsOk] at h
    obtain ⟨v, us, rfl, _, h2⟩ := h
    obtain ⟨e1, e2⟩ := ArgsOk.len h2
    exact ⟨by simp [e1], by simp [e2]⟩
  | [], _ :: _, _, h => by simp only [ArgsOk] at h
  | _ :: _, [], _, h => by simp only [ArgsOk] at h
theorem ArgsOk.at {K : PySem.W.Frag} {N Z : Addr → Prop} {H : Hp} : ∀ {ks : List Kd} {xs : List PyData} {vs : List V} {i : Nat} {e : Ent}, ArgsOk K N Z H ks xs vs → ((ks.zip xs).map (fun p => some (entOf p.1 p.2)))[i]? = some (some e) → ∃ k x v, e = entOf k x ∧ vs[i]? = some v ∧ ArgOk K N Z H k x v
  | [], [], _, _, _, _, h => by simp at h
  | k :: ks, x :: xs, _, 0, e, h, he => by
    simp only [ArgsOk] at h
    obtain ⟨v, us, rfl, h1, _⟩ := h
    simp at he
    exact ⟨k, x, v, he.symm, rfl, h1⟩
  | k :: ks, x :: xs, _, i + 1, e, h, he => by
    simp only [ArgsOk] at h
    obtain ⟨v, us, rfl, _, h2⟩ := h
    obtain ⟨k', x', v', g1, g2, g3⟩ := ArgsOk.at (i := i) h2 (by simpa using he)
    exact ⟨k', x', v', g1, by simpa using g2, g3⟩
  | [], _ :: _, _, _, _, h, _ => by simp only [ArgsOk] at h
  | _ :: _, [], _, _, _, h, _ => by simp only [ArgsOk] at h
end DV
namespace DV
open PySem PySem.Spec PyProof.Rows L2
open LamX (ExtN TabS Tabs CodeO)
theorem rhoP_len {n : Nat} {ks : List Kd} {xs : List PyData} (h : xs.length = ks.length) (hn : ks.length ≤ n) : (rhoP n ks xs).length = n := by
  unfold rhoP
  rw [List.length_append, List.length_map, List.length_zip, List.length_replicate]
  omega
theorem rhoP_some {n : Nat} {ks : List Kd} {xs : List PyData} {i : Nat} {e : Ent} (h : (rhoP n ks xs)[i]? = some (some e)) : ((ks.zip xs).map (fun p => some (entOf p.1 p.2)))[i]? = some (some e) := by
  unfold rhoP at h
  by_cases hi : i < ((ks.zip xs).map (fun p => some (entOf p.1 p.2))).length
  · rw [List.getElem?_append_left hi] at h; exact h
  · rw [List.getElem?_append_right (by omega), List.getElem?_replicate] at h
    split at h <;> cases h
theorem arg_ent {K : PySem.W.Frag} {N A Z : Addr → Prop} {H : Hp} {F : Fm} (hF : F.K = K) (hH : F.H0 = H) (hL : ∀ a, F.L a → Z a) (hA : ∀ a, A a → N a) {k : Kd} {x : PyData} {v : V} (h : ArgOk K N Z H k x v) : EntOk F A H (entOf k x) v := by
  subst hF hH
  have G : Go N A F.H0 F.H0 := ⟨fun a o _ e _ => e, fun a z => .inl (hA a z)⟩
  cases k with
  | d => exact Im.go G h
  | ro =>
    rcases h with h | ⟨a, us, xs, e, e2, l, t⟩
    · exact .inl (Im.go G h)
    · refine .inr ⟨a, us, xs, e, e2, ?_, t.go G⟩
      rcases l with ⟨l, n⟩ | l
      · exact .inl ⟨l, fun z => n (hL a z)⟩
      · exact .inr l
def retP (r : R) (ρ : Rho) (Q : PyData → Prop) : Prop := match r with
  | .d z => Q z
  | .o i => onOwn ρ i fun xs => Q (.list xs)
  | .raw _ => False
def retB (r : R) (ρ : Rho) (Q : PyData → List PyData → Prop) : Prop := onOwn ρ 0 fun bag => match r with
  | .d z => Q z bag
  | .o (i + 1) => onOwn ρ (i + 1) fun xs => Q (.list xs) bag
  | _ => False
theorem fixP {K : PySem.W.Frag} {H : Hp} {N : Addr → Prop} {T : List (Addr × Str)} {i : Nat} : ¬ (frP K H N T).fix i := fun z => z
theorem fixB {K : PySem.W.Frag} {H : Hp} {N : Addr → Prop} {B : Addr} {T : List (Addr × Str)} {i : Nat} (h : i ≠ 0) : ¬ (frB K H N B T).fix i := h
theorem nofixP {K : PySem.W.Frag} {H : Hp} {N : Addr → Prop} {T : List (Addr × Str)} {l : List Nat} : ∀ i ∈ l, ¬ (frP K H N T).fix i := fun _ _ z => z
section
variable {P : Program} {w : World} {K : PySem.W.Frag} {mg : Str → Option Value} {base : Heap} {T : List (Addr × Str)}
theorem fnPC {x qual : Str} {st : Stmt} {f : Addr} {fd : FuncData} {N ps : List Str} {k : Nat} {ks : List Kd} {S : Sd} (W : Fun K x qual st f fd) (Sc : FnScope N ps (defScope st)) (hks : ks.length = ps.length)
    (body : ∀ (cdv : Value), fd.code = cdv → ∀ (A : Around) (out : List Env) (s : Shared) (H : Hp) (E : XK) (Nn : Addr → Prop), Room k (A.deeper (envOfC qual (defScope st) s.heap.objs.size f cdv)) → A.guards = some [] →
      ∃ ts tds, PDSs (cxOf CX0 P w K mg base N qual (defScope st) f cdv A out s H E).nox (frP K H Nn T) (defBody st) ts tds ∧
        ∀ xs Q, xs.length = ks.length → S xs Q → tds { nx := fun _ => Q .none, rt := fun r ρ => retP r ρ Q } (rhoP N.length ks xs)) : FnG P w K mg base CX0 (k + 1) f fd ps (spP K T ks S) := by
  have hpl : ps.length ≤ N.length := by have := congrArg List.length Sc.pre; rw [List.length_take] at this; omega
  refine fg_ofC W Sc (fun vs H Q E h => ?_) fun cdv hcd A out s H vs Q E hr hgd h => ?_
  · obtain ⟨Nn, xs, _, _, ha, _⟩ := h
    rw [ha.len.1, hks]
  obtain ⟨Nn, xs, tb, hM, ha, hS⟩ := h
  have hN : ∀ a, Nn a → ∃ o, H a = some o := fun a z => let ⟨o, e, _⟩ := hM a z; ⟨o, e⟩
  obtain ⟨ts, tds, hb, hq⟩ := body cdv hcd A out s H E Nn hr hgd
  refine ⟨ts, hb.pss, ?_⟩
  have hl := ha.len
  have noOwn : ∀ i a, ¬ OwnAt (rhoP N.length ks xs) (L2.start N vs) i a := by
    rintro i a ⟨⟨ys, h1, hm⟩, _⟩
    obtain ⟨k, x, v, e, _⟩ := ha.at (rhoP_some h1)
    subst e
    cases k <;> exact hm
  have O : Ok (frP K H Nn T) [] (rhoP N.length ks xs) (L2.start N vs) H := by
    refine ⟨?_, fun i e h1 => ?_, fun i j a h1 _ => absurd h1 (noOwn i a), fun p hp => (nomatch hp), .nil, fun a o _ e _ => e, hM, fun a h => h.elim, hN, fun i a _ h => h.elim, tb, fun a ps e => ⟨ps, e⟩⟩
    · rw [rhoP_len hl.2 (by rw [hks]; exact hpl)]
      unfold L2.start
      rw [List.length_append, List.length_map, List.length_replicate]
      omega
    · obtain ⟨k, x, v, rfl, h2, h3⟩ := ha.at (rhoP_some h1)
      refine ⟨v, ?_, arg_ent (N := Nn) rfl rfl (fun a z => z) (fun a z => ?_) h3⟩
      · have hi : i < vs.length := by
          rcases Nat.lt_or_ge i vs.length with z | z
          · exact z
          · rw [List.getElem?_eq_none z] at h2; cases h2
        unfold L2.start
        rw [List.getElem?_append_left (by simpa using hi), List.getElem?_map, h2]; rfl
      · rcases z with z | ⟨j, z⟩ | z
        · exact z
        · exact absurd z (noOwn j a)
        · cases z
  refine hb.ds [] _ _ H _ _ O (fun v j hp => nomatch hp) ⟨fun ρ σ H' O' q => ?_, fun ρ σ H' v r O' R' q => ?_, fun _ _ _ _ q => False.elim q, fun _ _ _ _ q => False.elim q, fun _ _ _ _ _ _ q => False.elim q⟩ (hq xs _ hl.2 hS)
  · exact q .non H' ⟨fun a o e => O'.fr a o (fun z => z) e, O'.tb.2⟩ O'.tb.1 .none
  · have G : Go (Av (frP K H Nn T) [] ρ σ) Nn H' H' := ⟨fun _ _ _ e _ => e, fun a z => .inl (.inl z)⟩
    have fr : Gr H H' := ⟨fun a o e => O'.fr a o (fun z => z) e, O'.tb.2⟩
    cases r with
    | d z => exact q v H' fr O'.tb.1 (Im.go G R')
    | raw u => exact q.elim
    | o i =>
      obtain ⟨ys, e, q⟩ := onOwn_of q
      obtain ⟨p, us, h1, h2, h3, h4⟩ := O'.ownGet e
      have := R'.1
      rw [h1] at this; cases this
      refine q _ H' fr O'.tb.1 ?_
      simp only [Im]
      refine ⟨p, us, rfl, ⟨h2, fun z => ?_⟩, h3.go G⟩
      obtain ⟨_, _, hl⟩ := O'.ownL h4
      rcases hl with hl | hl
      · exact hl
      · obtain ⟨o, e⟩ := hN p z
        have hl : H p = none := hl
        rw [hl] at e; cases e
theorem fnP {x qual : Str} {st : Stmt} {f : Addr} {fd : FuncData} {N ps : List Str} {k : Nat} {ks : List Kd} {S : Sd} (W : Fun K x qual st f fd) (Sc : FnScope N ps (defScope st)) (hks : ks.length = ps.length)
    (body : ∀ (cdv : Value) (A : Around) (out : List Env) (s : Shared) (H : Hp) (E : XK) (Nn : Addr → Prop), Room k (A.deeper (envOfC qual (defScope st) s.heap.objs.size f cdv)) → A.guards = some [] →
      ∃ ts tds, PDSs (cxOf CX0 P w K mg base N qual (defScope st) f cdv A out s H E).nox (frP K H Nn T) (defBody st) ts tds ∧
        ∀ xs Q, xs.length = ks.length → S xs Q → tds { nx := fun _ => Q .none, rt := fun r ρ => retP r ρ Q } (rhoP N.length ks xs)) : FnG P w K mg base CX0 (k + 1) f fd ps (spP K T ks S) :=
  fnPC W Sc hks fun cdv _ => body cdv
theorem fnB {x qual : Str} {st : Stmt} {f : Addr} {fd : FuncData} {N ps : List Str} {k : Nat} {ks : List Kd} {S : Sb} (W : Fun K x qual st f fd) (Sc : FnScope N ps (defScope st)) (hks : ks.length + 1 = ps.length)
    (body : ∀ (cdv : Value) (A : Around) (out : List Env) (s : Shared) (H : Hp) (E : XK) (Nn : Addr → Prop) (B : Addr), Room k (A.deeper (envOfC qual (defScope st) s.heap.objs.size f cdv)) → A.guards = some [] →
      ∃ ts tds, PDSs (cxOf CX0 P w K mg base N qual (defScope st) f cdv A out s H E).nox (frB K H Nn B T) (defBody st) ts tds ∧
        ∀ bag xs Q, xs.length = ks.length → S bag xs Q → tds { nx := fun ρ => retB (.d .none) ρ Q, rt := fun r ρ => retB r ρ Q } (some (.own bag) :: rhoP (N.length - 1) ks xs)) : FnG P w K mg base CX0 (k + 1) f fd ps (spB K T ks S) := by
  have hpl : ps.length ≤ N.length := by have := congrArg List.length Sc.pre; rw [List.length_take] at this; omega
  refine fg_of W Sc (fun vs H Q E h => ?_) fun cdv A out s H vs Q E hr hgd h => ?_
  · obtain ⟨Nn, B, bvs, ws, bag, xs, _, rfl, _, _, _, _, ha, _⟩ := h
    rw [List.length_cons, ha.len.1, hks]
  obtain ⟨Nn, B, bvs, ws, bag, xs, tb, rfl, hNB, hM, hB, hbag, ha, hS⟩ := h
  have hN : ∀ a, Nn a → ∃ o, H a = some o := fun a z => let ⟨o, e, _⟩ := hM a z; ⟨o, e⟩
  obtain ⟨ts, tds, hb, hq⟩ := body cdv A out s H E Nn B hr hgd
  refine ⟨ts, hb.pss, ?_⟩
  have hl := ha.len
  have own0 : ∀ i a, OwnAt (some (.own bag) :: rhoP (N.length - 1) ks xs) (L2.start N (.ref B :: ws)) i a → i = 0 ∧ a = B := by
    rintro i a ⟨⟨ys, h1, hm⟩, h2⟩
    cases i with
    | zero =>
      have h2 : some (some (V.ref B)) = some (some (V.ref a)) := h2
      cases h2; exact ⟨rfl, rfl⟩
    | succ i =>
      obtain ⟨k, x, v, e, _⟩ := ha.at (rhoP_some (show (rhoP (N.length - 1) ks xs)[i]? = some (some ys) by simpa using h1))
      subst e
      cases k <;> exact hm.elim
  have at0 : OwnAt (some (.own bag) :: rhoP (N.length - 1) ks xs) (L2.start N (.ref B :: ws)) 0 B := ⟨⟨.own bag, rfl, trivial⟩, rfl⟩
  have avN : ∀ a, Av (frB K H Nn B T) [.val (.ref B) (.o 0)] (some (.own bag) :: rhoP (N.length - 1) ks xs) (L2.start N (.ref B :: ws)) a → Nn a := by
    rintro a (z | ⟨j, z⟩ | z)
    · exact z
    · rw [(own0 j a z).2]; exact hNB
    · cases z
  have G0 : Go Nn (Av (frB K H Nn B T) [.val (.ref B) (.o 0)] (some (.own bag) :: rhoP (N.length - 1) ks xs) (L2.start N (.ref B :: ws))) H H := ⟨fun _ _ _ e _ => e, fun a z => .inl (avN a z)⟩
  have O : Ok (frB K H Nn B T) [.val (.ref B) (.o 0)] (some (.own bag) :: rhoP (N.length - 1) ks xs) (L2.start N (.ref B :: ws)) H := by
    refine ⟨?_, fun i e h1 => ?_, fun i j a h1 h2 => (own0 i a h1).1.trans (own0 j a h2).1.symm, fun p hp => ?_, .nil, fun a o _ e _ => e, hM, fun a h => ?_, hN, fun i a h _ => (own0 i a h).1, tb, fun a ps e => ⟨ps, e⟩⟩
    · rw [List.length_cons, rhoP_len hl.2 (by omega)]
      unfold L2.start
      rw [List.length_append, List.length_map, List.length_replicate, List.length_cons]
      omega
    · cases i with
      | zero =>
        have h1 : some (some (Ent.own bag)) = some (some e) := h1
        cases h1
        exact ⟨.ref B, rfl, B, bvs, rfl, hB, hbag.go G0, .inl rfl⟩
      | succ i =>
        obtain ⟨k, x, v, rfl, h2, h3⟩ := ha.at (rhoP_some (show (rhoP (N.length - 1) ks xs)[i]? = some (some e) by simpa using h1))
        refine ⟨v, ?_, ?_⟩
        · have hi : i < ws.length := by
            rcases Nat.lt_or_ge i ws.length with z | z
            · exact z
            · rw [List.getElem?_eq_none z] at h2; cases h2
          unfold L2.start
          rw [List.getElem?_append_left (by simpa using hi), List.getElem?_map]
          show (ws[i]?).map some = some (some v)
          rw [h2]; rfl
        · exact arg_ent (N := Nn) rfl rfl (fun a z => z) avN h3
    · rcases List.mem_cons.mp hp with rfl | hp
      · exact ⟨rfl, .list bag, rfl⟩
      · cases hp
    · rw [h]; exact hNB
  refine hb.ds [.val (.ref B) (.o 0)] _ _ H _ _ O (fun v j hp => ?_) ⟨fun ρ σ H' O' q => ?_, fun ρ σ H' v r O' R' q => ?_, fun _ _ _ _ q => False.elim q, fun _ _ _ _ q => False.elim q, fun _ _ _ _ _ _ q => False.elim q⟩ (hq bag xs _ hl.2 hS)
  · rcases List.mem_cons.mp hp with z | z
    · cases z; rfl
    · cases z
  all_goals
    have G : Go (Av (frB K H Nn B T) [.val (.ref B) (.o 0)] ρ σ) Nn H' H' := ⟨fun _ _ _ e _ => e, fun a z => .inl (.inl z)⟩
    have fr : GrB B H H' := ⟨fun a o n e => O'.fr a o n e, O'.tb.2⟩
    obtain ⟨bag', e0, q⟩ := onOwn_of q
    obtain ⟨p, us, h1, h2, h3, h4⟩ := O'.ownGet e0
    have hp0 := (O'.pin _ (List.mem_cons_self ..)).1
    rw [h1] at hp0; cases hp0
  · exact q .non H' us fr O'.tb.1 h2 (h3.go G) .none
  · cases r with
    | d z => exact q v H' us fr O'.tb.1 h2 (h3.go G) (Im.go G R')
    | raw u => exact q.elim
    | o i =>
      cases i with
      | zero => exact q.elim
      | succ i =>
        obtain ⟨ys, e, q⟩ := onOwn_of q
        obtain ⟨p, vs, g1, g2, g3, g4⟩ := O'.ownGet e
        have := R'.1
        rw [g1] at this; cases this
        refine q _ H' us fr O'.tb.1 h2 (h3.go G) ?_
        simp only [Im]
        refine ⟨p, vs, rfl, ⟨g2, fun z => ?_⟩, g3.go G⟩
        obtain ⟨_, _, hl⟩ := O'.ownL g4
        rcases hl with hl | hl
        · have hl : p = B := hl
          subst hl
          have := O'.own _ _ _ g4 h4
          cases this
        · obtain ⟨o, e⟩ := hN p z
          have hl : H p = none := hl
          rw [hl] at e; cases e
end
end DV
namespace DV
open PySem PySem.Spec PyProof.Rows L2
open LamX (ExtN TabS Tabs CodeO)
section
variable {X : Cx} {F : Fm} {a b c e : Expr} {es : List Expr} {ta tb tc te : TE} {da db dc de : TDE} {dl dl2 : TDL} {pos : Pos} {t : TA} {d : TDA} {tt tu : TT} {dt du : TDT}
theorem get_list : PGet X (rIxL X.K) := by
  intro pins s σ H o i ov iv Q I ro ri h
  obtain ⟨p, xs, k, z, rfl, rfl, hq, he, q⟩ := h
  cases ro
  obtain ⟨tk, rfl⟩ := ri
  obtain ⟨its, r, pl, hz⟩ := I.list hq
  obtain ⟨j, h1, h2, h3, h4, h5⟩ := atI_get he
  obtain ⟨w, ew, rw'⟩ := r.get h2
  have hl := r.length
  have hn := line63
  have fin : EP X pins σ Q w s := ⟨z, H, I, rw', q⟩
  by_cases h0 : 0 ≤ k
  · have hj : k.toNat = j := by
      rw [seqIndex_of h0 h5] at h1
      exact Option.some.inj h1
    exact wpAny_getItem_list pl.isList h0 (by omega) (by rw [hj]; simpa using ew) fin
  · have hj : (k + (its.toArray.size : Int)).toNat = j := by
      rw [seqIndex_neg (by omega) h4] at h1
      rw [List.size_toArray, ← hl]
      exact Option.some.inj h1
    exact wpAny_getItem_list_neg pl.isList (by omega) (by rw [List.size_toArray] <;> omega) (by omega) (by rw [hj]; simpa using ew) fin
/-- the items of a list or tuple -/
def items (ρ : Rho) : R → Option (List PyData)
  | .d (.list xs) => some xs
  | .d (.tuple xs) => some xs
  | .o i => match ρ[i]? with
    | some (some (.own xs)) => some xs
    | some (some (.ro (.list xs))) => some xs
    | some (some (.ro (.tuple xs))) => some xs
    | some (some (.d (.list xs))) => some xs
    | some (some (.d (.tuple xs))) => some xs
    | _ => none
  | _ => none
section
variable {pins : List Pin} {ρ : Rho} {σ : L2.St} {H : Hp}
theorem im_items {A : Addr → Prop} {x : PyData} {v : V} {xs : List PyData} (h : Im F.K A H x v) (e : x = .list xs ∨ x = .tuple xs) : ∃ a vs, v = .ref a ∧ (SqL F.K H a vs ∨ SqT F.K H a vs) ∧ ImAll F.K A H xs vs := by
  rcases e with rfl | rfl
  · simp only [Im] at h
    obtain ⟨a, vs, e, l, t⟩ := h
    exact ⟨a, vs, e, .inl l.sq, t⟩
  · simp only [Im] at h
    obtain ⟨a, vs, e, l, t⟩ := h
    exact ⟨a, vs, e, .inr l.sq, t⟩
theorem items_ok (O : Ok F pins ρ σ H) {r : R} {v : V} {xs : List PyData} (h : ROk F (Av F pins ρ σ) ρ σ H r v) (e : items ρ r = some xs) : ∃ a vs, v = .ref a ∧ (SqL F.K H a vs ∨ SqT F.K H a vs) ∧ ImAll F.K (Av F pins ρ σ) H xs vs := by
  cases r with
  | raw u => cases e
  | d x =>
    cases x <;> first | cases e | skip
    · exact im_items h (.inl rfl)
    · exact im_items h (.inr rfl)
  | o i =>
    have h1 := h.1
    have e : (match ρ[i]? with
      | some (some (.own xs)) => some xs
      | some (some (.ro (.list xs))) => some xs
      | some (some (.ro (.tuple xs))) => some xs
      | some (some (.d (.list xs))) => some xs
      | some (some (.d (.tuple xs))) => some xs
      | _ => none) = some xs := e
    split at e
    · rename_i ys q; cases e
      obtain ⟨p, vs, g1, g2, g3, _⟩ := O.ownGet q
      rw [h1] at g1; cases g1
      exact ⟨p, vs, rfl, .inl (.of g2), g3⟩
    · rename_i ys q; cases e
      obtain ⟨u, g1, g2⟩ := O.ent i _ q
      rw [h1] at g1; cases g1
      rcases g2 with g2 | ⟨p, us, zs, rfl, g4, g5, g6⟩
      · exact im_items g2 (.inl rfl)
      · cases g4; exact ⟨p, us, rfl, .inl (g5.sq O), g6⟩
    · rename_i ys q; cases e
      obtain ⟨u, g1, g2⟩ := O.ent i _ q
      rw [h1] at g1; cases g1
      rcases g2 with g2 | ⟨p, us, zs, rfl, g4, g5, g6⟩
      · exact im_items g2 (.inr rfl)
      · cases g4
    · rename_i ys q; cases e
      obtain ⟨u, g1, g2⟩ := O.ent i _ q
      rw [h1] at g1; cases g1
      exact im_items g2 (.inl rfl)
    · rename_i ys q; cases e
      obtain ⟨u, g1, g2⟩ := O.ent i _ q
      rw [h1] at g1; cases g1
      exact im_items g2 (.inr rfl)
    · cases e
end
def onItems (ρ : Rho) (r : R) (f : List PyData → Prop) : Prop := match items ρ r with
  | some xs => f xs
  | _ => False
theorem onItems_of {ρ : Rho} {r : R} {f : List PyData → Prop} (h : onItems ρ r f) : ∃ xs, items ρ r = some xs ∧ f xs := by
  unfold onItems at h
  split at h
  · exact ⟨_, by assumption, h⟩
  · exact h.elim
theorem onItems_mono {ρ : Rho} {r : R} {f g : List PyData → Prop} (h : onItems ρ r f) (k : ∀ xs, f xs → g xs) : onItems ρ r g := by
  unfold onItems at h ⊢
  split at h
  · exact k _ h
  · exact h.elim
def onInt (ρ : Rho) (r : R) (f : Int → Prop) : Prop := match val ρ r with
  | some (.int k) => f k
  | _ => False
theorem onInt_of {ρ : Rho} {r : R} {f : Int → Prop} (h : onInt ρ r f) : ∃ k, val ρ r = some (.int k) ∧ f k := by
  unfold onInt at h
  split at h
  · exact ⟨_, by assumption, h⟩
  · exact h.elim
theorem onInt_mono {ρ : Rho} {r : R} {f g : Int → Prop} (h : onInt ρ r f) (k : ∀ x, f x → g x) : onInt ρ r g := by
  unfold onInt at h ⊢
  split at h
  · exact k _ h
  · exact h.elim
def onAt (xs : List PyData) (k : Int) (f : PyData → Prop) : Prop := match atI xs k with
  | some y => f y
  | _ => False
theorem onAt_of {xs : List PyData} {k : Int} {f : PyData → Prop} (h : onAt xs k f) : ∃ y, atI xs k = some y ∧ f y := by
  unfold onAt at h
  split at h
  · exact ⟨_, by assumption, h⟩
  · exact h.elim
theorem onAt_mono {xs : List PyData} {k : Int} {f g : PyData → Prop} (h : onAt xs k f) (m : ∀ x, f x → g x) : onAt xs k g := by
  unfold onAt at h ⊢
  split at h
  · exact m _ h
  · exact h.elim
def dIx (ta tb : TDE) : TDE := dBin ta tb fun r s ρ Q => onItems ρ r fun xs => onInt ρ s fun k => onAt xs k fun y => Q (.d y) ρ
theorem at_rel {K : PySem.W.Frag} {N : Addr → Prop} {H : Hp} {xs : List PyData} {vs : List V} {k : Int} {y : PyData} (h : ImAll K N H xs vs) (e : atI xs k = some y) : ∃ v, atI vs k = some v ∧ Im K N H y v := by
  unfold atI at e ⊢
  rw [h.length]
  cases q : ixN xs.length k with
  | none => rw [q] at e; cases e
  | some j =>
    rw [q] at e
    exact h.get e
theorem pd_ix (ha : PD X F a ta da) (hb : PD X F b tb db) (hs : PlainIx b) (hK : X.K = F.K := by rfl) : PD X F (.Subscript a b pos) (tOp (fun x y H Q => rIxL F.K x y H Q ∨ rIxT F.K x y H Q) ta tb) (dIx da db) := by
  refine ⟨?_, de_bin ha.de hb.de (fun pins ρ σ H x y r s Q O R1 R2 h => ?_) fun r s ρ Q Q' hq h => onItems_mono h fun xs h => onInt_mono h fun k h => onAt_mono h fun y h => hq _ _ h⟩
  · have := pe_ix (pos := pos) (ix_list.or ix_tup) ha.pe hb.pe hs
    rw [hK] at this
    exact this
  obtain ⟨xs, e1, h⟩ := onItems_of h
  obtain ⟨k, e2, h⟩ := onInt_of h
  obtain ⟨y, e3, h⟩ := onAt_of h
  obtain ⟨p, vs, rfl, l, im⟩ := items_ok O R1 e1
  cases dp_int (val_dp O R2 e2)
  obtain ⟨v, e4, i4⟩ := at_rel im e3
  rcases l with l | l
  · exact .inl ⟨p, vs, k, v, rfl, rfl, l, e4, h v H O i4⟩
  · exact .inr ⟨p, vs, k, v, rfl, rfl, l, e4, h v H O i4⟩
def cutD (xs : List PyData) (lo hi : Option Int) : List PyData := (xs.drop (HT.sIx xs.length 0 lo)).take (HT.sIx xs.length xs.length hi - HT.sIx xs.length 0 lo)
theorem ImAll.cut {K : PySem.W.Frag} {N : Addr → Prop} {H : Hp} {xs : List PyData} {vs : List V} (h : ImAll K N H xs vs) (lo hi : Option Int) : ImAll K N H (cutD xs lo hi) (cutV vs lo hi) := by
  unfold cutD cutV
  rw [h.length]
  exact (h.drop _).take _
abbrev TDO := Rho → (Option Int → Rho → Prop) → Prop
structure DO (F : Fm) (to : TO) (td : TDO) : Prop where
  run : ∀ (pins : List Pin) (ρ : Rho) (σ : L2.St) (H : Hp) (Q : Option Int → Hp → Prop), Ok F pins ρ σ H → td ρ (fun o ρ' => ∀ H', Ok F pins ρ' σ H' → Q o H') → to σ H Q
  mono : ∀ ρ Q Q', (∀ r ρ', Q r ρ' → Q' r ρ') → td ρ Q → td ρ Q'
structure PDO (X : Cx) (F : Fm) (e : Option Expr) (to : TO) (td : TDO) : Prop where
  po : PO X e to
  d : DO F to td
def dNoPart : TDO := fun ρ Q => Q none ρ
def dPart (te : TDE) : TDO := fun ρ Q => te ρ fun r ρ1 => onInt ρ1 r fun k => Q (some k) ρ1
theorem pdo_none : PDO X F none tNoPart dNoPart := ⟨po_none, fun pins ρ σ H Q O h => h H O, fun _ _ _ hq h => hq _ _ h⟩
theorem pdo_some (h : PD X F e te de) : PDO X F (some e) (tPart te) (dPart de) := by
  refine ⟨po_some h.pe, fun pins ρ σ H Q O hq => ?_, fun ρ Q Q' hq hh => h.de.mono _ _ _ (fun r ρ1 h1 => onInt_mono h1 fun k => hq _ _) hh⟩
  refine h.de.run pins ρ σ H _ O (h.de.mono _ _ _ (fun r ρ1 h1 v H1 O1 R1 => ?_) hq)
  obtain ⟨k, e, q⟩ := onInt_of h1
  cases dp_int (val_dp O1 R1 e)
  exact ⟨k, rfl, q H1 O1⟩
def dSlice (te : TDE) (tl th : TDO) (k : R → Option Int → Option Int → Rho → Prop) (ρ : Rho) : Prop := te ρ fun r ρ1 => tl ρ1 fun lo ρ2 => th ρ2 fun hi ρ3 => k r lo hi ρ3
variable {lo hi : Option Expr} {tl th : TO} {dlo dhi : TDO} {p2 : Pos}
/-- the items of a list that callers or this body may change -/
def litems (ρ : Rho) : R → Option (List PyData)
  | .d (.list xs) => some xs
  | .o i => match ρ[i]? with
    | some (some (.own xs)) => some xs
    | some (some (.ro (.list xs))) => some xs
    | some (some (.d (.list xs))) => some xs
    | _ => none
  | _ => none
theorem litems_ok {pins : List Pin} {ρ : Rho} {σ : L2.St} {H : Hp} (O : Ok F pins ρ σ H) {r : R} {v : V} {xs : List PyData} (h : ROk F (Av F pins ρ σ) ρ σ H r v) (e : litems ρ r = some xs) : ∃ a vs, v = .ref a ∧ SqL F.K H a vs ∧ ImAll F.K (Av F pins ρ σ) H xs vs := by
  have lst : ∀ {A : Addr → Prop} {v : V} {xs : List PyData}, Im F.K A H (.list xs) v → ∃ a vs, v = .ref a ∧ SqL F.K H a vs ∧ ImAll F.K A H xs vs := fun {A v xs} h => by
    simp only [Im] at h
    obtain ⟨a, vs, e, l, t⟩ := h
    exact ⟨a, vs, e, l.sq, t⟩
  cases r with
  | raw u => cases e
  | d x =>
    cases x <;> first | cases e | skip
    exact lst h
  | o i =>
    have h1 := h.1
    have e : (match ρ[i]? with
      | some (some (.own xs)) => some xs
      | some (some (.ro (.list xs))) => some xs
      | some (some (.d (.list xs))) => some xs
      | _ => none) = some xs := e
    split at e
    · rename_i ys q; cases e
      obtain ⟨p, vs, g1, g2, g3, _⟩ := O.ownGet q
      rw [h1] at g1; cases g1
      exact ⟨p, vs, rfl, .of g2, g3⟩
    · rename_i ys q; cases e
      obtain ⟨u, g1, g2⟩ := O.ent i _ q
      rw [h1] at g1; cases g1
      rcases g2 with g2 | ⟨p, us, zs, rfl, g4, g5, g6⟩
      · exact lst g2
      · cases g4; exact ⟨p, us, rfl, g5.sq O, g6⟩
    · rename_i ys q; cases e
      obtain ⟨u, g1, g2⟩ := O.ent i _ q
      rw [h1] at g1; cases g1
      exact lst g2
    · cases e
def onL (ρ : Rho) (r : R) (f : List PyData → Prop) : Prop := match litems ρ r with
  | some xs => f xs
  | _ => False
theorem onL_of {ρ : Rho} {r : R} {f : List PyData → Prop} (h : onL ρ r f) : ∃ xs, litems ρ r = some xs ∧ f xs := by
  unfold onL at h
  split at h
  · exact ⟨_, by assumption, h⟩
  · exact h.elim
theorem onL_mono {ρ : Rho} {r : R} {f g : List PyData → Prop} (h : onL ρ r f) (k : ∀ xs, f xs → g xs) : onL ρ r g := by
  unfold onL at h ⊢
  split at h
  · exact k _ h
  · exact h.elim
def dSlL (te : TDE) (tl th : TDO) : TDL := fun ρ Q => dSlice te tl th (fun r lo hi ρ3 => onL ρ3 r fun xs => Q (cutD xs lo hi) ρ3) ρ
theorem pl_slice (he : PD X F e te de) (hl : PDO X F lo tl dlo) (hh : PDO X F hi th dhi) (hK : X.K = F.K := by rfl) : PDL X F (.Subscript e (.Slice lo hi none p2) pos) (tSl (rSlL F.K) te tl th) (dSlL de dlo dhi) := by
  refine ⟨?_, fun pins ρ σ H Q O h => ?_, fun ρ Q Q' hq h => he.de.mono _ _ _ (fun r ρ1 h1 => hl.d.mono _ _ _ (fun l ρ2 h2 => hh.d.mono _ _ _ (fun u ρ3 h3 => onL_mono h3 fun xs => hq _ _) h2) h1) h⟩
  · have := pe_slice (pos := pos) (p2 := p2) sl_list he.pe hl.po hh.po
    rw [hK] at this
    exact this
  refine he.de.run pins ρ σ H _ O (he.de.mono _ _ _ (fun r ρ1 h1 v H1 O1 R1 => ?_) h)
  refine hl.d.run (.val v r :: pins) ρ1 σ H1 _ (O1.push R1) (hl.d.mono _ _ _ (fun l ρ2 h2 H2 O2 => ?_) h1)
  refine hh.d.run (.val v r :: pins) ρ2 σ H2 _ O2 (hh.d.mono _ _ _ (fun u ρ3 h3 H3 O3 => ?_) h2)
  obtain ⟨O4, R4⟩ := O3.popV
  obtain ⟨xs, e1, q⟩ := onL_of h3
  obtain ⟨p, vs, rfl, sq, im⟩ := litems_ok O4 R4 e1
  exact ⟨p, vs, rfl, sq, fun p' hp => q p' _ (O4.pushL hp (im.cut l u))⟩
def mitems (ρ : Rho) : R → Option (List PyData)
  | .d (.list xs) => some xs
  | .o i => match ρ[i]? with
    | some (some (.own xs)) => some xs
    | _ => none
  | _ => none
theorem mitems_ok {pins : List Pin} {ρ : Rho} {σ : L2.St} {H : Hp} (O : Ok F pins ρ σ H) {r : R} {v : V} {xs : List PyData} (h : ROk F (Av F pins ρ σ) ρ σ H r v) (e : mitems ρ r = some xs) : ∃ a vs, v = .ref a ∧ H a = some (.lst vs) ∧ ImAll F.K (Av F pins ρ σ) H xs vs := by
  cases r with
  | raw u => cases e
  | d x =>
    cases x <;> first | cases e | skip
    have h : Im F.K (Av F pins ρ σ) H (.list xs) v := h
    simp only [Im] at h
    obtain ⟨a, vs, e, l, t⟩ := h
    exact ⟨a, vs, e, l.1, t⟩
  | o i =>
    have h1 := h.1
    have e : (match ρ[i]? with
      | some (some (.own xs)) => some xs
      | _ => none) = some xs := e
    split at e
    · rename_i ys q; cases e
      obtain ⟨p, vs, g1, g2, g3, _⟩ := O.ownGet q
      rw [h1] at g1; cases g1
      exact ⟨p, vs, rfl, g2, g3⟩
    · cases e
def onM (ρ : Rho) (r : R) (f : List PyData → Prop) : Prop := match mitems ρ r with
  | some xs => f xs
  | _ => False
theorem onM_of {ρ : Rho} {r : R} {f : List PyData → Prop} (h : onM ρ r f) : ∃ xs, mitems ρ r = some xs ∧ f xs := by
  unfold onM at h
  split at h
  · exact ⟨_, by assumption, h⟩
  · exact h.elim
theorem onM_mono {ρ : Rho} {r : R} {f g : List PyData → Prop} (h : onM ρ r f) (k : ∀ xs, f xs → g xs) : onM ρ r g := by
  unfold onM at h ⊢
  split at h
  · exact k _ h
  · exact h.elim
def dCat (ta tb : TDE) : TDL := fun ρ Q => ta ρ fun r ρ1 => tb ρ1 fun s ρ2 => onM ρ2 r fun xs => onM ρ2 s fun ys => Few (xs.length + ys.length) ∧ Q (xs ++ ys) ρ2
theorem pl_cat (ha : PD X F a ta da) (hb : PD X F b tb db) : PDL X F (.BinOp a .Add b pos) (tOp rCat ta tb) (dCat da db) := by
  refine ⟨pe_op op_cat ha.pe hb.pe, fun pins ρ σ H Q O h => ?_, fun ρ Q Q' hq h => ha.de.mono _ _ _ (fun r ρ1 h1 => hb.de.mono _ _ _ (fun s ρ2 h2 => onM_mono h2 fun xs h3 => onM_mono h3 fun ys h4 => ⟨h4.1, hq _ _ h4.2⟩) h1) h⟩
  refine ha.de.run pins ρ σ H _ O (ha.de.mono _ _ _ (fun r ρ1 h1 x H1 O1 R1 => ?_) h)
  refine hb.de.run (.val x r :: pins) ρ1 σ H1 _ (O1.push R1) (hb.de.mono _ _ _ (fun s ρ2 h2 y H2 O2 R2 => ?_) h1)
  obtain ⟨O3, R3⟩ := O2.popV
  obtain ⟨xs, e1, h3⟩ := onM_of h2
  obtain ⟨ys, e2, h4, q⟩ := onM_of h3
  obtain ⟨p, vs, rfl, g1, i1⟩ := mitems_ok O3 R3 e1
  obtain ⟨p2, us, rfl, g2, i2⟩ := mitems_ok O3 R2 e2
  exact ⟨p, p2, vs, us, rfl, rfl, g1, g2, by rw [i1.length, i2.length]; exact h4, fun p' hp => q p' _ (O3.pushL hp (i1.append i2))⟩
def dTupOf (t : TDA) : TDE := fun ρ Q => t ρ fun rs ρ1 => match rs with
  | [.d (.tuple xs)] => Q (.d (.tuple xs)) ρ1
  | [r] => onL ρ1 r fun xs => Q (.d (.tuple xs)) ρ1
  | _ => False
end
section
variable {X : Cx} {F : Fm} {tg e e2 : Expr} {te te2 : TE} {de de2 : TDE} {pos p : Pos} {t : TA} {d : TDA}
theorem PI.or {tg iter : Expr} {w1 w2 : TI} (h1 : PI X tg iter w1) (h2 : PI X tg iter w2) : PI X tg iter (fun σ H R => w1 σ H R ∨ w2 σ H R) :=
  ⟨fun pins s σ H R I h => h.elim (h1.run pins s σ H R I) (h2.run pins s σ H R I)⟩
end
end DV
namespace DV
open PySem PySem.Spec PyProof.Rows L2
open LamX (ExtN TabS Tabs CodeO)
section
variable {X : Cx} {F : Fm} {tg e e2 a b : Expr} {te te2 ta tb : TE} {de de2 da db : TDE} {pos p : Pos} {t : TA} {d : TDA}
theorem wok_list {v : V} {xs : List PyData} {a : Addr} (hv : v = .ref a) : WOk F (Itl F.K a) xs [.val v (.d (.list xs))] := by
  subst hv
  have key : ∀ (pins : List Pin) (ρ : Rho) (σ : L2.St) (H : Hp), (∀ q ∈ [Pin.val (.ref a) (.d (.list xs))], q ∈ pins) → Ok F pins ρ σ H → ∃ vs, SqL F.K H a vs ∧ ImAll F.K (Av F pins ρ σ) H xs vs := fun pins ρ σ H hp O => by
    have h : Im F.K (Av F pins ρ σ) H (.list xs) (.ref a) := O.pin _ (hp _ (List.mem_cons_self ..))
    simp only [Im] at h
    obtain ⟨q, vs, e, l, im⟩ := h
    cases e
    exact ⟨vs, l.sq, im⟩
  refine ⟨fun i pins ρ σ H hp hi O => ?_, fun pins ρ σ H hp O => ?_, fun i pins ρ σ H x H' hp hi O y => ?_⟩
  · obtain ⟨vs, h1, h2⟩ := key pins ρ σ H hp O
    have hl := h2.length
    exact ⟨vs, vs[i]'(by omega), h1, by simp⟩
  · obtain ⟨vs, h1, h2⟩ := key pins ρ σ H hp O
    exact ⟨vs, h1, by rw [h2.length]; exact Nat.le_refl _⟩
  · obtain ⟨vs, h1, h2⟩ := key pins ρ σ H hp O
    obtain ⟨rfl, y⟩ := y
    obtain ⟨d, e1, e2⟩ := h2.getV (y vs h1)
    exact ⟨d, e1, O, e2⟩
theorem wok_tup {v : V} {xs : List PyData} {a : Addr} (hv : v = .ref a) : WOk F (Itt F.K a) xs [.val v (.d (.tuple xs))] := by
  subst hv
  have key : ∀ (pins : List Pin) (ρ : Rho) (σ : L2.St) (H : Hp), (∀ q ∈ [Pin.val (.ref a) (.d (.tuple xs))], q ∈ pins) → Ok F pins ρ σ H → ∃ vs, SqT F.K H a vs ∧ ImAll F.K (Av F pins ρ σ) H xs vs := fun pins ρ σ H hp O => by
    have h : Im F.K (Av F pins ρ σ) H (.tuple xs) (.ref a) := O.pin _ (hp _ (List.mem_cons_self ..))
    simp only [Im] at h
    obtain ⟨q, vs, e, l, im⟩ := h
    cases e
    exact ⟨vs, l.sq, im⟩
  refine ⟨fun i pins ρ σ H hp hi O => ?_, fun pins ρ σ H hp O => ?_, fun i pins ρ σ H x H' hp hi O y => ?_⟩
  · obtain ⟨vs, h1, h2⟩ := key pins ρ σ H hp O
    have hl := h2.length
    exact ⟨vs, vs[i]'(by omega), h1, by simp⟩
  · obtain ⟨vs, h1, h2⟩ := key pins ρ σ H hp O
    exact ⟨vs, h1, by rw [h2.length]; exact Nat.le_refl _⟩
  · obtain ⟨vs, h1, h2⟩ := key pins ρ σ H hp O
    obtain ⟨rfl, y⟩ := y
    obtain ⟨d, e1, e2⟩ := h2.getV (y vs h1)
    exact ⟨d, e1, O, e2⟩
theorem mem_pinsOf : ∀ {vs : List V} {xs : List PyData} {p : Pin}, p ∈ pinsOf vs xs → IsV p
  | [], _, _, h => by cases h
  | _ :: _, [], _, h => by cases h
  | v :: vs, x :: xs, p, h => by
    rcases List.mem_cons.mp h with z | z
    · exact .inl ⟨v, x, z⟩
    · exact mem_pinsOf z
theorem all_pinsOf {pins : List Pin} {ρ : Rho} {σ : L2.St} {H : Hp} (O : Ok F pins ρ σ H) : ∀ {vs : List V} {xs : List PyData}, vs.length = xs.length → (∀ q ∈ pinsOf vs xs, q ∈ pins) → ImAll F.K (Av F pins ρ σ) H xs vs
  | [], [], _, _ => .nil
  | v :: vs, x :: xs, hl, h => .cons (O.pin _ (h _ (List.mem_cons_self ..))) (all_pinsOf O (by simpa using hl) fun q hq => h q (List.mem_cons_of_mem _ hq))
  | [], _ :: _, hl, _ => by cases hl
  | _ :: _, [], hl, _ => by cases hl
/-- a list that is read alone -/
theorem wok_ro {xs : List PyData} {us : List V} {a : Addr} (hl : us.length = xs.length) (hr : LkR F a us) : WOk F (Itl F.K a) xs (pinsOf us xs) := by
  refine ⟨fun i pins ρ σ H hp hi O => ?_, fun pins ρ σ H hp O => ?_, fun i pins ρ σ H x H' hp hi O y => ?_⟩
  · exact ⟨us, us[i]'(by omega), hr.sq O, by simp⟩
  · exact ⟨us, hr.sq O, by rw [hl]; exact Nat.le_refl _⟩
  · obtain ⟨rfl, y⟩ := y
    obtain ⟨d, e1, e2⟩ := (all_pinsOf O hl hp).getV (y us (hr.sq O))
    exact ⟨d, e1, O, e2⟩
def dSeqI (te : TDE) : TDI := fun ρ Q => te ρ fun r ρ1 => match r with
  | .d (.list xs) => Q xs ρ1
  | .d (.tuple xs) => Q xs ρ1
  | .o i => match ρ1[i]? with
    | some (some (.ro (.list xs))) => Q xs ρ1
    | some (some (.ro (.tuple xs))) => Q xs ρ1
    | _ => False
  | _ => False
def iSeq (K : PySem.W.Frag) (tl : TE) : TI := fun σ H R => tl σ H fun x H1 => ∃ a, x = .ref a ∧ (((∃ xs, SqL K H1 a xs) ∧ R (Itl K a) H1) ∨ ((∃ xs, SqT K H1 a xs) ∧ R (Itt K a) H1))
theorem pi_seq (he : PE X e te) : PI X tg e (iSeq X.K te) := by
  constructor
  intro pins s σ H R I h
  refine thn (he.run pins s σ H _ I h) ?_
  rintro v s1 ⟨x, H1, I1, r1, a, rfl, hq⟩
  cases r1
  have new : ∀ (o : Obj), ∀ b ∈ [s1.heap.objs.size], FpOk X pins H1 b := fun o b hb => by
    obtain rfl : b = s1.heap.objs.size := by simpa using hb
    exact I1.fpOk (Nat.le_refl _) I1.fresh
  have keep : ∀ (o : Obj), Inv X pins σ H1 { s1 with heap := s1.heap.push o } := fun o => I1.kept (t' := s1.toks) fun b u e => Heap.get?_push_of_some _ e
  rcases hq with ⟨⟨xs, hq⟩, q⟩ | ⟨⟨xs, hq⟩, q⟩
  · obtain ⟨its, rv, pl, _⟩ := I1.list hq
    apply wpAny_pyIter_list pl.isList
    exact ⟨_, [s1.heap.objs.size], _, _, H1, rfl, keep _, turn_list a _, ⟨_, Heap.get?_push_size _ rfl, rfl, rfl⟩, new default, q⟩
  · obtain ⟨its, rv, pl, _⟩ := I1.tuple hq
    apply wpAny_pyIter_tuple (show s1.heap.IsTuple a its.toArray from pl)
    exact ⟨_, [s1.heap.objs.size], _, _, H1, rfl, keep _, turn_tuple a _, ⟨_, Heap.get?_push_size _ rfl, rfl, rfl⟩, new default, q⟩
theorem pdi_seq (he : PD X F e te de) (hK : X.K = F.K := by rfl) : PDI X F tg e (iSeq F.K te) (dSeqI de) := by
  refine ⟨?_, fun pins ρ σ H R O h => ?_, fun ρ Q Q' hq h => ?_⟩
  · have := pi_seq (tg := tg) he.pe
    rw [hK] at this
    exact this
  · refine he.de.run pins ρ σ H _ O (he.de.mono _ _ _ (fun r ρ1 h1 v H1 O1 R1 => ?_) h)
    split at h1
    · rename_i xs
      have im : Im F.K (Av F pins ρ1 σ) H1 (.list xs) v := R1
      have im2 := im
      simp only [Im] at im2
      obtain ⟨a, vs, rfl, l, _⟩ := im2
      refine ⟨a, rfl, .inl ⟨⟨vs, l.sq⟩, h1 _ H1 _ (wok_list rfl) (fun p hp => ?_) (O1.push (v := .ref a) (r := .d (.list xs)) im)⟩⟩
      rcases List.mem_cons.mp hp with z | z
      · exact .inl ⟨_, _, z⟩
      · cases z
    · rename_i xs
      have im : Im F.K (Av F pins ρ1 σ) H1 (.tuple xs) v := R1
      have im2 := im
      simp only [Im] at im2
      obtain ⟨a, vs, rfl, l, _⟩ := im2
      refine ⟨a, rfl, .inr ⟨⟨vs, l.sq⟩, h1 _ H1 _ (wok_tup rfl) (fun p hp => ?_) (O1.push (v := .ref a) (r := .d (.tuple xs)) im)⟩⟩
      rcases List.mem_cons.mp hp with z | z
      · exact .inl ⟨_, _, z⟩
      · cases z
    · rename_i i
      have g0 := R1.1
      split at h1
      · rename_i xs q
        obtain ⟨u, g1, g2⟩ := O1.ent i _ q
        rw [g0] at g1; cases g1
        rcases g2 with im | ⟨a, us, ys, rfl, e1, l, t⟩
        · have im2 := im
          simp only [Im] at im2
          obtain ⟨a, vs, rfl, l, _⟩ := im2
          refine ⟨a, rfl, .inl ⟨⟨vs, l.sq⟩, h1 _ H1 _ (wok_list rfl) (fun p hp => ?_) (O1.push (v := .ref a) (r := .d (.list xs)) im)⟩⟩
          rcases List.mem_cons.mp hp with z | z
          · exact .inl ⟨_, _, z⟩
          · cases z
        · cases e1
          exact ⟨a, rfl, .inl ⟨⟨us, l.sq O1⟩, h1 _ H1 _ (wok_ro t.length l) (fun p hp => mem_pinsOf hp) (O1.pushAll t).1⟩⟩
      · rename_i xs q
        obtain ⟨u, g1, g2⟩ := O1.ent i _ q
        rw [g0] at g1; cases g1
        rcases g2 with im | ⟨a, us, ys, rfl, e1, l, t⟩
        · have im2 := im
          simp only [Im] at im2
          obtain ⟨a, vs, rfl, l, _⟩ := im2
          refine ⟨a, rfl, .inr ⟨⟨vs, l.sq⟩, h1 _ H1 _ (wok_tup rfl) (fun p hp => ?_) (O1.push (v := .ref a) (r := .d (.tuple xs)) im)⟩⟩
          rcases List.mem_cons.mp hp with z | z
          · exact .inl ⟨_, _, z⟩
          · cases z
        · cases e1
      · exact h1.elim
    · exact h1.elim
  · refine he.de.mono _ _ _ (fun r ρ1 h1 => ?_) h
    revert h1
    split
    · exact fun h1 => hq _ _ h1
    · exact fun h1 => hq _ _ h1
    · intro h1
      split at h1
      · exact hq _ _ h1
      · exact hq _ _ h1
      · exact h1.elim
    · exact fun h1 => h1
def rng (lo : Int) (n : Nat) : List PyData := (List.range n).map fun k => .int (lo + (k : Nat))
theorem rng_at {lo : Int} {n i : Nat} (h : i < n) : (rng lo n)[i]? = some (.int (lo + (i : Nat))) := by
  unfold rng
  rw [List.getElem?_map, List.getElem?_range h]; rfl
theorem rng_len {lo : Int} {n : Nat} : (rng lo n).length = n := by unfold rng; rw [List.length_map, List.length_range]
theorem wok_rng {lo : Int} {n : Nat} : WOk F (Itr lo n) (rng lo n) [] := by
  refine ⟨fun i pins ρ σ H hp hi O => by rw [rng_len] at hi; exact hi, fun pins ρ σ H hp O => by rw [rng_len]; exact Nat.le_refl _, fun i pins ρ σ H x H' hp hi O y => ?_⟩
  rw [rng_len] at hi
  obtain ⟨rfl, rfl⟩ := y
  exact ⟨_, rng_at hi, O, .int⟩
def dRng1 (t : TDA) : TDI := fun ρ Q => t ρ fun rs ρ1 => match rs with
  | [.d (.int j)] => (-(2 ^ 62) ≤ j ∧ j < 2 ^ 62) ∧ Q (rng 0 j.toNat) ρ1
  | _ => False
def dRng2 (t : TDA) : TDI := fun ρ Q => t ρ fun rs ρ1 => match rs with
  | [.d (.int i), .d (.int j)] => (-(2 ^ 62) ≤ i ∧ i < 2 ^ 62 ∧ -(2 ^ 62) ≤ j ∧ j < 2 ^ 62) ∧ Q (rng i (j - i).toNat) ρ1
  | _ => False
theorem pdi_range1 (hg : Gl X "range") (hm : X.mg "range" = none) (ha : PDA X F [e] t d) (hs : starEach [e] X.env = [(false, eval e X.env)] := by rfl) : PDI X F tg (.Call (.Name "range" p) [e] [] pos) (iRng1 t) (dRng1 d) := by
  refine ⟨pi_range1 hg hm ha.pa hs, fun pins ρ σ H R O h => ?_, fun ρ Q Q' hq h => ?_⟩
  · refine ha.da.run pins ρ σ H _ O (ha.da.mono _ _ _ (fun rs ρ1 h1 vs H1 O1 R1 => ?_) h)
    split at h1
    · rename_i j
      simp only [ROks] at R1
      obtain ⟨v, _, rfl, r1, rfl⟩ := R1
      cases (Im.int_iff.mp (show Im F.K (Av F pins ρ1 σ) H1 (.int j) v from r1))
      exact ⟨j, rfl, h1.1.1, h1.1.2, h1.2 _ H1 [] wok_rng (fun p hp => nomatch hp) O1⟩
    · exact h1.elim
  · refine ha.da.mono _ _ _ (fun rs ρ1 h1 => ?_) h
    revert h1
    split
    · exact fun h1 => ⟨h1.1, hq _ _ h1.2⟩
    · exact fun h1 => h1
end
/-- comprehensions -/
theorem pl_lc {X : Cx} {F : Fm} {elt tg iter : Expr} {ifs : List Expr} {scope : Scope} {own : List (Str × Nat)} {pos : Pos} {wi : TI} {dw : TDI} {g : TG} {dg : TDGt} {tt : TT} {dt : TDT} {te : TE} {de : TDE} (hc : X.calm = true) (hN : X.N.Nodup) (hi : PDI X F tg iter wi dw) (ok : BlkOk X.N X.env.scope scope own)
    (hg : ∀ (s : Shared) (H : Hp) (C : Addr) (cl : List (Str × Addr)) (fp : List Addr), PDG (X.blk s H scope (compEnvC scope cl C X.env) fp) F tg g dg (own.map (·.2))) (ht : ∀ (s : Shared) (H : Hp) (C : Addr) (cl : List (Str × Addr)) (fp : List Addr), PDTs (X.blk s H scope (compEnvC scope cl C X.env) fp) F ifs tt dt)
    (he : ∀ (s : Shared) (H : Hp) (C : Addr) (cl : List (Str × Addr)) (fp : List Addr), PD (X.blk s H scope (compEnvC scope cl C X.env) fp) F elt te de) (hs : ∀ x, foldedSetIterable iter X.env x = pure x := by intro _; rfl) :
    PDL X F (.ListComp elt [⟨tg, iter, ifs, 0⟩] scope pos) (tLc wi g tt te (own.map (·.2))) (dLc dw dg dt de (own.map (·.2))) := by
  refine ⟨pe_lc hc hN hi.pi ok (fun s H C cl fp => (hg s H C cl fp).pg) (fun s H C cl fp => (ht s H C cl fp).pts) (fun s H C cl fp => (he s H C cl fp).pe) hs, ?_⟩
  exact dl_lc hi.di (hg (PySem.start X.prog).1 (fun _ => none) 0 [] []).dg (ht (PySem.start X.prog).1 (fun _ => none) 0 [] []).dt (he (PySem.start X.prog).1 (fun _ => none) 0 [] []).de
end DV
namespace DV
open PySem PySem.Spec PyProof.Rows L2
open LamX (ExtN TabS Tabs CodeO)
section
variable {X : Cx} {F : Fm} {e a b c : Expr} {es : List Expr} {te ta tb : TE} {de da db : TDE} {dl : TDL} {pos p : Pos} {t : TA} {d : TDA}
def tyName : PyData → String
  | .none => "NoneType"
  | .bool _ => "bool"
  | .int _ => "int"
  | .str _ => "str"
  | .list _ => "list"
  | .tuple _ => "tuple"
  | .dict _ => "dict"
theorem tyx_of {K : PySem.W.Frag} {H : Hp} {v : V} {x : PyData} (h : Dp K H v x) : TyX K H v (.type (tyName x)) := by
  cases h with
  | non => exact .base .non
  | bl b => exact .base (.bl b)
  | int i => exact .base (.int i)
  | str z => exact .base (.str z)
  | lst l _ =>
    rcases l with (l | ⟨o, l⟩) | ⟨o, its, n, hk, hc, _⟩
    · exact .base (.lst l)
    · exact .base (.frz l)
    · exact .kList hk hc
  | tup l _ =>
    rcases l with (l | ⟨o, l⟩) | ⟨o, its, n, hk, hc, _⟩
    · exact .base (.tup l)
    · exact .fTuple l
    · exact .kTuple hk hc
  | dic l _ =>
    rcases l with l | ⟨o, l⟩
    · exact .base (.dK l)
    · exact .fDict l
def dIsi (n : String) (te : TDE) : TDE := fun ρ Q => te ρ fun r ρ1 => onV ρ1 r fun x => match kitB (tyName x) n with
  | some k => Q (.d (.bool k)) ρ1
  | _ => False
theorem pd_isinst {n : String} {x : Str} {p2 : Pos} (he : PD X F e te de) (hg : Gl X "isinstance") (hm : X.mg "isinstance" = none) (hg2 : Gl X x) (hm2 : X.mg x = none) (hv2 : bootBuiltins x = some (.type n)) (hK : X.K = F.K := by rfl) (hn : x ≠ "__name__" := by decide) (hd : (x == ("__debug__" : Str)) = false := by decide)
    (hs : starEach [e, .Name x p2] X.env = (false, eval e X.env) :: starEach [.Name x p2] X.env := by rfl) (hs2 : starEach [.Name x p2] X.env = (false, eval (.Name x p2) X.env) :: starEach [] X.env := by rfl) (hpl : (backTo pos (starEach [.Name x p2] X.env)).any (·.1) = false := by rfl) :
    PD X F (.Call (.Name "isinstance" p) [e, .Name x p2] [] pos) (tCB (rIsi F.K) (tCons te (tCons (tC (.ty n)) tNil))) (dIsi n de) := by
  refine ⟨?_, fun pins ρ σ H Q O h => ?_, fun ρ Q Q' hq h => ?_⟩
  · have := pe_callB (p := p) (pos := pos) call_isi hg hm (by decide +kernel) (pa_cons he.pe (pa_cons (pe_bltn (pos := p2) (v := .ty n) hg2 hm2 hv2 rfl hn hd) pa_nil hs2) hs) (by decide) (by decide) hs hpl
    rw [hK] at this
    exact this
  · refine he.de.run pins ρ σ H _ O (he.de.mono _ _ _ (fun r ρ1 h1 v H1 O1 R1 => ?_) h)
    obtain ⟨x, e1, h2⟩ := onV_of h1
    split at h2
    · rename_i k ek
      exact ⟨v, .ty n, _, _, k, rfl, .ty n, tyx_of (val_dp O1 R1 e1), kit_ty ek, h2 _ _ O1 (.sc .bool)⟩
    · exact h2.elim
  · refine he.de.mono _ _ _ (fun r ρ1 h1 => onV_mono h1 fun x h2 => ?_) h
    revert h2
    split
    · exact fun h2 => hq _ _ h2
    · exact fun h2 => h2
def fSqrt : FA
  | [.int i], Q => (0 ≤ i ∧ i.toNat.log2 < 13000) ∧ Q (.int ((Float64.isqrt i.toNat : Nat) : Int))
  | _, _ => False
abbrev fPow : F2 := fI CPow fun i j => .int (i ^ j.toNat)
theorem pd_pow (ha : PD X F a ta da) (hb : PD X F b tb db) : PD X F (.BinOp a .Pow b pos) (tOp (rI CPow fun i j => .int (i ^ j.toNat)) ta tb) (dOp fPow da db) := pd_op op_pow (so_I fun _ _ => .int) ha hb
/-- a chain of two comparisons of whole numbers -/
def dChainLe (f g : Int → Int → Bool) (ta tb tc : TDE) : TDE := fun ρ Q => ta ρ fun r ρ1 => tb ρ1 fun s ρ2 => onInt ρ2 r fun i => onInt ρ2 s fun j => if f i j = true then tc ρ2 fun u ρ3 => onInt ρ3 u fun k => Q (.d (.bool (g j k))) ρ3 else Q (.d (.bool false)) ρ2
theorem pd_chainI {op op' : CmpOp} {f g : Int → Int → Bool} {tc : TE} {dc : TDE} (ho : OpR X (compareOp op) (rI0 fun i j => .bl (f i j))) (ho' : OpR X (compareOp op') (rI0 fun i j => .bl (g i j))) (ha : PD X F a ta da) (hb : PD X F b tb db) (hc : PD X F c tc dc)
    (h1 : PE X (.Compare a [op, op'] [b, c] pos) (tChain (rI0 fun i j => .bl (f i j)) (rI0 fun i j => .bl (g i j)) ta tb tc)) : PD X F (.Compare a [op, op'] [b, c] pos) (tChain (rI0 fun i j => .bl (f i j)) (rI0 fun i j => .bl (g i j)) ta tb tc) (dChainLe f g da db dc) := by
  refine ⟨h1, fun pins ρ σ H Q O h => ?_, fun ρ Q Q' hq h => ?_⟩
  · refine ha.de.run pins ρ σ H _ O (ha.de.mono _ _ _ (fun r ρ1 h1 x H1 O1 R1 => ?_) h)
    refine hb.de.run (.val x r :: pins) ρ1 σ H1 _ (O1.push R1) (hb.de.mono _ _ _ (fun s ρ2 h2 y H2 O2 R2 => ?_) h1)
    obtain ⟨O3, R3⟩ := O2.popV
    obtain ⟨i, e1, h3⟩ := onInt_of h2
    obtain ⟨j, e2, h4⟩ := onInt_of h3
    cases dp_int (val_dp O3 R3 e1)
    cases dp_int (val_dp O3 R2 e2)
    refine ⟨i, j, rfl, rfl, f i j, rfl, ?_⟩
    by_cases hf : f i j = true
    · rw [if_pos hf] at h4 ⊢
      refine hc.de.run (.val (.int j) s :: pins) ρ2 σ H2 _ (O3.push R2) (hc.de.mono _ _ _ (fun u ρ3 h5 z H3 O4 R4 => ?_) h4)
      obtain ⟨k, e3, h6⟩ := onInt_of h5
      obtain ⟨O5, _⟩ := O4.popV
      cases dp_int (val_dp O5 R4 e3)
      exact ⟨j, k, rfl, rfl, h6 _ _ O5 (.sc .bool)⟩
    · rw [if_neg hf] at h4 ⊢
      exact h4 _ _ O3 (.sc .bool)
  · refine ha.de.mono _ _ _ (fun r ρ1 h1 => hb.de.mono _ _ _ (fun s ρ2 h2 => onInt_mono h2 fun i h3 => onInt_mono h3 fun j h4 => ?_) h1) h
    by_cases hf : f i j = true
    · rw [if_pos hf] at h4 ⊢
      exact hc.de.mono _ _ _ (fun u ρ3 h5 => onInt_mono h5 fun k h6 => hq _ _ h6) h4
    · rw [if_neg hf] at h4 ⊢
      exact hq _ _ h4
end
abbrev SdL := List PyData → (List PyData → Prop) → Prop
def spF (K : PySem.W.Frag) (T : List (Addr × Str)) (ks : List Kd) (S : SdL) : Sp := fun vs H Q _ => ∃ (N : Addr → Prop) (xs : List PyData), Tabs T H ∧ (∀ a, N a → ∃ o, H a = some o ∧ Mutab o) ∧ ArgsOk K N noZ H ks xs vs ∧
  S xs fun zs => ∀ p H' us, Gr H H' → Tabs T H' → H p = none → H' p = some (.lst us) → ImAll K (fun a => N a ∨ a = p) H' zs us → Q (.ref p) H'
def MonoF (S : SdL) : Prop := ∀ xs Q Q', (∀ z, Q z → Q' z) → S xs Q → S xs Q'
section
variable {P : Program} {w : World} {K : PySem.W.Frag} {mg : Str → Option Value} {base : Heap} {T : List (Addr × Str)}
/-- its body: return [..] -/
theorem fnF {x qual : Str} {st : Stmt} {f : Addr} {fd : FuncData} {N ps : List Str} {k : Nat} {ks : List Kd} {S : SdL} {e : Expr} {pos : Pos} (W : Fun K x qual st f fd) (Sc : FnScope N ps (defScope st)) (hks : ks.length = ps.length) (hst : defBody st = [.Return (some e) pos])
    (body : ∀ (cdv : Value) (A : Around) (out : List Env) (s : Shared) (H : Hp) (E : XK) (Nn : Addr → Prop), Room k (A.deeper (envOfC qual (defScope st) s.heap.objs.size f cdv)) → A.guards = some [] →
      ∃ te dl, PDL (cxOf CX0 P w K mg base N qual (defScope st) f cdv A out s H E).nox (frP K H Nn T) e te dl ∧
        ∀ xs Q, xs.length = ks.length → S xs Q → dl (rhoP N.length ks xs) fun zs _ => Q zs) : FnG P w K mg base CX0 (k + 1) f fd ps (spF K T ks S) := by
  have hpl : ps.length ≤ N.length := by have := congrArg List.length Sc.pre; rw [List.length_take] at this; omega
  refine fg_of W Sc (fun vs H Q E h => ?_) fun cdv A out s H vs Q E hr hgd h => ?_
  · obtain ⟨Nn, xs, _, _, ha, _⟩ := h
    rw [ha.len.1, hks]
  obtain ⟨Nn, xs, tb, hM, ha, hS⟩ := h
  have hN : ∀ a, Nn a → ∃ o, H a = some o := fun a z => let ⟨o, e, _⟩ := hM a z; ⟨o, e⟩
  obtain ⟨te, dl, hb, hq⟩ := body cdv A out s H E Nn hr hgd
  refine ⟨_, by rw [hst]; exact pss_one (ps_ret hb.pe), ?_⟩
  have hl := ha.len
  have noOwn : ∀ i a, ¬ OwnAt (rhoP N.length ks xs) (L2.start N vs) i a := by
    rintro i a ⟨⟨ys, h1, hm⟩, _⟩
    obtain ⟨k, x, v, e, _⟩ := ha.at (rhoP_some h1)
    subst e
    cases k <;> exact hm
  have O : Ok (frP K H Nn T) [] (rhoP N.length ks xs) (L2.start N vs) H := by
    refine ⟨?_, fun i e h1 => ?_, fun i j a h1 _ => absurd h1 (noOwn i a), fun p hp => (nomatch hp), .nil, fun a o _ e _ => e, hM, fun a h => h.elim, hN, fun i a _ h => h.elim, tb, fun a ps e => ⟨ps, e⟩⟩
    · rw [rhoP_len hl.2 (by rw [hks]; exact hpl)]
      unfold L2.start
      rw [List.length_append, List.length_map, List.length_replicate]
      omega
    · obtain ⟨k, x, v, rfl, h2, h3⟩ := ha.at (rhoP_some h1)
      refine ⟨v, ?_, arg_ent (N := Nn) rfl rfl (fun a z => z) (fun a z => ?_) h3⟩
      · have hi : i < vs.length := by
          rcases Nat.lt_or_ge i vs.length with z | z
          · exact z
          · rw [List.getElem?_eq_none z] at h2; cases h2
        unfold L2.start
        rw [List.getElem?_append_left (by simpa using hi), List.getElem?_map, h2]; rfl
      · rcases z with z | ⟨j, z⟩ | z
        · exact z
        · exact absurd z (noOwn j a)
        · cases z
  refine hb.dl.run [] _ _ H _ O (hb.dl.mono _ _ _ (fun zs ρ q p H' O' => ?_) (hq xs _ hl.2 hS))
  obtain ⟨us, h1, h2, h3, h4⟩ := O'.pin _ (List.mem_cons_self ..)
  have hp : H p = none := h3
  refine q p H' us ⟨fun a o e => O'.fr a o (fun z => z) e, O'.tb.2⟩ O'.tb.1 hp h1 (h2.go ⟨fun _ _ _ e _ => e, fun a z => .inl ?_⟩)
  rcases z with z | rfl
  · exact .inl z
  · exact .inr (.inr (List.mem_cons_self ..))
end
section
variable {X : Cx} {F : Fm} {e : Expr} {es : List Expr} {t : TA} {d : TDA} {pos : Pos}
/-- kept in mind, from one heap to the next -/
theorem Ok.pushL2 {pins : List Pin} {ρ : Rho} {σ : L2.St} {H H' : Hp} (O : Ok F pins ρ σ H) (g : Gr H H') (tb : Tabs F.T H') {p : Addr} {xs : List PyData} {vs : List V} (hp : H p = none) (hp' : H' p = some (.lst vs)) (h : ImAll F.K (fun a => Av F pins ρ σ a ∨ a = p) H' xs vs) : Ok F (.acc p xs :: pins) ρ σ H' := by
  have avE : ∀ a, Av F (.acc p xs :: pins) ρ σ a → Av F pins ρ σ a ∨ a = p := fun a h => by
    rcases h with h | h | h
    · exact .inl (.inl h)
    · exact .inl (.inr (.inl h))
    · rcases List.mem_cons.mp (show a ∈ p :: accs pins from h) with rfl | h
      · exact .inr rfl
      · exact .inl (.inr (.inr h))
  have G : Go (Av F pins ρ σ) (Av F (.acc p xs :: pins) ρ σ) H H' := ⟨fun a o _ h m => g.ext a o h m, fun a h => (avE a h).imp_right fun z => by rw [z]; exact hp⟩
  have G2 : Go (fun a => Av F pins ρ σ a ∨ a = p) (Av F (.acc p xs :: pins) ρ σ) H' H' := ⟨fun a o _ h _ => h, fun a h => .inl (avE a h)⟩
  have nAv : ¬ Av F pins ρ σ p := fun h => by obtain ⟨o, h⟩ := O.avH h; rw [hp] at h; cases h
  refine ⟨O.len, fun i e h => ?_, O.own, fun q hq => ?_, ?_, fun a o n h m => g.ext _ _ (O.fr a o n h m) m, fun a h => ?_, O.ln, O.h0, O.lf, O.tb.gr g tb⟩
  · obtain ⟨v, h1, h2⟩ := O.ent i e h
    exact ⟨v, h1, EntOk.goM G h2 fun a us _ z _ mu => g.ext _ _ z mu.nt⟩
  · rcases List.mem_cons.mp hq with rfl | hq
    · refine ⟨vs, hp', h.go G2, ?_, fun ⟨i, z⟩ => nAv (.inr (.inl ⟨i, z⟩))⟩
      cases e : F.H0 p with
      | none => rfl
      | some o =>
        by_cases hl : F.L p
        · exact absurd (.inl (O.ln p hl)) nAv
        · exact absurd hp (O.fr0 p o hl e)
    · have h := O.pin q hq
      cases q with
      | val v r => exact ROk.go G h
      | acc a ys =>
        obtain ⟨us, h1, h2, h3⟩ := h
        exact ⟨us, g.ext _ _ h1 nt_lst, h2.go G, h3⟩
      | frz a o =>
        obtain ⟨u, h1⟩ := h
        exact ⟨u, g.ext _ _ h1 nt_frz⟩
  · exact List.nodup_cons.mpr ⟨fun h => nAv (.inr (.inr h)), O.acs⟩
  · obtain ⟨o, h, m⟩ := O.nh a h
    exact ⟨o, g.ext _ _ h m.nt, m⟩
def dCallF (ks : List Kd) (S : SdL) (t : TDA) : TDL := fun ρ Q => t ρ fun rs ρ1 => onArgs ρ1 ks rs fun xs => S xs fun zs => Q zs ρ1
theorem pl_callF {ks : List Kd} {S : SdL} {k : Nat} {f : Addr} {fd : FuncData} {ps : List Str} {x : Str} {p : Pos} (G : FnG X.prog X.w X.K X.mg X.base CX0 k f fd ps (spF F.K F.T ks S)) (hS : MonoF S) (hr : Room k X.A) (hgd : X.A.guards = some []) (hg : Gl X x) (hm : X.mg x = some (.ref f)) (hk : PySem.W.keepIn X.K (.ref f) = true) (hb : Binds X.K fd ps [])
    (ha : PDA X F (e :: es) t d) (hdb : (x == ("__debug__" : Str)) = false := by decide) (he : starEach (e :: es) X.env = (false, eval e X.env) :: starEach es X.env := by rfl) (hpl : (backTo pos (starEach es X.env)).any (·.1) = false := by rfl) :
    PDL X F (.Call (.Name x p) (e :: es) [] pos) (fun σ H Q => t σ H fun vs H1 => spF F.K F.T ks S vs H1 Q E0) (dCallF ks S d) := by
  refine ⟨pe_callG G hr hgd hg hm hk hb ha.pa hdb he hpl, fun pins ρ σ H Q O h => ?_, fun ρ Q Q' hq h => ha.da.mono _ _ _ (fun rs ρ1 h1 => onArgs_mono h1 fun xs h2 => hS _ _ _ (fun z => hq _ _) h2) h⟩
  refine ha.da.run pins ρ σ H _ O (ha.da.mono _ _ _ (fun rs ρ1 h1 vs H1 O1 R1 => ?_) h)
  obtain ⟨xs, e, h2⟩ := onArgs_of h1
  exact ⟨Av F pins ρ1 σ, xs, O1.tb.1, fun a ha => O1.avM ha, args_ok O1 (fun a z => z.elim) (fun _ _ _ _ _ _ z => z) R1 e, hS _ _ _ (fun zs q p H' us g tb hp hp' im => q p H' (O1.pushL2 g tb hp hp' im)) h2⟩
end
section
variable {X : Cx} {F : Fm} {a b : Expr} {ta tb : TE} {da db : TDE} {pos : Pos}
theorem pt_cmpD {op : CmpOp} {r : R2} {f : F2} (ho : OpR X (compareOp op) r) (hm : behindInMarks op b = false) (hf : SO F.K r f) (ha : PD X F a ta da) (hb : PD X F b tb db) : PDT X F (.Compare a [op] [b] pos) (tTest (tOp r ta tb)) (dTV (dOp f da db)) :=
  ⟨pt_cmpR ho ha.pe hb.pe hm, dt_tv (k := tTest) (fun _ => rfl) (de_op hf ha.de hb.de)⟩
theorem pt_lt (ha : PD X F a ta da) (hb : PD X F b tb db) : PDT X F (.Compare a [.Lt] [b] pos) (tTest (tOp (rI0 fun i j => .bl (decide (i < j))) ta tb)) (dTV (dOp fLt da db)) := pt_cmpD op_lt (nomark _) (so_I0 fun _ _ => .bool) ha hb
theorem pt_le (ha : PD X F a ta da) (hb : PD X F b tb db) : PDT X F (.Compare a [.LtE] [b] pos) (tTest (tOp (rI0 fun i j => .bl (decide (i ≤ j))) ta tb)) (dTV (dOp fLe da db)) := pt_cmpD op_le (nomark _) (so_I0 fun _ _ => .bool) ha hb
theorem pt_gt (ha : PD X F a ta da) (hb : PD X F b tb db) : PDT X F (.Compare a [.Gt] [b] pos) (tTest (tOp (rI0 fun i j => .bl (decide (j < i))) ta tb)) (dTV (dOp fGt da db)) := pt_cmpD op_gt (nomark _) (so_I0 fun _ _ => .bool) ha hb
theorem pt_ge (ha : PD X F a ta da) (hb : PD X F b tb db) : PDT X F (.Compare a [.GtE] [b] pos) (tTest (tOp (rI0 fun i j => .bl (decide (j ≤ i))) ta tb)) (dTV (dOp fGe da db)) := pt_cmpD op_ge (nomark _) (so_I0 fun _ _ => .bool) ha hb
theorem pt_eq (hu : X.A.units + 64 < cLine) (hK : X.K = F.K) (ha : PD X F a ta da) (hb : PD X F b tb db) : PDT X F (.Compare a [.Eq] [b] pos) (tTest (tOp (rEqD F.K) ta tb)) (dTV (dOp fEq da db)) := by
  have h := pt_cmpD (X := X) (F := F) (pos := pos) (op_eqD hu) (nomark _) (by rw [hK]; exact so_Eq) ha hb
  rw [hK] at h; exact h
theorem pt_ne (hu : X.A.units + 64 < cLine) (hK : X.K = F.K) (ha : PD X F a ta da) (hb : PD X F b tb db) : PDT X F (.Compare a [.NotEq] [b] pos) (tTest (tOp (rNeD F.K) ta tb)) (dTV (dOp fNe da db)) := by
  have h := pt_cmpD (X := X) (F := F) (pos := pos) (op_neD hu) (nomark _) (by rw [hK]; exact so_Ne) ha hb
  rw [hK] at h; exact h
end
end DV
namespace DV
open PySem PySem.Spec PyProof.Rows L2
open LamX (ExtN TabS Tabs CodeO)
mutual
def okd : PyData → Bool
  | .none => true
  | .bool _ => true
  | .int i => decide (i.natAbs.log2 < 1000)
  | .str x => (PyData.str x).canLay0 && x.cps.toList.all fun c => decide (c < 16 ^ 8)
  | .list xs => okds xs
  | .tuple xs => okds xs
  | .dict _ => false
def okds : List PyData → Bool
  | [] => true
  | x :: xs => okd x && okds xs
end
mutual
def cost : PyData → Nat
  | .none => 5
  | .bool _ => 5
  | .int _ => 1001
  | .str x => 10 * x.length + 2
  | .list xs => costs xs + 3
  | .tuple xs => costs xs + 3
  | .dict _ => 0
def costs : List PyData → Nat
  | [] => 0
  | x :: xs => cost x + 2 + costs xs
end
theorem piled_costs : ∀ {ts : List Str} {xs : List PyData}, ts = PyData.shownAll xs → (∀ x ∈ xs, x.shown.length ≤ cost x) → (Str.join ", " ts).length ≤ costs xs
  | _, [], h, _ => by
    rw [PyData.shownAll_nil] at h; subst h
    show (Str.join ", " []).length ≤ 0
    decide
  | _, [x], h, hx => by
    rw [PyData.shownAll_cons, PyData.shownAll_nil] at h; subst h
    have := hx x (List.mem_cons_self ..)
    show x.shown.length ≤ cost x + 2 + 0
    omega
  | _, x :: y :: xs, h, hx => by
    rw [PyData.shownAll_cons] at h; subst h
    have ih := piled_costs (ts := PyData.shownAll (y :: xs)) (xs := y :: xs) rfl fun z hz => hx z (List.mem_cons_of_mem _ hz)
    have h1 := hx x (List.mem_cons_self ..)
    have e : Str.join ", " (x.shown :: PyData.shownAll (y :: xs)) = x.shown ++ ", " ++ Str.join ", " (PyData.shownAll (y :: xs)) := by
      rw [PyData.shownAll_cons]; rfl
    rw [e, strLen_append, strLen_append]
    have e2 : (Str.ofString ", ").length = 2 := by decide
    have e3 : costs (x :: y :: xs) = cost x + 2 + costs (y :: xs) := by simp only [costs]
    rw [e3]
    omega
mutual
theorem shown_le : ∀ d : PyData, okd d = true → d.shown.length ≤ cost d
  | .none, _ => by rw [PyData.shown_none]; simp only [cost]; decide
  | .bool b, _ => by rw [PyData.shown_bool]; simp only [cost]; cases b <;> decide
  | .int i, h => by
    simp only [okd, decide_eq_true_eq] at h
    rw [PyData.shown_int, PySem.ofString_length]
    simp only [cost]
    exact int_text_length_le (k := 1000) (by decide) h
  | .str x, h => by
    simp only [okd, Bool.and_eq_true, List.all_eq_true, decide_eq_true_eq] at h
    rw [PyData.shown_str]
    simp only [cost]
    exact StrLaws.reprText_len x h.2
  | .list xs, h => by
    simp only [okd] at h
    rw [PyData.shown_list, strLen_append, strLen_append]
    have := piled_costs (ts := PyData.shownAll xs) rfl (shown_les xs h)
    simp only [cost]
    have e1 : (Str.ofString "[").length = 1 := by decide
    have e2 : (Str.ofString "]").length = 1 := by decide
    omega
  | .tuple xs, h => by
    simp only [okd] at h
    rw [PyData.shown_tuple, strLen_append, strLen_append]
    have := piled_costs (ts := PyData.shownAll xs) rfl (shown_les xs h)
    simp only [cost]
    have e1 : (Str.ofString "(").length = 1 := by decide
    have e2 : (Str.ofString (if (xs.length == 1) = true then ",)" else ")")).length ≤ 2 := by split <;> decide
    omega
  | .dict _, h => by simp only [okd] at h; cases h
theorem shown_les : ∀ xs : List PyData, okds xs = true → ∀ x ∈ xs, x.shown.length ≤ cost x
  | [], _, x, hx => nomatch hx
  | y :: ys, h, x, hx => by
    simp only [okds, Bool.and_eq_true] at h
    rcases List.mem_cons.mp hx with e | hx
    · rw [e]; exact shown_le y h.1
    · exact shown_les ys h.2 x hx
end
mutual
theorem okd_facts : ∀ d : PyData, okd d = true → d.canLay0 = true ∧ d.showable = true ∧ d.hasDict = false
  | .none, _ => ⟨by simp [PyData.canLay0], by simp [PyData.showable], by simp [PyData.hasDict]⟩
  | .bool b, _ => ⟨by simp [PyData.canLay0], by simp [PyData.showable], by simp [PyData.hasDict]⟩
  | .int i, h => by
    simp only [okd, decide_eq_true_eq] at h
    exact ⟨by simp [PyData.canLay0], by simp only [PyData.showable, decide_eq_true_eq]; omega, by simp [PyData.hasDict]⟩
  | .str x, h => by
    simp only [okd, Bool.and_eq_true] at h
    exact ⟨h.1, by simp [PyData.showable], by simp [PyData.hasDict]⟩
  | .list xs, h => by
    simp only [okd] at h
    simp only [PyData.canLay0, PyData.showable, PyData.hasDict]
    exact okds_facts xs h
  | .tuple xs, h => by
    simp only [okd] at h
    simp only [PyData.canLay0, PyData.showable, PyData.hasDict]
    exact okds_facts xs h
  | .dict _, h => by simp only [okd] at h; cases h
theorem okds_facts : ∀ xs : List PyData, okds xs = true → PyData.canLayAll0 xs = true ∧ PyData.showableAll xs = true ∧ PyData.hasDictAll xs = false
  | [], _ => ⟨by simp [PyData.canLayAll0], by simp [PyData.showableAll], by simp [PyData.hasDictAll]⟩
  | y :: ys, h => by
    simp only [okds, Bool.and_eq_true] at h
    obtain ⟨a1, a2, a3⟩ := okd_facts y h.1
    obtain ⟨b1, b2, b3⟩ := okds_facts ys h.2
    simp only [PyData.canLayAll0, PyData.showableAll, PyData.hasDictAll]
    exact ⟨by rw [a1, b1]; rfl, by rw [a2, b2]; rfl, by rw [a3, b3]; rfl⟩
end
/-- data that can be compared and shown -/
structure Fine (d : PyData) : Prop where
  ok : okd d = true
  deep : d.depth ≤ 60
  few : cost d ≤ 16000000
theorem Fine.shaped {d : PyData} (h : Fine d) : SeqAt.shaped d = true := by
  unfold SeqAt.shaped
  rw [Bool.and_eq_true, decide_eq_true_eq]
  exact ⟨(okd_facts d h.ok).1, by have := h.deep; omega⟩
theorem Fine.plain {d : PyData} (h : Fine d) : Plain d := by
  refine ⟨(okd_facts d h.ok).2.1, (okd_facts d h.ok).2.2, h.deep, Nat.le_trans (shown_le d h.ok) (Nat.le_trans h.few ?_)⟩
  rw [sizeLine_eq]; decide
theorem Fine.refl {d : PyData} (h : Fine d) : PyData.eqv d d = true := SeqAt.eqv_refl d (okd_facts d h.ok).1
end DV
namespace DV
open PySem PySem.Spec PyProof.Rows L2
open LamX (ExtN TabS Tabs CodeO)
theorem few_le {n : Nat} (h : n ≤ 100000) : Few n := Nat.le_trans h (by rw [sizeLine_eq]; decide)
theorem sh_int {i : Int} : SeqAt.shaped (.int i) = true := by simp [SeqAt.shaped, PyData.canLay0, PyData.depth]
theorem eqv_int {i j : Int} : PyData.eqv (.int i) (.int j) = decide (i = j) := by
  simp only [PyData.eqv]; exact Bool.beq_eq_decide_eq i j
theorem on0 {x : PyData} {xs : List PyData} {f : PyData → Prop} : onAt (x :: xs) 0 f = f x := by
  have e : atI (x :: xs) 0 = some x := by
    unfold atI ixN
    rw [if_pos (by omega), if_pos (by rw [List.length_cons]; omega)]; rfl
  unfold onAt; rw [e]
theorem on1 {x y : PyData} {xs : List PyData} {f : PyData → Prop} : onAt (x :: y :: xs) 1 f = f y := by
  have e : atI (x :: y :: xs) 1 = some y := by
    unfold atI ixN
    rw [if_pos (by omega), if_pos (by rw [List.length_cons, List.length_cons]; omega)]; rfl
  unfold onAt; rw [e]
theorem on2 {x y z : PyData} {xs : List PyData} {f : PyData → Prop} : onAt (x :: y :: z :: xs) 2 f = f z := by
  have e : atI (x :: y :: z :: xs) 2 = some z := by
    unfold atI ixN
    rw [if_pos (by omega), if_pos (by rw [List.length_cons, List.length_cons, List.length_cons]; omega)]; rfl
  unfold onAt; rw [e]
theorem on3 {x y z u : PyData} {xs : List PyData} {f : PyData → Prop} : onAt (x :: y :: z :: u :: xs) 3 f = f u := by
  have e : atI (x :: y :: z :: u :: xs) 3 = some u := by
    unfold atI ixN
    rw [if_pos (by omega), if_pos (by rw [List.length_cons, List.length_cons, List.length_cons, List.length_cons]; omega)]; rfl
  unfold onAt; rw [e]
theorem cutD_sub {xs : List PyData} {lo hi : Option Int} : ∀ y ∈ cutD xs lo hi, y ∈ xs := fun y h => List.mem_of_mem_drop (List.mem_of_mem_take h)
theorem cutD_len {xs : List PyData} {lo hi : Option Int} : (cutD xs lo hi).length ≤ xs.length := by
  unfold cutD
  rw [List.length_take, List.length_drop]; omega
theorem ite_t {c : Prop} [Decidable c] {A B : Prop} (h : c) (k : A) : if decide c = true then A else B := by rw [decide_eq_true h, if_pos rfl]; exact k
theorem ite_f {c : Prop} [Decidable c] {A B : Prop} (h : ¬ c) (k : B) : if decide c = true then A else B := by rw [decide_eq_false h, if_neg (by decide)]; exact k
theorem ite_b {c : Prop} [Decidable c] {A B : Prop} (k : c → A) (m : ¬ c → B) : if decide c = true then A else B := by
  by_cases h : c
  · exact ite_t h (k h)
  · exact ite_f h (m h)
theorem cmw {i j : Int} {a b : Nat} (ha : i.natAbs < 2 ^ a) (hb : j.natAbs < 2 ^ b) (h0 : 0 < a := by decide) (h1 : 0 < b := by decide) (h : a + b ≤ 1000000 := by decide) : CMulW i j := wide_mul ha hb h0 h1 h
theorem cdw {i j : Int} {b : Nat} (h : 0 < j) (hb : j.natAbs < 2 ^ b) (h0 : 0 < b := by decide) (h9 : b ≤ 9000 := by decide) : CDivW i j := wide_div h hb h0 h9
/-- one statement, what follows kept shut -/
theorem seqI {t u : TDS} {DD : DEnds} {ρ : Rho} (h : ∀ k, k = u DD → t { DD with nx := k } ρ) : dSeq t u DD ρ := h _ rfl
theorem tn0 : Int.toNat 0 = 0 := rfl
theorem tn1 : Int.toNat 1 = 1 := rfl
theorem tn2 : Int.toNat 2 = 2 := rfl
theorem tn3 : Int.toNat 3 = 3 := rfl
/-- the state of the draws, behind at most m of them -/
def Bag (m : Nat) (bag : List PyData) : Prop := ∃ (a b c : Int) (cells : List Int), bag = [.int a, .int b, .int c, .list (cells.map .int)] ∧ 0 ≤ a ∧ 0 ≤ b ∧ b < 4294967296 ∧ 0 ≤ c ∧ c ≤ m ∧ cells.length ≤ 63 ∧ ∀ k ∈ cells, (0 : Int) ≤ k
theorem Bag.up {m n : Nat} {bag : List PyData} (h : Bag m bag) (k : m ≤ n) : Bag n bag := by
  obtain ⟨a, b, c, cells, e, h1, h2, h3, h4, h5, h6⟩ := h
  exact ⟨a, b, c, cells, e, h1, h2, h3, h4, by omega, h6⟩
def S_take : Sb := fun bag xs Q => ∃ (m : Nat) (n : Int), Bag m bag ∧ m < 2 ^ 60 ∧ xs = [.int n] ∧ 0 < n ∧ n.natAbs < 2 ^ 8000 ∧ ∀ (v : Int) bag', 0 ≤ v → v < n → Bag (m + 1) bag' → Q (.int v) bag'
theorem m_take : MonoB S_take := fun bag xs Q Q' hq ⟨m, n, h1, h2, h3, h4, h5, h6⟩ => ⟨m, n, h1, h2, h3, h4, h5, fun v b a1 a2 a3 => hq _ _ (h6 v b a1 a2 a3)⟩
def td_take : TDS := dSeq
          (dIfS (dTV (dOp fEq (dIx (dVar 0) (dC (PyData.int 0))) (dC (PyData.int 0))))
            (dSeq
              (dAsg
                (dIx
                  (dOfL
                    (dCat
                      (dOfL
                        (dSlL (dIx (dVar 0) (dC (PyData.int 3))) (dPart (dIx (dVar 0) (dC (PyData.int 2)))) dNoPart))
                      (dOfL (dLst (dCons (dC (PyData.int 0)) dNil)))))
                  (dC (PyData.int 0)))
                (setR 2))
              (dSeq (dAddItem 0 (dC (PyData.int 2)) (dC (PyData.int 1)))
                (dSeq
                  (dIfS (dTV (dOp fGe (dVar 2) (dOp fPow (dC (PyData.int 10)) (dC (PyData.int 18)))))
                    (dSetItem 0 (dVar 2) (dC (PyData.int 0))) dNext)
                  (dSeq
                    (dAsg
                      (dOp fAdd
                        (dOp fAdd (dOp fMul (dIx (dVar 0) (dC (PyData.int 1))) (dC (PyData.int 48271)))
                          (dOp fMod (dCB fInt (dCons (dVar 2) dNil)) (dC (PyData.int 2147483647))))
                        (dOp fMul (dC (PyData.int 7919)) (dIx (dVar 0) (dC (PyData.int 2)))))
                      (setR 3))
                    (dSetItem 0 (dOp fMod (dCB fInt (dCons (dVar 3) dNil)) (dC (PyData.int 2147483647)))
                      (dC (PyData.int 1)))))))
            dNext)
          (dSeq
            (dIfS (dTV (dOp fGt (dIx (dVar 0) (dC (PyData.int 0))) (dC (PyData.int 0))))
              (dSeq (dAsg (dOp fMod (dCB fInt (dCons (dIx (dVar 0) (dC (PyData.int 0))) dNil)) (dVar 1)) (setR 4))
                (dSeq
                  (dSetItem 0 (dOp fDiv (dCB fInt (dCons (dIx (dVar 0) (dC (PyData.int 0))) dNil)) (dVar 1))
                    (dC (PyData.int 0)))
                  (dRet (dVar 4))))
              dNext)
            (dSeq
              (dAsg
                (dOp fMod
                  (dCB fInt
                    (dCons
                      (dOp fMul (dOp fAdd (dIx (dVar 0) (dC (PyData.int 1))) (dC (PyData.int 1)))
                        (dC (PyData.int 39373)))
                      dNil))
                  (dC (PyData.int 1000000007)))
                (setR 5))
              (dSeq
                (dAsg
                  (dOp fMod
                    (dCB fInt
                      (dCons
                        (dOp fMul
                          (dOp fMod (dCB fInt (dCons (dOp fMul (dVar 5) (dVar 5)) dNil)) (dC (PyData.int 998244353)))
                          (dC (PyData.int 30011)))
                        dNil))
                    (dC (PyData.int 998244353)))
                  (setR 6))
                (dRet (dOp fMod (dCB fInt (dCons (dOp fDiv (dVar 6) (dC (PyData.int 7))) dNil)) (dVar 1))))))
/-- behind the first if -/
def td_take2 : TDS := (dSeq
            (dIfS (dTV (dOp fGt (dIx (dVar 0) (dC (PyData.int 0))) (dC (PyData.int 0))))
              (dSeq (dAsg (dOp fMod (dCB fInt (dCons (dIx (dVar 0) (dC (PyData.int 0))) dNil)) (dVar 1)) (setR 4))
                (dSeq
                  (dSetItem 0 (dOp fDiv (dCB fInt (dCons (dIx (dVar 0) (dC (PyData.int 0))) dNil)) (dVar 1))
                    (dC (PyData.int 0)))
                  (dRet (dVar 4))))
              dNext)
            (dSeq
              (dAsg
                (dOp fMod
                  (dCB fInt
                    (dCons
                      (dOp fMul (dOp fAdd (dIx (dVar 0) (dC (PyData.int 1))) (dC (PyData.int 1)))
                        (dC (PyData.int 39373)))
                      dNil))
                  (dC (PyData.int 1000000007)))
                (setR 5))
              (dSeq
                (dAsg
                  (dOp fMod
                    (dCB fInt
                      (dCons
                        (dOp fMul
                          (dOp fMod (dCB fInt (dCons (dOp fMul (dVar 5) (dVar 5)) dNil)) (dC (PyData.int 998244353)))
                          (dC (PyData.int 30011)))
                        dNil))
                    (dC (PyData.int 998244353)))
                  (setR 6))
                (dRet (dOp fMod (dCB fInt (dCons (dOp fDiv (dVar 6) (dC (PyData.int 7))) dNil)) (dVar 1))))))
theorem rd_take2 {m : Nat} {n a b c : Int} {cells : List Int} {x2 x3 : Option Ent} {Q : PyData → List PyData → Prop} (hn : 0 < n) (hn2 : n.natAbs < 2 ^ 8000) (h0 : 0 ≤ a) (h1 : 0 ≤ b) (h2 : b < 4294967296) (h3 : 0 ≤ c) (h4 : c ≤ m) (h5 : cells.length ≤ 63) (h6 : ∀ k ∈ cells, (0 : Int) ≤ k)
    (q : ∀ (v : Int) bag', 0 ≤ v → v < n → Bag m bag' → Q (.int v) bag') : td_take2 { nx := fun ρ => retB (.d .none) ρ Q, rt := fun r ρ => retB r ρ Q } [some (.own [.int a, .int b, .int c, .list (cells.map .int)]), some (.d (.int n)), x2, x3, none, none, none] := by
  unfold td_take2
  simp only [dSeq, dAsg, dCB, dCons, dNil, dVar, onVs, vals, val, slot, setR, fGcd, dIfS, dTV, dOp, dBin, onV2, fLt, fLe, fGt, fGe, fAdd, fSub, fMul, fDiv, fMod, fI0, dC, dUn, onV, fNeg, dNext, dRet, dTup, onD, dats, fDivZ, fI, fPow, Few, retP, fAbs, fInt, fMax, fMin, fLen, fSqrt, fEq, fNe, dNot, dAnd, dOr, dAndV, dOrV, dNotV, dIfE, dDrop, dRetN, dPar, noO, dSetL, dLst, dOfL, dOwnM, onOwn, onDat, kAppend, kInsert, dSetItem, dAddItem, dIx, onItems, items, onInt, dNoPart, dPart, dSlice, onL, litems, dSlL, dCat, onM, mitems, dTupOf, dSeqI, dRng1, dRng2, dCallP, dCallB, dCallF, noSelf, onArgs, dats2, dIsi, tyName, dYes, dgTup, dgCons, dgNil, retB, dBreak, dCont, ne_eq, not_false_eq_true, true_and, and_true, List.getElem?_cons_zero, List.getElem?_cons_succ, List.set_cons_zero, List.set_cons_succ, Option.map, List.length_cons, List.length_nil, on0, on1, on2, on3]
  refine ite_b (fun ha => ?_) fun ha => ?_
  · refine ⟨hn, cdw hn hn2, ⟨by decide, by decide⟩, ?_⟩
    exact q _ _ (Int.emod_nonneg _ (by clear hn2; omega)) (Int.emod_lt_of_pos _ hn) ⟨a / n, b, c, cells, rfl, Int.ediv_nonneg h0 (by clear hn2; omega), h1, h2, h3, h4, h5, h6⟩
  · have e0 : ∀ x k : Int, 0 < k → 0 ≤ x % k ∧ x % k < k := fun x k hk => ⟨Int.emod_nonneg _ (by omega), Int.emod_lt_of_pos _ hk⟩
    refine ⟨cmw (a := 40) (b := 20) (by omega) (by decide), by decide, ?_⟩
    obtain ⟨u1, u2⟩ := e0 ((b + 1) * 39373) 1000000007 (by decide)
    generalize (b + 1) * 39373 % 1000000007 = u at u1 u2 ⊢
    refine ⟨cmw (a := 40) (b := 40) (by omega) (by omega), by decide, ?_⟩
    obtain ⟨w1, w2⟩ := e0 (u * u) 998244353 (by decide)
    generalize u * u % 998244353 = w at w1 w2 ⊢
    refine ⟨cmw (a := 40) (b := 20) (by omega) (by decide), by decide, cdw (b := 20) (by decide) (by decide), hn, ?_⟩
    exact q _ _ (e0 _ n hn).1 (e0 _ n hn).2 ⟨a, b, c, cells, rfl, h0, h1, h2, h3, h4, h5, h6⟩
theorem rd_take {bag xs : List PyData} {Q : PyData → List PyData → Prop} (hS : S_take bag xs Q) : td_take { nx := fun ρ => retB (.d .none) ρ Q, rt := fun r ρ => retB r ρ Q } (some (.own bag) :: rhoP 6 [.d] xs) := by
  obtain ⟨m, n, ⟨a, b, c, cells, rfl, h0, h1, h2, h3, h4, h5, h6⟩, hm, rfl, hn, hn2, q⟩ := hS
  have e : (some (.own [.int a, .int b, .int c, .list (cells.map .int)]) :: rhoP 6 [.d] [.int n] : Rho) = [some (.own [.int a, .int b, .int c, .list (cells.map .int)]), some (.d (.int n)), none, none, none, none, none] := rfl
  rw [e]
  show dSeq _ td_take2 _ _
  unfold dSeq
  simp only [dSeq, dAsg, dCB, dCons, dNil, dVar, onVs, vals, val, slot, setR, fGcd, dIfS, dTV, dOp, dBin, onV2, fLt, fLe, fGt, fGe, fAdd, fSub, fMul, fDiv, fMod, fI0, dC, dUn, onV, fNeg, dNext, dRet, dTup, onD, dats, fDivZ, fI, fPow, Few, retP, fAbs, fInt, fMax, fMin, fLen, fSqrt, fEq, fNe, dNot, dAnd, dOr, dAndV, dOrV, dNotV, dIfE, dDrop, dRetN, dPar, noO, dSetL, dLst, dOfL, dOwnM, onOwn, onDat, kAppend, kInsert, dSetItem, dAddItem, dIx, onItems, items, onInt, dNoPart, dPart, dSlice, onL, litems, dSlL, dCat, onM, mitems, dTupOf, dSeqI, dRng1, dRng2, dCallP, dCallB, dCallF, noSelf, onArgs, dats2, dIsi, tyName, dYes, dgTup, dgCons, dgNil, retB, dBreak, dCont, ne_eq, not_false_eq_true, true_and, and_true, List.getElem?_cons_zero, List.getElem?_cons_succ, List.set_cons_zero, List.set_cons_succ, Option.map, List.length_cons, List.length_nil, on0, on1, on2, on3, sh_int, eqv_int]
  refine ite_b (fun ha => ?_) fun ha => ?_
  · -- the next cell
    have hc : ∃ (k : Int) (rest : List PyData), cutD (cells.map PyData.int) (some c) none ++ [PyData.int 0] = .int k :: rest ∧ 0 ≤ k := by
      cases e1 : cutD (cells.map PyData.int) (some c) none with
      | nil => exact ⟨0, [], rfl, by decide⟩
      | cons y ys =>
        have hy : y ∈ cells.map PyData.int := cutD_sub (lo := some c) (hi := none) y (by rw [e1]; exact List.mem_cons_self ..)
        obtain ⟨k, hk, rfl⟩ := List.mem_map.mp hy
        exact ⟨k, ys ++ [PyData.int 0], rfl, h6 k hk⟩
    obtain ⟨k, rest, e1, hk⟩ := hc
    have hl : (cutD (cells.map PyData.int) (some c) none).length ≤ 63 := Nat.le_trans cutD_len (by rw [List.length_map]; exact h5)
    rw [e1]
    simp only [dSeq, dAsg, dCB, dCons, dNil, dVar, onVs, vals, val, slot, setR, fGcd, dIfS, dTV, dOp, dBin, onV2, fLt, fLe, fGt, fGe, fAdd, fSub, fMul, fDiv, fMod, fI0, dC, dUn, onV, fNeg, dNext, dRet, dTup, onD, dats, fDivZ, fI, fPow, Few, retP, fAbs, fInt, fMax, fMin, fLen, fSqrt, fEq, fNe, dNot, dAnd, dOr, dAndV, dOrV, dNotV, dIfE, dDrop, dRetN, dPar, noO, dSetL, dLst, dOfL, dOwnM, onOwn, onDat, kAppend, kInsert, dSetItem, dAddItem, dIx, onItems, items, onInt, dNoPart, dPart, dSlice, onL, litems, dSlL, dCat, onM, mitems, dTupOf, dSeqI, dRng1, dRng2, dCallP, dCallB, dCallF, noSelf, onArgs, dats2, dIsi, tyName, dYes, dgTup, dgCons, dgNil, retB, dBreak, dCont, ne_eq, not_false_eq_true, true_and, and_true, List.getElem?_cons_zero, List.getElem?_cons_succ, List.set_cons_zero, List.set_cons_succ, Option.map, List.length_cons, List.length_nil, on0, on1, on2, on3, sh_int, eqv_int, tn0, tn1, tn2, tn3]
    refine ⟨few_le (by omega), few_le (by omega), ⟨by decide, by decide⟩, ⟨by decide, by decide, by decide⟩, ?_⟩
    refine ite_b (fun hk2 => ?_) fun hk2 => ?_
    · refine ⟨⟨by decide, by decide⟩, cmw (a := 40) (b := 20) (by omega) (by decide), by decide, cmw (a := 20) (b := 62) (by decide) (by omega), by decide, ⟨by decide, by decide⟩, ?_⟩
      have z := Int.emod_lt_of_pos (b * 48271 + k % 2147483647 + 7919 * (c + 1)) (show (0 : Int) < 2147483647 by decide)
      exact rd_take2 (m := m + 1) hn hn2 hk (Int.emod_nonneg _ (by decide)) (by omega) (by omega) (by omega) h5 h6 q
    · refine ⟨cmw (a := 40) (b := 20) (by omega) (by decide), by decide, cmw (a := 20) (b := 62) (by decide) (by omega), by decide, ⟨by decide, by decide⟩, ?_⟩
      have z := Int.emod_lt_of_pos (b * 48271 + k % 2147483647 + 7919 * (c + 1)) (show (0 : Int) < 2147483647 by decide)
      exact rd_take2 (m := m + 1) hn hn2 h0 (Int.emod_nonneg _ (by decide)) (by omega) (by omega) (by omega) h5 h6 q
  · exact rd_take2 hn hn2 h0 h1 h2 h3 (by omega) h5 h6 q
/-- one of some things -/
def S_some : Sb := fun bag xs Q => ∃ (m : Nat) (ys : List PyData), Bag m bag ∧ m < 2 ^ 60 ∧ (xs = [.list ys] ∨ xs = [.tuple ys]) ∧ 0 < ys.length ∧ ys.length ≤ 100000 ∧ ∀ y bag', y ∈ ys → Bag (m + 1) bag' → Q y bag'
theorem m_some : MonoB S_some := fun bag xs Q Q' hq ⟨m, ys, h1, h2, h3, h4, h5, h6⟩ => ⟨m, ys, h1, h2, h3, h4, h5, fun y b a1 a2 => hq _ _ (h6 y b a1 a2)⟩
theorem onAt_mem {ys : List PyData} {v : Int} {f : PyData → Prop} (h0 : 0 ≤ v) (h1 : v < ys.length) (h : ∀ y ∈ ys, f y) : onAt ys v f := by
  have hv : v.toNat < ys.length := by omega
  have e : atI ys v = some ys[v.toNat] := by
    unfold atI ixN
    rw [if_pos h0, if_pos h1]
    exact List.getElem?_eq_getElem hv
  unfold onAt; rw [e]
  exact h _ (List.getElem_mem hv)
/-- the draws at their start -/
def S_bag : SdL := fun xs Q => ∃ ns : List Int, xs = [.list (ns.map .int)] ∧ ∀ bag, Bag 0 bag → Q bag
theorem m_bag : MonoF S_bag := fun xs Q Q' hq ⟨ns, h1, h2⟩ => ⟨ns, h1, fun b hb => hq _ (h2 b hb)⟩
theorem rd_bag {xs : List PyData} {Q : List PyData → Prop} (hS : S_bag xs Q) :
    dLst (dCons (dC (PyData.int 0)) (dCons (dC (PyData.int 1234567891)) (dCons (dC (PyData.int 0)) (dCons (dOfL
                    (dLc (dSeqI (dOfL (dSlL (dVar 0) dNoPart (dPart (dC (PyData.int 63)))))) (setR 1) dYes
                      (dCB fAbs (dCons (dVar 1) dNil)) [1])) dNil)))) (rhoP 2 [.ro] xs) fun zs _ => Q zs := by
  obtain ⟨ns, rfl, q⟩ := hS
  have e : rhoP 2 [.ro] [.list (ns.map .int)] = [some (.ro (.list (ns.map .int))), none] := rfl
  rw [e]
  have hl : (cutD (ns.map PyData.int) none (some 63)).length ≤ 63 := by
    unfold cutD
    rw [List.length_take]
    have : HT.sIx (ns.map PyData.int).length (ns.map PyData.int).length (some 63) ≤ 63 := by
      rw [show (63 : Int) = ((63 : Nat) : Int) from rfl, HT.sIx_nat]; omega
    omega
  have hi : ∀ (i : Nat) (x : PyData), (cutD (ns.map PyData.int) none (some 63))[i]? = some x → ∃ k : Int, x = .int k := fun i x h => by
    have := cutD_sub x (List.mem_of_getElem? h)
    obtain ⟨k, _, rfl⟩ := List.mem_map.mp this
    exact ⟨k, rfl⟩
  simp only [dLc, dSeq, dAsg, dCB, dCons, dNil, dVar, onVs, vals, val, slot, setR, fGcd, dIfS, dTV, dOp, dBin, onV2, fLt, fLe, fGt, fGe, fAdd, fSub, fMul, fDiv, fMod, fI0, dC, dUn, onV, fNeg, dNext, dRet, dTup, onD, dats, fDivZ, fI, fPow, Few, retP, fAbs, fInt, fMax, fMin, fLen, fSqrt, fEq, fNe, dNot, dAnd, dOr, dAndV, dOrV, dNotV, dIfE, dDrop, dRetN, dPar, noO, dSetL, dLst, dOfL, dOwnM, onOwn, onDat, kAppend, kInsert, dSetItem, dAddItem, dIx, onItems, items, onInt, dNoPart, dPart, dSlice, onL, litems, dSlL, dCat, onM, mitems, dTupOf, dSeqI, dRng1, dRng2, dCallP, dCallB, dCallF, noSelf, onArgs, dats2, dIsi, tyName, dYes, dgTup, dgCons, dgNil, retB, dBreak, dCont, ne_eq, not_false_eq_true, true_and, and_true, List.getElem?_cons_zero, List.getElem?_cons_succ, List.set_cons_zero, List.set_cons_succ, Option.map, List.length_cons, List.length_nil]
  refine ⟨fun i hi => ?_, fun i acc ρ => i ≤ 63 ∧ ρ = [some (.ro (.list (ns.map .int))), none] ∧ ∃ cs : List Int, acc = cs.map .int ∧ cs.length = i ∧ ∀ k ∈ cs, (0 : Int) ≤ k, ⟨by omega, rfl, [], rfl, rfl, fun k hk => nomatch hk⟩, fun i x acc ρ hx hI => ?_, fun acc ρ hI => ?_⟩
  · obtain rfl : i = 1 := by simpa using hi
    rfl
  · obtain ⟨hi0, rfl, cs, rfl, hc, hp⟩ := hI
    obtain ⟨k, rfl⟩ := hi i x hx
    have hil : i < 63 := by
      have := (List.getElem?_eq_some_iff.mp hx).1
      omega
    simp only [dSeq, dAsg, dCB, dCons, dNil, dVar, onVs, vals, val, slot, setR, fGcd, dIfS, dTV, dOp, dBin, onV2, fLt, fLe, fGt, fGe, fAdd, fSub, fMul, fDiv, fMod, fI0, dC, dUn, onV, fNeg, dNext, dRet, dTup, onD, dats, fDivZ, fI, fPow, Few, retP, fAbs, fInt, fMax, fMin, fLen, fSqrt, fEq, fNe, dNot, dAnd, dOr, dAndV, dOrV, dNotV, dIfE, dDrop, dRetN, dPar, noO, dSetL, dLst, dOfL, dOwnM, onOwn, onDat, kAppend, kInsert, dSetItem, dAddItem, dIx, onItems, items, onInt, dNoPart, dPart, dSlice, onL, litems, dSlL, dCat, onM, mitems, dTupOf, dSeqI, dRng1, dRng2, dCallP, dCallB, dCallF, noSelf, onArgs, dats2, dIsi, tyName, dYes, dgTup, dgCons, dgNil, retB, dBreak, dCont, ne_eq, not_false_eq_true, true_and, and_true, List.getElem?_cons_zero, List.getElem?_cons_succ, List.set_cons_zero, List.set_cons_succ, Option.map, List.length_cons, List.length_nil, wipeR, if_pos]
    refine ⟨few_le (by rw [List.length_map]; omega), by omega, cs ++ [if k < 0 then -k else k], by rw [List.map_append]; rfl, by rw [List.length_append, hc]; rfl, fun j hj => ?_⟩
    rcases List.mem_append.mp hj with h | h
    · exact hp j h
    · obtain rfl : j = if k < 0 then -k else k := by simpa using h
      split <;> omega
  · obtain ⟨hi0, rfl, cs, rfl, hc, hp⟩ := hI
    exact ⟨few_le (by decide), q _ ⟨0, 1234567891, 0, cs, rfl, by decide, by decide, by decide, by decide, by decide, by omega, hp⟩⟩
/-- the same, and shown the same -/
def S_alike : Sd
  | [x, y], Q => (x = y ∧ Fine x) ∧ Q (.bool true)
  | _, _ => False
theorem m_alike : MonoP S_alike := fun xs Q Q' hq h => by
  unfold S_alike at h ⊢
  split at h
  · exact ⟨h.1, hq _ h.2⟩
  · exact h.elim
theorem rd_alike {xs : List PyData} {Q : PyData → Prop} (hS : S_alike xs Q) :
    dRet (dAndV (dOp fEq (dVar 0) (dVar 1)) (dOp fEqS (dCB fRepr (dCons (dVar 0) dNil)) (dCB fRepr (dCons (dVar 1) dNil)))) { nx := fun _ => Q .none, rt := fun r ρ => retP r ρ Q } (rhoP 2 [.ro, .ro] xs) := by
  unfold S_alike at hS
  split at hS
  · rename_i x y
    obtain ⟨⟨rfl, hf⟩, q⟩ := hS
    have e : rhoP 2 [.ro, .ro] [x, x] = [some (.ro x), some (.ro x)] := rfl
    rw [e]
    simp only [dSeq, dAsg, dCB, dCons, dNil, dVar, onVs, vals, val, slot, setR, fGcd, dIfS, dTV, dOp, dBin, onV2, fLt, fLe, fGt, fGe, fAdd, fSub, fMul, fDiv, fMod, fI0, dC, dUn, onV, fNeg, dNext, dRet, dTup, onD, dats, fDivZ, fI, fPow, Few, retP, fAbs, fInt, fMax, fMin, fLen, fSqrt, fEq, fNe, dNot, dAnd, dOr, dAndV, dOrV, dNotV, dIfE, dDrop, dRetN, dPar, noO, dSetL, dLst, dOfL, dOwnM, onOwn, onDat, kAppend, kInsert, dSetItem, dAddItem, dIx, onItems, items, onInt, dNoPart, dPart, dSlice, onL, litems, dSlL, dCat, onM, mitems, dTupOf, dSeqI, dRng1, dRng2, dCallP, dCallB, dCallF, noSelf, onArgs, dats2, dIsi, tyName, dYes, dgTup, dgCons, dgNil, retB, dBreak, dCont, ne_eq, not_false_eq_true, true_and, and_true, List.getElem?_cons_zero, List.getElem?_cons_succ, List.set_cons_zero, List.set_cons_succ, Option.map, List.length_cons, List.length_nil, fRepr, fEqS, hf.shaped, hf.refl, if_pos]
    exact ⟨hf.plain, hf.plain, by simpa only [decide_true] using q⟩
  · exact hS.elim
theorem law_args {K : PySem.W.Frag} {T : List (Addr × Str)} {H : Hp} {a : Addr} {ns : List Int} {n : Nat} {S : Sd} {E : XK} (tb : Tabs T H) (hl : ns.length ≤ n) (hS : SqL K H a (ns.map V.int)) (hm : MonoP S) (h : ∀ ns : List Int, ns.length ≤ n → S [.list (ns.map .int)] fun z => z = .bool true) :
    spP K T [.ro] S [.ref a] H (fun v _ => v = .bl true) E := by
  refine ⟨fun _ => False, [.list (ns.map .int)], tb, fun a z => z.elim, ?_, hm _ _ _ (fun z hz v H' _ _ im => ?_) (h ns hl)⟩
  · simp only [ArgsOk]
    refine ⟨.ref a, [], rfl, .inr ⟨a, ns.map .int, ns.map .int, rfl, rfl, ?_, ImAll.ints ns⟩, rfl⟩
    rcases hS with h | h
    · exact .inl ⟨h, fun z => z⟩
    · exact .inr (.inr h)
  · subst hz
    exact Im.bool_iff.mp im
end DV
namespace DV
open PySem PySem.Spec PyProof.Rows L2
open LamX (ExtN TabS Tabs CodeO)
section
variable {X : Cx} {F : Fm} {a b c e : Expr} {es : List Expr} {ta tb tc te : TE} {da db dc de : TDE} {pos : Pos} {t : TA} {d : TDA}
def isNo : PyData → Bool
  | .none => true
  | _ => false
def dIsN (te : TDE) : TDE := fun ρ Q => te ρ fun r ρ1 => onV ρ1 r fun x => Q (.d (.bool (isNo x))) ρ1
def dNotN (te : TDE) : TDE := fun ρ Q => te ρ fun r ρ1 => onV ρ1 r fun x => Q (.d (.bool (!isNo x))) ρ1
def fNotInD : F2
  | x, .list ds, Q => (SeqAt.shaped x = true ∧ SeqAt.shaped (.list ds) = true) ∧ Q (.bool (!ds.any fun z => PyData.eqv z x))
  | _, _, _ => False
def dAug (i : Nat) (f : Int → Int → Int) (te : TDE) : TDS := fun DD ρ => onInt ρ (.o i) fun n => te ρ fun r ρ1 => onInt ρ1 r fun m => DD.nx (ρ1.set i (some (.d (.int (f n m)))))
theorem ds_aug {i : Nat} {f : Int → Int → Int} {op : Operator} {x : Str} {p2 : Pos} (hN : X.N.Nodup) (he : PD X F e te de) (ho : PIp X op (ipI f)) (hf : ¬ F.fix i) (hi : X.N[i]? = some x := by rfl) (hx : Loc X.env.scope x := by first | exact Or.inl rfl | exact Or.inr rfl) (hfn : X.fn x = true ∨ X.env.scope.names.lookup x = some .local := by first | exact .inl rfl | exact .inr rfl) :
    PDS X F (.AugAssign (.Name x p2) op e pos) (tAug i te (ipI f)) (dAug i f de) := by
  refine ⟨ps_aug hN hi hx he.pe ho hfn, fun pins ρ σ H D DD O S R h => ?_⟩
  obtain ⟨n, e1, h⟩ := onInt_of h
  have e1 : slot ρ i = some (.int n) := e1
  have hs : ∃ v, σ[i]? = some (some v) := by
    unfold slot at e1
    split at e1
    · rename_i y q
      obtain ⟨v, h1, _⟩ := O.ent i _ q; exact ⟨v, h1⟩
    · cases e1
    · rename_i y q
      obtain ⟨v, h1, _⟩ := O.ent i _ q; exact ⟨v, h1⟩
    · cases e1
  obtain ⟨v, hv⟩ := hs
  cases dp_int (slot_dp O hv e1)
  refine ⟨.int n, hv, ?_⟩
  refine he.de.run pins ρ σ H _ O (he.de.mono _ _ _ (fun r ρ1 h1 u H1 O1 R1 => ?_) h)
  obtain ⟨m, e2, h2⟩ := onInt_of h1
  cases dp_int (val_dp O1 R1 e2)
  exact ⟨n, m, rfl, rfl, R.nx _ _ _ (O1.put (S.fr hf) (fun _ z => by cases z; exact id) fun g e => by cases e; exact ⟨_, rfl, by simp only [EntOk, Im]⟩) h2⟩
def asInts : List PyData → Option (List Int)
  | [] => some []
  | .int i :: xs => (asInts xs).map (i :: ·)
  | _ :: _ => none
def asBools : List PyData → Option (List Bool)
  | [] => some []
  | .bool i :: xs => (asBools xs).map (i :: ·)
  | _ :: _ => none
theorem asInts_map : ∀ ns : List Int, asInts (ns.map .int) = some ns
  | [] => rfl
  | n :: ns => by show (asInts (ns.map .int)).map (n :: ·) = _; rw [asInts_map ns]; rfl
theorem asBools_map : ∀ ns : List Bool, asBools (ns.map .bool) = some ns
  | [] => rfl
  | n :: ns => by show (asBools (ns.map .bool)).map (n :: ·) = _; rw [asBools_map ns]; rfl
theorem asInts_dp {K : PySem.W.Frag} {H : Hp} : ∀ {xs : List PyData} {vs : List V} {ns : List Int}, DpAll K H vs xs → asInts xs = some ns → vs = ns.map V.int
  | [], _, _, h, e => by cases h; cases e; rfl
  | .int i :: xs, _, _, h, e => by
    cases h with
    | cons h1 h2 =>
      simp only [asInts] at e
      cases e1 : asInts xs with
      | none => rw [e1] at e; cases e
      | some ms =>
        rw [e1] at e; cases e
        rw [asInts_dp h2 e1, dp_int h1]; rfl
  | .none :: _, _, _, _, e => by cases e
  | .bool _ :: _, _, _, _, e => by cases e
  | .str _ :: _, _, _, _, e => by cases e
  | .list _ :: _, _, _, _, e => by cases e
  | .tuple _ :: _, _, _, _, e => by cases e
  | .dict _ :: _, _, _, _, e => by cases e
theorem asBools_dp {K : PySem.W.Frag} {H : Hp} : ∀ {xs : List PyData} {vs : List V} {ns : List Bool}, DpAll K H vs xs → asBools xs = some ns → vs = ns.map V.bl
  | [], _, _, h, e => by cases h; cases e; rfl
  | .bool i :: xs, _, _, h, e => by
    cases h with
    | cons h1 h2 =>
      simp only [asBools] at e
      cases e1 : asBools xs with
      | none => rw [e1] at e; cases e
      | some ms =>
        rw [e1] at e; cases e
        rw [asBools_dp h2 e1, dp_bool h1]; rfl
  | .none :: _, _, _, _, e => by cases e
  | .int _ :: _, _, _, _, e => by cases e
  | .str _ :: _, _, _, _, e => by cases e
  | .list _ :: _, _, _, _, e => by cases e
  | .tuple _ :: _, _, _, _, e => by cases e
  | .dict _ :: _, _, _, _, e => by cases e
def fAllB : FA
  | [.list xs], Q => match asBools xs with
    | some ns => Q (.bool (ns.all id))
    | _ => False
  | _, _ => False
theorem sc_all {K : PySem.W.Frag} : SC K (rAll K) fAllB := by
  constructor
  · intro H vs ds Q h q
    unfold fAllB at q
    split at q
    · split at q
      · rename_i xs ns e
        obtain ⟨v, rfl, h1⟩ := dpall1 h
        cases h1 with
        | lst h2 h3 => exact ⟨_, ns, rfl, by rw [← asBools_dp h3 e]; exact h2, q _ .bool⟩
      · exact q.elim
    · exact q.elim
  · intro ds Q Q' hq q
    unfold fAllB at q ⊢
    split at q
    · split at q
      · rename_i xs ns e
        exact hq _ q
      · exact q.elim
    · exact q.elim
/-- max, min of a list of whole numbers -/
def fMaxL : FA
  | [.list xs], Q => match asInts xs with
    | some ns => 0 < ns.length ∧ ∀ m, m ∈ ns → (∀ y, y ∈ ns → y ≤ m) → Q (.int m)
    | _ => False
  | _, _ => False
theorem sc_maxL {K : PySem.W.Frag} : SC K (L2.rMax K) fMaxL := by
  constructor
  · intro H vs ds Q h q
    unfold fMaxL at q
    split at q
    · split at q
      · rename_i xs ns e
        obtain ⟨v, rfl, h1⟩ := dpall1 h
        cases h1 with
        | lst h2 h3 => exact ⟨_, ns, rfl, by rw [← asInts_dp h3 e]; exact h2, q.1, fun m hm hy => q.2 m hm hy _ .int⟩
      · exact q.elim
    · exact q.elim
  · intro ds Q Q' hq q
    unfold fMaxL at q ⊢
    split at q
    · split at q
      · rename_i xs ns e
        exact ⟨q.1, fun m hm hy => hq _ (q.2 m hm hy)⟩
      · exact q.elim
    · exact q.elim
def dListOf (t : TDA) : TDL := fun ρ Q => t ρ fun rs ρ1 => match rs with
  | [r] => onItems ρ1 r fun xs => Q xs ρ1
  | _ => False
theorem pl_listOf {p : Pos} (hg : Gl X "list") (hm : X.mg "list" = none) (ha : PDA X F [e] t d) (hK : X.K = F.K := by rfl) (he : starEach [e] X.env = (false, eval e X.env) :: starEach [] X.env := by rfl) (hpl : (backTo pos (starEach [] X.env)).any (·.1) = false := by rfl) :
    PDL X F (.Call (.Name "list" p) [e] [] pos) (tCB (fun xs H Q => ∃ p ys, xs = [.ref p] ∧ (SqL F.K H p ys ∨ SqT F.K H p ys) ∧ ∀ l, H l = none → Q (.ref l) (upd H l (.lst ys))) t) (dListOf d) := by
  refine ⟨?_, fun pins ρ σ H Q O h => ?_, fun ρ Q Q' hq h => ?_⟩
  · have := pe_callTy (p := p) (pos := pos) call_list_of hg hm (by decide +kernel) ha.pa (by decide) (by decide) he hpl
    rw [hK] at this
    exact this
  · refine ha.da.run pins ρ σ H _ O (ha.da.mono _ _ _ (fun rs ρ1 h1 vs H1 O1 R1 => ?_) h)
    split at h1
    · rename_i r
      simp only [ROks] at R1
      obtain ⟨v, _, rfl, r1, rfl⟩ := R1
      obtain ⟨xs, e1, q⟩ := onItems_of h1
      obtain ⟨p, us, rfl, l, im⟩ := items_ok O1 r1 e1
      exact ⟨p, us, rfl, l, fun l' hl => q _ _ (O1.pushL hl im)⟩
    · exact h1.elim
  · refine ha.da.mono _ _ _ (fun rs ρ1 h1 => ?_) h
    revert h1
    split
    · exact fun h1 => onItems_mono h1 fun xs => hq _ _
    · exact fun h1 => h1
def titems : R → Option (List PyData)
  | .d (.tuple xs) => some xs
  | _ => none
def onT (r : R) (f : List PyData → Prop) : Prop := match titems r with
  | some xs => f xs
  | _ => False
theorem onT_of {r : R} {f : List PyData → Prop} (h : onT r f) : ∃ xs, r = .d (.tuple xs) ∧ f xs := by
  unfold onT at h
  split at h
  · rename_i xs e
    cases r <;> first | cases e | skip
    rename_i x
    cases x <;> first | cases e | skip
    exact ⟨_, rfl, h⟩
  · exact h.elim
theorem onT_mono {r : R} {f g : List PyData → Prop} (h : onT r f) (k : ∀ xs, f xs → g xs) : onT r g := by
  unfold onT at h ⊢
  split at h
  · exact k _ h
  · exact h.elim
theorem im_tup {A : Addr → Prop} {H : Hp} {xs : List PyData} {v : V} (h : Im F.K A H (.tuple xs) v) : ∃ a vs, v = .ref a ∧ SqT F.K H a vs ∧ ImAll F.K A H xs vs := by
  simp only [Im] at h
  obtain ⟨a, vs, e, l, t⟩ := h
  exact ⟨a, vs, e, l.sq, t⟩
def dCatT (ta tb : TDE) : TDE := dBin ta tb fun r s ρ Q => onT r fun xs => onT s fun ys => Few (xs.length + ys.length) ∧ Q (.d (.tuple (xs ++ ys))) ρ
theorem pd_catT (ha : PD X F a ta da) (hb : PD X F b tb db) (hK : X.K = F.K := by rfl) : PD X F (.BinOp a .Add b pos) (tOp (rCatA F.K) ta tb) (dCatT da db) := by
  refine ⟨?_, de_bin ha.de hb.de (fun pins ρ σ H x y r s Q O R1 R2 h => ?_) fun r s ρ Q Q' hq h => onT_mono h fun xs h => onT_mono h fun ys h => ⟨h.1, hq _ _ h.2⟩⟩
  · have := pe_op (pos := pos) op_catA ha.pe hb.pe
    rw [hK] at this
    exact this
  obtain ⟨xs, e1, h2⟩ := onT_of h
  subst e1
  obtain ⟨ys, e2, hl, q⟩ := onT_of h2
  subst e2
  have i1 : Im F.K (Av F pins ρ σ) H (.tuple xs) x := R1
  have i2 : Im F.K (Av F pins ρ σ) H (.tuple ys) y := R2
  obtain ⟨p, vs, rfl, l1, im1⟩ := im_tup i1
  obtain ⟨p2, us, rfl, l2, im2⟩ := im_tup i2
  refine ⟨p, p2, vs, us, rfl, rfl, l1, l2, by rw [im1.length, im2.length]; exact hl, fun hz => ?_, fun _ hz => ?_, fun _ _ p' hp => ?_⟩
  · have : xs = [] := List.length_eq_zero_iff.mp (by rw [← im1.length, hz]; rfl)
    subst this
    exact q _ _ O i2
  · have : ys = [] := List.length_eq_zero_iff.mp (by rw [← im2.length, hz]; rfl)
    subst this
    rw [List.append_nil] at q
    exact q _ _ O i1
  · obtain ⟨O2, i3⟩ := newTup O hp (im1.append im2)
    exact q _ _ O2 i3
variable {lo hi : Option Expr} {tl th : TO} {dlo dhi : TDO} {p2 : Pos}
def dSlT (te : TDE) (tl th : TDO) : TDE := fun ρ Q => dSlice te tl th (fun r lo hi ρ3 => onT r fun xs => Q (.d (.tuple (cutD xs lo hi))) ρ3) ρ
theorem pd_sliceT (he : PD X F e te de) (hl : PDO X F lo tl dlo) (hh : PDO X F hi th dhi) (hK : X.K = F.K := by rfl) : PD X F (.Subscript e (.Slice lo hi none p2) pos) (tSl (rSlA F.K) te tl th) (dSlT de dlo dhi) := by
  refine ⟨?_, fun pins ρ σ H Q O h => ?_, fun ρ Q Q' hq h => he.de.mono _ _ _ (fun r ρ1 h1 => hl.d.mono _ _ _ (fun l ρ2 h2 => hh.d.mono _ _ _ (fun u ρ3 h3 => onT_mono h3 fun xs => hq _ _) h2) h1) h⟩
  · have := pe_slice (pos := pos) (p2 := p2) sl_tupA he.pe hl.po hh.po
    rw [hK] at this
    exact this
  refine he.de.run pins ρ σ H _ O (he.de.mono _ _ _ (fun r ρ1 h1 v H1 O1 R1 => ?_) h)
  refine hl.d.run (.val v r :: pins) ρ1 σ H1 _ (O1.push R1) (hl.d.mono _ _ _ (fun l ρ2 h2 H2 O2 => ?_) h1)
  refine hh.d.run (.val v r :: pins) ρ2 σ H2 _ O2 (hh.d.mono _ _ _ (fun u ρ3 h3 H3 O3 => ?_) h2)
  obtain ⟨O4, R4⟩ := O3.popV
  obtain ⟨xs, rfl, q⟩ := onT_of h3
  have i1 : Im F.K (Av F pins ρ3 σ) H3 (.tuple xs) v := R4
  obtain ⟨p, vs, rfl, sq, im⟩ := im_tup i1
  refine ⟨p, vs, rfl, sq, fun hw => ?_, fun _ p' hp => ?_⟩
  · have : cutD xs l u = xs := by
      unfold cutD
      rw [← im.length, hw.1, hw.2, List.drop_zero, Nat.sub_zero, im.length, List.take_length]
    rw [this] at q
    exact q _ _ O4 i1
  · obtain ⟨O5, i3⟩ := newTup O4 hp (im.cut l u)
    exact q _ _ O5 i3
end
end DV
namespace DV
open PySem PySem.Spec PyProof.Rows L2
open LamX (ExtN TabS Tabs CodeO)
section
variable {X : Cx} {F : Fm} {tg e e2 a b c : Expr} {te te2 ta tb tc : TE} {de de2 da db dc : TDE} {pos p : Pos} {t : TA} {d : TDA} {dl : TDL}
theorem units65 {k : Nat} {A : Around} (r : Room k A) : A.units + 65 < cLine := by have := r.un; omega
theorem pd_chain {op op' : CmpOp} {f g : Int → Int → Bool} (ho : OpR X (compareOp op) (rI0 fun i j => .bl (f i j))) (ho' : OpR X (compareOp op') (rI0 fun i j => .bl (g i j))) (ha : PD X F a ta da) (hb : PD X F b tb db) (hc : PD X F c tc dc)
    (hm : lastMarks [op, op'] [b, c] = false := by with_unfolding_all rfl) : PD X F (.Compare a [op, op'] [b, c] pos) (tChain (rI0 fun i j => .bl (f i j)) (rI0 fun i j => .bl (g i j)) ta tb tc) (dChainLe f g da db dc) := pd_chainI ho ho' ha hb hc (pe_chain ho ho' ha.pe hb.pe hc.pe hm)
theorem pt_chain {op op' : CmpOp} {f g : Int → Int → Bool} (ho : OpR X (compareOp op) (rI0 fun i j => .bl (f i j))) (ho' : OpR X (compareOp op') (rI0 fun i j => .bl (g i j))) (ha : PD X F a ta da) (hb : PD X F b tb db) (hc : PD X F c tc dc)
    (hm : lastMarks [op, op'] [b, c] = false := by with_unfolding_all rfl) : PDT X F (.Compare a [op, op'] [b, c] pos) (tTest (tChain (rI0 fun i j => .bl (f i j)) (rI0 fun i j => .bl (g i j)) ta tb tc)) (dTV (dChainLe f g da db dc)) :=
  ⟨L2.pt_chain ho ho' ha.pe hb.pe hc.pe hm, dt_tv (k := tTest) (fun _ => rfl) (DV.pd_chain (pos := pos) ho ho' ha hb hc hm).de⟩
def dPar3 (i j l : Nat) (t : TDA) : TDS := fun DD ρ => t ρ fun rs ρ1 => match rs with
  | [r, s, u] => noO s ∧ noO u ∧ setR i r ρ1 fun ρ2 => setR j s ρ2 fun ρ3 => setR l u ρ3 DD.nx
  | _ => False
theorem de_l (h : DL F te dl) : DE F te (dOfL dl) := by
  refine ⟨?_, ?_⟩
  · intro pins ρ σ H Q O hq
    refine h.run pins ρ σ H _ O (h.mono _ _ _ (fun xs ρ1 h1 p H1 O1 => ?_) hq)
    obtain ⟨O2, i2⟩ := O1.popL
    exact h1 _ _ O2 i2
  · intro ρ Q Q' hq hh
    exact h.mono _ _ _ (fun xs ρ1 h1 => hq _ _ h1) hh
def dRetL (tl : TDL) : TDS := fun DD ρ => tl ρ DD.rl
end
theorem ds_setLc {X : Cx} {F : Fm} {i : Nat} {y : Str} {py : Pos} {elt tg iter : Expr} {ifs : List Expr} {scope : Scope} {own : List (Str × Nat)} {pos spos : Pos} {wi : TI} {dw : TDI} {g : TG} {dg : TDGt} {tt : TT} {dt : TDT} {te : TE} {de : TDE} (hc : X.calm = true) (hN : X.N.Nodup) (hi : PDI X F tg iter wi dw) (ok : BlkOk X.N X.env.scope scope own)
    (hg : ∀ (s : Shared) (H : Hp) (C : Addr) (cl : List (Str × Addr)) (fp : List Addr), PDG (X.blk s H scope (compEnvC scope cl C X.env) fp) F tg g dg (own.map (·.2))) (ht : ∀ (s : Shared) (H : Hp) (C : Addr) (cl : List (Str × Addr)) (fp : List Addr), PDTs (X.blk s H scope (compEnvC scope cl C X.env) fp) F ifs tt dt)
    (he : ∀ (s : Shared) (H : Hp) (C : Addr) (cl : List (Str × Addr)) (fp : List Addr), PD (X.blk s H scope (compEnvC scope cl C X.env) fp) F elt te de) (hf : ¬ F.fix i)
    (hs : ∀ x, foldedSetIterable iter X.env x = pure x := by intro _; rfl) (hy : X.N[i]? = some y := by rfl) (hyl : X.env.scope.names.lookup y = some .local := by rfl)
    (hsw : swapsWith (.ListComp elt [⟨tg, iter, ifs, 0⟩] scope pos) (some (.Name y py)) spos.line X.env = pure true := by rfl) :
    PDS X F (.Assign [.Name y py] (.ListComp elt [⟨tg, iter, ifs, 0⟩] scope pos) spos) (tAsg (tLc wi g tt te (own.map (·.2))) (gName i)) (dAsg (dOfL (dLc dw dg dt de (own.map (·.2)))) (setR i)) := by
  refine ⟨ps_setLc hc hN hy hyl hsw hi.pi ok (fun s H C cl fp => (hg s H C cl fp).pg) (fun s H C cl fp => (ht s H C cl fp).pts) (fun s H C cl fp => (he s H C cl fp).pe) hs, ?_⟩
  exact dsa (de_l (dl_lc hi.di (hg (PySem.start X.prog).1 (fun _ => none) 0 [] []).dg (ht (PySem.start X.prog).1 (fun _ => none) 0 [] []).dt (he (PySem.start X.prog).1 (fun _ => none) 0 [] []).de)) (dg_name i) fun j hj => by rw [List.mem_singleton.mp hj]; exact hf
end DV
namespace DV
open PySem PySem.Spec PyProof.Rows L2
open LamX (ExtN TabS Tabs CodeO)
/-- a list stands at a while the values pl are in mind -/
def LstAt (F : Fm) (pl : List Pin) (a : Addr) (xs : List PyData) : Prop := ∀ (pins : List Pin) (ρ : Rho) (σ : L2.St) (H : Hp), (∀ q ∈ pl, q ∈ pins) → Ok F pins ρ σ H → ∃ vs, SqL F.K H a vs ∧ ImAll F.K (Av F pins ρ σ) H xs vs
def TupAt (F : Fm) (pl : List Pin) (a : Addr) (xs : List PyData) : Prop := ∀ (pins : List Pin) (ρ : Rho) (σ : L2.St) (H : Hp), (∀ q ∈ pl, q ∈ pins) → Ok F pins ρ σ H → ∃ vs, SqT F.K H a vs ∧ ImAll F.K (Av F pins ρ σ) H xs vs
section
variable {X : Cx} {F : Fm} {tg e e2 a b c : Expr} {te te2 ta tb tc : TE} {de de2 da db dc : TDE} {pos p tpos : Pos} {t : TA} {d : TDA} {dl : TDL} {elts : List Expr} {kk : Nat}
theorem LstAt.up {pl pm : List Pin} {a : Addr} {xs : List PyData} (h : LstAt F pl a xs) (k : ∀ q ∈ pl, q ∈ pm) : LstAt F pm a xs := fun pins ρ σ H hp O => h pins ρ σ H (fun q hq => hp q (k q hq)) O
theorem TupAt.up {pl pm : List Pin} {a : Addr} {xs : List PyData} (h : TupAt F pl a xs) (k : ∀ q ∈ pl, q ∈ pm) : TupAt F pm a xs := fun pins ρ σ H hp O => h pins ρ σ H (fun q hq => hp q (k q hq)) O
def isD (pl : List Pin) : Prop := ∀ p ∈ pl, IsV p
/-- what is walked or zipped: a list, or a tuple -/
def seqs (ρ : Rho) : R → Option (Bool × List PyData)
  | .d (.list xs) => some (false, xs)
  | .d (.tuple xs) => some (true, xs)
  | .o i => match ρ[i]? with
    | some (some (.ro (.list xs))) => some (false, xs)
    | some (some (.ro (.tuple xs))) => some (true, xs)
    | _ => none
  | _ => none
theorem seqs_ok {pins : List Pin} {ρ : Rho} {σ : L2.St} {H : Hp} (O : Ok F pins ρ σ H) {r : R} {v : V} {k : Bool} {xs : List PyData} (h : ROk F (Av F pins ρ σ) ρ σ H r v) (e : seqs ρ r = some (k, xs)) :
    ∃ a pl, v = .ref a ∧ isD pl ∧ Ok F (pl ++ pins) ρ σ H ∧ Av F (pl ++ pins) ρ σ = Av F pins ρ σ ∧ (if k = true then TupAt F pl a xs else LstAt F pl a xs) := by
  have lst : ∀ {ys : List PyData}, Im F.K (Av F pins ρ σ) H (.list ys) v → ∃ a pl, v = .ref a ∧ isD pl ∧ Ok F (pl ++ pins) ρ σ H ∧ Av F (pl ++ pins) ρ σ = Av F pins ρ σ ∧ LstAt F pl a ys := by
    intro ys im
    have im2 := im
    simp only [Im] at im2
    obtain ⟨a, vs, rfl, l, _⟩ := im2
    refine ⟨a, [.val (.ref a) (.d (.list ys))], rfl, fun p hp => ?_, O.push (v := .ref a) (r := .d (.list ys)) im, rfl, fun pins2 ρ2 σ2 H2 hp O2 => ?_⟩
    · rcases List.mem_cons.mp hp with z | z
      · exact .inl ⟨_, _, z⟩
      · cases z
    · have h : Im F.K (Av F pins2 ρ2 σ2) H2 (.list ys) (.ref a) := O2.pin _ (hp _ (List.mem_cons_self ..))
      simp only [Im] at h
      obtain ⟨q, vs, e, l, im⟩ := h
      cases e
      exact ⟨vs, l.sq, im⟩
  have tup : ∀ {ys : List PyData}, Im F.K (Av F pins ρ σ) H (.tuple ys) v → ∃ a pl, v = .ref a ∧ isD pl ∧ Ok F (pl ++ pins) ρ σ H ∧ Av F (pl ++ pins) ρ σ = Av F pins ρ σ ∧ TupAt F pl a ys := by
    intro ys im
    have im2 := im
    simp only [Im] at im2
    obtain ⟨a, vs, rfl, l, _⟩ := im2
    refine ⟨a, [.val (.ref a) (.d (.tuple ys))], rfl, fun p hp => ?_, O.push (v := .ref a) (r := .d (.tuple ys)) im, rfl, fun pins2 ρ2 σ2 H2 hp O2 => ?_⟩
    · rcases List.mem_cons.mp hp with z | z
      · exact .inl ⟨_, _, z⟩
      · cases z
    · have h : Im F.K (Av F pins2 ρ2 σ2) H2 (.tuple ys) (.ref a) := O2.pin _ (hp _ (List.mem_cons_self ..))
      simp only [Im] at h
      obtain ⟨q, vs, e, l, im⟩ := h
      cases e
      exact ⟨vs, l.sq, im⟩
  unfold seqs at e
  split at e
  · cases e
    simpa using lst h
  · cases e
    simpa using tup h
  · rename_i i
    have g0 := h.1
    split at e
    · rename_i ys q
      cases e
      obtain ⟨u, g1, g2⟩ := O.ent i _ q
      rw [g0] at g1; cases g1
      rcases g2 with im | ⟨a, us, zs, rfl, e1, l, t⟩
      · simpa using lst im
      · cases e1
        refine ⟨a, pinsOf us xs, rfl, fun p hp => mem_pinsOf hp, (O.pushAll t).1, (O.pushAll t).2, ?_⟩
        rw [if_neg (by decide)]
        exact fun pins2 ρ2 σ2 H2 hp O2 => ⟨us, l.sq O2, all_pinsOf O2 t.length hp⟩
    · rename_i ys q
      cases e
      obtain ⟨u, g1, g2⟩ := O.ent i _ q
      rw [g0] at g1; cases g1
      rcases g2 with im | ⟨a, us, zs, rfl, e1, l, t⟩
      · simpa using tup im
      · cases e1
    · cases e
  · cases e
theorem getL {vs : List V} {i : Nat} (h : i < vs.length) : vs[i]? = some (vs[i]'h) := List.getElem?_eq_getElem h
def zipD (xs ys : List PyData) : List PyData := List.zipWith (fun x y => .tuple [x, y]) xs ys
theorem zipD_len {xs ys : List PyData} : (zipD xs ys).length = min xs.length ys.length := List.length_zipWith
theorem zipD_at {xs ys : List PyData} {i : Nat} {x y : PyData} (h : xs[i]? = some x) (k : ys[i]? = some y) : (zipD xs ys)[i]? = some (.tuple [x, y]) := by
  unfold zipD
  rw [List.getElem?_zipWith, h, k]
theorem im_pair {A : Addr → Prop} {H : Hp} {x y : PyData} {u v : V} {T : Addr} (hT : H T = none) (h1 : Im F.K A H x u) (h2 : Im F.K A H y v) (hA : ¬ A T) : Im F.K A (upd H T (.tup [u, v])) (.tuple [x, y]) (.ref T) := by
  have G : Go A A H (upd H T (.tup [u, v])) := ⟨fun a o _ h _ => grow_new hT a o h, fun a h => .inl h⟩
  simp only [Im]
  exact ⟨T, [u, v], rfl, .inl ⟨.inl upd_same, hA⟩, .cons (h1.go G) (.cons (h2.go G) .nil)⟩
theorem wok_zipL {pl : List Pin} {p q : Addr} {xs ys : List PyData} (h1 : LstAt F pl p xs) (h2 : LstAt F pl q ys) : WOk F (Itz F.K p q) (zipD xs ys) pl := by
  refine ⟨fun i pins ρ σ H hp hi O => ?_, fun pins ρ σ H hp O => ?_, fun i pins ρ σ H x H' hp hi O y => ?_⟩
  · obtain ⟨us, a1, a2⟩ := h1 pins ρ σ H hp O
    obtain ⟨vs, b1, b2⟩ := h2 pins ρ σ H hp O
    rw [zipD_len] at hi
    have l1 := a2.length
    have l2 := b2.length
    exact ⟨us, vs, _, _, a1, b1, getL (by omega), getL (by omega)⟩
  · obtain ⟨us, a1, a2⟩ := h1 pins ρ σ H hp O
    obtain ⟨vs, b1, b2⟩ := h2 pins ρ σ H hp O
    refine ⟨us, vs, a1, b1, ?_⟩
    rw [zipD_len, a2.length, b2.length]
    omega
  · obtain ⟨us, a1, a2⟩ := h1 pins ρ σ H hp O
    obtain ⟨vs, b1, b2⟩ := h2 pins ρ σ H hp O
    obtain ⟨T, u, v, rfl, hT, rfl, f1, f2⟩ := y
    obtain ⟨x, e1, i1⟩ := a2.getV (f1 us a1)
    obtain ⟨y, e2, i2⟩ := b2.getV (f2 vs b1)
    refine ⟨_, zipD_at e1 e2, O.new hT, im_pair hT i1 i2 fun z => ?_⟩
    obtain ⟨o, z⟩ := O.avH z
    rw [hT] at z; cases z
theorem wok_zipT {pl : List Pin} {p q : Addr} {xs ys : List PyData} (h1 : TupAt F pl p xs) (h2 : TupAt F pl q ys) : WOk F (RZ.ItzT F.K p q) (zipD xs ys) pl := by
  refine ⟨fun i pins ρ σ H hp hi O => ?_, fun pins ρ σ H hp O => ?_, fun i pins ρ σ H x H' hp hi O y => ?_⟩
  · obtain ⟨us, a1, a2⟩ := h1 pins ρ σ H hp O
    obtain ⟨vs, b1, b2⟩ := h2 pins ρ σ H hp O
    rw [zipD_len] at hi
    have l1 := a2.length
    have l2 := b2.length
    exact ⟨us, vs, _, _, a1, b1, getL (by omega), getL (by omega)⟩
  · obtain ⟨us, a1, a2⟩ := h1 pins ρ σ H hp O
    obtain ⟨vs, b1, b2⟩ := h2 pins ρ σ H hp O
    refine ⟨us, vs, a1, b1, ?_⟩
    rw [zipD_len, a2.length, b2.length]
    omega
  · obtain ⟨us, a1, a2⟩ := h1 pins ρ σ H hp O
    obtain ⟨vs, b1, b2⟩ := h2 pins ρ σ H hp O
    obtain ⟨T, u, v, rfl, hT, rfl, f1, f2⟩ := y
    obtain ⟨x, e1, i1⟩ := a2.getV (f1 us a1)
    obtain ⟨y, e2, i2⟩ := b2.getV (f2 vs b1)
    refine ⟨_, zipD_at e1 e2, O.new hT, im_pair hT i1 i2 fun z => ?_⟩
    obtain ⟨o, z⟩ := O.avH z
    rw [hT] at z; cases z
def dZip (t : TDA) : TDI := fun ρ Q => t ρ fun rs ρ1 => match rs with
  | [r, s] => match seqs ρ1 r, seqs ρ1 s with
    | some (k, xs), some (l, ys) => k = l ∧ Q (zipD xs ys) ρ1
    | _, _ => False
  | _ => False
theorem pdi_zip (hg : Gl X "zip") (hm : X.mg "zip" = none) (ha : PDA X F [e, e2] t d) (hK : X.K = F.K := by rfl)
    (hs : starEach [e, e2] X.env = (false, eval e X.env) :: starEach [e2] X.env := by rfl) (hpl : (backTo pos (starEach [e2] X.env)).any (·.1) = false := by rfl) :
    PDI X F (.Tuple elts kk tpos) (.Call (.Name "zip" p) [e, e2] [] pos) (RZ.iZipA F.K t) (dZip d) := by
  refine ⟨?_, fun pins ρ σ H R O h => ?_, fun ρ Q Q' hq h => ?_⟩
  · have := RZ.pi_zipA (elts := elts) (kk := kk) (tpos := tpos) (p := p) (pos := pos) hg hm ha.pa hs hpl
    rw [hK] at this
    exact this
  · refine ha.da.run pins ρ σ H _ O (ha.da.mono _ _ _ (fun rs ρ1 h1 vs H1 O1 R1 => ?_) h)
    split at h1
    · rename_i r s
      split at h1
      · rename_i k xs l ys e1 e2
        obtain ⟨rfl, h1⟩ := h1
        simp only [ROks] at R1
        obtain ⟨v, _, rfl, r1, w, _, rfl, r2, rfl⟩ := R1
        obtain ⟨a, pl, rfl, d1, O2, av2, k1⟩ := seqs_ok O1 r1 e1
        have r2' : ROk F (Av F (pl ++ pins) ρ1 σ) ρ1 σ H1 s w := by rw [av2]; exact r2
        obtain ⟨b, pm, rfl, d2, O3, av3, k2⟩ := seqs_ok O2 r2' e2
        have dd : isD (pm ++ pl) := fun q hq => by
          rcases List.mem_append.mp hq with z | z
          · exact d2 q z
          · exact d1 q z
        have O4 : Ok F ((pm ++ pl) ++ pins) ρ1 σ H1 := by rw [List.append_assoc]; exact O3
        have in1 : ∀ q ∈ pl, q ∈ pm ++ pl := fun q hq => List.mem_append_right _ hq
        have in2 : ∀ q ∈ pm, q ∈ pm ++ pl := fun q hq => List.mem_append_left _ hq
        have in3 : ∀ q ∈ pm ++ pl, q ∈ (pm ++ pl) ++ pins := fun q hq => List.mem_append_left _ hq
        cases k with
        | false =>
          have k1 : LstAt F pl a xs := by simpa using k1
          have k2 : LstAt F pm b ys := by simpa using k2
          obtain ⟨us, a1, _⟩ := k1.up in1 _ _ _ _ in3 O4
          obtain ⟨vs, b1, _⟩ := k2.up in2 _ _ _ _ in3 O4
          exact ⟨a, b, us, vs, rfl, .inl ⟨a1, b1, h1 _ H1 (pm ++ pl) (wok_zipL (k1.up in1) (k2.up in2)) dd O4⟩⟩
        | true =>
          have k1 : TupAt F pl a xs := by simpa using k1
          have k2 : TupAt F pm b ys := by simpa using k2
          obtain ⟨us, a1, _⟩ := k1.up in1 _ _ _ _ in3 O4
          obtain ⟨vs, b1, _⟩ := k2.up in2 _ _ _ _ in3 O4
          exact ⟨a, b, us, vs, rfl, .inr ⟨a1, b1, h1 _ H1 (pm ++ pl) (wok_zipT (k1.up in1) (k2.up in2)) dd O4⟩⟩
      · exact h1.elim
    · exact h1.elim
  · refine ha.da.mono _ _ _ (fun rs ρ1 h1 => ?_) h
    revert h1
    split
    · split
      · exact fun h1 => ⟨h1.1, hq _ _ h1.2⟩
      · exact fun h1 => h1
    · exact fun h1 => h1
def enumD (xs : List PyData) : List PyData := zipD (rng 0 xs.length) xs
theorem enumD_len {xs : List PyData} : (enumD xs).length = xs.length := by
  unfold enumD
  rw [zipD_len, rng_len]; omega
theorem enumD_at {xs : List PyData} {i : Nat} {x : PyData} (h : xs[i]? = some x) : (enumD xs)[i]? = some (.tuple [.int (i : Nat), x]) := by
  have hi : i < xs.length := by
    rcases Nat.lt_or_ge i xs.length with z | z
    · exact z
    · rw [List.getElem?_eq_none z] at h; cases h
  have := zipD_at (rng_at (lo := 0) hi) h
  rw [Int.zero_add] at this
  exact this
theorem wok_enumL {pl : List Pin} {p : Addr} {xs : List PyData} (h1 : LstAt F pl p xs) : WOk F (Ite F.K p) (enumD xs) pl := by
  refine ⟨fun i pins ρ σ H hp hi O => ?_, fun pins ρ σ H hp O => ?_, fun i pins ρ σ H x H' hp hi O y => ?_⟩
  · obtain ⟨us, a1, a2⟩ := h1 pins ρ σ H hp O
    rw [enumD_len] at hi
    have l1 := a2.length
    exact ⟨us, _, a1, getL (by omega)⟩
  · obtain ⟨us, a1, a2⟩ := h1 pins ρ σ H hp O
    refine ⟨us, a1, ?_⟩
    rw [enumD_len, a2.length]
    exact Nat.le_refl _
  · obtain ⟨us, a1, a2⟩ := h1 pins ρ σ H hp O
    obtain ⟨T, u, rfl, hT, rfl, f1⟩ := y
    obtain ⟨x, e1, i1⟩ := a2.getV (f1 us a1)
    refine ⟨_, enumD_at e1, O.new hT, im_pair hT .int i1 fun z => ?_⟩
    obtain ⟨o, z⟩ := O.avH z
    rw [hT] at z; cases z
end
end DV
namespace DV
open PySem PySem.Spec PyProof.Rows L2
open LamX (ExtN TabS Tabs CodeO)
open AutoSeq1 (wpAny_loadPart')
theorem meets_enumerate_newT (l : Addr) (items : Array Value) (n : Nat) (dct : Option Addr) (sl : Array (Option Value)) :
    Meets (Builtin.«enumerate.__new__» ⟨[.type "enumerate", .ref l], []⟩) (fun _ R s => s.heap.get? l = some { cls := .type "tuple", dict := dct, data := .seq items n, slots := sl } ∧
      R (.ok (.ret (.ref (s.heap.push { cls := .type "tuple_iterator", data := .fields #[.ref l, .int 0 0] }).objs.size)))
        { s with heap := (s.heap.push { cls := .type "tuple_iterator", data := .fields #[.ref l, .int 0 0] }).push { cls := .type "enumerate", data := .fields #[.none, .bool false, .ref s.heap.objs.size, rawInt 0, .none, .none] } }) :=
  .of_wp fun prog w A R s h => by
    obtain ⟨hp, g, d, tk, os⟩ := s; obtain ⟨hl, h⟩ := h
    have hsub := sub_enumerate
    have hL : Heap.IsTuple (Shared.heap ⟨hp, g, d, tk, os⟩) l items := ⟨_, hl, rfl, n, rfl⟩
    wp_walk using wpAny_loadPart' hl
    refine wpAny_stack_any fun st => wpAny_pure ?_
    split
    · rename_i c _ _ _ _ _
      cases (c == Value.type "enumerate")
      · wp_walk using wpAny_loadPart' hl, wpAny_pyIter_tuple hL
        exact ⟨_, rfl, h⟩
      · wp_walk using wpAny_loadPart' hl, wpAny_pyIter_tuple hL
        exact ⟨_, rfl, h⟩
    · wp_walk using wpAny_loadPart' hl, wpAny_pyIter_tuple hL
      exact ⟨_, rfl, h⟩
section
variable {prog : Program} {w : World} {A : Around} {E : Value → Shared → Prop} {s : Shared}
theorem call_enumerate_tuple {l : Addr} {items : Array Value} {Q : Value → Shared → Prop} (hL : s.heap.IsTuple l items)
    (h : ∀ h', IsEnum h' (s.heap.objs.size + 1) s.heap.objs.size 0 .none → h'.IsTupleIter s.heap.objs.size l 0 → h'.objs.size = s.heap.objs.size + 2 →
      (∀ b o, s.heap.get? b = some o → h'.get? b = some o) → Q (.ref (s.heap.objs.size + 1)) { s with heap := h' }) :
    wpAny (model prog w) A (call (.type "enumerate") [.ref l]) Q E s := by
  obtain ⟨⟨c, dct, dt, sl⟩, hl, hc, n, hd⟩ := hL
  replace hc : c = .type "tuple" := hc
  replace hd : dt = .seq items n := hd
  subst hc hd
  refine callType_new F.called_enumerate (by decide) (F.typeCall_enumerate_1 _) (F.newCall_enumerate_1 _) (fun obj => F.args_object_init_2 obj _) F.entry_enumerate_new
    (meets_enumerate_newT l items n dct sl) ⟨hl, ?_⟩
  have hz : (s.heap.push { cls := .type "tuple_iterator", data := .fields #[.ref l, .int 0 0] }).objs.size = s.heap.objs.size + 1 := Heap.size_push ..
  show _ ∧ _
  rw [hz]
  have he : IsEnum ((s.heap.push { cls := .type "tuple_iterator", data := .fields #[.ref l, .int 0 0] }).push
      { cls := .type "enumerate", data := .fields #[.none, .bool false, .ref s.heap.objs.size, rawInt 0, .none, .none] }) (s.heap.objs.size + 1) s.heap.objs.size 0 .none := by
    have := Heap.get?_push_size (s.heap.push { cls := .type "tuple_iterator", data := .fields #[.ref l, .int 0 0] })
      (o := { cls := .type "enumerate", data := .fields #[.none, .bool false, .ref s.heap.objs.size, rawInt 0, .none, .none] }) rfl
    rw [hz] at this; exact this
  refine ⟨⟨_, he, rfl⟩, h _ he ⟨_, Heap.get?_push_of_some _ (Heap.get?_push_size _ rfl), rfl, rfl⟩ (by rw [Heap.size_push, hz]) fun b o x => Heap.get?_push_of_some _ (Heap.get?_push_of_some _ x)⟩
end
def IteT (K : PySem.W.Frag) (a : Addr) : It :=
  ⟨fun i H => ∃ (xs : List V) (x : V), SqT K H a xs ∧ xs[i]? = some x, fun i H v H' => ∃ T x, v = .ref T ∧ H T = none ∧ H' = upd H T (.tup [.int (i : Nat), x]) ∧ ∀ xs, SqT K H a xs → xs[i]? = some x, fun i H => ∃ xs : List V, SqT K H a xs ∧ xs.length ≤ i⟩
theorem turn_enumT {P : Program} {w : World} {K : PySem.W.Frag} {elts : List Expr} {kk : Nat} {tpos : Pos} (a e it : Addr) (hae : e ≠ a) (hai : a ≠ it) :
    Turn P w K (.Tuple elts kk tpos) (IteT K a) [e, it] e (fun i h => (∃ old, IsEnum h e it ((i : Nat) : Int) old) ∧ h.IsTupleIter it a i ∧ e ≠ it) where
  mem := by simp
  obj := fun i h st b hb => by
    obtain ⟨⟨old, he⟩, ⟨o, ho, hc, hd⟩, _⟩ := st
    have e' : b = e ∨ b = it := by simpa using hb
    rcases e' with z | z
    · rw [z]; exact ⟨_, he, fun v q => nomatch q⟩
    · rw [z]; exact ⟨o, ho, fun v q => by rw [hd] at q; cases q⟩
  keep := fun i h h' st k => let ⟨⟨old, he⟩, hi, hne⟩ := st; ⟨⟨old, k e (by simp) _ he⟩, hi.at fun o q => k it (by simp) o q, hne⟩
  item := by
    intro X hP hw hK hc i pins s σ H E I hf st hg
    subst hP hw hK
    obtain ⟨⟨old, he⟩, hit, hne⟩ := st
    obtain ⟨xs, x, hq, hx⟩ := hg
    obtain ⟨its, rv, p, hz⟩ := I.tuple hq
    obtain ⟨u, hu, ru⟩ := rv.get hx
    have hel : e < s.heap.objs.size := Heap.lt_size he
    have hil : it < s.heap.objs.size := by obtain ⟨_, q, _⟩ := hit; exact Heap.lt_size q
    have hu' : its.toArray[i]? = some u := by simpa using hu
    have hlt : i < its.toArray.size := by
      rcases Nat.lt_or_ge i its.toArray.size with z | z
      · exact z
      · rw [Array.getElem?_eq_none z] at hu'; cases hu'
    refine wpAny_pyNext_enum_itemD (Draws.tuple (show X.A.in1.handled = none from I.ok.hd hc) it a hai its.toArray) he ⟨hit, show s.heap.IsTuple a its.toArray from p⟩ hlt hne (by simp [hne, hae]) fun x' h' tk hx' ho hst' hT hsz hk => ?_
    have ex : x' = u := by
      have z : its.toArray[i]? = some x' := hx'
      rw [hu'] at z; cases z; rfl
    subst ex
    obtain ⟨hit', _⟩ := hst'
    refine ⟨_, rfl, wpAny_letOwnedTupleGo_enum (s := { s with heap := h', toks := tk + 1 }) ho fun h'' he' sb => ?_⟩
    have hT2 : h''.get? s.heap.objs.size = some { cls := .type "tuple", data := .seq #[.int i tk, x'] } := (sb.2 _ (Nat.ne_of_gt hel)).trans hT
    have new : ObjOk X.prog X.w (upd H s.heap.objs.size (.tup [.int (i : Nat), x])) h'' s.heap.objs.size (.tup [.int (i : Nat), x]) :=
      ⟨by show 2 ≤ sizeLine; decide, [.int i tk, x'], .cons ⟨_, rfl⟩ (.cons ru .nil), ⟨_, hT2, rfl, _, rfl⟩⟩
    have I1 : Inv X pins σ (upd H s.heap.objs.size (.tup [.int (i : Nat), x])) { s with heap := h'', toks := tk + 1 } :=
      I.turnedNew (ch := [e, it]) (fun b ob hb q => (sb.2 b (fun z => hb (by simp [z]))).trans (hk b ob (fun z => hb (by simp [z])) (fun z => hb (by simp [z])) q)) hf (Nat.le_refl _) new
    refine ⟨.ref s.heap.objs.size, _, I1, rfl, ⟨_, x, rfl, I.hok.fresh (Nat.le_refl _), rfl, fun ys hy => by rw [I.tuple_inj hy hq]; exact hx⟩, ⟨⟨x', ?_⟩, hit'.at fun o q => (sb.2 it (Ne.symm hne)).trans q, hne⟩, fun b hb => ?_⟩
    · have e1 : ((i + 1 : Nat) : Int) = (i : Int) + 1 := by omega
      rw [e1]; exact he'
    · have hb' : b < s.heap.objs.size := by
        have e' : b = e ∨ b = it := by simpa using hb
        rcases e' with z | z
        · rw [z]; exact hel
        · rw [z]; exact hil
      rw [upd_ne (Nat.ne_of_lt hb')]
      exact (hf b hb).1
  done := by
    intro X hP hw hK hc i pins s σ H E I hf st hg
    subst hP hw hK
    obtain ⟨⟨old, he⟩, hit, hne⟩ := st
    obtain ⟨xs, hq, hx⟩ := hg
    obtain ⟨its, rv, p, hz⟩ := I.tuple hq
    obtain ⟨f0, f1, f2, f3, f4, f5⟩ := hf it (by simp)
    have hl := rv.length
    have hh : X.A.in1.handled = none := I.ok.hd hc
    have hge : its.toArray[i]? = none := by simp; omega
    have hT : s.TypeIs (.ref e) "enumerate" := ⟨_, he, rfl⟩
    unfold pyNext
    refine wpAny_bind (wpAny_attempt (wpAny_callSpecial?_slot (name := Str.ofString "__next__") hT F.slot_enumerate_next
      (wpAny_call_entry F.slot_enumerate_next hT F.entry_enumerate_next ?_ (F.args_enumerate_next_1 _))))
    show wpAny _ _ (field (.ref e) 2 >>= _) _ _ _
    refine wpAny_bind (wpAny_field he rfl (x := .ref it) rfl ?_)
    refine wpAny_bind (wpAny_nextOf_tuple_end hh hit (show s.heap.IsTuple a its.toArray from p) hge fun h' x eb hx' => ?_)
    obtain ⟨o, ho, hc⟩ := hx'
    refine wpAny_bind (wpAny_isInstance (T := "StopIteration") (b := true) ⟨o, ho, hc⟩ isSubtype_stop ?_)
    exact wpAny_pure ⟨rfl, I.turned (t' := s.toks) (fun b o hb q => eb b o hb q) f0 f1 f3 f4 f5⟩
  self := fun A i s Q E st h => let ⟨⟨_, he⟩, _⟩ := st; wpAny_pyIter_enum he h
def iEnumA (K : PySem.W.Frag) (ta : TA) : TI := fun σ H R => ta σ H fun vs H1 => ∃ a xs, vs = [.ref a] ∧ ((SqL K H1 a xs ∧ R (Ite K a) H1) ∨ (SqT K H1 a xs ∧ R (IteT K a) H1))
theorem pi_enumA {X : Cx} {e : Expr} {ta : TA} {p pos tpos : Pos} {elts : List Expr} {kk : Nat} (hg : Gl X "enumerate") (hm : X.mg "enumerate" = none) (ha : PA X [e] ta) (hs : starEach [e] X.env = [(false, eval e X.env)] := by rfl) :
    PI X (.Tuple elts kk tpos) (.Call (.Name "enumerate" p) [e] [] pos) (iEnumA X.K ta) := by
  refine ⟨fun pins s σ H R I h => ?_⟩
  refine Call_ (ld_blt I hg hm boot_enumerate (PyProof.Rows.callWith_type1 (thn (ha.run pos pins s σ H _ I h) fun us s1 ⟨vs, H1, I1, r1, q1⟩ => ?_) hs rfl))
  obtain ⟨a, xs, ex, q⟩ := q1
  subst ex
  cases r1 with
  | cons r rr =>
    cases rr
    cases r
    have fr : ∀ b ∈ [s1.heap.objs.size + 1, s1.heap.objs.size], FpOk X pins H1 b := fun b hb => by
      have e' : b = s1.heap.objs.size + 1 ∨ b = s1.heap.objs.size := by simpa using hb
      have hle : s1.heap.objs.size ≤ b := by
        rcases e' with z | z
        · rw [z]; exact Nat.le_add_right _ _
        · rw [z]; exact Nat.le_refl _
      exact I1.fpOk hle (I1.hok.fresh hle)
    rcases q with ⟨hq, q⟩ | ⟨hq, q⟩
    · obtain ⟨its, rv, p', hz⟩ := I1.list hq
      refine call_enumerate_list p'.isList fun h' he hit hsz hk => wpAny_pyIter_enum he ?_
      have I2 : Inv X pins σ H1 { s1 with heap := h' } := I1.kept (t' := s1.toks) hk
      exact ⟨s1.heap.objs.size + 1, [s1.heap.objs.size + 1, s1.heap.objs.size], _, _, H1, rfl, I2, turn_enum a (s1.heap.objs.size + 1) s1.heap.objs.size, ⟨⟨.none, he⟩, hit, Nat.succ_ne_self _⟩, fr, q⟩
    · obtain ⟨its, rv, p', hz⟩ := I1.tuple hq
      obtain ⟨o1, ho1, _⟩ := id p'
      have hlt := Heap.lt_size ho1
      refine call_enumerate_tuple (show s1.heap.IsTuple a its.toArray from p') fun h' he hit hsz hk => wpAny_pyIter_enum he ?_
      have I2 : Inv X pins σ H1 { s1 with heap := h' } := I1.kept (t' := s1.toks) hk
      exact ⟨s1.heap.objs.size + 1, [s1.heap.objs.size + 1, s1.heap.objs.size], _, _, H1, rfl, I2, turn_enumT a (s1.heap.objs.size + 1) s1.heap.objs.size (Nat.ne_of_gt (Nat.lt_succ_of_lt hlt)) (Nat.ne_of_lt hlt), ⟨⟨.none, he⟩, hit, Nat.succ_ne_self _⟩, fr, q⟩
section
variable {X : Cx} {F : Fm} {tg e e2 a b c : Expr} {te te2 ta tb tc : TE} {de de2 da db dc : TDE} {pos p tpos : Pos} {t : TA} {d : TDA} {elts : List Expr} {kk : Nat}
theorem wok_enumT {pl : List Pin} {p : Addr} {xs : List PyData} (h1 : TupAt F pl p xs) : WOk F (IteT F.K p) (enumD xs) pl := by
  refine ⟨fun i pins ρ σ H hp hi O => ?_, fun pins ρ σ H hp O => ?_, fun i pins ρ σ H x H' hp hi O y => ?_⟩
  · obtain ⟨us, a1, a2⟩ := h1 pins ρ σ H hp O
    rw [enumD_len] at hi
    have l1 := a2.length
    exact ⟨us, _, a1, getL (by omega)⟩
  · obtain ⟨us, a1, a2⟩ := h1 pins ρ σ H hp O
    refine ⟨us, a1, ?_⟩
    rw [enumD_len, a2.length]
    exact Nat.le_refl _
  · obtain ⟨us, a1, a2⟩ := h1 pins ρ σ H hp O
    obtain ⟨T, u, rfl, hT, rfl, f1⟩ := y
    obtain ⟨x, e1, i1⟩ := a2.getV (f1 us a1)
    refine ⟨_, enumD_at e1, O.new hT, im_pair hT .int i1 fun z => ?_⟩
    obtain ⟨o, z⟩ := O.avH z
    rw [hT] at z; cases z
def dEnum (t : TDA) : TDI := fun ρ Q => t ρ fun rs ρ1 => match rs with
  | [r] => match seqs ρ1 r with
    | some (_, xs) => Q (enumD xs) ρ1
    | _ => False
  | _ => False
theorem pdi_enum (hg : Gl X "enumerate") (hm : X.mg "enumerate" = none) (ha : PDA X F [e] t d) (hK : X.K = F.K := by rfl)
    (hs : starEach [e] X.env = [(false, eval e X.env)] := by rfl) :
    PDI X F (.Tuple elts kk tpos) (.Call (.Name "enumerate" p) [e] [] pos) (iEnumA F.K t) (dEnum d) := by
  refine ⟨?_, fun pins ρ σ H R O h => ?_, fun ρ Q Q' hq h => ?_⟩
  · have := pi_enumA (elts := elts) (kk := kk) (tpos := tpos) (p := p) (pos := pos) hg hm ha.pa hs
    rw [hK] at this
    exact this
  · refine ha.da.run pins ρ σ H _ O (ha.da.mono _ _ _ (fun rs ρ1 h1 vs H1 O1 R1 => ?_) h)
    split at h1
    · rename_i r
      split at h1
      · rename_i k xs e1
        simp only [ROks] at R1
        obtain ⟨v, _, rfl, r1, rfl⟩ := R1
        obtain ⟨a, pl, rfl, d1, O2, av2, k1⟩ := seqs_ok O1 r1 e1
        have in1 : ∀ q ∈ pl, q ∈ pl ++ pins := fun q hq => List.mem_append_left _ hq
        cases k with
        | false =>
          have k1 : LstAt F pl a xs := by simpa using k1
          obtain ⟨us, a1, _⟩ := k1 _ _ _ _ in1 O2
          exact ⟨a, us, rfl, .inl ⟨a1, h1 _ H1 pl (wok_enumL k1) d1 O2⟩⟩
        | true =>
          have k1 : TupAt F pl a xs := by simpa using k1
          obtain ⟨us, a1, _⟩ := k1 _ _ _ _ in1 O2
          exact ⟨a, us, rfl, .inr ⟨a1, h1 _ H1 pl (wok_enumT k1) d1 O2⟩⟩
      · exact h1.elim
    · exact h1.elim
  · refine ha.da.mono _ _ _ (fun rs ρ1 h1 => ?_) h
    revert h1
    split
    · split
      · exact hq _ _
      · exact fun h1 => h1
    · exact fun h1 => h1
end
end DV
set_option maxHeartbeats 4000000
namespace DV
open PySem PySem.Spec PyProof.Rows L2
open LamX (ExtN TabS Tabs CodeO)
abbrev Pr := Int × Int
def lle (p q : Pr) : Prop := p.1 < q.1 ∨ (p.1 = q.1 ∧ p.2 ≤ q.2)
inductive All2 {α β : Type} (R : α → β → Prop) : List α → List β → Prop
  | nil : All2 R [] []
  | cons {a b as bs} : R a b → All2 R as bs → All2 R (a :: as) (b :: bs)
def PairIs (K : PySem.W.Frag) (H : Hp) (x : V) (p : Pr) : Prop := ∃ t, x = V.ref t ∧ SqT K H t [.int p.1, .int p.2]
section
variable {X : Cx} {pins : List (Addr × Obj)} {σ : L2.St} {H : Hp} {s : Shared}
theorem lle_of {a b : Pr} (h : SrtO.lexB b a = false) : lle a b := by
  have := SrtO.lexB_no.mp h
  unfold lle
  omega
end
def encP (p : Pr) : PyData := .tuple [.int p.1, .int p.2]
def asPairs : List PyData → Option (List Pr)
  | [] => some []
  | .tuple [.int x, .int y] :: xs => (asPairs xs).map ((x, y) :: ·)
  | _ :: _ => none
theorem asPairs_enc : ∀ ps : List Pr, asPairs (ps.map encP) = some ps
  | [] => rfl
  | p :: ps => by
    show (asPairs (ps.map encP)).map ((p.1, p.2) :: ·) = _
    rw [asPairs_enc ps]; rfl
theorem asPairs_back : ∀ {xs : List PyData} {ps : List Pr}, asPairs xs = some ps → xs = ps.map encP
  | [], _, h => by cases h; rfl
  | .tuple [.int x, .int y] :: xs, ps, h => by
    have h : (asPairs xs).map ((x, y) :: ·) = some ps := h
    cases e : asPairs xs with
    | none => rw [e] at h; cases h
    | some qs =>
      rw [e] at h
      cases h
      rw [asPairs_back e]; rfl
  | .none :: _, _, h => by cases h
  | .bool _ :: _, _, h => by cases h
  | .int _ :: _, _, h => by cases h
  | .str _ :: _, _, h => by cases h
  | .list _ :: _, _, h => by cases h
  | .dict _ :: _, _, h => by cases h
  | .tuple [] :: _, _, h => by cases h
  | .tuple [.none] :: _, _, h => by cases h
  | .tuple [.bool _] :: _, _, h => by cases h
  | .tuple [.int _] :: _, _, h => by cases h
  | .tuple [.str _] :: _, _, h => by cases h
  | .tuple [.list _] :: _, _, h => by cases h
  | .tuple [.tuple _] :: _, _, h => by cases h
  | .tuple [.dict _] :: _, _, h => by cases h
  | .tuple (.none :: _ :: _) :: _, _, h => by cases h
  | .tuple (.bool _ :: _ :: _) :: _, _, h => by cases h
  | .tuple (.str _ :: _ :: _) :: _, _, h => by cases h
  | .tuple (.list _ :: _ :: _) :: _, _, h => by cases h
  | .tuple (.tuple _ :: _ :: _) :: _, _, h => by cases h
  | .tuple (.dict _ :: _ :: _) :: _, _, h => by cases h
  | .tuple [.int _, .none] :: _, _, h => by cases h
  | .tuple [.int _, .bool _] :: _, _, h => by cases h
  | .tuple [.int _, .str _] :: _, _, h => by cases h
  | .tuple [.int _, .list _] :: _, _, h => by cases h
  | .tuple [.int _, .tuple _] :: _, _, h => by cases h
  | .tuple [.int _, .dict _] :: _, _, h => by cases h
  | .tuple (.int _ :: .none :: _ :: _) :: _, _, h => by cases h
  | .tuple (.int _ :: .bool _ :: _ :: _) :: _, _, h => by cases h
  | .tuple (.int _ :: .int _ :: _ :: _) :: _, _, h => by cases h
  | .tuple (.int _ :: .str _ :: _ :: _) :: _, _, h => by cases h
  | .tuple (.int _ :: .list _ :: _ :: _) :: _, _, h => by cases h
  | .tuple (.int _ :: .tuple _ :: _ :: _) :: _, _, h => by cases h
  | .tuple (.int _ :: .dict _ :: _ :: _) :: _, _, h => by cases h
theorem im_pairIs {K : PySem.W.Frag} {N : Addr → Prop} {H : Hp} {p : Pr} {v : V} (h : Im K N H (encP p) v) : PairIs K H v p := by
  simp only [encP, Im] at h
  obtain ⟨a, vs, rfl, l, im⟩ := h
  simp only [ImAll] at im
  obtain ⟨x, _, rfl, rfl, y, _, rfl, rfl, rfl⟩ := im
  exact ⟨a, rfl, l.sq⟩
theorem All2.len {α β : Type} {R : α → β → Prop} : ∀ {as : List α} {bs : List β}, All2 R as bs → as.length = bs.length
  | _, _, .nil => rfl
  | _, _, .cons _ h => by rw [List.length_cons, List.length_cons, h.len]
/-- a sorted rearrangement -/
def Sortd (ps qs : List Pr) : Prop := qs.Perm ps ∧ qs.Pairwise lle
def SortdI (ps qs : List Int) : Prop := qs.Perm ps ∧ qs.Pairwise (· ≤ ·)
section
variable {X : Cx} {F : Fm} {e : Expr} {t : TA} {d : TDA} {pos : Pos}
def dSort (t : TDA) : TDL := fun ρ Q => t ρ fun rs ρ1 => match rs with
  | [r] => onL ρ1 r fun xs => (∃ ps, asPairs xs = some ps ∧ ∀ qs, Sortd ps qs → Q (qs.map encP) ρ1) ∨ (∃ ns, asInts xs = some ns ∧ ∀ ms, SortdI ns ms → Q (ms.map .int) ρ1)
  | _ => False
end
end DV
set_option maxHeartbeats 4000000
namespace DV
open PySem PySem.Spec PyProof.Rows L2
open LamX (ExtN TabS Tabs CodeO)
def twoOf : List Int → Pr
  | [x, y] => (x, y)
  | _ => (0, 0)
section
variable {P : Program} {w : World} {A : Around} {E : Value → Shared → Prop} {s : Shared}
theorem sorted_setP {a : Addr} {L : List (Addr × List Int)} {es : Array (Int × Value)} {ep : Nat} {t : SetTable} {Q : Value → Shared → Prop} (R : SetTR P w s.heap a L es ep t) (hh : A.handled = none)
    (hB : ∀ p ∈ L, p.2.length = 2)
    (hQ : ∀ s' p (out : List Value) (c : Nat) (L' : List (Addr × List Int)), (∀ b o, s.heap.get? b = some o → s'.heap.get? b = some o) → s'.gens = s.gens → s'.os = s.os → s.heap.objs.size ≤ p →
      s'.heap.get? p = some (seqObj "list" out.toArray c) → out = L'.map (fun q => Value.ref q.1) → L'.Perm L → L'.Pairwise (fun q r => lle (twoOf q.2) (twoOf r.2)) → Q (.ref p) s') :
    wpAny (model P w) A (call (.builtin "sorted") [.ref a]) Q E s := by
  obtain ⟨o, ho, hex, hd⟩ := R.ob
  have hsz := R.size
  have hfew := R.few
  refine Calls.call_function_entry kind_sorted plain_sorted entry_sorted (args_sorted1 _) ?_
  unfold Builtin.«sorted»
  refine wpAny_bind (m := checkCount "sorted" 1 1 _) (wpAny_pure ?_)
  refine wpAny_bind (collect_set (A := A.in1) hh ⟨o, ho, hex.1, hd⟩ R.fits (by unfold scanBound; omega) R.tab.ris R.led fun s1 vs k1 hz g1 o1 pm => ?_)
  have hes : es.toList.map (·.2) = L.map fun q => Value.ref q.1 := by
    rw [R.rows]
    unfold rowsOf
    rw [List.map_map] <;> rfl
  rw [hes] at pm
  have ord : ∀ vs : List Value, (∀ v ∈ vs, ∃ q ∈ L, v = Value.ref q.1) → ∃ L1 : List (Addr × List Int), vs = L1.map (fun q => Value.ref q.1) ∧ ∀ q ∈ L1, q ∈ L := by
    intro vs
    induction vs with
    | nil => intro _; exact ⟨[], rfl, fun q hq => (by cases hq)⟩
    | cons v vs ih =>
      intro hv
      obtain ⟨q, hq, e⟩ := hv v List.mem_cons_self
      obtain ⟨L1, e1, hs⟩ := ih fun u hu => hv u (List.mem_cons_of_mem _ hu)
      refine ⟨q :: L1, by rw [List.map_cons, e, e1], fun r hr => ?_⟩
      rcases List.mem_cons.mp hr with z | z
      · rw [z]; exact hq
      · exact hs r z
  have one : ∀ q ∈ L, ∀ r ∈ L, q.1 = r.1 → q = r := fun q hq r hr e => by
    have a1 := R.tup q hq
    have a2 := R.tup r hr
    rw [e] at a1
    have e2 : q.2 = r.2 := a1.inj a2
    exact Prod.ext e e2
  have perm_of : ∀ L1 : List (Addr × List Int), (∀ q ∈ L1, q ∈ L) → (L1.map (fun q => Value.ref q.1)).Perm (L.map fun q => Value.ref q.1) → L1.Perm L := by
    intro L1 hs pm1
    have nL : L.Nodup := L2.nodup_of_map R.nd
    have nref : (L.map fun q => Value.ref q.1).Nodup := by
      refine List.pairwise_map.mpr (List.Pairwise.imp_of_mem (fun {q r} hq hr hne e => ?_) nL)
      injection e with e
      exact hne (one q hq r hr e)
    have n1 : L1.Nodup := L2.nodup_of_map (pm1.nodup_iff.mpr nref)
    refine (List.perm_ext_iff_of_nodup n1 nL).mpr fun q => ⟨hs q, fun hq => ?_⟩
    have hm : Value.ref q.1 ∈ L1.map (fun q => Value.ref q.1) := pm1.mem_iff.mpr (List.mem_map.mpr ⟨q, hq, rfl⟩)
    obtain ⟨r, hr, e⟩ := List.mem_map.mp hm
    injection e with e
    rw [← one r (hs r hr) q hq e]
    exact hr
  have hvl : vs.length < 64 := by rw [pm.length_eq, List.length_map]; exact hfew
  refine wpAny_bind (wpAny_newList ?_ (by rw [sizeLine_eq]; omega))
  have hoL : (s1.heap.push (seqObj "list" vs.toArray 0)).get? s1.heap.objs.size = some (seqObj "list" vs.toArray 0) := Heap.get?_push_size _ rfl
  classical
  -- the key of a value
  let key : Value → Pr := fun v => if h : ∃ q ∈ L, v = Value.ref q.1 then twoOf (Classical.choose h).2 else (0, 0)
  have key_at : ∀ q ∈ L, key (.ref q.1) = twoOf q.2 := fun q hq => by
    have h : ∃ r ∈ L, Value.ref q.1 = Value.ref r.1 := ⟨q, hq, rfl⟩
    show (if h : ∃ r ∈ L, Value.ref q.1 = Value.ref r.1 then twoOf (Classical.choose h).2 else (0, 0)) = _
    rw [dif_pos h]
    obtain ⟨h1, h2⟩ := Classical.choose_spec h
    injection h2 with h2
    rw [← one q hq _ h1 h2]
  have isp : ∀ q ∈ L, Srt.IsPair (s1.heap.push (seqObj "list" vs.toArray 0)) (.ref q.1) (key (.ref q.1)).1 (key (.ref q.1)).2 := fun q hq => by
    rw [key_at q hq]
    obtain ⟨o, items, n, ho, hc, hd, hi⟩ := L2.isT_keep (R.tup q hq) fun b u e => Heap.get?_push_of_some (seqObj "list" vs.toArray 0) (k1 b u e)
    have l2 := hB q hq
    generalize q.2 = k at hi l2
    match k, l2 with
    | [x, y], _ =>
      have ia := ints_of_items hi
      cases ia' : items.toList with
      | nil => rw [ia'] at ia; cases ia
      | cons v1 r1 =>
        rw [ia'] at ia
        cases ia with
        | cons _ t1 ia2 =>
          cases ia2 with
          | cons _ t2 ia3 =>
            cases ia3
            have e : items = #[.int x t1, .int y t2] := by
              apply Array.toList_inj.mp
              rw [ia']
            exact ⟨q.1, o, t1, t2, n, rfl, ho, hc, by rw [hd, e]; rfl⟩
  have ofv : ∀ v ∈ vs, ∃ q ∈ L, v = Value.ref q.1 := fun v hv => by
    obtain ⟨q, hq, e⟩ := List.mem_map.mp (pm.mem_iff.mp hv)
    exact ⟨q, hq, e.symm⟩
  refine wpAny_bind (wpAny_holding (wpAny_call_entry slot_list_sort ⟨_, hoL, rfl⟩ entry_list_sort (SrtO.list_sort_ord (s := { s1 with heap := s1.heap.push (seqObj "list" vs.toArray 0) }) (SrtO.swo_lex key) hoL (by rw [sizeLine_eq]; omega) (fun h2 => ?_) fun out hs hb => ⟨_, rfl, ?_⟩) (args_list_sort _)))
  · refine SrtO.pairs_sortableO (by omega) (fun v hv => ?_) fun o e c => ?_
    · obtain ⟨q, hq, rfl⟩ := ofv v hv
      exact isp q hq
    · have e' : some o = some (seqObj "list" vs.toArray 0) := e.symm.trans hoL
      cases e'
      exact absurd (Value.type.inj c) (by decide)
  · obtain ⟨c, hc⟩ := PyProof.Rows.sortedHeap_at (vs := vs) (out := out.toArray) hoL
    obtain ⟨L', e', hs'⟩ := ord out fun v hv => ofv v (hb.perm.mem_iff.mp hv)
    have pL : L'.Perm L := perm_of L' hs' (by rw [← e']; exact hb.perm.trans pm)
    have pw : L'.Pairwise (fun q r => lle (twoOf q.2) (twoOf r.2)) := by
      rw [e'] at hs
      refine List.Pairwise.imp_of_mem (fun {q r} hq hr hle => ?_) (List.pairwise_map.mp hs)
      have := lle_of hle
      rw [key_at q (hs' q hq), key_at r (hs' r hr)] at this
      exact this
    refine wpAny_pure ⟨_, rfl, hQ _ s1.heap.objs.size out c L' (fun b u e => ?_) g1 o1 hz hc e' pL pw⟩
    have q := k1 b u e
    have hlt := Heap.lt_size q
    show (sortedHeap (s1.heap.push (seqObj "list" vs.toArray 0)) s1.heap.objs.size vs out.toArray).get? b = some u
    rw [PyProof.Rows.sortedHeap_old (Nat.ne_of_lt hlt) (by rw [size_push']; exact Nat.lt_succ_of_lt hlt)]
    exact Heap.get?_push_of_some _ q
end
section
variable {X : Cx}
def rSortedTP (K : PySem.W.Frag) (P : Program) (w : World) : List V → Hp → VK → Prop := fun vs H Q => ∃ (a : Addr) (L : List (Addr × List Int)), vs = [V.ref a] ∧ H a = some (SetTO P w a L) ∧ (∀ p ∈ L, SqT K H p.1 (p.2.map V.int)) ∧
  (∀ p ∈ L, p.2.length = 2) ∧
  ∀ (L' : List (Addr × List Int)) (p : Addr), L'.Perm L → (L'.map (·.2)).Nodup → L'.Pairwise (fun q r => lle (twoOf q.2) (twoOf r.2)) → H p = none → Q (.ref p) (upd H p (.lst (L'.map fun q => V.ref q.1)))
theorem cr_sortedTP (hc : X.calm = true) : CallR X (.builtin "sorted") (rSortedTP X.K X.prog X.w) := by
  intro pins s σ H vs us Q I r h
  obtain ⟨a, L, rfl, ha, hk, hB, q⟩ := h
  have R0 : SetT0 X.prog X.w s.heap a L := (I.hok a _ ha).1
  obtain ⟨es, ep, t, R⟩ := R0.full fun p hp => I.isT (hk p hp)
  rw [Vals.ref1 r]
  refine sorted_setP R (I.ok.hd hc) hB fun s' p out c L' k g o hp hg hout pm pw => ?_
  have hfew : L'.length < 64 := by rw [pm.length_eq]; exact R.few
  have hlen : (L'.map fun q => V.ref q.1).length ≤ sizeLine := by rw [List.length_map, sizeLine_eq]; omega
  have hn : H p = none := I.hok.fresh hp
  have hv : Vals (L'.map fun q => V.ref q.1) out := by rw [hout]; exact vals_of_refs L'
  have J : L2.Inv X pins σ (upd H p (.lst (L'.map fun q => V.ref q.1))) { s with heap := s'.heap, gens := s'.gens, drawn := s'.drawn, toks := s'.toks } :=
    I.call (ch := []) (Un.laid k hp hn) (I.hok.laid k hp ⟨hlen, out, c, hv, hg⟩) (by rw [g]; exact I.bare) (fun _ z => nomatch z)
  have e : s' = { s with heap := s'.heap, gens := s'.gens, drawn := s'.drawn, toks := s'.toks } := by
    cases s'
    cases s
    cases o
    rfl
  rw [e]
  exact ⟨.ref p, _, J, rfl, q L' p pm ((pm.map (·.2)).nodup_iff.mpr R.nd) pw hn⟩
end
theorem keyed {K : PySem.W.Frag} {N : Addr → Prop} {H : Hp} : ∀ {ps : List Pr} {vs : List V}, ImAll K N H (ps.map encP) vs → ∃ ks : List (Addr × List Int), vs = ks.map (fun p => V.ref p.1) ∧ ks.map (·.2) = ps.map (fun p => [p.1, p.2]) ∧ ∀ k ∈ ks, k.2.length = 2 ∧ Im K N H (encP (twoOf k.2)) (.ref k.1)
  | [], _, h => by simp only [List.map_nil, ImAll] at h; subst h; exact ⟨[], rfl, rfl, fun k hk => nomatch hk⟩
  | p :: ps, _, h => by
    rw [List.map_cons] at h
    simp only [ImAll] at h
    obtain ⟨v, vs, rfl, h1, h2⟩ := h
    obtain ⟨ks, e1, e2, e3⟩ := keyed h2
    obtain ⟨t, rfl, _⟩ := im_pairIs h1
    refine ⟨(t, [p.1, p.2]) :: ks, by rw [e1, List.map_cons], by rw [List.map_cons, List.map_cons, e2], fun k hk => ?_⟩
    rcases List.mem_cons.mp hk with e | hk
    · rw [e]; exact ⟨rfl, h1⟩
    · exact e3 k hk
theorem two_eq {k : List Int} (h : k.length = 2) : k = [(twoOf k).1, (twoOf k).2] := by
  match k, h with
  | [x, y], _ => rfl
theorem sq_of_im {K : PySem.W.Frag} {N : Addr → Prop} {H : Hp} {k : Addr × List Int} (h : k.2.length = 2) (im : Im K N H (encP (twoOf k.2)) (.ref k.1)) : SqT K H k.1 (k.2.map V.int) := by
  obtain ⟨t, e, q⟩ := im_pairIs im
  cases e
  have e : k.2.map V.int = [V.int (twoOf k.2).1, V.int (twoOf k.2).2] := by
    conv => lhs; rw [two_eq h]
    rfl
  rw [e]; exact q
/-- each pair once, in order -/
def SortdS (ps qs : List Pr) : Prop := qs.Nodup ∧ qs.Pairwise lle ∧ ∀ p, p ∈ qs ↔ p ∈ ps
section
variable {X : Cx} {F : Fm} {e : Expr} {t : TA} {d : TDA} {pos : Pos}
def dSortSet (t : TDA) : TDL := fun ρ Q => t ρ fun rs ρ1 => match rs with
  | [r] => onL ρ1 r fun xs => ∃ ps, asPairs xs = some ps ∧ ps.length < 64 ∧ ∀ qs, SortdS ps qs → Q (qs.map encP) ρ1
  | _ => False
theorem pl_sortSet {p p2 : Pos} {pos2 : Pos} (hc : X.calm = true) (hu : X.A.units + 64 < cLine) (hg : Gl X "sorted") (hm : X.mg "sorted" = none) (hg2 : Gl X "set") (hm2 : X.mg "set" = none) (ha : PDA X F [e] t d) (hK : X.K = F.K := by rfl)
    (he : starEach [e] X.env = (false, eval e X.env) :: starEach [] X.env := by rfl) (hpl : (backTo pos2 (starEach [] X.env)).any (·.1) = false := by rfl)
    (he2 : starEach [.Call (.Name "set" p2) [e] [] pos2] X.env = (false, eval (.Call (.Name "set" p2) [e] [] pos2) X.env) :: starEach [] X.env := by rfl) (hpl2 : (backTo pos (starEach [] X.env)).any (·.1) = false := by rfl) :
    PDL X F (.Call (.Name "sorted" p) [.Call (.Name "set" p2) [e] [] pos2] [] pos) (tCB (rSortedTP F.K X.prog X.w) (tCons (tCB (rSetOfT F.K X.prog X.w) t) tNil)) (dSortSet d) := by
  refine ⟨?_, fun pins ρ σ H Q O h => ?_, fun ρ Q Q' hq h => ?_⟩
  · have h1 := pe_callTy (p := p2) (pos := pos2) (cr_setOfT hc hu) hg2 hm2 (by decide +kernel) ha.pa (by decide) (by decide) he hpl
    have h2 := pe_callB (p := p) (pos := pos) (cr_sortedTP hc) hg hm (by decide +kernel) (pa_cons h1 pa_nil he2) (by decide) (by decide) he2 hpl2
    rw [hK] at h2
    exact h2
  · refine ha.da.run pins ρ σ H _ O (ha.da.mono _ _ _ (fun rs ρ1 h1 vs H1 O1 R1 => ?_) h)
    split at h1
    · rename_i r
      simp only [ROks] at R1
      obtain ⟨v, _, rfl, r1, rfl⟩ := R1
      obtain ⟨xs, e1, ps, e2, hlt, q⟩ := onL_of h1
      obtain ⟨l, us, rfl, sq, im⟩ := litems_ok O1 r1 e1
      cases asPairs_back e2
      obtain ⟨ks, e3, e4, e5⟩ := keyed im
      subst e3
      have hlen : ks.length = ps.length := by have := congrArg List.length e4; simpa using this
      refine ⟨l, ks, rfl, sq, fun k hk => sq_of_im (e5 k hk).1 (e5 k hk).2, by omega, fun a L ha0 hL1 hL2 => ?_⟩
      have O2 : Ok F pins ρ1 σ (upd H1 a (SetTO X.prog X.w a L)) := O1.new ha0
      have G : Go (Av F pins ρ1 σ) (Av F pins ρ1 σ) H1 (upd H1 a (SetTO X.prog X.w a L)) := ⟨fun b o _ h _ => grow_new ha0 b o h, fun b h => .inl h⟩
      have im2 : ∀ k ∈ L, k.2.length = 2 ∧ Im F.K (Av F pins ρ1 σ) (upd H1 a (SetTO X.prog X.w a L)) (encP (twoOf k.2)) (.ref k.1) := fun k hk => ⟨(e5 k (hL1 k hk)).1, (e5 k (hL1 k hk)).2.go G⟩
      refine ⟨a, L, rfl, upd_same, fun k hk => sq_of_im (im2 k hk).1 (im2 k hk).2, fun k hk => (im2 k hk).1, fun L' p' pm nd pw hp => ?_⟩
      have hL' : ∀ k ∈ L', k ∈ L := fun k hk => pm.mem_iff.mp hk
      have im3 : ImAll F.K (Av F pins ρ1 σ) (upd H1 a (SetTO X.prog X.w a L)) ((L'.map fun k => twoOf k.2).map encP) (L'.map fun k => V.ref k.1) := by
        have : ∀ M : List (Addr × List Int), (∀ k ∈ M, k ∈ L) → ImAll F.K (Av F pins ρ1 σ) (upd H1 a (SetTO X.prog X.w a L)) ((M.map fun k => twoOf k.2).map encP) (M.map fun k => V.ref k.1) := by
          intro M
          induction M with
          | nil => intro _; exact .nil
          | cons k M ih =>
            intro hM
            rw [List.map_cons, List.map_cons, List.map_cons]
            exact .cons (im2 k (hM k (List.mem_cons_self ..))).2 (ih fun j hj => hM j (List.mem_cons_of_mem _ hj))
        exact this L' hL'
      refine q (L'.map fun k => twoOf k.2) ⟨?_, List.pairwise_map.mpr pw, fun p => ⟨fun hp => ?_, fun hp => ?_⟩⟩ _ _ (O2.pushL hp im3)
      · refine List.pairwise_map.mpr (List.Pairwise.imp_of_mem (fun {j k} hj hk hne e => ?_) (List.pairwise_map.mp nd))
        have a1 := two_eq (im2 j (hL' j hj)).1
        have a2 := two_eq (im2 k (hL' k hk)).1
        exact hne (by rw [a1, a2, e])
      · obtain ⟨k, hk, rfl⟩ := List.mem_map.mp hp
        have hm : k.2 ∈ ks.map (·.2) := List.mem_map.mpr ⟨k, hL1 k (hL' k hk), rfl⟩
        rw [e4] at hm
        obtain ⟨p, hp, e⟩ := List.mem_map.mp hm
        rw [← e]; exact hp
      · have hm : [p.1, p.2] ∈ ks.map (·.2) := by rw [e4]; exact List.mem_map.mpr ⟨p, hp, rfl⟩
        obtain ⟨k, hk, e⟩ := List.mem_map.mp hm
        obtain ⟨j, hj, e9⟩ := List.mem_map.mp (hL2 k hk)
        refine List.mem_map.mpr ⟨j, pm.mem_iff.mpr hj, ?_⟩
        rw [e9, e]; rfl
    · exact h1.elim
  · refine ha.da.mono _ _ _ (fun rs ρ1 h1 => ?_) h
    revert h1
    split
    · exact fun h1 => onL_mono h1 fun xs ⟨ps, e, hl, q⟩ => ⟨ps, e, hl, fun qs s => hq _ _ (q qs s)⟩
    · exact fun h1 => h1
end
end DV
namespace HQ
open PySem PyProof.Rows
theorem kind_push : builtinKind "_heapq.heappush" = none := by decide +kernel
theorem plain_push : plainId "_heapq.heappush" = true := by decide +kernel
theorem entry_push : entryFor table "_heapq.heappush" = some Builtin.«_heapq.heappush» := entryFor_of_fast (by kernel_rfl)
theorem args_push (a b : Value) : argsOk "_heapq.heappush" ⟨[a, b], []⟩ := by unfold argsOk; kernel_rfl
theorem kind_pop : builtinKind "_heapq.heappop" = none := by decide +kernel
theorem plain_pop : plainId "_heapq.heappop" = true := by decide +kernel
theorem entry_pop : entryFor table "_heapq.heappop" = some Builtin.«_heapq.heappop» := entryFor_of_fast (by kernel_rfl)
theorem args_pop (a : Value) : argsOk "_heapq.heappop" ⟨[a], []⟩ := by unfold argsOk; kernel_rfl
theorem plain_sift : plainId "_heapq.heapify.sift" = true := by decide +kernel
theorem entry_sift : entryFor table "_heapq.heapify.sift" = some Builtin.«_heapq.heapify.sift» := entryFor_of_fast (by kernel_rfl)
section
variable {prog : Program} {w : World} {A : Around} {E : Value → Shared → Prop} {s : Shared}
theorem sub_list_list : isSubtype (.type "list") (.type "list") = pure true := by kernel_rfl
theorem push_code {l : Addr} {xs : Array Value} {n : Nat} {x : Value} {R : Fin → Shared → Prop} (hl : s.heap.get? l = some (seqObj "list" xs n)) (hz : xs.size < sizeLine)
    (h : ∀ h' e, h'.get? l = some (seqObj "list" (xs.push x) e) → Heap.SameBut l s.heap h' → R (.again (.builtin "_heapq.heapify.sift" ⟨[.ref l, .bool false, .bool false, rawInt (xs.size : Nat), rawInt (0 : Nat), .none, rawInt (-1)], []⟩)) { s with heap := h' }) :
    wpAny (model prog w) A (Builtin.«_heapq.heappush» ⟨[.ref l, x], []⟩) R E s := by
  have hsub := sub_list_list
  unfold Builtin.«_heapq.heappush»
  wp_walk
  have hp : (Obj.mapSeq (fun x_1 => x_1.push x) (seqObj "list" xs n)).data.pastItsLine = none := by
    show Data.pastItsLine (.seq (xs.push x) _) = none
    exact pastItsLine_seq (by rw [Array.size_push]; omega)
  rw [hp]
  refine wpAny_pure ?_
  have h1 : ∃ e, (s.heap.update l (Obj.mapSeq fun x_1 => x_1.push x)).get? l = some (seqObj "list" (xs.push x) e) := ⟨_, get?_update_seq hl _⟩
  have h2 : Heap.SameBut l s.heap (s.heap.update l (Obj.mapSeq fun x_1 => x_1.push x)) := Heap.SameBut.update ..
  generalize s.heap.update l (Obj.mapSeq fun x_1 => x_1.push x) = h3 at h1 h2
  obtain ⟨e, h1⟩ := h1
  have h4 := h h3 e h1 h2
  wp_walk
  have e0 : (xs.push x).size - 1 = xs.size := by simp
  rw [e0]
  exact h4
theorem rc_lt {a b : Int} {t u : Tok} {Q : Value → Shared → Prop} (h : Q (.bool (decide (a < b))) s) : wpAny (model prog w) A (richCompare .Lt (.int a t) (.int b u)) Q E s := PyProof.Rows.lt_int h
abbrev SC (l : Addr) (down : Bool) (i : Nat) (res : Value) : Code := .builtin "_heapq.heapify.sift" ⟨[.ref l, .bool false, .bool down, rawInt (i : Nat), rawInt (0 : Nat), res, rawInt (-1)], []⟩
abbrev sw (xs : Array Value) (i j : Nat) (x y : Value) : Array Value := (xs.setIfInBounds i y).setIfInBounds j x
theorem swap_at {l : Addr} {xs : Array Value} {n : Nat} {i j : Nat} {x y : Value} (hl : s.heap.get? l = some (seqObj "list" xs n)) : ∃ e, (s.heap.update l (Obj.mapSeq fun xs => (xs.setIfInBounds i y).setIfInBounds j x)).get? l = some (seqObj "list" (sw xs i j x y) e) := ⟨_, get?_update_seq hl _⟩
theorem past_sw {xs : Array Value} {n i j : Nat} {x y : Value} (hz : xs.size ≤ sizeLine) : (Obj.mapSeq (fun xs => (xs.setIfInBounds i y).setIfInBounds j x) (seqObj "list" xs n)).data.pastItsLine = none := by
  show Data.pastItsLine (.seq _ _) = none
  exact pastItsLine_seq (by simp; omega)
theorem up_code {l : Addr} {xs : Array Value} {n : Nat} {i : Nat} {res : Value} {x p : Int} {t u : Tok} {R : Fin → Shared → Prop} (hl : s.heap.get? l = some (seqObj "list" xs n)) (hi : 0 < i)
    (hx : xs[i]? = some (.int x t)) (hp : xs[(i - 1) / 2]? = some (.int p u)) (hz : xs.size ≤ sizeLine)
    (h1 : x < p → ∀ h' e, h'.get? l = some (seqObj "list" (sw xs ((i - 1) / 2) i (.int p u) (.int x t)) e) → Heap.SameBut l s.heap h' → R (.again (SC l false ((i - 1) / 2) res)) { s with heap := h' })
    (h2 : ¬ x < p → R (.done (.ret res)) s) :
    wpAny (model prog w) A (Builtin.«_heapq.heapify.sift» ⟨[.ref l, .bool false, .bool false, rawInt (i : Nat), rawInt (0 : Nat), res, rawInt (-1)], []⟩) R E s := by
  unfold Builtin.«_heapq.heapify.sift»
  wp_walk
  simp only [Int.toNat_natCast, hx, hp]
  refine wpAny_pure ?_
  wp_walk
  simp only [hp]
  refine wpAny_pure ?_
  simp only [Bool.false_eq_true, if_false]
  wp_walk using rc_lt
  by_cases c : x < p
  · rw [if_pos (by simpa using c)]
    wp_walk
    simp only [hp, hx]
    refine wpAny_pure ?_
    wp_walk
    simp only [hp, hx]
    refine wpAny_pure ?_
    wp_walk
    rw [past_sw hz]
    refine wpAny_pure ?_
    wp_walk
    obtain ⟨e, he⟩ := swap_at (i := (i - 1) / 2) (j := i) (x := .int p u) (y := .int x t) hl
    exact h1 c _ e he (Heap.SameBut.update ..)
  · rw [if_neg (by simpa using c)]
    wp_walk
    exact h2 c
theorem top_code {l : Addr} {xs : Array Value} {n : Nat} {res : Value} {R : Fin → Shared → Prop} (hl : s.heap.get? l = some (seqObj "list" xs n))
    (h2 : R (.done (.ret res)) s) :
    wpAny (model prog w) A (Builtin.«_heapq.heapify.sift» ⟨[.ref l, .bool false, .bool false, rawInt (0 : Nat), rawInt (0 : Nat), res, rawInt (-1)], []⟩) R E s := by
  unfold Builtin.«_heapq.heapify.sift»
  wp_walk
  exact h2
theorem leaf_code {l : Addr} {xs : Array Value} {n : Nat} {i : Nat} {res : Value} {R : Fin → Shared → Prop} (hl : s.heap.get? l = some (seqObj "list" xs n)) (hi : ¬ i < xs.size / 2)
    (h2 : R (.again (SC l false i res)) s) :
    wpAny (model prog w) A (Builtin.«_heapq.heapify.sift» ⟨[.ref l, .bool false, .bool true, rawInt (i : Nat), rawInt (0 : Nat), res, rawInt (-1)], []⟩) R E s := by
  unfold Builtin.«_heapq.heapify.sift»
  wp_walk
  exact h2
theorem down_code {l : Addr} {xs : Array Value} {n : Nat} {i c : Nat} {res : Value} {x y : Value} {a b : Int} {t u : Tok} {R : Fin → Shared → Prop} (hl : s.heap.get? l = some (seqObj "list" xs n)) (hi : i < xs.size / 2)
    (hx : xs[i]? = some x) (hy : xs[c]? = some y) (ha : xs[2 * i + 1]? = some (.int a t)) (hb : 2 * i + 2 < xs.size → xs[2 * i + 2]? = some (.int b u)) (hz : xs.size ≤ sizeLine)
    (hc : c = if 2 * i + 2 < xs.size ∧ ¬ a < b then 2 * i + 2 else 2 * i + 1)
    (h1 : ∀ h' e, h'.get? l = some (seqObj "list" (sw xs c i y x) e) → Heap.SameBut l s.heap h' → R (.again (SC l true c res)) { s with heap := h' }) :
    wpAny (model prog w) A (Builtin.«_heapq.heapify.sift» ⟨[.ref l, .bool false, .bool true, rawInt (i : Nat), rawInt (0 : Nat), res, rawInt (-1)], []⟩) R E s := by
  unfold Builtin.«_heapq.heapify.sift»
  wp_walk
  simp only [Int.toNat_natCast]
  by_cases h2 : 2 * i + 2 < xs.size
  · rw [if_pos (show 2 * i + 1 + 1 < xs.size from h2)]
    have hb' : xs[2 * i + 1 + 1]? = some (.int b u) := hb h2
    wp_walk
    simp only [ha]
    refine wpAny_pure ?_
    wp_walk
    simp only [hb']
    refine wpAny_pure ?_
    simp only [Bool.false_eq_true, if_false]
    wp_walk using rc_lt
    by_cases hab : a < b
    · have hc' : c = 2 * i + 1 := by rw [hc, if_neg (fun z => z.2 hab)]
      subst hc'
      rw [if_neg (by simpa using hab)]
      wp_walk
      simp only [hx, hy]
      refine wpAny_pure ?_
      wp_walk
      simp only [hx, hy]
      refine wpAny_pure ?_
      wp_walk
      rw [past_sw hz]
      refine wpAny_pure ?_
      wp_walk
      obtain ⟨e, he⟩ := swap_at (i := 2 * i + 1) (j := i) (x := y) (y := x) hl
      exact h1 _ e he (Heap.SameBut.update ..)
    · have hc' : c = 2 * i + 2 := by rw [hc, if_pos ⟨h2, hab⟩]
      subst hc'
      rw [if_pos (by simpa using hab)]
      have hy' : xs[2 * i + 1 + 1]? = some y := hy
      wp_walk
      simp only [hx, hy']
      refine wpAny_pure ?_
      wp_walk
      simp only [hx, hy']
      refine wpAny_pure ?_
      wp_walk
      rw [past_sw hz]
      refine wpAny_pure ?_
      wp_walk
      obtain ⟨e, he⟩ := swap_at (i := 2 * i + 2) (j := i) (x := y) (y := x) hl
      exact h1 _ e he (Heap.SameBut.update ..)
  · rw [if_neg (show ¬ 2 * i + 1 + 1 < xs.size from h2)]
    have hc' : c = 2 * i + 1 := by rw [hc, if_neg (fun z => h2 z.1)]
    subst hc'
    wp_walk
    simp only [hx, hy]
    refine wpAny_pure ?_
    wp_walk
    simp only [hx, hy]
    refine wpAny_pure ?_
    wp_walk
    rw [past_sw hz]
    refine wpAny_pure ?_
    wp_walk
    obtain ⟨e, he⟩ := swap_at (i := 2 * i + 1) (j := i) (x := y) (y := x) hl
    exact h1 _ e he (Heap.SameBut.update ..)
theorem pop_one {l : Addr} {n : Nat} {x : Value} {R : Fin → Shared → Prop} (hl : s.heap.get? l = some (seqObj "list" #[x] n))
    (h : ∀ h' e, h'.get? l = some (seqObj "list" #[] e) → Heap.SameBut l s.heap h' → R (.done (.ret x)) { s with heap := h' }) :
    wpAny (model prog w) A (Builtin.«_heapq.heappop» ⟨[.ref l], []⟩) R E s := by
  have hsub := sub_list_list
  unfold Builtin.«_heapq.heappop»
  wp_walk
  exact h _ _ (get?_update_seq hl _) (Heap.SameBut.update ..)
theorem pop_code {l : Addr} {xs : Array Value} {n : Nat} {x y : Value} {R : Fin → Shared → Prop} (hl : s.heap.get? l = some (seqObj "list" (xs.push y) n)) (hx : xs[0]? = some x) (hz : xs.size ≤ sizeLine)
    (h : ∀ h' e, h'.get? l = some (seqObj "list" (xs.setIfInBounds 0 y) e) → Heap.SameBut l s.heap h' → R (.again (SC l true 0 x)) { s with heap := h' }) :
    wpAny (model prog w) A (Builtin.«_heapq.heappop» ⟨[.ref l], []⟩) R E s := by
  have hsub := sub_list_list
  unfold Builtin.«_heapq.heappop»
  wp_walk
  have e1 : (xs.push y).back? = some y := by simp
  have h0 : 0 < xs.size := by
    rcases Nat.lt_or_ge 0 xs.size with z | z
    · exact z
    · rw [Array.getElem?_eq_none z] at hx; cases hx
  have e2 : ((xs.push y).size == 1) = false := by
    rw [Array.size_push]
    exact beq_eq_false_iff_ne.mpr (by omega)
  have e3 : (xs.push y)[0]? = some x := by
    rw [Array.getElem?_push_lt h0]
    rw [Array.getElem?_eq_getElem h0] at hx
    exact hx
  simp only [e1, e2, e3]
  wp_walk
  have hp : (Obj.mapSeq (fun x => x.pop) (seqObj "list" (xs.push y) n)).data.pastItsLine = none := by
    show Data.pastItsLine (.seq _ _) = none
    exact pastItsLine_seq (by simp; omega)
  rw [hp]
  refine wpAny_pure ?_
  have h1 : ∃ e, (s.heap.update l (Obj.mapSeq fun x => x.pop)).get? l = some (seqObj "list" xs e) := ⟨_, by rw [get?_update_seq hl _, Array.pop_push]⟩
  have h2 : Heap.SameBut l s.heap (s.heap.update l (Obj.mapSeq fun x => x.pop)) := Heap.SameBut.update ..
  generalize s.heap.update l (Obj.mapSeq fun x => x.pop) = h3 at h1 h2
  obtain ⟨e, h1⟩ := h1
  simp only [Bool.false_eq_true, if_false]
  wp_walk
  simp only [e3]
  refine wpAny_pure ?_
  wp_walk
  have hp2 : (Obj.mapSeq (fun x => x.setIfInBounds 0 y) (seqObj "list" xs e)).data.pastItsLine = none := by
    show Data.pastItsLine (.seq _ _) = none
    exact pastItsLine_seq (by simp; omega)
  rw [hp2]
  refine wpAny_pure ?_
  wp_walk
  exact h _ _ (get?_update_seq h1 _) (h2.trans (Heap.SameBut.update ..))
def Ints (xs : Array Value) (f : Nat → Int) : Prop := ∀ i, i < xs.size → ∃ t, xs[i]? = some (.int (f i) t)
def HeapF (n : Nat) (f : Nat → Int) : Prop := ∀ j, 0 < j → j < n → f ((j - 1) / 2) ≤ f j
def HeapA (xs : Array Value) : Prop := ∃ f, Ints xs f ∧ HeapF xs.size f
def UpOk (n : Nat) (f : Nat → Int) (i : Nat) : Prop := (∀ j, 0 < j → j < n → j ≠ i → f ((j - 1) / 2) ≤ f j) ∧ (0 < i → ∀ c, 0 < c → c < n → (c - 1) / 2 = i → f ((i - 1) / 2) ≤ f c)
def DownOk (n : Nat) (f : Nat → Int) (i : Nat) : Prop := (∀ j, 0 < j → j < n → j ≠ i → (j - 1) / 2 ≠ i → f ((j - 1) / 2) ≤ f j) ∧ (0 < i → ∀ c, 0 < c → c < n → (c - 1) / 2 = i → f ((i - 1) / 2) ≤ f c)
def swF (f : Nat → Int) (i j : Nat) : Nat → Int := fun k => if k = i then f j else if k = j then f i else f k
theorem sw_size {xs : Array Value} {i j : Nat} {x y : Value} : (sw xs i j x y).size = xs.size := by simp [sw]
theorem sw_ints {xs : Array Value} {f : Nat → Int} {i j : Nat} {x y : Value} (h : Ints xs f) (hx : xs[i]? = some x) (hy : xs[j]? = some y) : Ints (sw xs i j x y) (swF f i j) := by
  intro k hk
  rw [sw_size] at hk
  have hi : i < xs.size := by
    rcases Nat.lt_or_ge i xs.size with z | z
    · exact z
    · rw [Array.getElem?_eq_none z] at hx; cases hx
  have hj : j < xs.size := by
    rcases Nat.lt_or_ge j xs.size with z | z
    · exact z
    · rw [Array.getElem?_eq_none z] at hy; cases hy
  obtain ⟨ti, ei⟩ := h i hi
  obtain ⟨tj, ej⟩ := h j hj
  obtain ⟨tk, ek⟩ := h k hk
  rw [hx] at ei
  rw [hy] at ej
  cases ei
  cases ej
  unfold sw swF
  rw [Array.getElem?_setIfInBounds, Array.getElem?_setIfInBounds]
  by_cases e1 : j = k
  · subst e1
    rw [if_pos rfl]
    by_cases e2 : j = i
    · subst e2
      refine ⟨ti, ?_⟩
      simp [hj]
    · refine ⟨ti, ?_⟩
      simp [hj, e2]
  · rw [if_neg e1]
    by_cases e2 : i = k
    · subst e2
      refine ⟨tj, ?_⟩
      simp [hi]
    · refine ⟨tk, ?_⟩
      rw [if_neg e2, if_neg (fun z => e2 z.symm), if_neg (fun z => e1 z.symm), ek]
theorem sw_perm {xs : Array Value} {i j : Nat} {x y : Value} (hx : xs[i]? = some x) (hy : xs[j]? = some y) : (sw xs i j x y).toList.Perm xs.toList := by
  have hi : i < xs.size := by
    rcases Nat.lt_or_ge i xs.size with z | z
    · exact z
    · rw [Array.getElem?_eq_none z] at hx; cases hx
  have hj : j < xs.size := by
    rcases Nat.lt_or_ge j xs.size with z | z
    · exact z
    · rw [Array.getElem?_eq_none z] at hy; cases hy
  have e : sw xs i j x y = xs.swap i j := by
    rw [Array.getElem?_eq_getElem hi] at hx
    rw [Array.getElem?_eq_getElem hj] at hy
    cases hx
    cases hy
    unfold sw
    rw [Array.swap_def]
    simp [Array.setIfInBounds, hi, hj]
  rw [e]
  exact Array.perm_iff_toList_perm.mp (Array.swap_perm hi hj)
theorem up_swap {n i : Nat} {f : Nat → Int} (hi : 0 < i) (hn : i < n) (h : UpOk n f i) (hlt : f i < f ((i - 1) / 2)) : UpOk n (swF f ((i - 1) / 2) i) ((i - 1) / 2) := by
  have hp : (i - 1) / 2 < i := by omega
  refine ⟨fun j h0 hj hne => ?_, fun h0 c hc0 hc hce => ?_⟩
  · unfold swF
    by_cases e1 : j = i
    · subst e1
      rw [if_pos rfl, if_neg (by omega), if_pos rfl]
      omega
    · rw [if_neg hne, if_neg e1]
      by_cases e2 : (j - 1) / 2 = (i - 1) / 2
      · rw [if_pos e2]
        have := h.1 j h0 hj e1
        rw [e2] at this
        omega
      · rw [if_neg e2]
        by_cases e3 : (j - 1) / 2 = i
        · rw [if_pos e3]
          exact h.2 hi j h0 hj e3
        · rw [if_neg e3]
          exact h.1 j h0 hj e1
  · unfold swF
    have hpp : ((i - 1) / 2 - 1) / 2 < (i - 1) / 2 := by omega
    rw [if_neg (show ¬ ((i - 1) / 2 - 1) / 2 = (i - 1) / 2 by omega), if_neg (show ¬ ((i - 1) / 2 - 1) / 2 = i by omega)]
    have a1 := h.1 ((i - 1) / 2) h0 (by omega) (by omega)
    by_cases e1 : c = i
    · rw [if_neg (by omega), if_pos e1]
      exact a1
    · rw [if_neg (by omega), if_neg e1]
      have a2 := h.1 c hc0 hc e1
      rw [hce] at a2
      omega
theorem up_done {n i : Nat} {f : Nat → Int} (h : UpOk n f i) (hge : 0 < i → f ((i - 1) / 2) ≤ f i) : HeapF n f := fun j h0 hj => by
  by_cases e : j = i
  · subst e
    exact hge h0
  · exact h.1 j h0 hj e
theorem up_run {l : Addr} {res : Value} {R : Result → Shared → Prop} : ∀ (i : Nat) {s : Shared} {xs : Array Value} {n : Nat} {f : Nat → Int}, s.heap.get? l = some (seqObj "list" xs n) → xs.size ≤ sizeLine → Ints xs f → (0 < i → i < xs.size) → UpOk xs.size f i →
    (∀ h' e ys, h'.get? l = some (seqObj "list" ys e) → Heap.SameBut l s.heap h' → ys.toList.Perm xs.toList → HeapA ys → R (.ok (.ret res)) { s with heap := h' }) →
    codeAny (model prog w) A (SC l false i res) R s := by
  intro i
  induction i using Nat.strongRecOn with
  | _ i ih =>
    intro s xs n f hl hz hI hn hU hR
    refine codeAny_builtin entry_sift ?_
    rw [Around.under_plainId plain_sift _]
    rcases Nat.eq_zero_or_pos i with e | h0
    · subst e
      refine top_code hl ?_
      exact hR s.heap n xs hl (Heap.SameBut.refl l s.heap) (List.Perm.refl _) ⟨f, hI, up_done hU fun z => absurd z (Nat.lt_irrefl 0)⟩
    · have hp : (i - 1) / 2 < i := by omega
      obtain ⟨t, hx⟩ := hI i (hn h0)
      obtain ⟨u, hy⟩ := hI ((i - 1) / 2) (Nat.lt_trans hp (hn h0))
      refine up_code hl h0 hx hy hz (fun hlt h' e he hs => ⟨plainId_quiet plain_sift _, ?_⟩) fun hge => ?_
      · refine ih ((i - 1) / 2) hp (s := { s with heap := h' }) he (by rw [sw_size]; exact hz) (sw_ints hI hy hx) (fun _ => by rw [sw_size]; exact Nat.lt_trans hp (hn h0)) (by rw [sw_size]; exact up_swap h0 (hn h0) hU hlt) fun h2 e2 ys he2 hs2 pm hh => ?_
        exact hR h2 e2 ys he2 (hs.trans hs2) (pm.trans (sw_perm hy hx)) hh
      · exact hR s.heap n xs hl (Heap.SameBut.refl l s.heap) (List.Perm.refl _) ⟨f, hI, up_done hU fun _ => by omega⟩
theorem down_leaf {n i : Nat} {f : Nat → Int} (h : DownOk n f i) (hi : ¬ i < n / 2) : UpOk n f i :=
  ⟨fun j h0 hj hne => h.1 j h0 hj hne (by omega), h.2⟩
theorem down_swF {n i c : Nat} {f : Nat → Int} (h : DownOk n f i) (hi : i < n / 2) (hc : c = if 2 * i + 2 < n ∧ ¬ f (2 * i + 1) < f (2 * i + 2) then 2 * i + 2 else 2 * i + 1) : DownOk n (swF f c i) c := by
  have hci : (c - 1) / 2 = i ∧ i < c ∧ c < n ∧ (∀ d, 0 < d → d < n → (d - 1) / 2 = i → f c ≤ f d) := by
    split at hc
    · rename_i q
      subst hc
      refine ⟨by omega, by omega, q.1, fun d h0 hd hde => ?_⟩
      have : d = 2 * i + 1 ∨ d = 2 * i + 2 := by omega
      rcases this with e | e
      · rw [e]; omega
      · rw [e]; omega
    · rename_i q
      subst hc
      refine ⟨by omega, by omega, by omega, fun d h0 hd hde => ?_⟩
      have : d = 2 * i + 1 ∨ d = 2 * i + 2 := by omega
      rcases this with e | e
      · rw [e]; omega
      · rw [e]
        have : f (2 * i + 1) < f (2 * i + 2) := by
          rcases Int.lt_or_le (f (2 * i + 1)) (f (2 * i + 2)) with z | z
          · exact z
          · exact absurd ⟨by omega, by omega⟩ q
        omega
  obtain ⟨c1, c2, c3, c4⟩ := hci
  refine ⟨fun j h0 hj hne hpe => ?_, fun hc0 d hd0 hd hde => ?_⟩
  · unfold swF
    rw [if_neg hpe, if_neg hne]
    by_cases e1 : j = i
    · subst e1
      rw [if_pos rfl, if_neg (by omega)]
      exact h.2 h0 c (by omega) c3 c1
    · rw [if_neg e1]
      by_cases e2 : (j - 1) / 2 = i
      · rw [if_pos e2]
        exact c4 j h0 hj e2
      · rw [if_neg e2]
        exact h.1 j h0 hj e1 e2
  · unfold swF
    rw [c1, if_neg (show ¬ i = c by omega), if_pos rfl, if_neg (by omega), if_neg (by omega)]
    have := h.1 d hd0 hd (by omega) (by omega)
    rw [hde] at this
    exact this
theorem down_run {l : Addr} {res : Value} {R : Result → Shared → Prop} : ∀ (k i : Nat) {s : Shared} {xs : Array Value} {n : Nat} {f : Nat → Int}, xs.size - i ≤ k → s.heap.get? l = some (seqObj "list" xs n) → xs.size ≤ sizeLine → Ints xs f → i < xs.size → DownOk xs.size f i →
    (∀ h' e ys, h'.get? l = some (seqObj "list" ys e) → Heap.SameBut l s.heap h' → ys.toList.Perm xs.toList → HeapA ys → R (.ok (.ret res)) { s with heap := h' }) →
    codeAny (model prog w) A (SC l true i res) R s := by
  intro k
  induction k with
  | zero => intro i s xs n f hk hl hz hI hn; omega
  | succ k ih =>
    intro i s xs n f hk hl hz hI hn hD hR
    refine codeAny_builtin entry_sift ?_
    rw [Around.under_plainId plain_sift _]
    by_cases hi : i < xs.size / 2
    · obtain ⟨t, hx⟩ := hI i hn
      obtain ⟨ta, ha⟩ := hI (2 * i + 1) (by omega)
      have hb : ∃ tb : Tok, 2 * i + 2 < xs.size → xs[2 * i + 2]? = some (.int (f (2 * i + 2)) tb) := by
        by_cases q : 2 * i + 2 < xs.size
        · obtain ⟨tb, hb⟩ := hI _ q
          exact ⟨tb, fun _ => hb⟩
        · exact ⟨ta, fun z => absurd z q⟩
      obtain ⟨tb, hb⟩ := hb
      obtain ⟨c, hc⟩ : ∃ c, c = if 2 * i + 2 < xs.size ∧ ¬ f (2 * i + 1) < f (2 * i + 2) then 2 * i + 2 else 2 * i + 1 := ⟨_, rfl⟩
      have hcn : i < c ∧ c < xs.size := by
        split at hc
        · rename_i q; omega
        · omega
      obtain ⟨tc, hy⟩ := hI c hcn.2
      refine down_code hl hi hx hy ha hb hz hc fun h' e he hs => ⟨plainId_quiet plain_sift _, ?_⟩
      refine ih c (s := { s with heap := h' }) (by rw [sw_size]; omega) he (by rw [sw_size]; exact hz) (sw_ints hI hy hx) (by rw [sw_size]; exact hcn.2) (by rw [sw_size]; exact down_swF hD hi hc) fun h2 e2 ys he2 hs2 pm hh => ?_
      exact hR h2 e2 ys he2 (hs.trans hs2) (pm.trans (sw_perm hy hx)) hh
    · refine leaf_code hl hi ⟨plainId_quiet plain_sift _, ?_⟩
      exact up_run i hl hz hI (fun _ => hn) (down_leaf hD hi) hR
end
end HQ
namespace DV
open PySem PySem.Spec PyProof.Rows L2
open LamX (ExtN TabS Tabs CodeO)
def HeapL (ns : List Int) : Prop := HQ.HeapF ns.length fun i => ns.getD i 0
theorem ints_at : ∀ {its : List Value} {ns : List Int}, IntsAre its ns → ∀ i, i < its.length → ∃ t, its[i]? = some (.int (ns.getD i 0) t)
  | _, _, .nil, i, h => by simp at h
  | _, _, .cons n t r, 0, h => ⟨t, rfl⟩
  | _, _, .cons n t r, i + 1, h => by
    obtain ⟨u, e⟩ := ints_at r i (by simpa using h)
    exact ⟨u, by simpa using e⟩
theorem ints_len : ∀ {its : List Value} {ns : List Int}, IntsAre its ns → its.length = ns.length
  | _, _, .nil => rfl
  | _, _, .cons n t r => by rw [List.length_cons, List.length_cons, ints_len r]
theorem ints_arr {its : List Value} {ns : List Int} (h : IntsAre its ns) : HQ.Ints its.toArray fun i => ns.getD i 0 := fun i hi => by
  obtain ⟨t, e⟩ := ints_at h i (by simpa using hi)
  exact ⟨t, by simpa using e⟩
theorem heapA_of {its : List Value} {ns : List Int} (h : IntsAre its ns) (k : HeapL ns) : HQ.HeapA its.toArray :=
  ⟨_, ints_arr h, by rw [List.size_toArray, ints_len h]; exact k⟩
theorem heapL_of {ys : Array Value} {ms : List Int} (h : IntsAre ys.toList ms) (k : HQ.HeapA ys) : HeapL ms := by
  obtain ⟨f, h1, h2⟩ := k
  have hl := ints_len h
  rw [Array.length_toList] at hl
  have e : ∀ j, j < ms.length → ms.getD j 0 = f j := fun j hj => by
    obtain ⟨t, e1⟩ := h1 j (by omega)
    obtain ⟨u, e2⟩ := ints_at h j (by rw [Array.length_toList]; omega)
    rw [Array.getElem?_toList, e1] at e2
    injection e2 with e2
    injection e2 with e2
    exact e2.symm
  intro j h0 hj
  show ms.getD ((j - 1) / 2) 0 ≤ ms.getD j 0
  rw [e j hj, e _ (by omega)]
  exact h2 j h0 (by omega)
theorem heap_min {n : Nat} {f : Nat → Int} (h : HQ.HeapF n f) : ∀ j, j < n → f 0 ≤ f j := by
  intro j
  induction j using Nat.strongRecOn with
  | _ j ih =>
    intro hj
    rcases Nat.eq_zero_or_pos j with e | h0
    · subst e; exact Int.le_refl _
    · exact Int.le_trans (ih ((j - 1) / 2) (by omega) (by omega)) (h j h0 hj)
section
variable {prog : Program} {w : World} {A : Around} {E : Value → Shared → Prop} {s : Shared}
theorem call_push {l : Addr} {xs : Array Value} {n : Nat} {x : Int} {t : Tok} {Q : Value → Shared → Prop} (hl : s.heap.get? l = some (seqObj "list" xs n)) (hz : xs.size < sizeLine) (hh : HQ.HeapA xs)
    (h : ∀ h' e ys, h'.get? l = some (seqObj "list" ys e) → Heap.SameBut l s.heap h' → ys.toList.Perm (xs.push (.int x t)).toList → HQ.HeapA ys → Q .none { s with heap := h' }) :
    wpAny (model prog w) A (call (.builtin "_heapq.heappush") [.ref l, .int x t]) Q E s := by
  refine call_function_tree HQ.kind_push HQ.plain_push HQ.entry_push (HQ.args_push _ _) (HQ.push_code hl hz fun h' e he hs => ⟨plainId_quiet HQ.plain_sift _, ?_⟩)
  obtain ⟨f, hI, hF⟩ := hh
  have hsz : (xs.push (.int x t)).size = xs.size + 1 := Array.size_push ..
  refine HQ.up_run xs.size (s := { s with heap := h' }) (f := fun k => if k = xs.size then x else f k) he (by omega) (fun k hk => ?_) (fun _ => by omega) ⟨fun j h0 hj hne => ?_, fun h0 c hc0 hc hce => by omega⟩ fun h2 e2 ys he2 hs2 pm hh => ?_
  · rw [hsz] at hk
    by_cases e : k = xs.size
    · subst e
      refine ⟨t, ?_⟩
      simp
    · obtain ⟨u, eu⟩ := hI k (by omega)
      refine ⟨u, ?_⟩
      show _ = some (Value.int (if k = xs.size then x else f k) u)
      rw [if_neg e, Array.getElem?_push_lt (by omega)]
      rw [Array.getElem?_eq_getElem (by omega)] at eu
      exact eu
  · show (if (j - 1) / 2 = xs.size then x else f ((j - 1) / 2)) ≤ (if j = xs.size then x else f j)
    rw [hsz] at hj
    rw [if_neg hne, if_neg (by omega)]
    exact hF j h0 (by omega)
  · exact h h2 e2 ys he2 (hs.trans hs2) pm hh
theorem call_pop {l : Addr} {xs : Array Value} {n : Nat} {Q : Value → Shared → Prop} (hl : s.heap.get? l = some (seqObj "list" xs n)) (h0 : 0 < xs.size) (hz : xs.size ≤ sizeLine) (hh : HQ.HeapA xs)
    (h : ∀ h' e ys v, xs[0]? = some v → h'.get? l = some (seqObj "list" ys e) → Heap.SameBut l s.heap h' → (v :: ys.toList).Perm xs.toList → HQ.HeapA ys → Q v { s with heap := h' }) :
    wpAny (model prog w) A (call (.builtin "_heapq.heappop") [.ref l]) Q E s := by
  obtain ⟨ys, y, rfl⟩ : ∃ ys y, xs = Array.push ys y := Array.eq_push_of_size_ne_zero (by omega)
  refine call_function_tree HQ.kind_pop HQ.plain_pop HQ.entry_pop (HQ.args_pop _) ?_
  obtain ⟨f, hI, hF⟩ := hh
  have hsz : (ys.push y).size = ys.size + 1 := Array.size_push ..
  rcases Nat.eq_zero_or_pos ys.size with e0 | hp
  · have e : ys = #[] := Array.eq_empty_of_size_eq_zero e0
    subst e
    refine HQ.pop_one hl fun h' e he hs => ?_
    exact h h' e #[] y rfl he hs (List.Perm.refl _) ⟨fun _ => 0, fun i hi => absurd hi (Nat.not_lt_zero _), fun j h0 hj => absurd hj (Nat.not_lt_zero _)⟩
  · obtain ⟨t, ex⟩ := hI 0 (by omega)
    have ex1 : ys[0]? = some (.int (f 0) t) := by
      rw [Array.getElem?_push_lt hp] at ex
      rw [Array.getElem?_eq_getElem hp]
      exact ex
    obtain ⟨ty, ey⟩ := hI ys.size (by omega)
    have ey1 : y = .int (f ys.size) ty := by
      rw [Array.getElem?_push_size] at ey
      injection ey
    refine HQ.pop_code hl ex1 (by omega) fun h' e he hs => ⟨plainId_quiet HQ.plain_sift _, ?_⟩
    have hss : (ys.setIfInBounds 0 y).size = ys.size := by simp
    refine HQ.down_run (ys.setIfInBounds 0 y).size 0 (s := { s with heap := h' }) (f := fun k => if k = 0 then f ys.size else f k) (by omega) he (by rw [hss]; omega) (fun k hk => ?_) (by rw [hss]; exact hp) ⟨fun j h0 hj hne hpe => ?_, fun z => absurd z (Nat.lt_irrefl 0)⟩ fun h2 e2 zs he2 hs2 pm hh => ?_
    · rw [hss] at hk
      by_cases e : k = 0
      · subst e
        refine ⟨ty, ?_⟩
        simp [hp, ey1]
      · obtain ⟨u, eu⟩ := hI k (by omega)
        refine ⟨u, ?_⟩
        show _ = some (Value.int (if k = 0 then f ys.size else f k) u)
        rw [if_neg e, Array.getElem?_setIfInBounds, if_neg (fun z => e z.symm)]
        rw [Array.getElem?_push_lt hk] at eu
        rw [Array.getElem?_eq_getElem hk]
        exact eu
    · show (if (j - 1) / 2 = 0 then f ys.size else f ((j - 1) / 2)) ≤ (if j = 0 then f ys.size else f j)
      rw [hss] at hj
      rw [if_neg hne, if_neg hpe]
      exact hF j h0 (by omega)
    · refine h h2 e2 zs (.int (f 0) t) ex he2 (hs.trans hs2) ?_ hh
      refine (List.Perm.cons _ pm).trans ?_
      have hl2 : ys.toList = .int (f 0) t :: ys.toList.tail := by
        cases q : ys.toList with
        | nil => exact absurd (show ys.size = 0 by rw [← Array.length_toList, q]; rfl) (by omega)
        | cons a as =>
          have : ys.toList[0]? = some (.int (f 0) t) := by rw [Array.getElem?_toList]; exact ex1
          rw [q] at this
          injection this with this
          rw [this]; rfl
      rw [Array.toList_setIfInBounds, Array.toList_push, hl2]
      show (Value.int (f 0) t :: (y :: ys.toList.tail)).Perm (Value.int (f 0) t :: (ys.toList.tail ++ [y]))
      exact List.Perm.cons _ (List.perm_append_singleton y _).symm
end
section
variable {X : Cx}
def rPush : List V → Hp → VK → Prop := fun vs H Q => ∃ (a : Addr) (ns : List Int) (x : Int), vs = [V.ref a, .int x] ∧ H a = some (.lst (ns.map V.int)) ∧ ns.length < sizeLine ∧ HeapL ns ∧
  ∀ ms, ms.Perm (x :: ns) → HeapL ms → Q .non (upd H a (.lst (ms.map V.int)))
def rPopH : List V → Hp → VK → Prop := fun vs H Q => ∃ (a : Addr) (ns : List Int), vs = [V.ref a] ∧ H a = some (.lst (ns.map V.int)) ∧ 0 < ns.length ∧ HeapL ns ∧
  ∀ v ms, (v :: ms).Perm ns → (∀ y ∈ ns, v ≤ y) → HeapL ms → Q (.int v) (upd H a (.lst (ms.map V.int)))
theorem perm_iv {ys its : List Value} {ns : List Int} (h : IntsAre its ns) (p : ys.Perm its) : IntsAre ys (ys.map SrtO.iv) ∧ (ys.map SrtO.iv).Perm ns := by
  refine ⟨SrtO.ints_iv fun v hv => SrtO.ints_mem h v (p.mem_iff.mp hv), ?_⟩
  have := p.map SrtO.iv
  rw [SrtO.iv_ints h] at this
  exact this
theorem ints_snoc {its : List Value} {ns : List Int} {x : Int} {t : Tok} : IntsAre its ns → IntsAre (its ++ [.int x t]) (ns ++ [x])
  | .nil => .cons x t .nil
  | .cons n u r => .cons n u (ints_snoc r)
theorem cr_push : CallR X (.builtin "_heapq.heappush") rPush := by
  intro pins s σ H vs us Q I r h
  obtain ⟨a, ns, x, rfl, ha, hz, hh, q⟩ := h
  obtain ⟨_, _, rfl, ra, rx⟩ := vals2 r
  cases ra
  obtain ⟨t, rfl⟩ := rx
  obtain ⟨_, its, n, rv, hl, e⟩ := I.lstM ha
  have hi := rv.ints
  refine call_push e (by rw [List.size_toArray, ints_len hi]; exact hz) (heapA_of hi hh) fun h' e' ys he hs pm hA => ?_
  have pm2 : ys.toList.Perm (its ++ [.int x t]) := by
    have : (its.toArray.push (.int x t)).toList = its ++ [.int x t] := by simp
    rw [← this]; exact pm
  obtain ⟨k1, k2⟩ := perm_iv (ints_snoc (x := x) (t := t) hi) pm2
  have k3 : (ys.toList.map SrtO.iv).Perm (x :: ns) := k2.trans (List.perm_append_singleton x ns)
  have hlen : ((ys.toList.map SrtO.iv).map V.int).length ≤ sizeLine := by
    rw [List.length_map, k3.length_eq, List.length_cons]
    exact hz
  exact ⟨.non, upd H a (.lst ((ys.toList.map SrtO.iv).map V.int)), I.write (e := a) (t' := s.toks) (by rw [ha]; trivial) (.inl rfl) (fun b u hb hu => (hs.2 b hb).trans hu) ⟨_, he⟩ ⟨hlen, ys.toList, e', vals_of_ints k1, he⟩, rfl, q _ k3 (heapL_of k1 hA)⟩
theorem cr_popH : CallR X (.builtin "_heapq.heappop") rPopH := by
  intro pins s σ H vs us Q I r h
  obtain ⟨a, ns, rfl, ha, h0, hh, q⟩ := h
  rw [Vals.ref1 r]
  obtain ⟨hz, its, n, rv, hl, e⟩ := I.lstM ha
  have hi := rv.ints
  have hlen0 := ints_len hi
  refine call_pop e (by rw [List.size_toArray]; omega) (by rw [List.size_toArray, ← hl]; exact hz) (heapA_of hi hh) fun h' e' ys v hv he hs pm hA => ?_
  have pm2 : (v :: ys.toList).Perm its := by simpa using pm
  obtain ⟨k1, k2⟩ := perm_iv hi pm2
  obtain ⟨i, t, rfl⟩ := SrtO.ints_mem hi v (pm2.mem_iff.mp (List.mem_cons_self ..))
  rw [List.map_cons] at k1 k2
  have k0 : IntsAre ys.toList (ys.toList.map SrtO.iv) := by
    cases k1 with
    | cons _ _ r => exact r
  have k2 : (i :: ys.toList.map SrtO.iv).Perm ns := k2
  have hlen : ((ys.toList.map SrtO.iv).map V.int).length ≤ sizeLine := by
    have := k2.length_eq
    rw [List.length_cons] at this
    rw [List.length_map] at hz
    rw [List.length_map]
    omega
  refine ⟨.int i, upd H a (.lst ((ys.toList.map SrtO.iv).map V.int)), I.write (e := a) (t' := s.toks) (by rw [ha]; trivial) (.inl rfl) (fun b u hb hu => (hs.2 b hb).trans hu) ⟨_, he⟩ ⟨hlen, ys.toList, e', vals_of_ints k0, he⟩, ⟨t, rfl⟩, q _ _ k2 (fun y hy => ?_) (heapL_of k0 hA)⟩
  obtain ⟨t0, e0⟩ := ints_at hi 0 (by omega)
  have hv : its[0]? = some (.int i t) := by simpa using hv
  rw [e0] at hv
  injection hv with hv
  injection hv with hv
  have hv : ns.getD 0 0 = i := hv
  obtain ⟨j, hj, ej⟩ := List.mem_iff_getElem.mp hy
  have := heap_min hh j hj
  have e9 : ns.getD j 0 = y := by rw [List.getD_eq_getElem?_getD, List.getElem?_eq_getElem hj, ej]; rfl
  rw [← e9, ← hv]
  exact this
end
end DV
namespace DV
open PySem PySem.Spec PyProof.Rows L2
open LamX (ExtN TabS Tabs CodeO)
section
variable {X : Cx} {F : Fm} {e e2 : Expr} {es : List Expr} {t : TA} {d : TDA} {pos p : Pos} {te : TE} {de : TDE}
def dHPush (t : TDA) : TDE := fun ρ Q => t ρ fun rs ρ1 => match rs with
  | [.o i, s] => onOwn ρ1 i fun xs => onInt ρ1 s fun x => ∃ ns, asInts xs = some ns ∧ Few (ns.length + 1) ∧ HeapL ns ∧ ∀ ms, ms.Perm (x :: ns) → HeapL ms → Q (.d .none) (ρ1.set i (some (.own (ms.map .int))))
  | _ => False
def dHPop (t : TDA) : TDE := fun ρ Q => t ρ fun rs ρ1 => match rs with
  | [.o i] => onOwn ρ1 i fun xs => ∃ ns, asInts xs = some ns ∧ 0 < ns.length ∧ HeapL ns ∧ ∀ v ms, (v :: ms).Perm ns → (∀ y ∈ ns, v ≤ y) → HeapL ms → Q (.d (.int v)) (ρ1.set i (some (.own (ms.map .int))))
  | _ => False
theorem pd_heappush {x : Str} (hg : Gl X x) (hm : X.mg x = some (.builtin "_heapq.heappush")) (ha : PDA X F (e :: es) t d) (hdb : (x == ("__debug__" : Str)) = false := by decide)
    (he : starEach (e :: es) X.env = (false, eval e X.env) :: starEach es X.env := by rfl) (hpl : (backTo pos (starEach es X.env)).any (·.1) = false := by rfl) : PD X F (.Call (.Name x p) (e :: es) [] pos) (tCB rPush t) (dHPush d) := by
  refine ⟨pe_callBfun cr_push hg hm ha.pa hdb he hpl, fun pins ρ σ H Q O h => ?_, fun ρ Q Q' hq h => ?_⟩
  · refine ha.da.run pins ρ σ H _ O (ha.da.mono _ _ _ (fun rs ρ1 h1 vs H1 O1 R1 => ?_) h)
    split at h1
    · rename_i i s
      simp only [ROks] at R1
      obtain ⟨v, _, rfl, r1, w, _, rfl, r2, rfl⟩ := R1
      obtain ⟨xs, e1, h2⟩ := onOwn_of h1
      obtain ⟨x, e2, ns, e3, hf, hh, q⟩ := onInt_of h2
      obtain ⟨a, us, g1, g2, g3, g4⟩ := O1.ownGet e1
      have r1 := r1.1
      rw [g1] at r1
      cases r1
      cases dp_int (val_dp O1 r2 e2)
      cases asInts_dp g3.dp e3
      exact ⟨a, ns, x, rfl, g2, hf, hh, fun ms pm hm => q ms pm hm _ _ (O1.setOwn g4 (ImAll.ints ms)) (.sc .none)⟩
    · exact h1.elim
  · refine ha.da.mono _ _ _ (fun rs ρ1 h1 => ?_) h
    revert h1
    split
    · exact fun h1 => onOwn_mono h1 fun xs h2 => onInt_mono h2 fun x ⟨ns, a, b, c, q⟩ => ⟨ns, a, b, c, fun ms pm hm => hq _ _ (q ms pm hm)⟩
    · exact fun h1 => h1
theorem pd_heappop {x : Str} (hg : Gl X x) (hm : X.mg x = some (.builtin "_heapq.heappop")) (ha : PDA X F (e :: es) t d) (hdb : (x == ("__debug__" : Str)) = false := by decide)
    (he : starEach (e :: es) X.env = (false, eval e X.env) :: starEach es X.env := by rfl) (hpl : (backTo pos (starEach es X.env)).any (·.1) = false := by rfl) : PD X F (.Call (.Name x p) (e :: es) [] pos) (tCB rPopH t) (dHPop d) := by
  refine ⟨pe_callBfun cr_popH hg hm ha.pa hdb he hpl, fun pins ρ σ H Q O h => ?_, fun ρ Q Q' hq h => ?_⟩
  · refine ha.da.run pins ρ σ H _ O (ha.da.mono _ _ _ (fun rs ρ1 h1 vs H1 O1 R1 => ?_) h)
    split at h1
    · rename_i i
      simp only [ROks] at R1
      obtain ⟨v, _, rfl, r1, rfl⟩ := R1
      obtain ⟨xs, e1, ns, e3, h0, hh, q⟩ := onOwn_of h1
      obtain ⟨a, us, g1, g2, g3, g4⟩ := O1.ownGet e1
      have r1 := r1.1
      rw [g1] at r1
      cases r1
      cases asInts_dp g3.dp e3
      exact ⟨a, ns, rfl, g2, h0, hh, fun v ms pm hv hm => q v ms pm hv hm _ _ (O1.setOwn g4 (ImAll.ints ms)) (.sc .int)⟩
    · exact h1.elim
  · refine ha.da.mono _ _ _ (fun rs ρ1 h1 => ?_) h
    revert h1
    split
    · exact fun h1 => onOwn_mono h1 fun xs ⟨ns, a, b, c, q⟩ => ⟨ns, a, b, c, fun v ms pm hv hm => hq _ _ (q v ms pm hv hm)⟩
    · exact fun h1 => h1
end
end DV
namespace DV
open PySem PySem.Spec PyProof.Rows L2
section
variable {X : Cx} {F : Fm} {e e2 : Expr} {es : List Expr} {t : TA} {d : TDA} {pos p vpos apos cpos : Pos} {te : TE} {de : TDE} {i : Nat} {x : Str}
def dExtend (i : Nat) (t : TDA) : TDE := fun ρ Q => onOwn ρ i fun _ => t ρ fun rs ρ1 => match rs with
  | [r] => onM ρ1 r fun zs => onOwn ρ1 i fun xs => Few (xs.length + zs.length) ∧ Q (.d .none) (ρ1.set i (some (.own (xs ++ zs))))
  | _ => False
end
end DV
namespace DV
open PySem PySem.Spec PyProof.Rows L2
open LamX (ExtN TabS Tabs CodeO)
abbrev sortD (ds : List PyData) : List PyData := ds.mergeSort (PySem.W.dataLe false id)
section
variable {X : Cx} {pins : List (Addr × Obj)} {σ : L2.St} {H : Hp} {s : Shared}
theorem each_reads (I : L2.Inv X pins σ H s) : ∀ {xs : List V} {us : List Value} {ds : List PyData}, DpAll X.K H xs ds → Vals xs us → PySem.W.EachIs (fun u d => ∃ as, Reads s.heap u d as) us ds
  | _, _, _, .nil, r => by cases r; exact .nil
  | _, _, _, .cons h1 h2, r => by
    cases r with
    | cons r1 r2 => exact .cons (Dp.reads I _ _ _ h1 r1) (each_reads I h2 r2)
end
/-- what can be sorted -/
structure CanSort (ds : List PyData) : Prop where
  al : PySem.W.AllAlike ds
  so : PySem.W.Sortable ds
  dp : ∀ d ∈ ds, d.depth ≤ 50
section
variable {X : Cx} {F : Fm} {e : Expr} {t : TA} {d : TDA} {pos : Pos}
def dSortD (t : TDA) : TDL := fun ρ Q => t ρ fun rs ρ1 => match rs with
  | [r] => onL ρ1 r fun xs => CanSort xs ∧ Q (sortD xs) ρ1
  | _ => False
end
end DV
namespace DV
open PySem PySem.Spec PyProof.Rows L2
open LamX (ExtN TabS Tabs CodeO)
def rMaxDf (K : PySem.W.Frag) : List V → List V → Hp → VK → Prop := fun xs zs H Q => ∃ (a : Addr) (ns : List Int) (d : V), xs = [V.ref a] ∧ zs = [d] ∧ (SqL K H a (ns.map V.int) ∨ SqT K H a (ns.map V.int)) ∧ (ns = [] → Q d H) ∧ ∀ m, m ∈ ns → (∀ y ∈ ns, y ≤ m) → Q (.int m) H
theorem foldl_max : ∀ (ns : List Int) (n : Int), ns.foldl max n ∈ n :: ns ∧ ∀ y ∈ n :: ns, y ≤ ns.foldl max n
  | [], n => ⟨List.mem_cons_self .., fun y hy => by
    rcases List.mem_cons.mp hy with e | e
    · exact Int.le_of_eq e
    · cases e⟩
  | m :: ns, n => by
    obtain ⟨h1, h2⟩ := foldl_max ns (max n m)
    refine ⟨?_, fun y hy => ?_⟩
    · show ns.foldl max (max n m) ∈ _
      rcases List.mem_cons.mp h1 with e | h1
      · rw [e]
        rcases Int.le_total n m with z | z
        · rw [Int.max_eq_right z]; simp
        · rw [Int.max_eq_left z]; simp
      · simp [h1]
    · show y ≤ ns.foldl max (max n m)
      have hm := h2 _ (List.mem_cons_self ..)
      rcases List.mem_cons.mp hy with e | hy
      · rw [e]; omega
      · rcases List.mem_cons.mp hy with e | hy
        · rw [e]; omega
        · exact h2 y (List.mem_cons_of_mem _ hy)
theorem alikeInts (ns : List Int) : PySem.W.AlikeAll (ns.map .int) := by
  refine ⟨fun x hx y hy => ?_, fun x hx => ?_⟩
  · obtain ⟨i, _, rfl⟩ := List.mem_map.mp hx
    obtain ⟨j, _, rfl⟩ := List.mem_map.mp hy
    simp [PySem.W.alike]
  · obtain ⟨i, _, rfl⟩ := List.mem_map.mp hx
    exact fun h => by cases h
theorem depthInts : ∀ ns : List Int, PyData.depthAll (ns.map .int) ≤ 1
  | [] => by simp [PyData.depthAll]
  | n :: ns => by
    have := depthInts ns
    simp only [List.map_cons, PyData.depthAll, PyData.depth]
    omega
section
variable {X : Cx} {pins : List (Addr × Obj)} {σ : L2.St} {H : Hp} {s : Shared}
theorem readsInts {h : Heap} : ∀ {its : List Value} {ns : List Int}, IntsAre its ns → ∃ as, ReadsAll h its (ns.map .int) as
  | _, _, .nil => ⟨_, .nil⟩
  | _, _, .cons n t r => by
    obtain ⟨as, q⟩ := readsInts (h := h) r
    exact ⟨_, .cons (.int n t) q⟩
theorem cr_maxDf (hc : X.calm = true) (hu : X.A.units + 64 < cLine) : CallRK X (.builtin "max") [Str.ofString "default"] (rMaxDf X.K) := by
  intro pins s σ H xs zs us ws Q I r rz h
  obtain ⟨a, ns, d, rfl, rfl, hs, h0, q⟩ := h
  rw [Vals.ref1 r]
  obtain ⟨u, rfl, ru⟩ := vals1 rz
  have fin : ∀ (y : PyData) (ys : List PyData) (v : Value) (h' : Heap) (tk : Nat) bs, ns.map PyData.int = y :: ys → Reads h' v (PySem.W.maxD y ys) bs → (∀ b o, s.heap.get? b = some o → h'.get? b = some o) → EP X pins σ Q v { s with heap := h', toks := tk } := by
    intro y ys v h' tk bs e rd k
    cases ns with
    | nil => cases e
    | cons n ns =>
      rw [List.map_cons] at e
      injection e with e1 e2
      subst e1 e2
      rw [PySem.W.maxD_ints] at rd
      cases rd with
      | int _ t =>
        obtain ⟨m1, m2⟩ := foldl_max ns n
        exact ⟨.int _, H, I.kept (t' := tk) k, ⟨t, rfl⟩, q _ m1 m2⟩
  have dep : X.A.units + 1 + PyData.depthAll (ns.map .int) < cLine := by have := depthInts ns; omega
  rcases hs with hs | hs
  · obtain ⟨its, rv, hl, hz⟩ := I.list hs
    obtain ⟨as, rd⟩ := readsInts (h := s.heap) rv.ints
    refine PySem.W.max_list_default (I.ok.hd hc) hl.isList (by simpa using rd) (alikeInts ns) dep (fun e h' tk k => ?_) fun y ys i v h' tk bs e hv r1 k => fin y ys v h' tk bs e r1 k
    exact ⟨d, H, I.kept (t' := tk) k, ru, h0 (by cases ns with | nil => rfl | cons n ns => cases e)⟩
  · obtain ⟨its, rv, hl, hz⟩ := I.tuple hs
    obtain ⟨as, rd⟩ := readsInts (h := s.heap) rv.ints
    refine PySem.W.max_tuple_default (I.ok.hd hc) (show s.heap.IsTuple a its.toArray from hl) (by simpa using rd) (alikeInts ns) dep (fun e h' tk k => ?_) fun y ys i v h' tk bs e hv r1 k => fin y ys v h' tk bs e r1 k
    exact ⟨d, H, I.kept (t' := tk) k, ru, h0 (by cases ns with | nil => rfl | cons n ns => cases e)⟩
end
section
variable {X : Cx} {F : Fm} {e e2 : Expr} {t : TA} {d : TDA} {pos p kpos : Pos} {te : TE} {de : TDE}
def dMaxDf (t : TDA) (te : TDE) : TDE := fun ρ Q => t ρ fun rs ρ1 => match rs with
  | [r] => te ρ1 fun s ρ2 => match s, seqs ρ2 r with
    | .d (.int k), some (_, xs) => ∃ ns, asInts xs = some ns ∧ (ns = [] → Q (.d (.int k)) ρ2) ∧ ∀ m, m ∈ ns → (∀ y ∈ ns, y ≤ m) → Q (.d (.int m)) ρ2
    | _, _ => False
  | _ => False
theorem pd_maxDf (hc : X.calm = true) (hu : X.A.units + 64 < cLine) (hg : Gl X "max") (hm : X.mg "max" = none) (ha : PDA X F [e] t d) (hb : PD X F e2 te de) (hK : X.K = F.K := by rfl)
    (he : backTo pos (starEach [e] X.env) = (false, eval e X.env) :: backTo pos (starEach [] X.env) := by rfl) (hpl : (backTo pos (starEach [e] X.env)).any (·.1) = false := by rfl)
    (hall : (backToKw pos (keywordEach [⟨some (Str.ofString "default"), e2, kpos⟩] X.env)).all (·.1.isSome) = true := by rfl) (hnone : (backToKw pos (keywordEach [⟨some (Str.ofString "default"), e2, kpos⟩] X.env)).any (·.1.isNone) = false := by rfl) (hks : (backToKw pos (keywordEach [⟨some (Str.ofString "default"), e2, kpos⟩] X.env)).filterMap (·.1) = [Str.ofString "default"] := by rfl) :
    PD X F (.Call (.Name "max" p) [e] [⟨some (Str.ofString "default"), e2, kpos⟩] pos) (tCKw (rMaxDf F.K) t (tCons te tNil)) (dMaxDf d de) := by
  refine ⟨?_, fun pins ρ σ H Q O h => ?_, fun ρ Q Q' hq h => ?_⟩
  · have := pe_callBK (p := p) (pos := pos) (cr_maxDf hc hu) hg hm (by decide +kernel) ha.pa (pk_cons hb.pe pk_nil) (by decide) (by decide) he hpl hall hnone hks
    rw [hK] at this
    exact this
  · refine ha.da.run pins ρ σ H _ O (ha.da.mono _ _ _ (fun rs ρ1 h1 vs H1 O1 R1 => ?_) h)
    split at h1
    · rename_i r
      simp only [ROks] at R1
      obtain ⟨v, _, rfl, r1, rfl⟩ := R1
      refine hb.de.run (.val v r :: pins) ρ1 σ H1 _ (O1.push r1) (hb.de.mono _ _ _ (fun s ρ2 h2 w H2 O2 R2 => ?_) h1)
      obtain ⟨O3, r3⟩ := O2.popV
      split at h2
      · rename_i k kk xs e3
        obtain ⟨ns, e2, q0, q⟩ := h2
        obtain ⟨a, pl, rfl, d1, O4, av, k1⟩ := seqs_ok O3 r3 e3
        have in1 : ∀ q ∈ pl, q ∈ pl ++ pins := fun q hq => List.mem_append_left _ hq
        have hsq : SqL F.K H2 a (ns.map V.int) ∨ SqT F.K H2 a (ns.map V.int) := by
          cases kk with
          | false =>
            obtain ⟨us, a1, a2⟩ := (show LstAt F pl a xs by simpa using k1) _ _ _ _ in1 O4
            cases asInts_dp a2.dp e2
            exact .inl a1
          | true =>
            obtain ⟨us, a1, a2⟩ := (show TupAt F pl a xs by simpa using k1) _ _ _ _ in1 O4
            cases asInts_dp a2.dp e2
            exact .inr a1
        exact ⟨a, ns, w, rfl, rfl, hsq, fun e => q0 e _ _ O3 (by
          have r2 : Im F.K (Av F (.val (.ref a) r :: pins) ρ2 σ) H2 (.int k) w := R2
          exact r2), fun m hm hle => q m hm hle _ _ O3 (.sc .int)⟩
      · exact h2.elim
    · exact h1.elim
  · refine ha.da.mono _ _ _ (fun rs ρ1 h1 => ?_) h
    revert h1
    split
    · refine fun h1 => hb.de.mono _ _ _ (fun s ρ2 h2 => ?_) h1
      revert h2
      split
      · exact fun ⟨ns, a, b, c⟩ => ⟨ns, a, fun e => hq _ _ (b e), fun m hm hle => hq _ _ (c m hm hle)⟩
      · exact fun h2 => h2
    · exact fun h1 => h1
end
end DV
namespace DV
open PySem PySem.Spec PyProof.Rows L2
open LamX (ExtN TabS Tabs CodeO)
open AutoSeq1 (wpAny_loadPart')
theorem tuple_mul1 (l : Addr) (items : Array Value) (n : Nat) (dd : Option Addr) (sl : Array (Option Value)) (u : Tok) :
    Meets (Builtin.«tuple.__mul__» ⟨[.ref l, .int 1 u], []⟩) (fun _ R s => s.heap.get? l = some { cls := .type "tuple", dict := dd, data := .seq items n, slots := sl } ∧ R (.ok (.ret (Value.ref l))) s) :=
  .of_wp fun prog w A R s h => by
    obtain ⟨hp, g, d, tk, os⟩ := s
    obtain ⟨hl, h⟩ := h
    have f1 := AutoSeq1.idx_int
    have c1 : (items.isEmpty || (1 : Int) == 1) = true := by simp
    wp_walk using wpAny_loadPart' hl
    repeat (first
      | (refine wpAny_ite_true (by rw [c1]) ?_; wp_walk using wpAny_loadPart' hl)
      | (refine wpAny_ite_true c1 ?_; wp_walk using wpAny_loadPart' hl))
    exact ⟨_, rfl, h⟩
def rRepT1 (K : PySem.W.Frag) : R2 := fun x y H Q => ∃ l k xs, x = .ref l ∧ y = .int k ∧ SqT K H l xs ∧ xs ≠ [] ∧ 1 ≤ k ∧ k ≤ 1000 ∧ xs.length ≤ 1000 ∧ (k = 1 → Q (.ref l) H) ∧ ∀ p, 2 ≤ k → H p = none → Q (.ref p) (upd H p (.tup (List.replicate k.toNat xs).flatten))
section
variable {X : Cx} {F : Fm} {a b : Expr} {ta tb : TE} {da db : TDE} {pos : Pos}
theorem op_repT1 : OpR X (binaryOp .Mult) (rRepT1 X.K) := by
  intro pins s σ H x y v u Q I rx ry h
  obtain ⟨l, k, xs, rfl, rfl, hT, hne, h1, h2, hz, q1, q⟩ := h
  by_cases e : k = 1
  · subst e
    cases rx
    obtain ⟨t, rfl⟩ := ry
    obtain ⟨its, r, ⟨⟨cls, dd, data, sl⟩, ho, hc, n, hd⟩, hs⟩ := I.tuple hT
    simp only at hc hd
    subst hc hd
    refine wpAny_binaryOp_repeat_ref (T := "tuple") (U := "int") (by decide) ⟨_, ho, rfl⟩ (fun s' => typeIs_int s' 1 t) noFill_tuple_mul F.fills_int_mul F.slot_int_rmul repeat_tuple F.slot_int_index.lookup
      (call_meets F.slot_int_rmul (typeIs_int s 1 t) F.entry_int_rmul (F.args_int_rmul_2 _ _) (int_rmul_tuple 1 t l its.toArray n dd sl)
        ⟨ho, rfl, ⟨_, ho, rfl⟩, call_meets F.slot_tuple_mul ⟨_, ho, rfl⟩ F.entry_tuple_mul (F.args_tuple_mul_2 _ _) (tuple_mul1 l its.toArray n dd sl t) ⟨ho, ?_⟩⟩)
    exact ⟨.ref l, H, I, rfl, q1 rfl⟩
  · exact op_repT pins s σ H _ _ v u Q I rx ry ⟨l, k, xs, rfl, rfl, hT, hne, by omega, h2, hz, fun p hp => q p (by omega) hp⟩
def repD (k : Int) (xs : List PyData) : List PyData := (List.replicate k.toNat xs).flatten
theorem ImAll.rep {K : PySem.W.Frag} {N : Addr → Prop} {H : Hp} {xs : List PyData} {vs : List V} (h : ImAll K N H xs vs) : ∀ n, ImAll K N H (List.replicate n xs).flatten (List.replicate n vs).flatten
  | 0 => .nil
  | n + 1 => by
    rw [List.replicate_succ, List.replicate_succ, List.flatten_cons, List.flatten_cons]
    exact h.append (ImAll.rep h n)
def dRepT (ta tb : TDE) : TDE := dBin ta tb fun r s ρ Q => onT r fun xs => onInt ρ s fun k => (xs ≠ [] ∧ 1 ≤ k ∧ k ≤ 1000 ∧ xs.length ≤ 1000) ∧ Q (.d (.tuple (repD k xs))) ρ
theorem pd_repT (ha : PD X F a ta da) (hb : PD X F b tb db) (hK : X.K = F.K := by rfl) : PD X F (.BinOp a .Mult b pos) (tOp (rRepT1 F.K) ta tb) (dRepT da db) := by
  refine ⟨?_, de_bin ha.de hb.de (fun pins ρ σ H x y r s Q O R1 R2 h => ?_) fun r s ρ Q Q' hq h => onT_mono h fun xs h => onInt_mono h fun k h => ⟨h.1, hq _ _ h.2⟩⟩
  · have := pe_op (pos := pos) op_repT1 ha.pe hb.pe
    rw [hK] at this
    exact this
  obtain ⟨xs, e1, h2⟩ := onT_of h
  subst e1
  obtain ⟨k, e2, ⟨c1, c2, c3, c4⟩, q⟩ := onInt_of h2
  cases dp_int (val_dp O R2 e2)
  have i1 : Im F.K (Av F pins ρ σ) H (.tuple xs) x := R1
  obtain ⟨p, vs, rfl, l1, im1⟩ := im_tup i1
  refine ⟨p, k, vs, rfl, rfl, l1, fun z => c1 ?_, c2, c3, by rw [im1.length]; exact c4, fun e => ?_, fun p' h2 hp => ?_⟩
  · exact List.length_eq_zero_iff.mp (by rw [← im1.length, z]; rfl)
  · subst e
    have : repD 1 xs = xs := by simp [repD]
    rw [this] at q
    exact q _ _ O i1
  · obtain ⟨O2, i3⟩ := newTup O hp (im1.rep k.toNat)
    exact q _ _ O2 i3
def rRepS : R2 := fun x y H Q => ∃ (z : Str) (k : Int), x = .str z ∧ y = .int k ∧ MulOk z k ∧ Q (.str (Txt.mul z k)) H
theorem op_repS : OpR X (binaryOp .Mult) rRepS := by
  intro pins s σ H x y v u Q I rx ry h
  obtain ⟨z, k, rfl, rfl, hok, q⟩ := h
  obtain ⟨t, rfl⟩ := rx
  obtain ⟨t2, rfl⟩ := ry
  exact SB.mul hok fun t' k' => ⟨.str _, H, I.tok _, ⟨t', rfl⟩, q⟩
def fRepS : F2
  | .str z, .int k, Q => MulOk z k ∧ Q (.str (Txt.mul z k))
  | _, _, _ => False
theorem so_RepS {K : PySem.W.Frag} : SO K rRepS fRepS := by
  constructor
  · intro H x y dx dy Q h1 h2 q
    cases dx <;> first | exact q.elim | skip
    cases dy <;> first | exact q.elim | skip
    cases h1
    cases h2
    exact ⟨_, _, rfl, rfl, q.1, q.2 _ .str⟩
  · intro x y Q Q' hq q
    cases x <;> first | exact q.elim | skip
    cases y <;> first | exact q.elim | skip
    exact ⟨q.1, hq _ q.2⟩
theorem pd_repS (ha : PD X F a ta da) (hb : PD X F b tb db) : PD X F (.BinOp a .Mult b pos) (tOp rRepS ta tb) (dOp fRepS da db) := pd_op op_repS so_RepS ha hb
end
end DV
namespace DV
open PySem PySem.Spec PyProof.Rows L2
open LamX (ExtN TabS Tabs CodeO)
section
variable {X : Cx} {F : Fm} {e e2 : Expr} {te te2 : TE} {de de2 : TDE} {pos p p2 pos2 : Pos}
theorem im_rg {K : PySem.W.Frag} {N : Addr → Prop} {H : Hp} (a b : Int) : ImAll K N H (rng a (b - a).toNat) (rgV a b) := by
  unfold rng rgV
  have : ∀ l : List Nat, ImAll K N H (l.map fun k => PyData.int (a + (k : Nat))) (l.map fun i => V.int (a + (i : Nat))) := by
    intro l
    induction l with
    | nil => exact .nil
    | cons k l ih => rw [List.map_cons, List.map_cons]; exact .cons .int ih
  exact this _
def dRg1 (te : TDE) (k : Int → Int → Rho → Prop) : Rho → Prop := fun ρ => te ρ fun r ρ1 => onInt ρ1 r fun n => RgOk 0 n ∧ k 0 n ρ1
def dRg2 (te te2 : TDE) (k : Int → Int → Rho → Prop) : Rho → Prop := fun ρ => te ρ fun r ρ1 => te2 ρ1 fun s ρ2 => onInt ρ2 r fun a => onInt ρ2 s fun b => RgOk a b ∧ k a b ρ2
theorem rg1 (he : DE F te de) {pins : List Pin} {ρ : Rho} {σ : L2.St} {H : Hp} {k : Int → Int → Rho → Prop} {Q : Int → Int → Hp → Prop} (O : Ok F pins ρ σ H) (h : dRg1 de k ρ)
    (hk : ∀ a b ρ1 H1, RgOk a b → Ok F pins ρ1 σ H1 → k a b ρ1 → Q a b H1) : tRg1 te σ H Q := by
  refine he.run pins ρ σ H _ O (he.mono _ _ _ (fun r ρ1 h1 v H1 O1 R1 => ?_) h)
  obtain ⟨n, e1, ok, q⟩ := onInt_of h1
  cases dp_int (val_dp O1 R1 e1)
  exact ⟨n, rfl, hk _ _ _ _ ok O1 q⟩
theorem rg1_mono (he : DE F te de) {ρ : Rho} {k k' : Int → Int → Rho → Prop} (hq : ∀ a b ρ, k a b ρ → k' a b ρ) (h : dRg1 de k ρ) : dRg1 de k' ρ := he.mono _ _ _ (fun r ρ1 h1 => onInt_mono h1 fun n h2 => ⟨h2.1, hq _ _ _ h2.2⟩) h
def dLstRg (d : (Int → Int → Rho → Prop) → Rho → Prop) : TDL := fun ρ Q => d (fun a b ρ1 => Q (rng a (b - a).toNat) ρ1) ρ
def dTupRg (d : (Int → Int → Rho → Prop) → Rho → Prop) : TDE := fun ρ Q => d (fun a b ρ1 => Q (.d (.tuple (rng a (b - a).toNat))) ρ1) ρ
theorem pd_tupRg1 (hc : X.calm = true) (hg : Gl X "tuple") (hm : X.mg "tuple" = none) (hg2 : Gl X "range") (hm2 : X.mg "range" = none) (he : PD X F e te de) (na : starEach [e] X.env = (false, eval e X.env) :: starEach [] X.env := by rfl)
    (na2 : starEach [.Call (.Name "range" p2) [e] [] pos2] X.env = (false, eval (.Call (.Name "range" p2) [e] [] pos2) X.env) :: starEach [] X.env := by rfl) :
    PD X F (.Call (.Name "tuple" p) [.Call (.Name "range" p2) [e] [] pos2] [] pos) (tTupRg (tRg1 te)) (dTupRg (dRg1 de)) :=
  ⟨pe_tupRg hc hg hm (prg_1 hg2 hm2 he.pe na) na2, fun pins ρ σ H Q O h => rg1 he.de O h fun a b ρ1 H1 ok O1 q => ⟨ok, fun l hl => by
    obtain ⟨O2, i⟩ := newTup O1 hl (im_rg a b)
    exact q _ _ O2 i⟩, fun ρ Q Q' hq h => rg1_mono he.de (fun a b ρ1 => hq _ _) h⟩
end
end DV
namespace DV
open PySem PySem.Spec PyProof.Rows L2
open LamX (ExtN TabS Tabs CodeO)
open scoped Rat
def Bd (k : Nat) (i : Int) : Prop := i.natAbs < 2 ^ k
theorem Bd.up {j k : Nat} {i : Int} (h : Bd j i) (z : j ≤ k) : Bd k i := Nat.lt_of_lt_of_le h (Nat.pow_le_pow_right (by decide) z)
theorem Bd.mul {j k : Nat} {x y : Int} (h : Bd j x) (h2 : Bd k y) : Bd (j + k) (x * y) := wide_lt h h2
theorem Bd.add {j k : Nat} {x y : Int} (h : Bd j x) (h2 : Bd k y) : Bd (j + k + 1) (x + y) := by
  have h := h.up (show j ≤ j + k by omega)
  have h2 := h2.up (show k ≤ j + k by omega)
  unfold Bd at *
  have := Int.natAbs_add_le x y
  rw [Nat.pow_succ]; omega
theorem Bd.neg {k : Nat} {x : Int} (h : Bd k x) : Bd k (-x) := by unfold Bd at *; omega
theorem Bd.sub {j k : Nat} {x y : Int} (h : Bd j x) (h2 : Bd k y) : Bd (j + k + 1) (x - y) := by
  rw [Int.sub_eq_add_neg]; exact h.add h2.neg
/-- of one size -/
theorem Bd.add1 {k : Nat} {x y : Int} (h : Bd k x) (h2 : Bd k y) : Bd (k + 1) (x + y) := by
  unfold Bd at *
  have := Int.natAbs_add_le x y
  rw [Nat.pow_succ]; omega
theorem Bd.sub1 {k : Nat} {x y : Int} (h : Bd k x) (h2 : Bd k y) : Bd (k + 1) (x - y) := by
  rw [Int.sub_eq_add_neg]; exact h.add1 h2.neg
theorem Bd.of {k : Nat} {i : Int} (h : -(2 ^ k) < i) (h2 : i < 2 ^ k) : Bd k i := by
  unfold Bd
  have e : ((2 ^ k : Nat) : Int) = 2 ^ k := by simp
  omega
theorem cmb {j k : Nat} {x y : Int} (h : Bd j x) (h2 : Bd k y) (h3 : j + k < 999000 := by decide) : CMulW x y :=
  wide_mul (h.up (Nat.le_succ j)) (h2.up (Nat.le_max_left k 1)) (Nat.succ_pos _) (by omega) (by rcases Nat.le_total k 1 with z | z <;> omega)
def fr (q : Rat) : PyData := .tuple [.int q.num, .int (q.den : Int)]
theorem den_pos (q : Rat) : (0 : Int) < q.den := by have := q.den_nz; omega
structure Sz (k : Nat) (q : Rat) : Prop where
  n : Bd k q.num
  d : Bd k (q.den : Int)
theorem Sz.up {j k : Nat} {q : Rat} (h : Sz j q) (z : j ≤ k) : Sz k q := ⟨h.n.up z, h.d.up z⟩
theorem Sz.pos {k : Nat} {q : Rat} (h : Sz k q) : 0 < k := by
  have := h.d; unfold Bd at this
  rcases Nat.eq_zero_or_pos k with rfl | z
  · have := q.den_nz; omega
  · exact z
theorem ediv_bd {k : Nat} {x : Int} {g : Int} (h : Bd k x) (hg : 0 ≤ g) : Bd k (x / g) := by
  unfold Bd at *
  exact Nat.lt_of_le_of_lt (Int.natAbs_ediv_le_natAbs x g) h
theorem sz_divInt {j k : Nat} {n d : Int} (h : Bd j n) (h2 : Bd k d) (hd : d ≠ 0) : Sz (max j k) (n /. d) := by
  constructor
  · rw [Rat.num_divInt]
    refine (ediv_bd (k := j) ?_ (by omega)).up (Nat.le_max_left ..)
    unfold Bd at *
    rw [Int.natAbs_mul]
    have : d.sign.natAbs = 1 := by rw [Int.natAbs_sign_of_ne_zero hd]
    rw [this]; omega
  · rw [Rat.den_divInt, if_neg hd]
    refine Bd.up (j := k) ?_ (Nat.le_max_right ..)
    unfold Bd at *
    rw [Int.natAbs_natCast]
    exact Nat.lt_of_le_of_lt (Nat.div_le_self _ _) h2
theorem rat_ndi (q : Rat) : q = q.num /. (q.den : Int) := (Rat.num_divInt_den q).symm
theorem add_ndi (p q : Rat) : p + q = (p.num * q.den + q.num * p.den) /. (p.den * q.den) := by
  conv => lhs; rw [rat_ndi p, rat_ndi q]
  exact Rat.divInt_add_divInt _ _ (Int.ne_of_gt (den_pos p)) (Int.ne_of_gt (den_pos q))
theorem sub_ndi (p q : Rat) : p - q = (p.num * q.den - q.num * p.den) /. (p.den * q.den) := by
  conv => lhs; rw [rat_ndi p, rat_ndi q]
  exact Rat.divInt_sub_divInt _ _ (Int.ne_of_gt (den_pos p)) (Int.ne_of_gt (den_pos q))
theorem mul_ndi (p q : Rat) : p * q = (p.num * q.num) /. (p.den * q.den) := by
  conv => lhs; rw [rat_ndi p, rat_ndi q]
  exact Rat.divInt_mul_divInt _ _
theorem dd_ne (p q : Rat) : (p.den : Int) * q.den ≠ 0 := Int.ne_of_gt (Int.mul_pos (den_pos p) (den_pos q))
theorem Sz.add {j k : Nat} {p q : Rat} (h : Sz j p) (h2 : Sz k q) : Sz (j + k + 1) (p + q) := by
  rw [add_ndi]
  refine (sz_divInt ((h.n.mul h2.d).add1 ((h2.n.mul h.d).up (show k + j ≤ j + k by omega))) (h.d.mul h2.d) (dd_ne p q)).up (by omega)
theorem Sz.sub {j k : Nat} {p q : Rat} (h : Sz j p) (h2 : Sz k q) : Sz (j + k + 1) (p - q) := by
  rw [sub_ndi]
  refine (sz_divInt ((h.n.mul h2.d).sub1 ((h2.n.mul h.d).up (show k + j ≤ j + k by omega))) (h.d.mul h2.d) (dd_ne p q)).up (by omega)
theorem Sz.mul {j k : Nat} {p q : Rat} (h : Sz j p) (h2 : Sz k q) : Sz (j + k) (p * q) := by
  rw [mul_ndi]
  refine (sz_divInt (h.n.mul h2.n) (h.d.mul h2.d) (dd_ne p q)).up (by omega)
theorem Sz.neg {k : Nat} {p : Rat} (h : Sz k p) : Sz k (-p) := ⟨h.n.neg, h.d⟩
theorem Sz.int {k : Nat} {a : Int} (h : Bd k a) : Sz (max k 1) (a : Rat) := ⟨h.up (Nat.le_max_left ..), Bd.up (j := 1) (by unfold Bd; show (1 : Int).natAbs < 2 ^ 1; decide) (Nat.le_max_right ..)⟩
def SpE {α : Type} (arg : α → List PyData) (pre : α → Prop) (res : α → PyData) : Sd := fun xs Q => ∃ a, xs = arg a ∧ pre a ∧ Q (res a)
theorem m_SpE {α : Type} {arg : α → List PyData} {pre : α → Prop} {res : α → PyData} : MonoP (SpE arg pre res) := fun xs Q Q' hq ⟨a, h1, h2, h3⟩ => ⟨a, h1, h2, hq _ h3⟩
def SpR {α : Type} (arg : α → List PyData) (pre : α → Prop) (post : α → PyData → Prop) : Sd := fun xs Q => ∃ a, xs = arg a ∧ pre a ∧ ∀ z, post a z → Q z
theorem m_SpR {α : Type} {arg : α → List PyData} {pre : α → Prop} {post : α → PyData → Prop} : MonoP (SpR arg pre post) := fun xs Q Q' hq ⟨a, h1, h2, h3⟩ => ⟨a, h1, h2, fun z hz => hq _ (h3 z hz)⟩
/-- with draws: at most n of them -/
def SpB {α : Type} (n : Nat) (arg : α → List PyData) (pre : α → Prop) (post : α → PyData → Prop) : Sb := fun bag xs Q => ∃ a m, Bag m bag ∧ m + n < 2 ^ 60 ∧ xs = arg a ∧ pre a ∧ ∀ z bag', post a z → Bag (m + n) bag' → Q z bag'
theorem m_SpB {α : Type} {n : Nat} {arg : α → List PyData} {pre : α → Prop} {post : α → PyData → Prop} : MonoB (SpB n arg pre post) := fun bag xs Q Q' hq ⟨a, m, h1, h2, h3, h4, h5⟩ => ⟨a, m, h1, h2, h3, h4, fun z b hz hb => hq _ _ (h5 z b hz hb)⟩
theorem SpE.mk {α : Type} {arg : α → List PyData} {pre : α → Prop} {res : α → PyData} {xs : List PyData} {Q : PyData → Prop} (a : α) (h1 : xs = arg a) (h2 : pre a) (h3 : Q (res a)) : SpE arg pre res xs Q := ⟨a, h1, h2, h3⟩
theorem SpR.mk {α : Type} {arg : α → List PyData} {pre : α → Prop} {post : α → PyData → Prop} {xs : List PyData} {Q : PyData → Prop} (a : α) (h1 : xs = arg a) (h2 : pre a) (h3 : ∀ z, post a z → Q z) : SpR arg pre post xs Q := ⟨a, h1, h2, h3⟩
def clipR (p : Rat) : Rat := if p < 0 then 0 else if 1 < p then 1 else p
end DV
namespace DV
open PySem PySem.Spec PyProof.Rows L2
open LamX (ExtN TabS Tabs CodeO)
open scoped Rat
structure Lg where
  ax : Int
  ay : Int
  bx : Int
  by' : Int
def pr (a b : Int) : PyData := .tuple [.int a, .int b]
def eL (l : Lg) : PyData := .tuple [pr l.ax l.ay, pr l.bx l.by']
structure LB (k : Nat) (l : Lg) : Prop where
  ax : Bd k l.ax
  ay : Bd k l.ay
  bx : Bd k l.bx
  by' : Bd k l.by'
def px (l : Lg) (s : Rat) : Rat := (l.ax : Rat) + s * ((l.bx - l.ax : Int) : Rat)
def py (l : Lg) (s : Rat) : Rat := (l.ay : Rat) + s * ((l.by' - l.ay : Int) : Rat)
def gx (l o : Lg) (s t : Rat) : Rat := px o t - px l s
def gy (l o : Lg) (s t : Rat) : Rat := py o t - py l s
def gsq (l o : Lg) (s t : Rat) : Rat := gx l o s t * gx l o s t + gy l o s t * gy l o s t
abbrev Cn := Rat × Rat
def lexLt (a b : Cn) : Prop := if a.1 ≠ b.1 then a.1 < b.1 else a.2 < b.2
instance (a b : Cn) : Decidable (lexLt a b) := by unfold lexLt; infer_instance
def crn (rho : Rat) : List Cn := [(0, 0), (rho, 0), (1, 1 - rho), (1, 1), (1 - rho, 1), (0, rho)]
def clipP (l o : Lg) (a b : Cn) : Rat :=
  let f1 := gx l o a.1 a.2
  let f2 := gy l o a.1 a.2
  let r1 := gx l o b.1 b.2 - f1
  let r2 := gy l o b.1 b.2 - f2
  let st := r1 * r1 + r2 * r2
  clipR (if st ≠ 0 then ((-1 : Int) : Rat) * (f1 * r1 + f2 * r2) / st else if lexLt b a then 1 else 0)
def onS (l o : Lg) (a b : Cn) : Rat := a.1 + clipP l o a b * (b.1 - a.1)
def onT' (l o : Lg) (a b : Cn) : Rat := a.2 + clipP l o a b * (b.2 - a.2)
abbrev Row3 := Rat × Rat × Rat
def edge (l o : Lg) (a b : Cn) : Row3 := (gsq l o (onS l o a b) (onT' l o a b), onS l o a b, onT' l o a b)
def turnI (l o : Lg) : Int := (l.bx - l.ax) * (o.by' - o.ay) - (l.by' - l.ay) * (o.bx - o.ax)
def inS (l o : Lg) : Rat := ((o.ax - l.ax) * (o.by' - o.ay) - (o.ay - l.ay) * (o.bx - o.ax)) /. turnI l o
def inT (l o : Lg) : Rat := ((o.ax - l.ax) * (l.by' - l.ay) - (o.ay - l.ay) * (l.bx - l.ax)) /. turnI l o
def rabs (q : Rat) : Rat := if q < 0 then -q else q
def okIn (s t rho : Rat) : Prop := ¬ (s < 0 ∨ t < 0 ∨ 1 < s ∨ 1 < t ∨ rho < rabs (s - t))
instance (s t rho : Rat) : Decidable (okIn s t rho) := by unfold okIn; infer_instance
def inner (l o : Lg) (rho : Rat) : List Row3 := if turnI l o = 0 then [] else if okIn (inS l o) (inT l o) rho then [(0, inS l o, inT l o)] else []
def rowLt (a b : Row3) : Prop := a.1 < b.1 ∨ (a.1 = b.1 ∧ lexLt a.2 b.2)
instance (a b : Row3) : Decidable (rowLt a b) := by unfold rowLt; infer_instance
def bestOf : List Row3 → Option Row3
  | rows => rows.foldl (fun best row => match best with
    | none => some row
    | some b => if rowLt row b then some row else some b) none
def edges (l o : Lg) (rho : Rat) : List Row3 := List.zipWith (edge l o) (crn rho) ((crn rho).drop 1 ++ (crn rho).take 1)
def rowsL (l o : Lg) (rho : Rat) : List Row3 := inner l o rho ++ edges l o rho
def nearL (l o : Lg) (rho : Rat) : Row3 := (bestOf (rowsL l o rho)).getD (0, 0, 0)
theorem rat_ne {d : Int} (h : d ≠ 0) : (d : Rat) ≠ 0 := fun e => h (by
  have := congrArg Rat.num e
  simpa using this)
end DV
namespace DV
open PySem PySem.Spec PyProof.Rows L2
open LamX (ExtN TabS Tabs CodeO)
open scoped Rat
end DV
namespace DV
open PySem PySem.Spec PyProof.Rows L2
open LamX (ExtN TabS Tabs CodeO)
section
variable {prog : Program} {w : World} {A : Around} {E : Value → Shared → Prop} {s : Shared}
theorem sliceApplied_rev {sl : Addr} {n : Nat} {tk : Tok} {vs : Value} {Q : Int × Int × Nat → Shared → Prop} (hs : s.heap.IsSliceOf sl .none .none vs) (ps : IsPart vs (some (-1)))
    (h : Q ((n : Int) - 1, -1, n) s) : wpAny (model prog w) A (Builtin.Slice.sliceApplied (.ref sl) (pure (n : Int))) Q E s := by
  obtain ⟨os, hos, hcs, hds⟩ := id hs
  unfold Builtin.Slice.sliceApplied Builtin.Slice.sliceFields
  refine wpAny_bind (wpAny_bind (wpAny_field hos hds (x := .none) rfl (wpAny_bind (wpAny_field hos hds (x := .none) rfl (wpAny_bind (wpAny_field hos hds (x := vs) rfl (wpAny_pure ?_)))))))
  refine wpAny_bind (HT.slicePart_ ps ?_)
  show wpAny _ _ (if ((-1 : Int) == 0) = true then _ else _) _ _ s
  rw [if_neg (by decide)]
  refine wpAny_bind (HT.slicePart_ .none (wpAny_bind (HT.slicePart_ .none (wpAny_bind (wpAny_pure ?_)))))
  show wpAny _ _ (match Builtin.Slice.sliceAdjust none none (-1) (n : Int) with | (lo, hi) => pure (lo, (-1 : Int), Builtin.Slice.slicePlaces lo hi (-1))) _ _ s
  have e1 : Builtin.Slice.sliceAdjust none none (-1) (n : Int) = ((n : Int) - 1, -1) := by
    unfold Builtin.Slice.sliceAdjust
    simp
  rw [e1]
  show wpAny _ _ (pure ((n : Int) - 1, (-1 : Int), Builtin.Slice.slicePlaces ((n : Int) - 1) (-1) (-1))) _ _ s
  have e2 : Builtin.Slice.slicePlaces ((n : Int) - 1) (-1) (-1) = n := by
    unfold Builtin.Slice.slicePlaces
    simp only [show ¬ ((-1 : Int) > 0) by decide, if_false]
    split
    · rw [show (-(-1) : Int) = 1 by decide, Int.ediv_one]; omega
    · omega
  rw [e2]
  exact wpAny_pure h
theorem fm_congr {α β : Type} {f g : α → Option β} : ∀ {l : List α}, (∀ k ∈ l, f k = g k) → l.filterMap f = l.filterMap g
  | [], _ => rfl
  | x :: l, h => by
    rw [List.filterMap_cons, List.filterMap_cons, h x (List.mem_cons_self ..), fm_congr fun k hk => h k (List.mem_cons_of_mem _ hk)]
theorem pick_rev (xs : Array Value) : ((List.range xs.size).filterMap fun (k : Nat) => xs[((xs.size : Int) - 1 + (k : Int) * -1).toNat]?).toArray = xs.toList.reverse.toArray := by
  congr 1
  have h : ∀ k ∈ List.range xs.size, xs[((xs.size : Int) - 1 + (k : Int) * -1).toNat]? = xs.toList.reverse[k]? := by
    intro k hk
    have hk : k < xs.size := List.mem_range.mp hk
    rw [List.getElem?_reverse (by simpa using hk), Array.length_toList, show ((xs.size : Int) - 1 + (k : Int) * -1).toNat = xs.size - 1 - k by omega, Array.getElem?_toList]
  have : (List.range xs.size).filterMap (fun (k : Nat) => xs[((xs.size : Int) - 1 + (k : Int) * -1).toNat]?) = (List.range xs.size).filterMap (fun k => xs.toList.reverse[k]?) := fm_congr h
  rw [this]
  have e : xs.size = xs.toList.reverse.length := by simp
  rw [e]
  generalize xs.toList.reverse = ys
  apply List.ext_getElem?
  intro i
  have : (List.range ys.length).filterMap (fun k => ys[k]?) = ys := by
    clear i e this h
    induction ys with
    | nil => rfl
    | cons y ys ih =>
      rw [List.length_cons, List.range_succ_eq_map, List.filterMap_cons]
      simp only [List.getElem?_cons_zero, List.filterMap_map]
      congr 1
  rw [this]
theorem getItem_tuple_rev {t sl : Addr} {items : Array Value} {vs : Value} {Q : Value → Shared → Prop} (ht : IsTup s.heap t items) (hs : s.heap.IsSliceOf sl .none .none vs) (ps : IsPart vs (some (-1)))
    (h : Q (.ref s.heap.objs.size) { s with heap := s.heap.push { cls := .type "tuple", data := .seq items.toList.reverse.toArray } }) (hsz : items.size ≤ sizeLine) : wpAny (model prog w) A (getItem (.ref t) (.ref sl)) Q E s := by
  have htake : sizeOk (.seq items.toList.reverse.toArray) := by
    show items.toList.reverse.toArray.size ≤ sizeLine
    rw [List.size_toArray, List.length_reverse, Array.length_toList]
    exact hsz
  obtain ⟨os, hos, hcs, hds⟩ := id hs
  have hTs : s.TypeIs (.ref sl) "slice" := ⟨os, hos, hcs⟩
  unfold getItem
  try with_reducible refine wpAny_holding ?_
  first | refine wpAny_bind (wpAny_pure ?_) | skip
  refine wpAny_bind (wpAny_sequenceKey ht.typeIs (by decide) ?_)
  refine wpAny_bind (wpAny_callSpecial?_slot (name := Str.ofString "__getitem__") ht.typeIs PyProof.Rows.slot_tuple_getitem
    (wpAny_call_entry PyProof.Rows.slot_tuple_getitem ht.typeIs entry_tuple_getitem ?_ (args_tuple_getitem _ _)))
  show wpAny _ _ (Builtin.Tuple.tupleItemsOf (.ref t) >>= _) _ _ s
  refine wpAny_bind (tupleItemsOf_ ht ?_)
  refine wpAny_bind (wpAny_typeOf hTs ?_)
  rw [if_pos (by decide)]
  refine wpAny_bind (sliceApplied_rev (tk := 0) hs ps ?_)
  have hno : ¬ ((((items.size : Int) - 1) == 0 && (-1 : Int) == 1 && items.size == items.size) = true) := by
    intro q
    rw [Bool.and_eq_true, Bool.and_eq_true] at q
    exact absurd q.1.2 (by decide)
  show wpAny _ _ (if (((items.size : Int) - 1) == 0 && (-1 : Int) == 1 && items.size == items.size) = true then _ else _) _ _ s
  rw [if_neg hno, pick_rev]
  first
    | exact wpAny_bind (m := Builtin.Tuple.tupleExact _) (wpAny_newObj_type (wpAny_pure ⟨_, rfl, wpAny_pure h⟩) htake)
    | exact wpAny_bind (m := Builtin.Tuple.tupleExact _) (wpAny_newObj_type (wpAny_bind (wpAny_pure (wpAny_pure ⟨_, rfl, wpAny_pure h⟩))) htake)
    | exact wpAny_bind (wpAny_bind (m := Builtin.Tuple.tupleExact _) (wpAny_newObj_type (wpAny_pure (wpAny_pure ⟨_, rfl, wpAny_pure h⟩)) htake))
    | exact wpAny_bind (wpAny_bind (m := Builtin.Tuple.tupleExact _) (wpAny_newObj_type (wpAny_pure ⟨_, rfl, wpAny_pure h⟩) htake))
end
section
variable {X : Cx} {F : Fm} {a b c e : Expr} {es : List Expr} {ta tb tc te : TE} {da db dc de : TDE} {pos : Pos} {t : TA} {d : TDA}
def tRevT (K : PySem.W.Frag) (te : TE) : TE := fun σ H Q => te σ H fun x H1 => ∃ a xs, x = .ref a ∧ SqT K H1 a xs ∧ ∀ p, H1 p = none → Q (.ref p) (upd H1 p (.tup xs.reverse))
theorem pe_revT {k : Nat} {p1 p2 p3 : Pos} (he : PE X e te) : PE X (.Subscript e (.Slice none none (some (.UnaryOp .USub (.Constant (.int 1) k p1) p2)) p3) pos) (tRevT X.K te) := by
  refine ⟨fun pins s σ H Q I h => ?_⟩
  refine Subscript_ (thn (he.run pins s σ H _ I h) fun v s1 ⟨x, H1, I1, r1, q1⟩ => ?_)
  obtain ⟨a, xs, ex, hx, q⟩ := q1
  subst ex
  cases r1
  have hst : PO X (some (.UnaryOp .USub (.Constant (.int 1) k p1) p2)) (tPart (tUn (rU fun i => .int (-i)) (tC (.int 1)))) := po_some (pe_un un_neg pe_int)
  refine wpAny_Slice (thn (po_none.run pins s1 σ H1 (fun o H2 => o = none ∧ H2 = H1) I1 ⟨rfl, rfl⟩) fun vl s2 ⟨l, H2, I2, pl, el, e2⟩ => ?_)
  subst el e2
  refine thn (po_none.run pins s2 σ H2 (fun o H3 => o = none ∧ H3 = H2) I2 ⟨rfl, rfl⟩) fun vu s3 ⟨u, H3, I3, pu, eu, e3⟩ => ?_
  subst eu e3
  refine thn (hst.run pins s3 σ H3 (fun o H4 => o = some (-1) ∧ H4 = H3) I3 ⟨1, rfl, -1, rfl, rfl, rfl⟩) fun vs s4 ⟨o, H4, I4, ps, eo, e4⟩ => ?_
  subst eo e4
  cases pl; cases pu
  have I5 : Inv X pins σ H4 { s4 with heap := s4.heap.push { cls := .type "slice", data := .fields #[.none, .none, vs] } } := I4.kept (t' := s4.toks) fun b ob q => Heap.get?_push_of_some _ q
  obtain ⟨its, r, ht, hz⟩ := I5.tuple hx
  have hlen := r.length
  show wpAny (model X.prog X.w) X.A (subscriptTail e (.Slice none none (some (.UnaryOp .USub (.Constant (.int 1) k p1) p2)) p3) (.ref a) (.ref s4.heap.objs.size)) (EP X pins σ Q) X.xe { s4 with heap := s4.heap.push { cls := .type "slice", data := .fields #[.none, .none, vs] } }
  refine tail_any (ops := [.ref a, .ref s4.heap.objs.size]) ht.typeIs (PyProof.Rows.slot_tuple_getitem.lookup) ?_ (by with_unfolding_all rfl)
  refine getItem_tuple_rev ht (Heap.IsSliceOf.new _ .none .none vs) ps ?_ (by rw [List.size_toArray]; omega)
  refine ⟨.ref _, _, I5.laid (t' := s4.toks) (o := .tup xs.reverse) (fun b ob q => Heap.get?_push_of_some _ q) (Nat.le_refl _) ?_, rfl, q _ (I5.hok.fresh (Nat.le_refl _))⟩
  refine ⟨by rw [List.length_reverse]; exact hz, its.reverse, r.reverse, ?_⟩
  have : its.toArray.toList.reverse.toArray = its.reverse.toArray := by simp
  rw [this]
  exact IsTup.new _ _
theorem ImAll.reverse {K : PySem.W.Frag} {N : Addr → Prop} {H : Hp} : ∀ {ds : List PyData} {vs : List V}, ImAll K N H ds vs → ImAll K N H ds.reverse vs.reverse
  | [], _, h => by simp only [ImAll] at h; subst h; exact .nil
  | d :: ds, _, h => by
    simp only [ImAll] at h
    obtain ⟨x, xs, rfl, l, t⟩ := h
    rw [List.reverse_cons, List.reverse_cons]
    exact t.reverse.append (.cons l .nil)
def dRevT (te : TDE) : TDE := fun ρ Q => te ρ fun r ρ1 => onT r fun xs => Q (.d (.tuple xs.reverse)) ρ1
theorem pd_revT {k : Nat} {p1 p2 p3 : Pos} (he : PD X F e te de) (hK : X.K = F.K := by rfl) : PD X F (.Subscript e (.Slice none none (some (.UnaryOp .USub (.Constant (.int 1) k p1) p2)) p3) pos) (tRevT F.K te) (dRevT de) := by
  refine ⟨by have := pe_revT (pos := pos) (k := k) (p1 := p1) (p2 := p2) (p3 := p3) he.pe; rw [hK] at this; exact this, ?_, ?_⟩
  · intro pins ρ σ H Q O h
    refine he.de.run pins ρ σ H _ O (he.de.mono _ _ _ (fun r ρ1 h1 v H1 O1 R1 => ?_) h)
    cases r with
    | o i => exact h1.elim
    | raw u => exact h1.elim
    | d x =>
      cases x <;> first | exact h1.elim | skip
      rename_i xs
      have R1 : Im F.K (Av F pins ρ1 σ) H1 (.tuple xs) v := R1
      simp only [Im] at R1
      obtain ⟨a, vs, rfl, l, im⟩ := R1
      refine ⟨a, vs, rfl, l.sq, fun p hp => ?_⟩
      obtain ⟨O2, i2⟩ := newTup O1 hp im.reverse
      exact h1 _ _ O2 i2
  · intro ρ Q Q' hq h
    refine he.de.mono _ _ _ (fun r ρ1 h1 => ?_) h
    cases r with
    | o i => exact h1.elim
    | raw u => exact h1.elim
    | d x =>
      cases x <;> first | exact h1.elim | skip
      exact hq _ _ h1
end
end DV
namespace DV
open PySem PySem.Spec PyProof.Rows L2
open LamX (ExtN TabS Tabs CodeO)
open scoped Rat
theorem u_take {m : Nat} {n : Int} {bag : List PyData} {Q : PyData → List PyData → Prop} (hb : Bag m bag) (hm : m + 1 < 2 ^ 60) (h0 : 0 < n) (h1 : n ≤ 1000000000) (q : ∀ v bag', 0 ≤ v → v < n → Bag (m + 1) bag' → Q (.int v) bag') : S_take bag [.int n] Q :=
  ⟨m, n, hb, by omega, rfl, h0, Nat.lt_of_lt_of_le (show n.natAbs < 2 ^ 30 by omega) (Nat.pow_le_pow_right (by decide) (by decide)), q⟩
theorem u_some {m : Nat} {ys : List PyData} {bag : List PyData} {Q : PyData → List PyData → Prop} (hb : Bag m bag) (hm : m + 1 < 2 ^ 60) (h0 : 0 < ys.length) (h1 : ys.length ≤ 100000) (q : ∀ y ∈ ys, ∀ bag', Bag (m + 1) bag' → Q y bag') : S_some bag [.list ys] Q :=
  ⟨m, ys, hb, by omega, .inl rfl, h0, h1, fun y b h => q y h b⟩
theorem u_alike {x : PyData} {Q : PyData → Prop} (h : Fine x) (q : Q (.bool true)) : S_alike [x, x] Q := ⟨⟨rfl, h⟩, q⟩
def isI (lo hi : Int) : PyData → Bool
  | .int d => decide (lo ≤ d) && decide (d ≤ hi)
  | _ => false
theorem of_isI {lo hi : Int} {y : PyData} (h : isI lo hi y = true) : ∃ d : Int, y = .int d ∧ lo ≤ d ∧ d ≤ hi := by
  cases y <;> first | cases h | skip
  rename_i d
  simp only [isI, Bool.and_eq_true, decide_eq_true_eq] at h
  exact ⟨d, rfl, h⟩
theorem of_all {lo hi : Int} {ys : List PyData} (h : ys.all (isI lo hi) = true) : ∀ y ∈ ys, ∃ d : Int, y = .int d ∧ lo ≤ d ∧ d ≤ hi := fun y hy => of_isI (List.all_eq_true.mp h y hy)
theorem bd_of {k : Nat} {i : Int} (b : Int) (h1 : -b ≤ i) (h2 : i ≤ b) (hb : b.natAbs < 2 ^ k := by decide) : Bd k i := by unfold Bd; omega
end DV
namespace DV
open PySem PySem.Spec PyProof.Rows L2
open LamX (ExtN TabS Tabs CodeO)
open scoped Rat
def lcIn (g : TDGt) (tt : TDT) (te : TDE) (vs : List Nat) (Q : List PyData → Rho → Prop) (xs : List PyData) (ρ1 : Rho) : Prop :=
  (∀ i ∈ vs, ρ1[i]? = some none) ∧ ∃ I : Nat → List PyData → Rho → Prop, I 0 [] ρ1 ∧
  (∀ i x acc ρ, xs[i]? = some x → I i acc ρ → g (.d x) ρ fun ρ2 => tt ρ2 fun k ρ3 => if k = true then te ρ3 fun r ρ4 => onDat r fun y => Few (acc.length + 1) ∧ I (i + 1) (acc ++ [y]) (wipeR ρ4 vs) else I (i + 1) acc (wipeR ρ3 vs)) ∧
  ∀ acc ρ, I xs.length acc ρ → Q acc (wipeR ρ vs)
theorem dLc_eq {wi : TDI} {g : TDGt} {tt : TDT} {te : TDE} {vs : List Nat} : dLc wi g tt te vs = fun ρ Q => wi ρ fun xs ρ1 => lcIn g tt te vs Q xs ρ1 := rfl
def forIn1 (g : TDGt) (tb : TDS) (DD : DEnds) (xs : List PyData) (ρ1 : Rho) : Prop := ∃ I : Nat → Rho → Prop, I 0 ρ1 ∧
  (∀ i x ρ, xs[i]? = some x → I i ρ → g (.d x) ρ fun ρ2 => tb { DD with nx := I (i + 1), ct := I (i + 1), bk := DD.nx } ρ2) ∧ ∀ ρ, I xs.length ρ → DD.nx ρ
theorem dFor_eq {wi : TDI} {g : TDGt} {tb : TDS} : dFor wi g tb = fun DD ρ => wi ρ fun xs ρ1 => forIn1 g tb DD xs ρ1 := rfl
section
variable {g : TDGt} {tt : TDT} {te : TDE} {tb : TDS} {DD : DEnds} {vs : List Nat} {Q : List PyData → Rho → Prop} {ρ : Rho}
theorem take_succ_some {α : Type} {as : List α} {i : Nat} {a : α} (h : as[i]? = some a) : as.take (i + 1) = as.take i ++ [a] := by
  rw [List.take_succ, h]; rfl
/-- every item is tested and made; nothing else changes -/
theorem lc_fm {α : Type} (as : List α) (enc : α → PyData) (f : α → Option PyData) (hv : ∀ i ∈ vs, ρ[i]? = some none) (hl : as.length ≤ 100000)
    (turn : ∀ (i : Nat) (a : α), as[i]? = some a → ∀ (C1 : PyData → Rho → Prop) (C2 : Rho → Prop) (n : Nat), Few n → (∀ y, f a = some y → C1 y ρ) → (f a = none → C2 ρ) →
      g (.d (enc a)) ρ fun ρ2 => tt ρ2 fun k ρ3 => if k = true then te ρ3 fun r ρ4 => onDat r fun y => Few n ∧ C1 y (wipeR ρ4 vs) else C2 (wipeR ρ3 vs))
    (q : Q (as.filterMap f) (wipeR ρ vs)) : lcIn g tt te vs Q (as.map enc) ρ := by
  refine ⟨hv, fun i acc ρ' => ρ' = ρ ∧ acc = (as.take i).filterMap f, ⟨rfl, rfl⟩, ?_, ?_⟩
  · rintro i x acc _ hx ⟨rfl, rfl⟩
    rw [List.getElem?_map] at hx
    cases ha : as[i]? with
    | none => rw [ha] at hx; cases hx
    | some a =>
      rw [ha] at hx
      cases hx
      have hi := (List.getElem?_eq_some_iff.mp ha).1
      refine turn i a ha (fun y ρ2 => ρ2 = _ ∧ _ = (as.take (i + 1)).filterMap f) (fun ρ2 => ρ2 = _ ∧ _ = (as.take (i + 1)).filterMap f) _ ?_ (fun y hy => ⟨rfl, ?_⟩) fun hn => ⟨rfl, ?_⟩
      · refine few_le ?_
        have := List.length_filterMap_le f (as.take i)
        rw [List.length_take] at this
        omega
      · rw [take_succ_some ha, List.filterMap_append, List.filterMap_cons, hy]; rfl
      · rw [take_succ_some ha, List.filterMap_append, List.filterMap_cons, hn]; exact (List.append_nil _).symm
  · rintro acc _ ⟨rfl, rfl⟩
    rw [List.length_map, List.take_length]
    exact q
theorem lc_map {α : Type} (as : List α) (enc : α → PyData) (f : α → PyData) (hv : ∀ i ∈ vs, ρ[i]? = some none) (hl : as.length ≤ 100000)
    (turn : ∀ (i : Nat) (a : α), as[i]? = some a → ∀ (C1 : PyData → Rho → Prop) (C2 : Rho → Prop) (n : Nat), Few n → C1 (f a) ρ →
      g (.d (enc a)) ρ fun ρ2 => tt ρ2 fun k ρ3 => if k = true then te ρ3 fun r ρ4 => onDat r fun y => Few n ∧ C1 y (wipeR ρ4 vs) else C2 (wipeR ρ3 vs))
    (q : Q (as.map f) (wipeR ρ vs)) : lcIn g tt te vs Q (as.map enc) ρ := by
  refine lc_fm as enc (fun a => some (f a)) hv hl (fun i a ha C1 C2 n hn h1 _ => turn i a ha C1 C2 n hn (h1 _ rfl)) ?_
  rw [show as.filterMap (fun a => some (f a)) = as.map f from by rw [← List.filterMap_eq_map]; rfl]
  exact q
/-- every item is drawn anew -/
theorem lc_draw {n : Nat} (xs : List PyData) (st : List PyData → Rho) (P : PyData → Prop) (bag : List PyData) (m : Nat) (hb : Bag m bag) (e : ρ = st bag) (hv : ∀ bag, ∀ i ∈ vs, (st bag)[i]? = some none) (hl : xs.length ≤ 100000)
    (turn : ∀ (i : Nat) (x : PyData), xs[i]? = some x → ∀ (m' : Nat) (bag' : List PyData), m ≤ m' → m' + n ≤ m + n * xs.length → Bag m' bag' → ∀ (C1 : PyData → Rho → Prop) (C2 : Rho → Prop) (k : Nat), Few k → (∀ y bag2, P y → Bag (m' + n) bag2 → C1 y (st bag2)) →
      g (.d x) (st bag') fun ρ2 => tt ρ2 fun k' ρ3 => if k' = true then te ρ3 fun r ρ4 => onDat r fun y => Few k ∧ C1 y (wipeR ρ4 vs) else C2 (wipeR ρ3 vs))
    (q : ∀ zs bag', zs.length = xs.length → (∀ z ∈ zs, P z) → Bag (m + n * xs.length) bag' → Q zs (wipeR (st bag') vs)) : lcIn g tt te vs Q xs ρ := by
  subst e
  refine ⟨hv bag, fun i acc ρ' => acc.length = i ∧ i ≤ xs.length ∧ (∀ z ∈ acc, P z) ∧ ∃ bag', Bag (m + n * i) bag' ∧ ρ' = st bag', ⟨rfl, Nat.zero_le _, (by intro z hz; cases hz), bag, by simpa using hb, rfl⟩, ?_, ?_⟩
  · rintro i x acc _ hx ⟨hal, hi0, hP, bag', hb', rfl⟩
    have hi := (List.getElem?_eq_some_iff.mp hx).1
    have hmul : n * i + n ≤ n * xs.length := by
      have := Nat.mul_le_mul_left n (show i + 1 ≤ xs.length by omega)
      rwa [Nat.mul_succ] at this
    refine turn i x hx _ bag' (Nat.le_add_right ..) (by omega) hb' (fun y ρ2 => (acc ++ [y]).length = i + 1 ∧ i + 1 ≤ xs.length ∧ (∀ z ∈ acc ++ [y], P z) ∧ ∃ bag', Bag (m + n * (i + 1)) bag' ∧ ρ2 = st bag') (fun ρ2 => acc.length = i + 1 ∧ i + 1 ≤ xs.length ∧ (∀ z ∈ acc, P z) ∧ ∃ bag', Bag (m + n * (i + 1)) bag' ∧ ρ2 = st bag') (acc.length + 1) (few_le (by omega)) (fun y bag2 hy hb2 => ⟨by rw [List.length_append, hal]; rfl, by omega, fun z hz => ?_, bag2, by rw [Nat.mul_succ]; exact hb2.up (by omega), rfl⟩)
    rcases List.mem_append.mp hz with hz | hz
    · exact hP z hz
    · have : z = y := by simpa using hz
      rw [this]; exact hy
  · rintro acc _ ⟨hal, _, hP, bag', hb', rfl⟩
    exact q acc bag' hal hP hb'
/-- a loop by what holds between its turns: the state is made of s -/
theorem for_st {α S : Type} (as : List α) (enc : α → PyData) (mk : S → Rho) (I : Nat → S → Prop) (s0 : S) (e : ρ = mk s0) (h0 : I 0 s0)
    (turn : ∀ (i : Nat) (a : α) (s : S), as[i]? = some a → I i s → ∀ C : Rho → Prop, (∀ s', I (i + 1) s' → C (mk s')) → g (.d (enc a)) (mk s) fun ρ2 => tb { DD with nx := C, ct := C, bk := DD.nx } ρ2)
    (fin : ∀ s, I as.length s → DD.nx (mk s)) : forIn1 g tb DD (as.map enc) ρ := by
  refine ⟨fun i ρ' => ∃ s, ρ' = mk s ∧ I i s, ⟨s0, e, h0⟩, ?_, ?_⟩
  · rintro i x _ hx ⟨s, rfl, hI⟩
    rw [List.getElem?_map] at hx
    cases ha : as[i]? with
    | none => rw [ha] at hx; cases hx
    | some a =>
      rw [ha] at hx
      cases hx
      exact turn i a s ha hI _ fun s' h' => ⟨s', rfl, h'⟩
  · rintro _ ⟨s, rfl, hI⟩
    rw [List.length_map] at hI
    exact fin s hI
theorem map_id' {xs : List PyData} : xs.map (fun x => x) = xs := List.map_id' xs
theorem rng_map {lo : Int} {n : Nat} : rng lo n = (List.range n).map fun k => PyData.int (lo + (k : Nat)) := rfl
theorem for_rng {S : Type} (lo : Int) (n : Nat) (mk : S → Rho) (I : Nat → S → Prop) (s0 : S) (e : ρ = mk s0) (h0 : I 0 s0)
    (turn : ∀ (i : Nat) (s : S), i < n → I i s → ∀ C : Rho → Prop, (∀ s', I (i + 1) s' → C (mk s')) → g (.d (.int (lo + (i : Nat)))) (mk s) fun ρ2 => tb { DD with nx := C, ct := C, bk := DD.nx } ρ2)
    (fin : ∀ s, I n s → DD.nx (mk s)) : forIn1 g tb DD (rng lo n) ρ := by
  rw [rng_map]
  refine for_st (List.range n) _ mk I s0 e h0 (fun i a s ha hI C hC => ?_) fun s hs => fin s (by rwa [List.length_range] at hs)
  obtain ⟨hi, e⟩ := List.getElem?_eq_some_iff.mp ha
  rw [List.getElem_range] at e
  subst e
  rw [List.length_range] at hi
  exact turn _ s hi hI C hC
end
end DV
namespace DV
open PySem PySem.Spec PyProof.Rows L2
open LamX (ExtN TabS Tabs CodeO)
open scoped Rat
def within (s t rho : Rat) : Prop := 0 ≤ s ∧ s ≤ 1 ∧ 0 ≤ t ∧ t ≤ 1 ∧ rabs (s - t) ≤ rho
instance (s t rho : Rat) : Decidable (within s t rho) := by unfold within; infer_instance
end DV
namespace DV
open PySem PySem.Spec PyProof.Rows L2
open LamX (ExtN TabS Tabs CodeO)
section
variable {F : Fm} {tt tt1 : TT} {dt dt1 : TDT} {te : TE} {de : TDE}
def dLc2 (wi : TDI) (g : TDGt) (tt : TDT) (wi1 : TDI) (g1 : TDGt) (tt1 : TDT) (te : TDE) (vs vs1 : List Nat) : TDL := fun ρ Q => wi ρ fun xs ρ1 => (∀ i ∈ vs, ρ1[i]? = some none) ∧ ∃ I : Nat → List PyData → Rho → Prop, I 0 [] ρ1 ∧
  (∀ i x acc ρ, xs[i]? = some x → I i acc ρ → g (.d x) ρ fun ρ2 => tt ρ2 fun k ρ3 => if k = true then wi1 ρ3 fun ys ρ4 => (∀ i ∈ vs1, ρ4[i]? = some none) ∧ ∃ J : Nat → List PyData → Rho → Prop, J 0 acc ρ4 ∧
      (∀ j y acc ρ, ys[j]? = some y → J j acc ρ → g1 (.d y) ρ fun ρ5 => tt1 ρ5 fun k ρ6 => if k = true then te ρ6 fun r ρ7 => onDat r fun z => Few (acc.length + 1) ∧ J (j + 1) (acc ++ [z]) (wipeR ρ7 vs1) else J (j + 1) acc (wipeR ρ6 vs1)) ∧
      ∀ acc ρ, J ys.length acc ρ → I (i + 1) acc (wipeR ρ vs)
    else I (i + 1) acc (wipeR ρ3 vs)) ∧
  ∀ acc ρ, I xs.length acc ρ → Q acc (wipeR ρ vs)
theorem wipeR_id {ρ : Rho} : ∀ {vs : List Nat}, (∀ i ∈ vs, ρ[i]? = some none) → wipeR ρ vs = ρ
  | [], _ => rfl
  | k :: ks, hk => by
    show (wipeR ρ ks).set k none = ρ
    rw [wipeR_id fun i hi => hk i (List.mem_cons_of_mem _ hi)]
    apply List.ext_getElem?
    intro n
    by_cases e : k = n
    · subst e
      have := hk k (List.mem_cons_self ..)
      have hl : k < ρ.length := by
        rcases Nat.lt_or_ge k ρ.length with z | z
        · exact z
        · rw [List.getElem?_eq_none z] at this; cases this
      rw [List.getElem?_set_self hl, this]
    · rw [List.getElem?_set_ne e]
theorem wipe_at {σ : L2.St} {k : Nat} : ∀ {ws : List Nat}, k ∈ ws → k < σ.length → (wipe σ ws)[k]? = some none
  | [], h, _ => by cases h
  | w :: ws, h, hl => by
    show ((wipe σ ws).set w none)[k]? = some none
    by_cases e : w = k
    · subst e
      rw [List.getElem?_set_self (by rw [wipe_length]; exact hl)]
    · rw [List.getElem?_set_ne e]
      rcases List.mem_cons.mp h with z | z
      · exact absurd z.symm e
      · exact wipe_at z hl
theorem set_id {σ : L2.St} {k : Nat} (h : σ[k]? = some none ∨ σ.length ≤ k) : σ.set k none = σ := by
  apply List.ext_getElem?
  intro n
  by_cases e : k = n
  · subst e
    rcases h with h | h
    · have hl := (List.getElem?_eq_some_iff.mp h).1
      rw [List.getElem?_set_self hl, h]
    · rw [List.getElem?_eq_none (by rw [List.length_set]; exact h), List.getElem?_eq_none h]
  · rw [List.getElem?_set_ne e]
/-- what is wiped in the outer list may be wiped ahead or behind -/
theorem wipe_sub {σ : L2.St} {vs : List Nat} : ∀ {us : List Nat}, (∀ i ∈ us, i ∈ vs) → wipe (wipe σ vs) us = wipe σ vs
  | [], _ => rfl
  | k :: ks, hk => by
    show (wipe (wipe σ vs) ks).set k none = wipe σ vs
    rw [wipe_sub fun i hi => hk i (List.mem_cons_of_mem _ hi)]
    refine set_id ?_
    by_cases hl : k < σ.length
    · exact .inl (wipe_at (hk k (List.mem_cons_self ..)) hl)
    · exact .inr (by rw [wipe_length]; omega)
theorem wipe_nth {σ : L2.St} {vs : List Nat} {n : Nat} : (wipe σ vs)[n]? = if n ∈ vs ∧ n < σ.length then some none else σ[n]? := by
  induction vs with
  | nil => simp [wipe]
  | cons k ks ih =>
    show ((wipe σ ks).set k none)[n]? = _
    by_cases e : k = n
    · subst e
      by_cases hl : k < σ.length
      · rw [List.getElem?_set_self (by rw [wipe_length]; exact hl), if_pos ⟨List.mem_cons_self .., hl⟩]
      · rw [List.getElem?_eq_none (by rw [List.length_set, wipe_length]; omega), if_neg (fun z => hl z.2), List.getElem?_eq_none (by omega)]
    · rw [List.getElem?_set_ne e, ih]
      have : (n ∈ k :: ks) ↔ n ∈ ks := by simp [List.mem_cons, Ne.symm e]
      simp only [this]
end
theorem DG.up {F : Fm} {g : TG} {dg : TDGt} {sl sm : List Nat} (h : DG F g dg sl) (k : ∀ i ∈ sl, i ∈ sm) : DG F g dg sm :=
  ⟨fun pins ρ σ H v r Q P O fr ro d q => h.run pins ρ σ H v r Q P O (fun i hi => fr i (k i hi)) ro d fun ρ' σ' H' O' so p => q ρ' σ' H' O' (fun vs hv => so vs fun i hi => hv i (k i hi)) p, h.mono⟩
end DV
namespace DV
open PySem PySem.Spec PyProof.Rows L2
open LamX (ExtN TabS Tabs CodeO)
open scoped Rat
theorem nodup_le {α : Type} : ∀ {xs ys : List α}, xs.Nodup → (∀ x ∈ xs, x ∈ ys) → xs.length ≤ ys.length
  | [], _, _, _ => Nat.zero_le _
  | x :: xs, ys, h, k => by
    obtain ⟨l, r, rfl⟩ := List.append_of_mem (k x (List.mem_cons_self ..))
    obtain ⟨h1, h2⟩ := List.nodup_cons.mp h
    have := nodup_le (xs := xs) (ys := l ++ r) h2 fun y hy => by
      have hm := k y (List.mem_cons_of_mem _ hy)
      simp only [List.mem_append, List.mem_cons] at hm ⊢
      rcases hm with z | z | z
      · exact .inl z
      · subst z; exact absurd hy h1
      · exact .inr z
    simp only [List.length_append, List.length_cons] at this ⊢
    omega
theorem fw_of {n : Nat} (h : n ≤ 100000) : (n ≤ sizeLine) = True := eq_true (few_le h)
theorem fw0 : ((0 : Nat) ≤ sizeLine) = True := fw_of (by decide)
theorem fw1 : ((0 : Nat) + 1 ≤ sizeLine) = True := fw_of (by decide)
theorem fw2 : ((0 : Nat) + 1 + 1 ≤ sizeLine) = True := fw_of (by decide)
theorem fw3 : ((0 : Nat) + 1 + 1 + 1 ≤ sizeLine) = True := fw_of (by decide)
theorem fw4 : ((0 : Nat) + 1 + 1 + 1 + 1 ≤ sizeLine) = True := fw_of (by decide)
theorem fw5 : ((0 : Nat) + 1 + 1 + 1 + 1 + 1 ≤ sizeLine) = True := fw_of (by decide)
theorem fw6 : ((0 : Nat) + 1 + 1 + 1 + 1 + 1 + 1 ≤ sizeLine) = True := fw_of (by decide)
theorem fw7 : ((0 : Nat) + 1 + 1 + 1 + 1 + 1 + 1 + 1 ≤ sizeLine) = True := fw_of (by decide)
theorem fw8 : ((0 : Nat) + 1 + 1 + 1 + 1 + 1 + 1 + 1 + 1 ≤ sizeLine) = True := fw_of (by decide)
theorem fw9 : ((0 : Nat) + 1 + 1 + 1 + 1 + 1 + 1 + 1 + 1 + 1 ≤ sizeLine) = True := fw_of (by decide)
theorem fw10 : ((0 : Nat) + 1 + 1 + 1 + 1 + 1 + 1 + 1 + 1 + 1 + 1 ≤ sizeLine) = True := fw_of (by decide)
theorem fw11 : ((0 : Nat) + 1 + 1 + 1 + 1 + 1 + 1 + 1 + 1 + 1 + 1 + 1 ≤ sizeLine) = True := fw_of (by decide)
theorem fw12 : ((0 : Nat) + 1 + 1 + 1 + 1 + 1 + 1 + 1 + 1 + 1 + 1 + 1 + 1 ≤ sizeLine) = True := fw_of (by decide)
theorem fw13 : ((0 : Nat) + 1 + 1 + 1 + 1 + 1 + 1 + 1 + 1 + 1 + 1 + 1 + 1 + 1 ≤ sizeLine) = True := fw_of (by decide)
theorem fw14 : ((0 : Nat) + 1 + 1 + 1 + 1 + 1 + 1 + 1 + 1 + 1 + 1 + 1 + 1 + 1 + 1 ≤ sizeLine) = True := fw_of (by decide)
theorem fw15 : ((0 : Nat) + 1 + 1 + 1 + 1 + 1 + 1 + 1 + 1 + 1 + 1 + 1 + 1 + 1 + 1 + 1 ≤ sizeLine) = True := fw_of (by decide)
theorem ite_nt {c : Prop} [Decidable c] {A B : Prop} (h : ¬ c) (k : A) : if (!decide c) = true then A else B := by rw [decide_eq_false h, if_pos (by rfl)]; exact k
theorem ite_nf {c : Prop} [Decidable c] {A B : Prop} (h : c) (k : B) : if (!decide c) = true then A else B := by rw [decide_eq_true h, if_neg (by decide)]; exact k
theorem ite_nb {c : Prop} [Decidable c] {A B : Prop} (k : ¬ c → A) (m : c → B) : if (!decide c) = true then A else B := by
  by_cases h : c
  · exact ite_nf h (m h)
  · exact ite_nt h (k h)
theorem hv1 {ρ : Rho} {i : Nat} (h : ρ[i]? = some none) : ∀ j ∈ [i], ρ[j]? = some none := fun j hj => by
  have : j = i := by simpa using hj
  rw [this]; exact h
theorem hv2 {ρ : Rho} {i k : Nat} (h : ρ[i]? = some none) (h2 : ρ[k]? = some none) : ∀ j ∈ [i, k], ρ[j]? = some none := fun j hj => by
  have : j = i ∨ j = k := by simpa using hj
  rcases this with e | e <;> rw [e] <;> assumption
theorem zipD_map {α β : Type} (f : α → PyData) (g : β → PyData) (xs : List α) (ys : List β) : zipD (xs.map f) (ys.map g) = (List.zip xs ys).map fun p => .tuple [f p.1, g p.2] := by
  unfold zipD
  rw [List.zipWith_map, List.zip, List.map_zipWith]
end DV
namespace DV
open PySem PySem.Spec PyProof.Rows L2
open LamX (ExtN TabS Tabs CodeO)
section
variable {X : Cx} {F : Fm} {st : Stmt} {ts : TS} {ds : TDS} {tt : TT} {dt : TDT} {te : TE} {de : TDE}
def dFrz (i : Nat) (t : TDS) : TDS := fun DD ρ => onOwn ρ i fun xs => t DD (ρ.set i (some (.d (.list xs))))
def lcO (k : Nat) (g : TDGt) (tt : TDT) (te : TDE) (vs : List Nat) (Q : List PyData → Rho → Prop) (xs : List PyData) (ρ1 : Rho) : Prop :=
  ((∀ i ∈ vs, ρ1[i]? = some none) ∧ k ∉ vs) ∧ ∃ I : Nat → List PyData → Rho → Prop, I 0 [] ρ1 ∧
  (∀ i x acc ρ, xs[i]? = some x → I i acc ρ → ρ[k]? = some (some (.own xs)) → g (.d x) ρ fun ρ2 => tt ρ2 fun b ρ3 => if b = true then te ρ3 fun r ρ4 => onDat r fun y => Few (acc.length + 1) ∧ ρ4[k]? = some (some (.own xs)) ∧ I (i + 1) (acc ++ [y]) (wipeR ρ4 vs) else ρ3[k]? = some (some (.own xs)) ∧ I (i + 1) acc (wipeR ρ3 vs)) ∧
  ∀ acc ρ, I xs.length acc ρ → ρ[k]? = some (some (.own xs)) → Q acc (wipeR ρ vs)
def dLcO (k : Nat) (g : TDGt) (tt : TDT) (te : TDE) (vs : List Nat) : TDL := fun ρ Q => onOwn ρ k fun xs => lcO k g tt te vs Q xs ρ
theorem wipeR_nth {ρ : Rho} {vs : List Nat} {n : Nat} (h : n ∉ vs) : (wipeR ρ vs)[n]? = ρ[n]? := by
  induction vs with
  | nil => rfl
  | cons k ks ih =>
    show ((wipeR ρ ks).set k none)[n]? = _
    rw [List.getElem?_set_ne (fun e => h (by rw [e]; exact List.mem_cons_self ..)), ih fun z => h (List.mem_cons_of_mem _ z)]
theorem dl_lcO {k : Nat} {g : TG} {dg : TDGt} {vs : List Nat} (hg : DG F g dg vs) (ht : DT F tt dt) (he : DE F te de) : DL F (tLc (iSeq F.K (tVar k)) g tt te vs) (dLcO k dg dt de vs) := by
  constructor
  · intro pins ρ σ H Q O h
    obtain ⟨xs, ek, h⟩ := onOwn_of h
    obtain ⟨⟨hno, hk⟩, I, h0, hturn, hend⟩ := h
    obtain ⟨v, hs, a, us0, rfl, ha, hx0, _⟩ := O.ent k _ ek
    show ∃ v, σ[k]? = some (some v) ∧ ∃ a, v = .ref a ∧ _
    refine ⟨.ref a, hs, a, rfl, .inl ⟨⟨us0, SqL.of ha⟩, fun D hD => ?_⟩⟩
    have hfr : ∀ {p : List Pin}, (∀ q ∈ p, q ∈ pins ∨ ∃ a ys, q = .acc a ys) → ∀ i ∈ vs, Fr p i := fun {p} hp i hi v j hm e => by
      subst e
      rcases hp _ hm with z | ⟨a, ys, z⟩
      · obtain ⟨_, x, hx⟩ := O.pin _ z
        unfold slot at hx
        rw [hno j hi] at hx
        cases hx
      · cases z
    have hfr2 : ∀ acc, ∀ i ∈ vs, Fr (Pin.acc D acc :: pins) i := fun acc => hfr fun q hq => by
      rcases List.mem_cons.mp hq with z | z
      · exact .inr ⟨_, _, z⟩
      · exact .inl z
    -- the list stands at a
    have hs2 : (wipe σ vs)[k]? = some (some (.ref a)) := by rw [wipe_nth, if_neg (fun z => hk z.1)]; exact hs
    have at_a : ∀ {acc : List PyData} {ρ : Rho} {H : Hp}, Ok F (.acc D acc :: pins) ρ (wipe σ vs) H → ρ[k]? = some (some (.own xs)) → ∃ us, H a = some (.lst us) ∧ ImAll F.K (Av F (.acc D acc :: pins) ρ (wipe σ vs)) H xs us := fun {acc ρ H} O e => by
      obtain ⟨v, h1, b, us, rfl, hb, hx, _⟩ := O.ent k _ e
      rw [hs2] at h1
      cases h1
      exact ⟨us, hb, hx⟩
    have start : Ok F (.acc D [] :: pins) ρ σ (upd H D (.lst [])) := O.pushL hD .nil
    have start2 : Ok F (.acc D [] :: pins) ρ (wipe σ vs) (upd H D (.lst [])) := by
      have := start.wipe (hfr2 [])
      rw [wipeR_id hno] at this
      exact this
    refine ⟨fun i m H => ∃ acc ρ, Ok F (.acc D acc :: pins) ρ (wipe σ vs) H ∧ I i acc ρ ∧ ρ[k]? = some (some (.own xs)) ∧ i ≤ xs.length ∧ m = xs.length - i, ⟨_, [], ρ, start2, h0, ek, Nat.zero_le _, rfl⟩, ?_⟩
    rintro i m H2 ⟨acc, ρ2, O2, i2, e2, hle, rfl⟩
    obtain ⟨us, hu, hx⟩ := at_a O2 e2
    have hlen := hx.length
    by_cases hlt : i < xs.length
    · refine .inr ⟨⟨us, us[i]'(by omega), SqL.of hu, by simp⟩, fun H' => ∃ acc ρ, Ok F (.acc D acc :: pins) ρ (wipe σ vs) H' ∧ I (i + 1) acc ρ ∧ ρ[k]? = some (some (.own xs)), fun H' ⟨acc', ρ', O', i', e'⟩ => ⟨xs.length - (i + 1), by omega, acc', ρ', O', i', e', by omega, rfl⟩, fun x H3 hy => ?_⟩
      obtain ⟨rfl, hy⟩ := hy
      obtain ⟨y, ey, im⟩ := hx.getV (hy us (SqL.of hu))
      refine hg.run _ ρ2 _ H3 x (.d y) _ _ O2 (hfr2 acc) im (hturn i y acc ρ2 ey i2 e2) fun ρ4 σ4 H4 O4 so q => ?_
      have hw4 : wipe σ4 vs = wipe σ vs := by
        have := so vs fun _ h => h
        rw [this]
        exact wipe_sub fun _ h => h
      refine ⟨hw4, ?_⟩
      refine ht.run _ ρ4 σ4 H4 _ O4 (ht.mono _ _ _ (fun b ρ5 h5 H5 O5 => ?_) q)
      cases b with
      | false =>
        have := O5.wipe (hfr2 acc)
        rw [hw4] at this
        exact ⟨acc, _, this, h5.2, by rw [wipeR_nth hk]; exact h5.1⟩
      | true =>
        refine he.run _ ρ5 σ4 H5 _ O5 (he.mono _ _ _ (fun r ρ6 h6 w H6 O6 R6 => ?_) h5)
        cases r with
        | o j => exact h6.elim
        | raw u => exact h6.elim
        | d z =>
          obtain ⟨vsD, hHD, hiD, _, _⟩ := O6.pin _ (List.mem_cons_self ..)
          refine ⟨vsD, hHD, ?_, acc ++ [z], wipeR ρ6 vs, ?_, h6.2.2, by rw [wipeR_nth hk]; exact h6.2.1⟩
          · have := h6.1
            unfold Few at this
            rw [hiD.length]; omega
          · have O7 := (O6.setAcc (hiD.append (.cons R6 .nil))).wipe (hfr2 (acc ++ [z]))
            rw [hw4] at O7
            exact O7
    · have e : i = xs.length := by omega
      subst e
      refine .inl ⟨⟨us, SqL.of hu, by rw [hlen]; exact Nat.le_refl _⟩, ?_⟩
      have hq := hend acc ρ2 i2 e2
      refine hq D H2 ?_
      have O3 := O2.wipe (hfr2 acc)
      refine Ok.unwipe (vs := vs) (Ok.unwipe (vs := vs) O3 ?_) ?_
      all_goals
        intro i hi
        by_cases hl : i < ρ2.length
        · exact .inl (wipeR_none hi hl)
        · exact .inr (List.getElem?_eq_none (by rw [wipeR_len]; omega))
  · intro ρ Q Q' hq h
    refine onOwn_mono h fun xs h => ?_
    obtain ⟨hno, I, h0, hturn, hend⟩ := h
    exact ⟨hno, I, h0, hturn, fun acc ρ i e => hq _ _ (hend acc ρ i e)⟩
end
theorem pl_lcO {X : Cx} {F : Fm} {elt tg : Expr} {ifs : List Expr} {scope : Scope} {own : List (Str × Nat)} {pos : Pos} {k : Nat} {x : Str} {g : TG} {dg : TDGt} {tt : TT} {dt : TDT} {te : TE} {de : TDE} {p2 : Pos} (hc : X.calm = true) (hN : X.N.Nodup) (ok : BlkOk X.N X.env.scope scope own)
    (hg : ∀ (s : Shared) (H : Hp) (C : Addr) (cl : List (Str × Addr)) (fp : List Addr), PDG (X.blk s H scope (compEnvC scope cl C X.env) fp) F tg g dg (own.map (·.2))) (ht : ∀ (s : Shared) (H : Hp) (C : Addr) (cl : List (Str × Addr)) (fp : List Addr), PDTs (X.blk s H scope (compEnvC scope cl C X.env) fp) F ifs tt dt)
    (he : ∀ (s : Shared) (H : Hp) (C : Addr) (cl : List (Str × Addr)) (fp : List Addr), PD (X.blk s H scope (compEnvC scope cl C X.env) fp) F elt te de) (hK : X.K = F.K := by rfl)
    (hi : X.N[k]? = some x := by rfl) (hv : Vis X.env.scope x := by first | exact Or.inl rfl | exact Or.inr (Or.inl rfl) | exact Or.inr (Or.inr rfl)) (hd : (x == ("__debug__" : Str)) = false := by decide) (hcd : (x == ("__classdict__" : Str)) = false := by decide) (hs : ∀ v, foldedSetIterable (.Name x p2) X.env v = pure v := by intro _; rfl) :
    PDL X F (.ListComp elt [⟨tg, .Name x p2, ifs, 0⟩] scope pos) (tLc (iSeq F.K (tVar k)) g tt te (own.map (·.2))) (dLcO k dg dt de (own.map (·.2))) := by
  refine ⟨?_, ?_⟩
  · have := pe_lc (pos := pos) hc hN (pi_seq (tg := tg) (pe_var (pos := p2) hi hv hd hcd)) ok (fun s H C cl fp => (hg s H C cl fp).pg) (fun s H C cl fp => (ht s H C cl fp).pts) (fun s H C cl fp => (he s H C cl fp).pe) hs
    rw [hK] at this
    exact this
  · exact dl_lcO (hg (PySem.start X.prog).1 (fun _ => none) 0 [] []).dg (ht (PySem.start X.prog).1 (fun _ => none) 0 [] []).dt (he (PySem.start X.prog).1 (fun _ => none) 0 [] []).de
open scoped Rat
end DV
namespace DV
open PySem PySem.Spec PyProof.Rows L2
open LamX (ExtN TabS Tabs CodeO)
open scoped Rat
structure Shp (k : Nat) (d : PyData) : Prop where
  lay : d.canLay0 = true
  deep : d.depth ≤ k
theorem Shp.up {j k : Nat} {d : PyData} (h : Shp j d) (z : j ≤ k) : Shp k d := ⟨h.lay, Nat.le_trans h.deep z⟩
theorem Shp.shaped {k : Nat} {d : PyData} (h : Shp k d) (z : k ≤ 64 := by decide) : SeqAt.shaped d = true := by
  unfold SeqAt.shaped
  rw [Bool.and_eq_true, decide_eq_true_eq]
  exact ⟨h.lay, Nat.le_trans h.deep z⟩
theorem Shp.int {i : Int} : Shp 0 (.int i) := ⟨by simp [PyData.canLay0], by simp [PyData.depth]⟩
theorem Shp.bool {i : Bool} : Shp 0 (.bool i) := ⟨by simp [PyData.canLay0], by simp [PyData.depth]⟩
theorem Shp.none : Shp 0 .none := ⟨by simp [PyData.canLay0], by simp [PyData.depth]⟩
theorem shps {k : Nat} : ∀ {xs : List PyData}, (∀ x ∈ xs, Shp k x) → PyData.canLayAll0 xs = true ∧ PyData.depthAll xs ≤ k
  | [], _ => ⟨by simp [PyData.canLayAll0], by simp [PyData.depthAll]⟩
  | x :: xs, h => by
    have a := h x (List.mem_cons_self ..)
    have b := shps (xs := xs) fun y hy => h y (List.mem_cons_of_mem _ hy)
    simp only [PyData.canLayAll0, PyData.depthAll, Bool.and_eq_true]
    exact ⟨⟨a.lay, b.1⟩, Nat.max_le.mpr ⟨a.deep, b.2⟩⟩
theorem Shp.tuple {k : Nat} {xs : List PyData} (h : ∀ x ∈ xs, Shp k x) : Shp (k + 1) (.tuple xs) := by
  have := shps h
  exact ⟨by simp only [PyData.canLay0]; exact this.1, by simp only [PyData.depth]; omega⟩
theorem Shp.list {k : Nat} {xs : List PyData} (h : ∀ x ∈ xs, Shp k x) : Shp (k + 1) (.list xs) := by
  have := shps h
  exact ⟨by simp only [PyData.canLay0]; exact this.1, by simp only [PyData.depth]; omega⟩
theorem Shp.map {α : Type} {k : Nat} {f : α → PyData} {xs : List α} (h : ∀ x ∈ xs, Shp k (f x)) : ∀ y ∈ xs.map f, Shp k y := fun y hy => by
  obtain ⟨x, hx, rfl⟩ := List.mem_map.mp hy
  exact h x hx
theorem all2 {P : PyData → Prop} {a b : PyData} (h : P a) (k : P b) : ∀ x ∈ [a, b], P x := fun x hx => by
  have : x = a ∨ x = b := by simpa using hx
  rcases this with e | e <;> rw [e] <;> assumption
theorem all1 {P : PyData → Prop} {a : PyData} (h : P a) : ∀ x ∈ [a], P x := fun x hx => by
  have : x = a := by simpa using hx
  rw [this]; assumption
theorem all3 {P : PyData → Prop} {a b c : PyData} (h : P a) (k : P b) (l : P c) : ∀ x ∈ [a, b, c], P x := fun x hx => by
  have : x = a ∨ x = b ∨ x = c := by simpa using hx
  rcases this with e | e | e <;> rw [e] <;> assumption
theorem all4 {P : PyData → Prop} {a b c d : PyData} (h : P a) (k : P b) (l : P c) (m : P d) : ∀ x ∈ [a, b, c, d], P x := fun x hx => by
  have : x = a ∨ x = b ∨ x = c ∨ x = d := by simpa using hx
  rcases this with e | e | e | e <;> rw [e] <;> assumption
/-- as Fine, with numbers -/
structure Fn (k c : Nat) (d : PyData) : Prop where
  ok : okd d = true
  deep : d.depth ≤ k
  few : cost d ≤ c
theorem Fn.up {j k b c : Nat} {d : PyData} (h : Fn j b d) (z : j ≤ k) (y : b ≤ c) : Fn k c d := ⟨h.ok, Nat.le_trans h.deep z, Nat.le_trans h.few y⟩
theorem Fn.fine {k c : Nat} {d : PyData} (h : Fn k c d) (z : k ≤ 60 := by decide) (y : c ≤ 16000000 := by decide) : Fine d := ⟨h.ok, Nat.le_trans h.deep z, Nat.le_trans h.few y⟩
theorem Fn.int {i : Int} {k : Nat} (h : Bd k i) (z : k ≤ 1000 := by decide) : Fn 0 1001 (.int i) := by
  refine ⟨?_, by simp [PyData.depth], by simp [cost]⟩
  simp only [okd, decide_eq_true_eq]
  by_cases h0 : i.natAbs = 0
  · rw [h0]; decide
  · exact Nat.lt_of_lt_of_le ((Nat.log2_lt h0).mpr h) z
theorem Fn.bool {b : Bool} : Fn 0 5 (.bool b) := ⟨by simp [okd], by simp [PyData.depth], by simp [cost]⟩
theorem Fn.none : Fn 0 5 .none := ⟨by simp [okd], by simp [PyData.depth], by simp [cost]⟩
theorem fas {k c : Nat} : ∀ {xs : List PyData}, (∀ x ∈ xs, Fn k c x) → okds xs = true ∧ PyData.depthAll xs ≤ k ∧ costs xs ≤ xs.length * (c + 2)
  | [], _ => ⟨by simp [okds], by simp [PyData.depthAll], by simp [costs]⟩
  | x :: xs, h => by
    have a := h x (List.mem_cons_self ..)
    have b := fas (xs := xs) fun y hy => h y (List.mem_cons_of_mem _ hy)
    simp only [okds, PyData.depthAll, costs, Bool.and_eq_true, List.length_cons]
    have := a.few
    refine ⟨⟨a.ok, b.1⟩, Nat.max_le.mpr ⟨a.deep, b.2.1⟩, ?_⟩
    rw [Nat.succ_mul]
    omega
theorem Fn.tuple {k c n : Nat} {xs : List PyData} (h : ∀ x ∈ xs, Fn k c x) (hn : xs.length ≤ n) : Fn (k + 1) (n * (c + 2) + 3) (.tuple xs) := by
  obtain ⟨a, b, d⟩ := fas h
  have := Nat.mul_le_mul_right (c + 2) hn
  exact ⟨by simp only [okd]; exact a, by simp only [PyData.depth]; omega, by simp only [cost]; omega⟩
theorem Fn.list {k c n : Nat} {xs : List PyData} (h : ∀ x ∈ xs, Fn k c x) (hn : xs.length ≤ n) : Fn (k + 1) (n * (c + 2) + 3) (.list xs) := by
  obtain ⟨a, b, d⟩ := fas h
  have := Nat.mul_le_mul_right (c + 2) hn
  exact ⟨by simp only [okd]; exact a, by simp only [PyData.depth]; omega, by simp only [cost]; omega⟩
theorem Fn.map {α : Type} {k c : Nat} {f : α → PyData} {xs : List α} (h : ∀ x ∈ xs, Fn k c (f x)) : ∀ y ∈ xs.map f, Fn k c y := fun y hy => by
  obtain ⟨x, hx, rfl⟩ := List.mem_map.mp hy
  exact h x hx
theorem fa_fr {q : Rat} {k : Nat} (h : Sz k q) (z : k ≤ 1000 := by decide) : Fn 1 2009 (fr q) := Fn.tuple (n := 2) (all2 (Fn.int h.n z) (Fn.int h.d z)) (Nat.le_refl _)
section
variable {g : TDGt} {tt : TDT} {te : TDE} {vs : List Nat} {Q : List PyData → Rho → Prop} {ρ : Rho} {k : Nat}
theorem lcO_fm {α : Type} (as : List α) (enc : α → PyData) (f : α → Option PyData) (hv : ∀ i ∈ vs, ρ[i]? = some none) (hk : k ∉ vs) (ek : ρ[k]? = some (some (.own (as.map enc)))) (hl : as.length ≤ 100000)
    (turn : ∀ (i : Nat) (a : α), as[i]? = some a → ∀ (C1 : PyData → Rho → Prop) (C2 : Rho → Prop) (n : Nat), Few n → (∀ y, f a = some y → C1 y ρ) → (f a = none → C2 ρ) →
      g (.d (enc a)) ρ fun ρ2 => tt ρ2 fun b ρ3 => if b = true then te ρ3 fun r ρ4 => onDat r fun y => Few n ∧ ρ4[k]? = some (some (.own (as.map enc))) ∧ C1 y (wipeR ρ4 vs) else ρ3[k]? = some (some (.own (as.map enc))) ∧ C2 (wipeR ρ3 vs))
    (q : Q (as.filterMap f) (wipeR ρ vs)) : lcO k g tt te vs Q (as.map enc) ρ := by
  refine ⟨⟨hv, hk⟩, fun i acc ρ' => ρ' = ρ ∧ acc = (as.take i).filterMap f, ⟨rfl, rfl⟩, ?_, ?_⟩
  · rintro i x acc _ hx ⟨rfl, rfl⟩ _
    rw [List.getElem?_map] at hx
    cases ha : as[i]? with
    | none => rw [ha] at hx; cases hx
    | some a =>
      rw [ha] at hx
      cases hx
      have hi := (List.getElem?_eq_some_iff.mp ha).1
      refine turn i a ha (fun y ρ2 => ρ2 = _ ∧ _ = (as.take (i + 1)).filterMap f) (fun ρ2 => ρ2 = _ ∧ _ = (as.take (i + 1)).filterMap f) _ ?_ (fun y hy => ⟨rfl, ?_⟩) fun hn => ⟨rfl, ?_⟩
      · refine few_le ?_
        have := List.length_filterMap_le f (as.take i)
        rw [List.length_take] at this
        omega
      · rw [take_succ_some ha, List.filterMap_append, List.filterMap_cons, hy]; rfl
      · rw [take_succ_some ha, List.filterMap_append, List.filterMap_cons, hn]; exact (List.append_nil _).symm
  · rintro acc _ ⟨rfl, rfl⟩ _
    rw [List.length_map, List.take_length]
    exact q
end
section
variable {g : TDGt} {tt : TDT} {te : TDE} {vs : List Nat} {Q : List PyData → Rho → Prop} {ρ : Rho} {k : Nat}
theorem lcO_map {α : Type} (as : List α) (enc : α → PyData) (f : α → PyData) (hv : ∀ i ∈ vs, ρ[i]? = some none) (hk : k ∉ vs) (ek : ρ[k]? = some (some (.own (as.map enc)))) (hl : as.length ≤ 100000)
    (turn : ∀ (i : Nat) (a : α), as[i]? = some a → ∀ (C1 : PyData → Rho → Prop) (C2 : Rho → Prop) (n : Nat), Few n → C1 (f a) ρ →
      g (.d (enc a)) ρ fun ρ2 => tt ρ2 fun b ρ3 => if b = true then te ρ3 fun r ρ4 => onDat r fun y => Few n ∧ ρ4[k]? = some (some (.own (as.map enc))) ∧ C1 y (wipeR ρ4 vs) else ρ3[k]? = some (some (.own (as.map enc))) ∧ C2 (wipeR ρ3 vs))
    (q : Q (as.map f) (wipeR ρ vs)) : lcO k g tt te vs Q (as.map enc) ρ := by
  refine lcO_fm as enc (fun a => some (f a)) hv hk ek hl (fun i a ha C1 C2 n hn h1 _ => turn i a ha C1 C2 n hn (h1 _ rfl)) ?_
  rw [show as.filterMap (fun a => some (f a)) = as.map f from by rw [← List.filterMap_eq_map]; rfl]
  exact q
end
abbrev P2 := Int × Int
def enc2 (p : P2) : PyData := pr p.1 p.2
/-- within so much of 0 -/
def Inb (b : Int) (p : P2) : Prop := -b ≤ p.1 ∧ p.1 ≤ b ∧ -b ≤ p.2 ∧ p.2 ≤ b
end DV
namespace DV
open PySem PySem.Spec PyProof.Rows L2
open LamX (ExtN TabS Tabs CodeO)
section
variable {X : Cx} {F : Fm} {e e2 : Expr} {t : TA} {d : TDA} {pos p : Pos}
def dMin2D (t : TDA) : TDE := fun ρ Q => t ρ fun rs ρ1 => match rs with
  | [.d x, .d y] => (PySem.W.AlikeAll [x, y] ∧ PyData.depthAll [x, y] ≤ 50) ∧ Q (.d (if PySem.W.dataLt y x = true then y else x)) ρ1
  | _ => False
end
theorem alike_pr {a b c d : Int} : PySem.W.alike (pr a b) (pr c d) = true := by
  simp [pr, PySem.W.alike, PySem.W.alikeAll]
theorem dataLt_pr {a b c d : Int} : PySem.W.dataLt (pr a b) (pr c d) = decide (a < c ∨ (a = c ∧ b < d)) := by
  unfold pr
  rw [PySem.W.dataLt_tuple]
  have hal : ∀ i j : Int, PySem.W.alike (.int i) (.int j) = true := fun i j => by simp [PySem.W.alike]
  by_cases h : a = c
  · subst h
    rw [PySem.W.dataLt_all_yes (hal _ _) (by rw [eqv_int, decide_eq_true rfl])]
    by_cases h2 : b = d
    · subst h2
      rw [PySem.W.dataLt_all_yes (hal _ _) (by rw [eqv_int, decide_eq_true rfl])]
      rw [decide_eq_false (by omega)]
      decide
    · rw [PySem.W.dataLt_all_no (hal _ _) (by rw [eqv_int, decide_eq_false h2]), PySem.W.dataLt_int, decide_eq_decide]
      omega
  · rw [PySem.W.dataLt_all_no (hal _ _) (by rw [eqv_int, decide_eq_false h]), PySem.W.dataLt_int, decide_eq_decide]
    omega
end DV
namespace DV
open PySem PySem.Spec PyProof.Rows L2
open LamX (ExtN TabS Tabs CodeO)
open scoped Rat
/-- what leads from one place to the other, as it depends on both parts -/
structure Lin (l o : Lg) (ux uy vx vy mx my : Rat) : Prop where
  x : ∀ s t, gx l o s t = ux + t * vx - s * mx
  y : ∀ s t, gy l o s t = uy + t * vy - s * my
  D : ((turnI l o : Int) : Rat) = mx * vy - my * vx
  S : turnI l o ≠ 0 → inS l o * (mx * vy - my * vx) = ux * vy - uy * vx
  T : turnI l o ≠ 0 → inT l o * (mx * vy - my * vx) = ux * my - uy * mx
theorem lin (l o : Lg) : ∃ ux uy vx vy mx my, Lin l o ux uy vx vy mx my := by
  refine ⟨(o.ax : Rat) - l.ax, (o.ay : Rat) - l.ay, (o.bx : Rat) - o.ax, (o.by' : Rat) - o.ay, (l.bx : Rat) - l.ax, (l.by' : Rat) - l.ay, ?_, ?_, ?_, ?_, ?_⟩
  · intro s t; unfold gx px; simp only [Rat.intCast_sub]; grind
  · intro s t; unfold gy py; simp only [Rat.intCast_sub]; grind
  · unfold turnI; simp only [Rat.intCast_sub, Rat.intCast_mul]
  · intro h
    have h' := rat_ne h
    have e : ((turnI l o : Int) : Rat) = ((l.bx : Rat) - l.ax) * ((o.by' : Rat) - o.ay) - ((l.by' : Rat) - l.ay) * ((o.bx : Rat) - o.ax) := by unfold turnI; simp only [Rat.intCast_sub, Rat.intCast_mul]
    rw [← e]
    unfold inS
    rw [Rat.divInt_eq_div]
    simp only [Rat.intCast_sub, Rat.intCast_mul]
    grind
  · intro h
    have h' := rat_ne h
    have e : ((turnI l o : Int) : Rat) = ((l.bx : Rat) - l.ax) * ((o.by' : Rat) - o.ay) - ((l.by' : Rat) - l.ay) * ((o.bx : Rat) - o.ax) := by unfold turnI; simp only [Rat.intCast_sub, Rat.intCast_mul]
    rw [← e]
    unfold inT
    rw [Rat.divInt_eq_div]
    simp only [Rat.intCast_sub, Rat.intCast_mul]
    grind
end DV
namespace DV
open PySem PySem.Spec PyProof.Rows L2
open LamX (ExtN TabS Tabs CodeO)
open scoped Rat
end DV
namespace DV
open PySem PySem.Spec PyProof.Rows L2
open LamX (ExtN TabS Tabs CodeO)
open scoped Rat
end DV
namespace DV
open PySem PySem.Spec PyProof.Rows L2
open LamX (ExtN TabS Tabs CodeO)
open scoped Rat
end DV
namespace DV
open PySem PySem.Spec PyProof.Rows L2
open LamX (ExtN TabS Tabs CodeO)
open scoped Rat
def crI (p q : P2) : Int := p.1 * q.2 - p.2 * q.1
def sideOk (p q : P2) (least : Int) : Prop :=
  let x := q.1 - p.1
  let y := q.2 - p.2
  let along := -(p.1 * x + p.2 * y)
  if along ≤ 0 then least ≤ p.1 * p.1 + p.2 * p.2 else if x * x + y * y ≤ along then least ≤ q.1 * q.1 + q.2 * q.2 else least * (x * x + y * y) ≤ crI p q * crI p q
instance (p q : P2) (least : Int) : Decidable (sideOk p q least) := by unfold sideOk; infer_instance
end DV
namespace DV
open PySem PySem.Spec PyProof.Rows L2
open LamX (ExtN TabS Tabs CodeO)
open scoped Rat
end DV
namespace DV
open PySem PySem.Spec PyProof.Rows L2
open LamX (ExtN TabS Tabs CodeO)
open scoped Rat
def led (k dx dy : Int) (l : Lg) : Lg := ⟨-k * l.ay + dx, k * l.ax + dy, -k * l.by' + dx, k * l.bx + dy⟩
def Bd2 (k : Nat) (p : P2) : Prop := Bd k p.1 ∧ Bd k p.2
theorem Bd2.up {j k : Nat} {p : P2} (h : Bd2 j p) (z : j ≤ k) : Bd2 k p := ⟨h.1.up z, h.2.up z⟩
theorem on_nat {xs : List PyData} {n : Nat} {x : PyData} {f : PyData → Prop} (h : xs[n]? = some x) : onAt xs (n : Int) f = f x := by
  have hl := (List.getElem?_eq_some_iff.mp h).1
  unfold onAt
  have : atI xs (n : Int) = some x := by
    unfold atI ixN
    rw [if_pos (by omega), if_pos (by omega)]
    exact h
  rw [this]
theorem on4 {a b c d x : PyData} {xs : List PyData} {f : PyData → Prop} : onAt (a :: b :: c :: d :: x :: xs) 4 f = f x := on_nat (n := 4) rfl
theorem on5 {a b c d e x : PyData} {xs : List PyData} {f : PyData → Prop} : onAt (a :: b :: c :: d :: e :: x :: xs) 5 f = f x := on_nat (n := 5) rfl
end DV
namespace DV
open PySem PySem.Spec PyProof.Rows L2
open LamX (ExtN TabS Tabs CodeO)
open scoped Rat
def lexI (p q : P2) : Prop := p.1 < q.1 ∨ (p.1 = q.1 ∧ p.2 < q.2)
instance (p q : P2) : Decidable (lexI p q) := by unfold lexI; infer_instance
theorem f_all {bs : List Bool} {Q : PyData → Prop} (h : Q (.bool (bs.all id))) : fAllB [.list (bs.map .bool)] Q := by
  show match asBools (bs.map .bool) with
    | some ns => Q (.bool (ns.all id))
    | _ => False
  rw [asBools_map]; exact h
theorem f_maxL {ns : List Int} {Q : PyData → Prop} (h0 : 0 < ns.length) (h : ∀ m, m ∈ ns → (∀ y, y ∈ ns → y ≤ m) → Q (.int m)) : fMaxL [.list (ns.map .int)] Q := by
  show match asInts (ns.map .int) with
    | some ns => 0 < ns.length ∧ ∀ m, m ∈ ns → (∀ y, y ∈ ns → y ≤ m) → Q (.int m)
    | _ => False
  rw [asInts_map]; exact ⟨h0, h⟩
end DV
namespace DV
open PySem PySem.Spec PyProof.Rows L2
open LamX (ExtN TabS Tabs CodeO)
open scoped Rat
theorem lb_up {j k : Nat} {l : Lg} (h : LB j l) (z : j ≤ k := by decide) : LB k l := ⟨h.ax.up z, h.ay.up z, h.bx.up z, h.by'.up z⟩
instance {l : Lg} : Coe (LB 20 l) (LB 110 l) := ⟨fun h => lb_up h⟩
instance {q : Rat} : Coe (Sz 20 q) (Sz 100 q) := ⟨fun h => h.up (by decide)⟩
end DV
namespace DV
open PySem PySem.Spec PyProof.Rows L2
open LamX (ExtN TabS Tabs CodeO)
open scoped Rat
inductive Paper
  | near (p q : Rat)
  | away (a b : Int)
/-- how far a corner lies in a direction -/
def far (l o : Lg) (a b : Int) (c : Cn) : Rat := (a : Rat) * gx l o c.1 c.2 + (b : Rat) * gy l o c.1 c.2
def farOk (l o : Lg) (r : Int) (a b : Int) (c : Cn) : Prop := 0 < far l o a b c ∧ ((r * r * (a * a + b * b) : Int) : Rat) ≤ far l o a b c * far l o a b c
instance (l o : Lg) (r a b : Int) (c : Cn) : Decidable (farOk l o r a b c) := by unfold farOk; infer_instance
def paperOk (l o : Lg) (rho : Rat) (r : Int) : Paper → Prop
  | .near p q => gsq l o p q < ((r * r : Int) : Rat) ∧ within p q rho
  | .away a b => ¬ (a = 0 ∧ b = 0) ∧ ∀ c ∈ crn rho, farOk l o r a b c
instance (l o : Lg) (rho : Rat) (r : Int) (w : Paper) : Decidable (paperOk l o rho r w) := by
  cases w <;> unfold paperOk <;> infer_instance
end DV
namespace DV
open PySem PySem.Spec PyProof.Rows L2
open LamX (ExtN TabS Tabs CodeO)
open scoped Rat
section
variable {X : Cx} {F : Fm} {a b c e : Expr} {es : List Expr} {ta tb tc te : TE} {da db dc de : TDE} {pos : Pos}
def fIsB : F2
  | .bool a, .bool b, Q => Q (.bool (decide (a = b)))
  | _, _, _ => False
def fNotB : F2
  | .bool a, .bool b, Q => Q (.bool (!decide (a = b)))
  | _, _, _ => False
variable {k : Bool} {j : Nat} {p2 : Pos}
end
end DV
namespace DV
open PySem PySem.Spec PyProof.Rows L2
open LamX (ExtN TabS Tabs CodeO)
open scoped Rat
section
variable {X : Cx} {F : Fm} {st : Stmt} {ts : TS} {ds : TDS}
def dFgt (i : Nat) (t : TDS) : TDS := fun DD ρ => t DD (ρ.set i none)
theorem ds_fgt {i : Nat} (h : PDS X F st ts ds) (hf : ¬ F.fix i) : PDS X F st ts (dFgt i ds) := by
  refine ⟨h.ps, fun pins ρ σ H D DD O S R k => ?_⟩
  have O2 := O.wipe (vs := [i]) (fun j hj => by rw [List.mem_singleton.mp hj]; exact S.fr hf)
  have O3 : Ok F pins (wipeR ρ [i]) σ H := Ok.unwipe (vs := [i]) O2 fun j hj => by
    rw [List.mem_singleton.mp hj]
    by_cases hl : i < ρ.length
    · exact .inl (wipeR_none (List.mem_singleton.mpr rfl) hl)
    · exact .inr (List.getElem?_eq_none (by rw [wipeR_len]; omega))
  exact h.ds pins _ σ H D DD O3 S R k
end
end DV
namespace DV
open PySem PySem.Spec PyProof.Rows L2
open LamX (ExtN TabS Tabs CodeO)
structure Zp where
  z : Addr
  TI : Addr
  TO : Addr
  i1 : Addr
  i2 : Addr
  l1 : Addr
  l2 : Addr
  xs : Array Value
  ys : Array Value
def Zp.n (p : Zp) : Nat := min p.xs.size p.ys.size
structure Zp.St (p : Zp) (b : Nat) (i : Nat) (h : Heap) : Prop where
  ti : PySem.IsPair h p.TI (Value.ref p.i1) (Value.ref p.i2)
  a1 : h.IsListIter p.i1 p.l1 i
  a2 : h.IsListIter p.i2 p.l2 i
  m1 : h.IsList p.l1 p.xs
  m2 : h.IsList p.l2 p.ys
  zip : (PySem.IsZip h p.z p.TI p.TO .none ∧ ∃ a c, PySem.IsPair h p.TO a c) ∨ ∃ T f oT, PySem.IsZipHeld h p.z p.TI p.TO T f ∧ h.get? T = some oT ∧ b ≤ (T : Nat)
structure Zp.Ps (p : Zp) (b : Nat) (i : Nat) (acc : Array Value) (h : Heap) : Prop where
  sz : acc.size = i
  at' : ∀ j : Nat, j < i → ∃ T x y, acc[j]? = some (Value.ref T) ∧ p.xs[j]? = some x ∧ p.ys[j]? = some y ∧ PySem.IsPair h T x y ∧ b ≤ (T : Nat)
  inc : ∀ (j k : Nat) (T U : Addr), j < k → acc[j]? = some (Value.ref T) → acc[k]? = some (Value.ref U) → (T : Nat) < (U : Nat)
end DV
namespace DV
open PySem PySem.Spec PyProof.Rows L2
open LamX (ExtN TabS Tabs CodeO)
section
variable {prog : Program} {w : World} {A : Around} {E : Value → Shared → Prop} {s : Shared}
structure Zp.In (p : Zp) (h : Heap) : Prop where
  D : ZipApart p.z p.TI p.TO p.i1 p.i2 p.l1 p.l2
  n : p.n ≤ 2 ^ 24
  z : PySem.IsZip h p.z p.TI p.TO .none
  TI : PySem.IsPair h p.TI (Value.ref p.i1) (Value.ref p.i2)
  TO : ∃ a c, PySem.IsPair h p.TO a c
  i1 : h.IsListIter p.i1 p.l1 0
  i2 : h.IsListIter p.i2 p.l2 0
  l1 : h.IsList p.l1 p.xs
  l2 : h.IsList p.l2 p.ys
end
def refOf : Value → Addr
  | .ref T => T
  | _ => 0
theorem Zp.Ps.list {p : Zp} {b n : Nat} {acc : Array Value} {h : Heap} (s : p.Ps b n acc h) : ∃ Ts : List Addr, acc.toList = Ts.map Value.ref ∧ Ts.length = n ∧ Ts.Nodup ∧ ∀ (j : Nat) (T : Addr), Ts[j]? = some T → ∃ x y, p.xs[j]? = some x ∧ p.ys[j]? = some y ∧ PySem.IsPair h T x y ∧ b ≤ (T : Nat) := by
  have hl : acc.toList.length = n := by rw [Array.length_toList]; exact s.sz
  have at2 : ∀ j : Nat, j < n → ∃ T x y, acc.toList[j]? = some (Value.ref T) ∧ p.xs[j]? = some x ∧ p.ys[j]? = some y ∧ PySem.IsPair h T x y ∧ b ≤ (T : Nat) := fun j hj => by
    obtain ⟨T, x, y, e1, r⟩ := s.at' j hj
    exact ⟨T, x, y, by rw [Array.getElem?_toList]; exact e1, r⟩
  refine ⟨acc.toList.map refOf, ?_, by rw [List.length_map, hl], ?_, fun j T hT => ?_⟩
  · rw [List.map_map]
    refine List.ext_getElem? fun j => ?_
    rw [List.getElem?_map]
    by_cases hj : j < n
    · obtain ⟨T, x, y, e, _⟩ := at2 j hj
      rw [e]; rfl
    · rw [List.getElem?_eq_none (by omega)]; rfl
  · refine List.nodup_iff_pairwise_ne.mpr (List.pairwise_iff_getElem.mpr fun j k hj hk hjk => ?_)
    rw [List.length_map] at hj hk
    obtain ⟨T, _, _, e, _⟩ := at2 j (by omega)
    obtain ⟨U, _, _, e', _⟩ := at2 k (by omega)
    have := s.inc j k T U hjk (by rw [← Array.getElem?_toList]; exact e) (by rw [← Array.getElem?_toList]; exact e')
    rw [List.getElem_map, List.getElem_map]
    rw [List.getElem?_eq_getElem hj] at e
    rw [List.getElem?_eq_getElem hk] at e'
    rw [Option.some.inj e, Option.some.inj e']
    exact Nat.ne_of_lt this
  · rw [List.getElem?_map] at hT
    by_cases hj : j < n
    · obtain ⟨T', x, y, e, r⟩ := at2 j hj
      rw [e] at hT
      cases hT
      exact ⟨x, y, r⟩
    · rw [List.getElem?_eq_none (by omega)] at hT; cases hT
end DV
namespace DV
open PySem PySem.Spec PyProof.Rows L2
open LamX (ExtN TabS Tabs CodeO)
section
variable {X : Cx} {F : Fm} {e e2 : Expr} {t : TA} {d : TDA} {p p2 pos pos2 : Pos}
def dTupZip (t : TDA) : TDE := fun ρ Q => t ρ fun rs ρ1 => match rs with
  | [r, s] => match seqs ρ1 r, seqs ρ1 s with
    | some (false, xs), some (false, ys) => Q (.d (.tuple (zipD xs ys))) ρ1
    | _, _ => False
  | _ => False
end
end DV
namespace DV
open PySem PySem.Spec PyProof.Rows L2
open LamX (ExtN TabS Tabs CodeO)
section
variable {X : Cx} {F : Fm} {k : Expr} {tk : TE} {dk : TDE} {i : Nat} {x : Str} {vpos spos : Pos}
def dgSet (i : Nat) (tk : TDE) : TDGt := fun r ρ P => onDat r fun y => onOwn ρ i fun _ => tk ρ fun s ρ2 => onV ρ2 s fun k => onOwn ρ2 i fun xs => match k with
  | .int k => (0 ≤ k ∧ k < xs.length) ∧ P (ρ2.set i (some (.own (xs.set k.toNat y))))
  | _ => False
end
end DV
namespace DV
open PySem PySem.Spec PyProof.Rows L2
open LamX (ExtN TabS Tabs CodeO)
section
variable {X : Cx} {F : Fm} {o e : Expr} {to : TE} {dl : TDL} {t : TA} {d : TDA} {apos cpos : Pos}
def dAppX (dl : TDL) (d : TDA) : TDE := fun ρ Q => dl ρ fun xs ρ1 => d ρ1 fun rs ρ2 => match rs with
  | [.d y] => Few (xs.length + 1) ∧ Q (.d .none) ρ2
  | _ => False
end
end DV
namespace DV
open PySem PySem.Spec PyProof.Rows L2
open LamX (ExtN TabS Tabs CodeO)
section
variable {g g1 : TDGt} {tt tt1 : TDT} {te : TDE} {wi1 : TDI} {vs vs1 : List Nat} {Q : List PyData → Rho → Prop} {ρ : Rho}
def lc2In (g : TDGt) (tt : TDT) (wi1 : TDI) (g1 : TDGt) (tt1 : TDT) (te : TDE) (vs vs1 : List Nat) (Q : List PyData → Rho → Prop) (xs : List PyData) (ρ1 : Rho) : Prop := (∀ i ∈ vs, ρ1[i]? = some none) ∧ ∃ I : Nat → List PyData → Rho → Prop, I 0 [] ρ1 ∧
  (∀ i x acc ρ, xs[i]? = some x → I i acc ρ → g (.d x) ρ fun ρ2 => tt ρ2 fun k ρ3 => if k = true then wi1 ρ3 fun ys ρ4 => (∀ i ∈ vs1, ρ4[i]? = some none) ∧ ∃ J : Nat → List PyData → Rho → Prop, J 0 acc ρ4 ∧
      (∀ j y acc ρ, ys[j]? = some y → J j acc ρ → g1 (.d y) ρ fun ρ5 => tt1 ρ5 fun k ρ6 => if k = true then te ρ6 fun r ρ7 => onDat r fun z => Few (acc.length + 1) ∧ J (j + 1) (acc ++ [z]) (wipeR ρ7 vs1) else J (j + 1) acc (wipeR ρ6 vs1)) ∧
      ∀ acc ρ, J ys.length acc ρ → I (i + 1) acc (wipeR ρ vs)
    else I (i + 1) acc (wipeR ρ3 vs)) ∧
  ∀ acc ρ, I xs.length acc ρ → Q acc (wipeR ρ vs)
theorem dLc2_eq {wi : TDI} : dLc2 wi g tt wi1 g1 tt1 te vs vs1 = fun ρ Q => wi ρ fun xs ρ1 => lc2In g tt wi1 g1 tt1 te vs vs1 Q xs ρ1 := rfl
end
theorem enumD_map {α : Type} (as : List α) (enc : α → PyData) : enumD (as.map enc) = as.zipIdx.map fun p => PyData.tuple [.int (p.2 : Int), enc p.1] := by
  apply List.ext_getElem?
  intro n
  cases h : as[n]? with
  | none =>
    have hl := List.getElem?_eq_none_iff.mp h
    rw [List.getElem?_eq_none (by rw [enumD_len, List.length_map]; exact hl), List.getElem?_eq_none (by rw [List.length_map, List.length_zipIdx]; exact hl)]
  | some a =>
    rw [enumD_at (x := enc a) (by rw [List.getElem?_map, h]; rfl), List.getElem?_map, List.getElem?_zipIdx, h]
    simp
section
variable {g : TDGt} {tb : TDS} {DD : DEnds} {ρ : Rho}
/-- a loop over enumerate -/
theorem for_en {α S : Type} (as : List α) (enc : α → PyData) (mk : S → Rho) (I : Nat → S → Prop) (s0 : S) (e : ρ = mk s0) (h0 : I 0 s0)
    (turn : ∀ (i : Nat) (a : α) (s : S), as[i]? = some a → I i s → ∀ C : Rho → Prop, (∀ s', I (i + 1) s' → C (mk s')) → g (.d (.tuple [.int (i : Int), enc a])) (mk s) fun ρ2 => tb { DD with nx := C, ct := C, bk := DD.nx } ρ2)
    (fin : ∀ s, I as.length s → DD.nx (mk s)) : forIn1 g tb DD (enumD (as.map enc)) ρ := by
  rw [enumD_map]
  refine for_st as.zipIdx _ mk I s0 e h0 (fun i a s ha hI C hC => ?_) fun s hs => fin s (by rwa [List.length_zipIdx] at hs)
  rw [List.getElem?_zipIdx] at ha
  cases hx : as[i]? with
  | none => rw [hx] at ha; cases ha
  | some x =>
    rw [hx] at ha
    cases ha
    have := turn i x s hx hI C hC
    simpa using this
end
theorem cut_take {xs : List PyData} {c : Int} (h : 0 ≤ c) : DV.cutD xs none (some c) = xs.take c.toNat := by
  unfold DV.cutD HT.sIx
  simp only [List.drop_zero]
  rw [if_neg (by omega)]
  apply List.ext_getElem?
  intro n
  simp only [List.getElem?_take]
  by_cases hn : n < xs.length
  · congr 1
    simp only [eq_iff_iff]
    omega
  · rw [List.getElem?_eq_none (by omega)]
    simp
theorem on_map {α : Type} {xs : List α} {g : α → PyData} {n : Nat} {x : α} {f : PyData → Prop} {k : Int} (h : xs[n]? = some x) (hk : k = (n : Int)) : onAt (xs.map g) k f = f (g x) := by
  rw [hk]
  exact on_nat (by rw [List.getElem?_map, h]; rfl)
end DV
namespace DV
open PySem PySem.Spec PyProof.Rows L2
open LamX (ExtN TabS Tabs CodeO)
section
variable {X : Cx} {F : Fm} {a b : Expr} {ta tb : TE} {da db : TDE} {pos : Pos}
def fNeS : F2
  | .str x, .str y, Q => Q (.bool (!decide (x = y)))
  | _, _, _ => False
theorem so_NeS {K : PySem.W.Frag} : SO K rNe fNeS := by
  constructor
  · intro H x y dx dy Q h1 h2 q
    cases dx <;> cases dy <;> first | exact q.elim | skip
    cases h1; cases h2
    refine ⟨rfl, q _ ?_⟩
    rw [dec_str, ← Bool.beq_eq_decide_eq]
    exact .bool
  · intro x y Q Q' hq q
    cases x <;> cases y <;> first | exact q.elim | skip
    exact hq _ q
theorem pt_neS (ha : PD X F a ta da) (hb : PD X F b tb db) : PDT X F (.Compare a [.NotEq] [b] pos) (tTest (tOp rNe ta tb)) (dTV (dOp fNeS da db)) := pt_cmpD op_ne (nomark _) so_NeS ha hb
def dRepL (ta tb : TDE) : TDL := fun ρ Q => ta ρ fun r ρ1 => tb ρ1 fun s ρ2 => onM ρ2 r fun xs => onInt ρ2 s fun k => (-(2 ^ 62) ≤ k ∧ k < 2 ^ 62 ∧ Few (xs.length * k.toNat)) ∧ Q (repD k xs) ρ2
end
end DV
namespace DV
open PySem PySem.Spec PyProof.Rows L2
open LamX (ExtN TabS Tabs CodeO)
open scoped Rat
structure Bn where
  sp : Int
  near : Int
  wind : Int
  clk : Int
  fall : Int
  way : Int
  sil : Int
  cuts : Int
  deep : Int
def eB (b : Bn) : PyData := .tuple [.int b.sp, .int b.near, .int b.wind, .int b.clk, .int b.fall, .int b.way, .int b.sil, .int b.cuts, .int b.deep]
def Bn.r (b : Bn) : Int := b.near + 2 * b.wind
def Bn.lag (b : Bn) : Int := b.fall + 2 * b.clk
/-- so large at most -/
structure BnB (k : Nat) (b : Bn) : Prop where
  sp : Bd k b.sp
  near : Bd k b.near
  wind : Bd k b.wind
  clk : Bd k b.clk
  fall : Bd k b.fall
  way : Bd k b.way
theorem BnB.r {k : Nat} {b : Bn} (h : BnB k b) : Bd (k + 3) b.r := (h.near.up (show k ≤ k + 2 by omega)).add1 (((show Bd 2 2 by unfold Bd; decide).mul h.wind).up (by omega))
theorem BnB.lag {k : Nat} {b : Bn} (h : BnB k b) : Bd (k + 3) b.lag := (h.fall.up (show k ≤ k + 2 by omega)).add1 (((show Bd 2 2 by unfold Bd; decide).mul h.clk).up (by omega))
structure BnOk (b : Bn) : Prop where
  sp0 : 1 ≤ b.sp
  sp1 : b.sp ≤ 100
  near0 : 1 ≤ b.near
  near1 : b.near ≤ 100
  wind0 : 0 ≤ b.wind
  wind1 : b.wind ≤ 20
  clk0 : 0 ≤ b.clk
  clk1 : b.clk ≤ 5
  fall0 : 0 ≤ b.fall
  fall1 : b.fall ≤ 20
  way0 : b.sp ≤ b.way
  way1 : b.way ≤ 700
  sil0 : 1 ≤ b.sil
  sil1 : b.sil ≤ 3
  cuts0 : 0 ≤ b.cuts
  cuts1 : b.cuts ≤ 2
  deep0 : 1 ≤ b.deep
  deep1 : b.deep ≤ 6
def rhoT (b : Bn) (t : Int) : Rat := b.lag /. t
theorem rd_some_r {bag xs : List PyData} {Q : PyData → List PyData → Prop} (hS : S_some bag xs Q) :
    dRet (dIx (dVar 1) (dCallB [Kd.d] S_take (dCons (dVar 0) (dCons (dCB fLen (dCons (dVar 1) dNil)) dNil)))) { nx := fun ρ => retB (.d .none) ρ Q, rt := fun r ρ => retB r ρ Q } (some (.own bag) :: rhoP 1 [.ro] xs) := by
  obtain ⟨m, ys, hb, hm, hx, h0, h1, q⟩ := hS
  have key : ∀ n : Int, n = (ys.length : Nat) → S_take bag [.int n] fun z bag' => ∃ v : Int, z = .int v ∧ 0 ≤ v ∧ v < ys.length ∧ Bag (m + 1) bag' := fun n hn =>
    ⟨m, n, hb, hm, rfl, by omega, Nat.lt_of_lt_of_le (by omega : n.natAbs < 2 ^ 17) (Nat.pow_le_pow_right (by decide) (by decide)), fun v bag' a1 a2 a3 => ⟨v, rfl, a1, by omega, a3⟩⟩
  rcases hx with rfl | rfl
  · have e : (some (.own bag) :: rhoP 1 [.ro] [.list ys] : Rho) = [some (.own bag), some (.ro (.list ys))] := rfl
    rw [e]
    simp only [dSeq, dAsg, dCB, dCons, dNil, dVar, onVs, vals, val, slot, setR, fGcd, dIfS, dTV, dOp, dBin, onV2, fLt, fLe, fGt, fGe, fAdd, fSub, fMul, fDiv, fMod, fI0, dC, dUn, onV, fNeg, dNext, dRet, dTup, onD, dats, fDivZ, fI, fPow, Few, retP, fAbs, fInt, fMax, fMin, fLen, fSqrt, fEq, fNe, dNot, dAnd, dOr, dAndV, dOrV, dNotV, dIfE, dDrop, dRetN, dPar, noO, dSetL, dLst, dOfL, dOwnM, onOwn, onDat, kAppend, kInsert, dSetItem, dAddItem, dIx, onItems, items, onInt, dNoPart, dPart, dSlice, onL, litems, dSlL, dCat, onM, mitems, dTupOf, dSeqI, dRng1, dRng2, dCallP, dCallB, dCallF, noSelf, onArgs, dats2, dIsi, tyName, dYes, dgTup, dgCons, dgNil, retB, dBreak, dCont, ne_eq, not_false_eq_true, true_and, and_true, List.getElem?_cons_zero, List.getElem?_cons_succ, List.set_cons_zero, List.set_cons_succ, Option.map, List.length_cons, List.length_nil, dLc_eq, dLc2_eq, dFor_eq, dSortSet, dSort, dListOf, dIsN, dNotN, isNo, dAug, dCatT, dSlT, onT, titems, dEnum, dZip, seqs, dRetL, dPar3, dRevT, dLstRg, dTupRg, dRg1, dRg2, dChainLe, List.nil_append, List.cons_append, if_true, if_false, dFrz, dLcO, dMin2D, dAppX, dRepL, fNeS, fEqS, dgSet, dTupZip, dFgt, fIsB, fNotB, List.map_cons, List.map_nil, fw0, fw1, fw2, fw3, fw4, fw5, fw6, fw7, fw8, fw9, fw10, fw11, fw12, fw13, fw14, fw15]
    refine m_take _ _ _ _ (fun z bag' h => ?_) (key _ rfl)
    obtain ⟨v, rfl, a1, a2, a3⟩ := h
    exact onAt_mem a1 a2 fun y hy => q y bag' hy a3
  · have e : (some (.own bag) :: rhoP 1 [.ro] [.tuple ys] : Rho) = [some (.own bag), some (.ro (.tuple ys))] := rfl
    rw [e]
    simp only [dSeq, dAsg, dCB, dCons, dNil, dVar, onVs, vals, val, slot, setR, fGcd, dIfS, dTV, dOp, dBin, onV2, fLt, fLe, fGt, fGe, fAdd, fSub, fMul, fDiv, fMod, fI0, dC, dUn, onV, fNeg, dNext, dRet, dTup, onD, dats, fDivZ, fI, fPow, Few, retP, fAbs, fInt, fMax, fMin, fLen, fSqrt, fEq, fNe, dNot, dAnd, dOr, dAndV, dOrV, dNotV, dIfE, dDrop, dRetN, dPar, noO, dSetL, dLst, dOfL, dOwnM, onOwn, onDat, kAppend, kInsert, dSetItem, dAddItem, dIx, onItems, items, onInt, dNoPart, dPart, dSlice, onL, litems, dSlL, dCat, onM, mitems, dTupOf, dSeqI, dRng1, dRng2, dCallP, dCallB, dCallF, noSelf, onArgs, dats2, dIsi, tyName, dYes, dgTup, dgCons, dgNil, retB, dBreak, dCont, ne_eq, not_false_eq_true, true_and, and_true, List.getElem?_cons_zero, List.getElem?_cons_succ, List.set_cons_zero, List.set_cons_succ, Option.map, List.length_cons, List.length_nil, dLc_eq, dLc2_eq, dFor_eq, dSortSet, dSort, dListOf, dIsN, dNotN, isNo, dAug, dCatT, dSlT, onT, titems, dEnum, dZip, seqs, dRetL, dPar3, dRevT, dLstRg, dTupRg, dRg1, dRg2, dChainLe, List.nil_append, List.cons_append, if_true, if_false, dFrz, dLcO, dMin2D, dAppX, dRepL, fNeS, fEqS, dgSet, dTupZip, dFgt, fIsB, fNotB, List.map_cons, List.map_nil, fw0, fw1, fw2, fw3, fw4, fw5, fw6, fw7, fw8, fw9, fw10, fw11, fw12, fw13, fw14, fw15]
    refine m_take _ _ _ _ (fun z bag' h => ?_) (key _ rfl)
    obtain ⟨v, rfl, a1, a2, a3⟩ := h
    exact onAt_mem a1 a2 fun y hy => q y bag' hy a3
abbrev NR := Rat × Int × Int × Rat × Rat
def pc (ls : List Lg) (rho : Rat) (i j : Nat) : Option NR := match ls[i]?, ls[j]? with
  | some l, some o => some ((nearL l o rho).1, (i : Int), (j : Int), (nearL l o rho).2.1, (nearL l o rho).2.2)
  | _, _ => none
def apartAll (ls : List Lg) (rho : Rat) (r : Int) : Prop := ∀ (i j : Nat) (l o : Lg), i < j → ls[i]? = some l → ls[j]? = some o → ((r * r : Int) : Rat) ≤ (nearL l o rho).1
noncomputable instance {ls : List Lg} {rho : Rat} {r : Int} : Decidable (apartAll ls rho r) := Classical.propDecidable _
theorem cut_drop {xs : List PyData} {c : Int} (h : 0 ≤ c) : DV.cutD xs (some c) none = xs.drop c.toNat := by
  unfold DV.cutD HT.sIx
  simp only
  rw [if_neg (by omega)]
  apply List.ext_getElem?
  intro n
  simp only [List.getElem?_take, List.getElem?_drop]
  by_cases hn : c.toNat + n < xs.length
  · rw [if_pos (by omega)]
    congr 1
    omega
  · rw [List.getElem?_eq_none (by omega)]
    rw [List.getElem?_eq_none (by omega)]
    split <;> rfl
end DV
namespace DV
open PySem PySem.Spec PyProof.Rows L2
open LamX (ExtN TabS Tabs CodeO)
open scoped Rat
def frm (l : Lg) : P2 := (l.ax, l.ay)
def too (l : Lg) : P2 := (l.bx, l.by')
def d2 (a b : P2) : Int := (a.1 - b.1) * (a.1 - b.1) + (a.2 - b.2) * (a.2 - b.2)
theorem d2_comm (a b : P2) : d2 a b = d2 b a := by unfold d2; grind
def SpP (sp : Int) (cs : List P2) : Prop := cs.Pairwise fun a b => sp * sp ≤ d2 a b
theorem SpP.perm {sp : Int} {cs ds : List P2} (h : SpP sp cs) (p : cs.Perm ds) : SpP sp ds := (p.pairwise_iff (fun {a b} h => by rw [d2_comm]; exact h)).mp h
theorem SpP.take {sp : Int} {cs : List P2} (h : SpP sp cs) (n : Nat) : SpP sp (cs.take n) := h.sublist (List.take_sublist n cs)
theorem SpP.snoc {sp : Int} {cs : List P2} {c : P2} (h : SpP sp cs) (k : ∀ a ∈ cs, sp * sp ≤ d2 a c) : SpP sp (cs ++ [c]) := by
  unfold SpP
  rw [List.pairwise_append]
  refine ⟨h, List.pairwise_singleton .., fun a ha b hb => ?_⟩
  rw [List.mem_singleton.mp hb]
  exact k a ha
theorem SpP.at {sp : Int} {cs : List P2} (h : SpP sp cs) {i j : Nat} {a b : P2} (hij : i < j) (ha : cs[i]? = some a) (hb : cs[j]? = some b) : sp * sp ≤ d2 a b := by
  obtain ⟨hi, rfl⟩ := List.getElem?_eq_some_iff.mp ha
  obtain ⟨hj, rfl⟩ := List.getElem?_eq_some_iff.mp hb
  exact (List.pairwise_iff_getElem.mp h) i j hi hj hij
end DV
namespace DV
open PySem PySem.Spec PyProof.Rows L2
open LamX (ExtN TabS Tabs CodeO)
section
variable {F : Fm} {ρ : Rho} {σ : L2.St} {H : Hp}
theorem accs_perm {a : Addr} {ps qs : List Pin} (h : ps.Perm qs) : a ∈ accs ps ↔ a ∈ accs qs := by
  rw [mem_accs, mem_accs]
  exact ⟨fun ⟨xs, z⟩ => ⟨xs, h.mem_iff.mp z⟩, fun ⟨xs, z⟩ => ⟨xs, h.mem_iff.mpr z⟩⟩
theorem Ok.swap {p q : Pin} {pins : List Pin} (O : Ok F (p :: q :: pins) ρ σ H) : Ok F (q :: p :: pins) ρ σ H := by
  have hp : (p :: q :: pins).Perm (q :: p :: pins) := .swap ..
  have e : Av F (q :: p :: pins) ρ σ = Av F (p :: q :: pins) ρ σ := by
    funext a
    unfold Av
    rw [accs_perm hp]
  refine ⟨O.len, by rw [e]; exact O.ent, O.own, fun r hr => by rw [e]; exact O.pin r (hp.mem_iff.mpr hr), ?_, O.fr, O.nh, O.ln, O.h0, O.lf, O.tb⟩
  have := O.acs
  cases p <;> cases q <;> simp only [accs] at this ⊢ <;> try exact this
  simp only [List.nodup_cons, List.mem_cons, not_or] at this ⊢
  exact ⟨⟨fun z => this.1.1 z.symm, this.2.1⟩, this.1.2, this.2.2⟩
end
section
variable {X : Cx} {F : Fm} {a b : Expr} {ta tb : TE} {da db : TDE} {dl dm : TDL} {pos : Pos}
def dParL (i j : Nat) (tl : TDL) (te : TDE) : TDS := fun DD ρ => tl ρ fun xs ρ1 => te ρ1 fun r ρ2 => onDat r fun y => DD.nx ((ρ2.set i (some (.own xs))).set j (some (.d y)))
/-- both -/
def dParLL (i j : Nat) (tl tm : TDL) : TDS := fun DD ρ => tl ρ fun xs ρ1 => tm ρ1 fun ys ρ2 => DD.nx ((ρ2.set i (some (.own xs))).set j (some (.own ys)))
end
end DV
namespace DV
open PySem PySem.Spec PyProof.Rows L2
open LamX (ExtN TabS Tabs CodeO)
open scoped Rat
def flw (b : Bn) : Int := b.lag * b.lag * (2 * b.way * b.way - b.sp * b.sp)
def lft (b : Bn) (t : Int) : Int := t * t * (b.sp * b.sp - 2 * b.r * b.r) - flw b
def enough (b : Bn) (t : Int) : Prop := 0 ≤ lft b t ∧ 8 * b.r * b.r * t * t * flw b ≤ lft b t * lft b t
instance {b : Bn} {t : Int} : Decidable (enough b t) := by unfold enough; infer_instance
theorem sq_le {x y : Int} (h0 : 0 ≤ x) (h : x ≤ y) : x * x ≤ y * y := Int.mul_le_mul h h h0 (by omega)
theorem rsq (x : Rat) : 0 ≤ x * x := by
  rcases Rat.le_total (a := 0) (b := x) with h | h
  · exact Rat.mul_nonneg h h
  · have : 0 ≤ (-x) * (-x) := Rat.mul_nonneg (by grind) (by grind)
    grind
theorem rmul {a b c : Rat} (hc : 0 ≤ c) (h : a ≤ b) : c * a ≤ c * b := Rat.mul_le_mul_of_nonneg_left h hc
theorem low2 {u1 u2 v1 v2 h S : Rat} (h0 : 0 ≤ h) (h1 : h ≤ 1) (s0 : 0 ≤ S) (hu : S ≤ u1 * u1 + u2 * u2) (hv : S ≤ v1 * v1 + v2 * v2) (hc : 0 ≤ u1 * v1 + u2 * v2) :
    S / 2 ≤ (u1 + h * (v1 - u1)) * (u1 + h * (v1 - u1)) + (u2 + h * (v2 - u2)) * (u2 + h * (v2 - u2)) := by
  have a := rmul (rsq (1 - h)) hu
  have b := rmul (rsq h) hv
  have c := Rat.mul_nonneg (Rat.mul_nonneg h0 (show 0 ≤ 1 - h by grind)) hc
  have d := Rat.mul_nonneg (rsq (1 - 2 * h)) s0
  grind
end DV
namespace DV
open PySem PySem.Spec PyProof.Rows L2
open LamX (ExtN TabS Tabs CodeO)
open scoped Rat
theorem SpP.sub {sp : Int} {cs ds : List P2} (h : SpP sp cs) (k : ds.Sublist cs) : SpP sp ds := List.Pairwise.sublist k h
def apartTo (ls : List Lg) (rho : Rat) (r : Int) (n : Nat) : Prop := ∀ (i j : Nat) (l o : Lg), i < j → j < n → ls[i]? = some l → ls[j]? = some o → ((r * r : Int) : Rat) ≤ (nearL l o rho).1
noncomputable instance {ls : List Lg} {rho : Rat} {r : Int} {n : Nat} : Decidable (apartTo ls rho r n) := Classical.propDecidable _
end DV
namespace DV
open PySem PySem.Spec PyProof.Rows L2
open LamX (ExtN TabS Tabs CodeO)
end DV
namespace DV
open PySem PySem.Spec PyProof.Rows L2
open LamX (ExtN TabS Tabs CodeO)
section
variable {X : Cx} {F : Fm} {e e2 : Expr} {pos p tpos : Pos} {t : TA} {d : TDA} {elts : List Expr} {kk : Nat}
def dZipM (t : TDA) : TDI := fun ρ Q => t ρ fun rs ρ1 => match rs with
  | [r, s] => match seqs ρ1 r, seqs ρ1 s with
    | some (true, xs), some (false, ys) => Q (zipD xs ys) ρ1
    | _, _ => False
  | _ => False
end
end DV
namespace DV
open PySem PySem.Spec PyProof.Rows L2
open LamX (ExtN TabS Tabs CodeO)
open scoped Rat
end DV
namespace DV
open PySem PySem.Spec PyProof.Rows L2
open LamX (ExtN TabS Tabs CodeO)
open scoped Rat
def xI (b : Bn) (n : Int) : Int := n * n * (2 * b.way * b.way - b.sp * b.sp)
def leadI (b : Bn) (n : Int) : Int := ((Float64.isqrt (xI b n).toNat : Nat) : Int)
def wleg (b : Bn) (n : Int) : Lg := ⟨0, 0, n * b.sp - leadI b n, -(n * b.sp) - leadI b n⟩
def woth (b : Bn) (n : Int) : Lg := ⟨2 * n * b.sp, 0, n * b.sp - leadI b n, n * b.sp - leadI b n⟩
def lesR (p q : Rat) : Rat := if q < p then q else p
def wah (b : Bn) (t n : Int) : Rat := lesR (rhoT b t) ((n * b.sp) /. leadI b n)
def hlf : Rat := 1 /. 2
def wS (b : Bn) (t n : Int) : Rat := hlf * (1 - wah b t n)
def wT (b : Bn) (t n : Int) : Rat := hlf * (1 + wah b t n)
def wOk (b : Bn) (t n : Int) : Prop := gsq (wleg b n) (woth b n) (wS b t n) (wT b t n) < ((2 * n * b.r * (2 * n * b.r) : Int) : Rat)
instance {b : Bn} {t n : Int} : Decidable (wOk b t n) := by unfold wOk; infer_instance
structure WsOk (b : Bn) (t n : Int) : Prop where
  ok : BnOk b
  t0 : 1 ≤ t
  t1 : b.lag ≤ t
  t2 : t ≤ 1000000
  n0 : 1 ≤ n
  n1 : n < 2 ^ 95
theorem f0_pos {b : Bn} (ok : BnOk b) : 1 ≤ 2 * b.way * b.way - b.sp * b.sp ∧ 2 * b.way * b.way - b.sp * b.sp ≤ 980000 := by
  have s0 := ok.sp0
  have w0 := ok.way0
  have a := sq_le (x := b.sp) (y := b.way) (by omega) w0
  have c : 0 < b.sp * b.sp := Int.mul_pos (by omega) (by omega)
  have d := sq_le (x := b.way) (y := 700) (by omega) ok.way1
  have e : 2 * b.way * b.way = 2 * (b.way * b.way) := by grind
  omega
theorem WsOk.x0 {b : Bn} {t n : Int} (h : WsOk b t n) : 1 ≤ xI b n := by
  have f := (f0_pos h.ok).1
  have n0 := h.n0
  have nn : 0 < n * n := Int.mul_pos (by omega) (by omega)
  have := Int.mul_pos nn (show 0 < 2 * b.way * b.way - b.sp * b.sp by omega)
  unfold xI; omega
theorem wd1 (b : Bn) (n : Int) : d2 ((wleg b n).ax, (wleg b n).ay) ((woth b n).ax, (woth b n).ay) = 2 * n * b.sp * (2 * n * b.sp) := by
  unfold d2 wleg woth; dsimp only; grind
end DV
namespace DV
open PySem PySem.Spec PyProof.Rows L2
open LamX (ExtN TabS Tabs CodeO)
section
variable {X : Cx} {F : Fm} {e : Expr} {te : TE} {de : TDE} {pos : Pos}
def dMulA (i : Nat) (te : TDE) : TDS := fun DD ρ => onInt ρ (.o i) fun n => te ρ fun r ρ1 => onInt ρ1 r fun m => CMulW n m ∧ DD.nx (ρ1.set i (some (.d (.int (n * m)))))
end
end DV
namespace DV
open PySem PySem.Spec PyProof.Rows L2
open LamX (ExtN TabS Tabs CodeO)
section
variable {X : Cx} {F : Fm} {pos : Pos}
def dgUnl (n : Nat) (gs : List PyData → Rho → (Rho → Prop) → Prop) : TDGt := fun r ρ P => match r with
  | .d (.list xs) => xs.length = n ∧ gs xs ρ P
  | _ => False
end
end DV
namespace DV
open PySem PySem.Spec PyProof.Rows L2
open LamX (ExtN TabS Tabs CodeO)
theorem filter_mono {α : Type} {p q : α → Bool} (h : ∀ x, p x = true → q x = true) : ∀ xs : List α, (xs.filter p).length ≤ (xs.filter q).length
  | [] => Nat.le_refl _
  | x :: xs => by
    have ih := filter_mono h xs
    rw [List.filter_cons, List.filter_cons]
    cases hp : p x with
    | true => rw [h x hp]; simpa using ih
    | false =>
      simp only [Bool.false_eq_true, if_false]
      split
      · rw [List.length_cons]; omega
      · exact ih
def win (xs : List Int) (sp y : Int) : List Int := xs.filter fun x => decide (y ≤ x ∧ x < y + sp)
def HasC (xs : List Int) (sp : Int) (n : Nat) : Prop := ∃ y, n ≤ (win xs sp y).length
/-- rows for the xs: below k, unlike where the later x is less than sp behind -/
structure ColL (xs : List Int) (sp : Int) (k : Nat) (rs : List Int) : Prop where
  len : rs.length = xs.length
  rng : ∀ r ∈ rs, 0 ≤ r ∧ r < k
  un : ∀ (i j : Nat) (a b p q : Int), i < j → xs[i]? = some a → xs[j]? = some b → rs[i]? = some p → rs[j]? = some q → b - a < sp → p ≠ q
theorem HasC.zero {xs : List Int} {sp : Int} : HasC xs sp 0 := ⟨0, Nat.zero_le _⟩
theorem HasC.le {xs : List Int} {sp : Int} {m n : Nat} (h : HasC xs sp n) (k : m ≤ n) : HasC xs sp m := by obtain ⟨y, h⟩ := h; exact ⟨y, by omega⟩
theorem HasC.size {xs : List Int} {sp : Int} {n : Nat} (h : HasC xs sp n) : n ≤ xs.length := by
  obtain ⟨y, h⟩ := h
  exact Nat.le_trans h (List.length_filter_le ..)
theorem HasC.sub {xs ys : List Int} {sp : Int} {n : Nat} (h : HasC xs sp n) (k : xs.Sublist ys) : HasC ys sp n := by
  obtain ⟨y, h⟩ := h
  exact ⟨y, Nat.le_trans h (k.filter _).length_le⟩
theorem HasC.perm {xs ys : List Int} {sp : Int} {n : Nat} (h : HasC xs sp n) (k : xs.Perm ys) : HasC ys sp n := by
  obtain ⟨y, h⟩ := h
  exact ⟨y, by unfold win at *; rw [← (k.filter _).length_eq]; exact h⟩
theorem HasC.map {xs : List Int} {sp : Int} {n : Nat} {f : Int → Int} (g : Int → Int) (hf : ∀ x y, y ≤ x ∧ x < y + sp → g y ≤ f x ∧ f x < g y + sp) (h : HasC xs sp n) : HasC (xs.map f) sp n := by
  obtain ⟨y, h⟩ := h
  refine ⟨g y, Nat.le_trans h ?_⟩
  unfold win
  rw [List.filter_map, List.length_map]
  exact filter_mono (fun x hx => by
    rw [decide_eq_true_eq] at hx
    exact decide_eq_true (hf x y hx)) xs
theorem nodup_small {k : Nat} : ∀ {xs : List Int}, xs.Nodup → (∀ x ∈ xs, 0 ≤ x ∧ x < k) → xs.length ≤ k := fun {xs} h hx => by
  have := nodup_le (xs := xs) (ys := (List.range k).map fun i : Nat => (i : Int)) h fun x hm => by
    have := hx x hm
    exact List.mem_map.mpr ⟨x.toNat, List.mem_range.mpr (by omega), by omega⟩
  rw [List.length_map, List.length_range] at this
  exact this
/-- colours for all make no window too full -/
theorem col_has {xs rs : List Int} {sp : Int} {k n : Nat} (c : ColL xs sp k rs) (h : HasC xs sp n) : n ≤ k := by
  obtain ⟨y, h⟩ := h
  let zs := (List.zip xs rs).filter fun p => decide (y ≤ p.1 ∧ p.1 < y + sp)
  have e : (zs.map (·.1)) = win xs sp y := by
    show (((List.zip xs rs).filter fun p => decide (y ≤ p.1 ∧ p.1 < y + sp)).map (·.1)) = xs.filter _
    have := List.filter_map (f := (fun p : Int × Int => p.1)) (p := fun x => decide (y ≤ x ∧ x < y + sp)) (l := List.zip xs rs)
    rw [List.map_fst_zip (by rw [c.len]; exact Nat.le_refl _)] at this
    rw [this]; rfl
  have hn : n ≤ (zs.map (·.2)).length := by
    rw [List.length_map, ← List.length_map (f := fun p : Int × Int => p.1), e]; exact h
  refine Nat.le_trans hn (nodup_small ?_ fun r hr => ?_)
  · rw [List.Nodup, List.pairwise_map]
    have hp : (List.zip xs rs).Pairwise fun p q => q.1 - p.1 < sp → p.2 ≠ q.2 := by
      rw [List.pairwise_iff_getElem]
      intro i j hi hj hij hlt
      rw [List.length_zip] at hi hj
      have l1 := c.len
      have i1 : i < xs.length := by omega
      have j1 : j < xs.length := by omega
      have i2 : i < rs.length := by omega
      have j2 : j < rs.length := by omega
      have := c.un i j xs[i] xs[j] rs[i] rs[j] hij (List.getElem?_eq_getElem i1) (List.getElem?_eq_getElem j1) (List.getElem?_eq_getElem i2) (List.getElem?_eq_getElem j2)
      simp only [List.getElem_zip] at hlt ⊢
      exact this hlt
    have hp2 := hp.filter fun p => decide (y ≤ p.1 ∧ p.1 < y + sp)
    refine List.Pairwise.imp_of_mem (fun {p q} hpm hqm hpq => hpq ?_) hp2
    have a := (List.mem_filter.mp hpm).2
    have b := (List.mem_filter.mp hqm).2
    rw [decide_eq_true_eq] at a b
    omega
  · obtain ⟨p, hp, rfl⟩ := List.mem_map.mp hr
    exact c.rng _ (List.of_mem_zip (List.mem_filter.mp hp).1).2
structure RowsI (xs : List Int) (sp : Int) (j : Nat) (rows free : List Int) (freed many : Nat) : Prop where
  len : rows.length = j
  le : freed ≤ j
  perm : (free ++ rows.drop freed).Perm ((List.range many).map fun i : Nat => (i : Int))
  rng : ∀ r ∈ rows, 0 ≤ r ∧ r < many
  past : ∀ (i : Nat) (a b : Int), i < freed → xs[i]? = some a → xs[j]? = some b → a + sp ≤ b
  un : ∀ (i l : Nat) (a b p q : Int), i < l → l < j → xs[i]? = some a → xs[l]? = some b → rows[i]? = some p → rows[l]? = some q → b - a < sp → p ≠ q
  has : HasC xs sp many
theorem RowsI.start (xs : List Int) (sp : Int) : RowsI xs sp 0 [] [] 0 0 :=
  ⟨rfl, Nat.le_refl _, by simp, fun _ h => (by cases h), fun _ _ _ h => absurd h (Nat.not_lt_zero _), fun _ _ _ _ _ _ _ h => absurd h (Nat.not_lt_zero _), .zero⟩
/-- a row becomes free -/
theorem RowsI.free {xs : List Int} {sp : Int} {j : Nat} {rows free ms : List Int} {freed many : Nat} {r a b : Int} (h : RowsI xs sp j rows free freed many) (hr : rows[freed]? = some r) (ha : xs[freed]? = some a) (hb : xs[j]? = some b) (hab : a + sp ≤ b) (hm : ms.Perm (r :: free)) :
    RowsI xs sp j rows ms (freed + 1) many := by
  have hl := (List.getElem?_eq_some_iff.mp hr).1
  have l := h.len
  refine ⟨h.len, by omega, ?_, h.rng, fun i a' b' hi h1 h2 => ?_, h.un, h.has⟩
  · refine List.Perm.trans ?_ h.perm
    have e : rows.drop freed = r :: rows.drop (freed + 1) := by
      obtain ⟨hi, rfl⟩ := List.getElem?_eq_some_iff.mp hr
      exact List.drop_eq_getElem_cons hi
    rw [e]
    exact (hm.append_right _).trans (by simpa using (List.perm_middle (a := r) (l₁ := free) (l₂ := rows.drop (freed + 1))).symm)
  · by_cases z : i = freed
    · subst z
      rw [ha] at h1; cases h1
      rw [hb] at h2; cases h2
      exact hab
    · exact h.past i a' b' (by omega) h1 h2
/-- none is free: one more -/
theorem RowsI.more {xs : List Int} {sp : Int} {j : Nat} {rows ms : List Int} {freed many : Nat} {b : Int} (h : RowsI xs sp j rows [] freed many) (hs : xs.Pairwise fun a b => a ≤ b) (hb : xs[j]? = some b) (hf : ∀ a, freed < j → xs[freed]? = some a → b < a + sp) (sp0 : 1 ≤ sp) (hm : ms.Perm [(many : Int)]) :
    RowsI xs sp j rows ms freed (many + 1) := by
  have hj := (List.getElem?_eq_some_iff.mp hb).1
  have l := h.len
  have hle := h.le
  have mono : ∀ (i k : Nat) (a c : Int), i ≤ k → xs[i]? = some a → xs[k]? = some c → a ≤ c := fun i k a c hik h1 h2 => by
    by_cases e : i = k
    · subst e
      rw [h1] at h2; cases h2; omega
    · obtain ⟨hi, rfl⟩ := List.getElem?_eq_some_iff.mp h1
      obtain ⟨hk, rfl⟩ := List.getElem?_eq_some_iff.mp h2
      exact List.pairwise_iff_getElem.mp hs i k hi hk (by omega)
  refine ⟨h.len, h.le, ?_, fun r hr => by have := h.rng r hr; omega, h.past, h.un, ?_⟩
  · rw [List.range_succ, List.map_append]
    refine (hm.append_right _).trans ?_
    have p := h.perm
    rw [List.nil_append] at p
    simp only [List.map_cons, List.map_nil]
    exact (List.perm_append_comm).trans (p.append_right _)
  · -- the lamps from freed to j are all within a window
    have cnt : many = j - freed := by
      have := h.perm.length_eq
      rw [List.nil_append, List.length_drop, List.length_map, List.length_range] at this
      omega
    refine ⟨b - sp + 1, ?_⟩
    have sub : ((xs.drop freed).take (j + 1 - freed)).Sublist xs := (List.take_sublist _ _).trans (List.drop_sublist _ _)
    have all : ∀ a ∈ (xs.drop freed).take (j + 1 - freed), decide (b - sp + 1 ≤ a ∧ a < b - sp + 1 + sp) = true := fun a ha => by
      obtain ⟨i, hi⟩ := List.mem_iff_getElem?.mp ha
      have hil := (List.getElem?_eq_some_iff.mp hi).1
      rw [List.length_take, List.length_drop] at hil
      rw [List.getElem?_take, if_pos (by omega), List.getElem?_drop] at hi
      have up := mono _ j a b (by omega) hi hb
      have lo : b < a + sp := by
        by_cases z : freed < j
        · have hfr := List.getElem?_eq_getElem (show freed < xs.length by omega)
          have := hf _ z hfr
          have := mono freed _ _ a (by omega) hfr hi
          omega
        · have e : freed + i = j := by omega
          rw [e, hb] at hi; cases hi
          omega
      rw [decide_eq_true_eq]; omega
    have := (sub.filter fun x => decide (b - sp + 1 ≤ x ∧ x < b - sp + 1 + sp)).length_le
    rw [List.filter_eq_self.mpr all, List.length_take, List.length_drop] at this
    unfold win
    omega
/-- a free one is taken -/
theorem RowsI.take {xs : List Int} {sp : Int} {j : Nat} {rows free ms : List Int} {freed many : Nat} {r b : Int} (h : RowsI xs sp j rows free freed many) (hs : xs.Pairwise fun a b => a ≤ b) (hb : xs[j]? = some b) (hm : (r :: ms).Perm free) :
    RowsI xs sp (j + 1) (rows ++ [r]) ms freed many := by
  have l := h.len
  have hle := h.le
  have p : (r :: ms ++ rows.drop freed).Perm ((List.range many).map fun i : Nat => (i : Int)) := (hm.append_right _).trans h.perm
  have nd : (r :: ms ++ rows.drop freed).Nodup := by
    refine p.nodup_iff.mpr ?_
    rw [List.Nodup, List.pairwise_map]
    exact List.Pairwise.imp (fun {a b} hne e => hne (by omega)) List.nodup_range
  have hr : 0 ≤ r ∧ r < many := by
    have := p.mem_iff.mp (List.mem_append_left _ (List.mem_cons_self ..))
    obtain ⟨i, hi, rfl⟩ := List.mem_map.mp this
    have := List.mem_range.mp hi
    omega
  have rnot : r ∉ rows.drop freed := fun z => by
    rw [List.cons_append, List.nodup_cons] at nd
    exact nd.1 (List.mem_append_right _ z)
  refine ⟨by rw [List.length_append, l]; rfl, by omega, ?_, fun q hq => ?_, fun i a b' hi h1 h2 => ?_, fun i k a c q s hik hk h1 h2 h3 h4 hlt => ?_, h.has⟩
  · rw [List.drop_append_of_le_length (by omega)]
    refine List.Perm.trans ?_ p
    rw [← List.append_assoc]
    exact List.perm_append_comm
  · rcases List.mem_append.mp hq with hq | hq
    · exact h.rng q hq
    · rw [List.mem_singleton.mp hq]; exact hr
  · obtain ⟨hj1, e1⟩ := List.getElem?_eq_some_iff.mp h2
    obtain ⟨hj0, e0⟩ := List.getElem?_eq_some_iff.mp hb
    have := h.past i a b hi h1 hb
    have : b ≤ b' := by
      rw [← e1, ← e0]
      exact List.pairwise_iff_getElem.mp hs j (j + 1) hj0 hj1 (by omega)
    omega
  · rw [List.getElem?_append] at h3 h4
    rw [if_pos (by omega)] at h3
    by_cases z : k < j
    · rw [if_pos (by omega)] at h4
      exact h.un i k a c q s hik z h1 h2 h3 h4 hlt
    · have e : k = j := by omega
      subst e
      rw [if_neg (by omega), l, Nat.sub_self] at h4
      simp at h4
      subst h4
      rw [hb] at h2; cases h2
      intro e
      by_cases zf : i < freed
      · have := h.past i a b zf h1 hb
        omega
      · refine rnot (e ▸ List.mem_iff_getElem?.mpr ⟨i - freed, ?_⟩)
        rw [List.getElem?_drop, show freed + (i - freed) = i by omega]
        exact h3
theorem RowsI.col {xs : List Int} {sp : Int} {rows free : List Int} {freed many : Nat} (h : RowsI xs sp xs.length rows free freed many) : ColL xs sp many rows :=
  ⟨h.len, h.rng, fun i j a b p q hij h1 h2 h3 h4 hlt => h.un i j a b p q hij (List.getElem?_eq_some_iff.mp h2).1 h1 h2 h3 h4 hlt⟩
end DV
namespace DV
open PySem PySem.Spec PyProof.Rows L2
open LamX (ExtN TabS Tabs CodeO)
structure Lmp where
  x : Int
  z : Int
  sh : List Str
  w : Int
def eLm (l : Lmp) : PyData := .tuple [.int l.x, .int l.z, .tuple (l.sh.map .str), .int l.w]
def eP (ls : List Lmp) : PyData := .tuple (ls.map eLm)
def lxs (ls : List Lmp) : List Int := ls.map Lmp.x
def UpL (xs : List Int) : Prop := xs.Pairwise fun a b => a ≤ b
theorem UpL.at {xs : List Int} (h : UpL xs) {i k : Nat} {a c : Int} (hik : i ≤ k) (h1 : xs[i]? = some a) (h2 : xs[k]? = some c) : a ≤ c := by
  by_cases e : i = k
  · subst e
    rw [h1] at h2; cases h2; omega
  · obtain ⟨hi, rfl⟩ := List.getElem?_eq_some_iff.mp h1
    obtain ⟨hk, rfl⟩ := List.getElem?_eq_some_iff.mp h2
    exact List.pairwise_iff_getElem.mp h i k hi hk (by omega)
theorem lxs_at {ls : List Lmp} {i : Nat} {l : Lmp} (h : ls[i]? = some l) : (lxs ls)[i]? = some l.x := by
  unfold lxs; rw [List.getElem?_map, h]; rfl
theorem lxs_len (ls : List Lmp) : (lxs ls).length = ls.length := List.length_map ..
section
variable {g : TDGt} {tt : TDT} {te : TDE} {vs : List Nat} {Q : List PyData → Rho → Prop} {ρ : Rho}
/-- every item is drawn anew, for its own place -/
theorem lc_drawI {n : Nat} (xs : List PyData) (st : List PyData → Rho) (P : Nat → PyData → Prop) (bag : List PyData) (m : Nat) (hb : Bag m bag) (e : ρ = st bag) (hv : ∀ bag, ∀ i ∈ vs, (st bag)[i]? = some none) (hl : xs.length ≤ 100000)
    (turn : ∀ (i : Nat) (x : PyData), xs[i]? = some x → ∀ (m' : Nat) (bag' : List PyData), m ≤ m' → m' + n ≤ m + n * xs.length → Bag m' bag' → ∀ (C1 : PyData → Rho → Prop) (C2 : Rho → Prop) (k : Nat), Few k → (∀ y bag2, P i y → Bag (m' + n) bag2 → C1 y (st bag2)) →
      g (.d x) (st bag') fun ρ2 => tt ρ2 fun k' ρ3 => if k' = true then te ρ3 fun r ρ4 => onDat r fun y => Few k ∧ C1 y (wipeR ρ4 vs) else C2 (wipeR ρ3 vs))
    (q : ∀ zs bag', zs.length = xs.length → (∀ i z, zs[i]? = some z → P i z) → Bag (m + n * xs.length) bag' → Q zs (wipeR (st bag') vs)) : lcIn g tt te vs Q xs ρ := by
  subst e
  refine ⟨hv bag, fun i acc ρ' => acc.length = i ∧ i ≤ xs.length ∧ (∀ i z, acc[i]? = some z → P i z) ∧ ∃ bag', Bag (m + n * i) bag' ∧ ρ' = st bag', ⟨rfl, Nat.zero_le _, (by intro i z hz; simp at hz), bag, by simpa using hb, rfl⟩, ?_, ?_⟩
  · rintro i x acc _ hx ⟨hal, hi0, hP, bag', hb', rfl⟩
    have hi := (List.getElem?_eq_some_iff.mp hx).1
    have hmul : n * i + n ≤ n * xs.length := by
      have := Nat.mul_le_mul_left n (show i + 1 ≤ xs.length by omega)
      rwa [Nat.mul_succ] at this
    refine turn i x hx _ bag' (Nat.le_add_right ..) (by omega) hb' (fun y ρ2 => (acc ++ [y]).length = i + 1 ∧ i + 1 ≤ xs.length ∧ (∀ i z, (acc ++ [y])[i]? = some z → P i z) ∧ ∃ bag', Bag (m + n * (i + 1)) bag' ∧ ρ2 = st bag') (fun ρ2 => acc.length = i + 1 ∧ i + 1 ≤ xs.length ∧ (∀ i z, acc[i]? = some z → P i z) ∧ ∃ bag', Bag (m + n * (i + 1)) bag' ∧ ρ2 = st bag') (acc.length + 1) (few_le (by omega)) (fun y bag2 hy hb2 => ⟨by rw [List.length_append, hal]; rfl, by omega, fun j z hz => ?_, bag2, by rw [Nat.mul_succ]; exact hb2.up (by omega), rfl⟩)
    rw [List.getElem?_append] at hz
    split at hz
    · exact hP j z hz
    · have hj : j - acc.length = 0 := by
        have := (List.getElem?_eq_some_iff.mp hz).1
        simp at this
        omega
      rw [hj] at hz
      simp at hz
      subst hz
      have : j = i := by omega
      subst this
      exact hy
  · rintro acc _ ⟨hal, _, hP, bag', hb', rfl⟩
    exact q acc bag' hal hP hb'
end
theorem as_enc {α : Type} (enc : α → PyData) (P : Nat → α → Prop) : ∀ (zs : List PyData), (∀ i z, zs[i]? = some z → ∃ a, z = enc a ∧ P i a) → ∃ as : List α, zs = as.map enc ∧ ∀ i a, as[i]? = some a → P i a := by
  intro zs
  induction zs generalizing P with
  | nil => exact fun _ => ⟨[], rfl, fun i a h => by simp at h⟩
  | cons z zs ih =>
    intro h
    obtain ⟨a, rfl, p⟩ := h 0 z rfl
    obtain ⟨as, rfl, q⟩ := ih (fun i => P (i + 1)) fun i z hz => h (i + 1) z (by simpa using hz)
    refine ⟨a :: as, rfl, fun i b hb => ?_⟩
    cases i with
    | zero => simp at hb; subst hb; exact p
    | succ i => exact q i b (by simpa using hb)
theorem win_last {xs : List Int} {sp y : Int} {n : Nat} (hs : UpL xs) (n0 : 1 ≤ n) (h : n ≤ (win xs sp y).length) : ∃ b, xs[n - 1]? = some b ∧ b < y + sp := by
  have e : win xs sp y = (xs.take (n - 1)).filter (fun x => decide (y ≤ x ∧ x < y + sp)) ++ (xs.drop (n - 1)).filter (fun x => decide (y ≤ x ∧ x < y + sp)) := by
    rw [← List.filter_append, List.take_append_drop]; rfl
  rw [e, List.length_append] at h
  have h1 : ((xs.take (n - 1)).filter fun x => decide (y ≤ x ∧ x < y + sp)).length ≤ n - 1 := Nat.le_trans (List.length_filter_le ..) (by rw [List.length_take]; omega)
  obtain ⟨c, hc⟩ := List.exists_mem_of_length_pos (show 0 < ((xs.drop (n - 1)).filter fun x => decide (y ≤ x ∧ x < y + sp)).length by omega)
  obtain ⟨hc1, hc2⟩ := List.mem_filter.mp hc
  rw [decide_eq_true_eq] at hc2
  obtain ⟨i, hi⟩ := List.mem_iff_getElem?.mp hc1
  rw [List.getElem?_drop] at hi
  have hl := (List.getElem?_eq_some_iff.mp hi).1
  have hb := List.getElem?_eq_getElem (show n - 1 < xs.length by omega)
  have := hs.at (show n - 1 ≤ n - 1 + i by omega) hb hi
  exact ⟨_, hb, by omega⟩
theorem win_first {sp y : Int} {n : Nat} (n0 : 1 ≤ n) : ∀ {xs : List Int}, UpL xs → n ≤ (win xs sp y).length → ∃ j a b, xs[j]? = some a ∧ xs[j + (n - 1)]? = some b ∧ b < a + sp
  | [], _, h => by
    have : (win [] sp y).length = 0 := rfl
    omega
  | x :: xs, hs, h => by
    by_cases hx : y ≤ x ∧ x < y + sp
    · obtain ⟨b, hb, hlt⟩ := win_last hs n0 h
      exact ⟨0, x, b, rfl, by rw [Nat.zero_add]; exact hb, by omega⟩
    · have e : win (x :: xs) sp y = win xs sp y := by
        unfold win
        rw [List.filter_cons, if_neg (by rw [decide_eq_true_eq]; exact hx)]
      rw [e] at h
      obtain ⟨j, a, b, h1, h2, h3⟩ := win_first n0 (List.pairwise_cons.mp hs).2 h
      exact ⟨j + 1, a, b, by simpa using h1, by rw [show j + 1 + (n - 1) = (j + (n - 1)) + 1 by omega]; simpa using h2, h3⟩
theorem has_of {xs : List Int} {sp : Int} {j l : Nat} {a b : Int} (hs : UpL xs) (hjl : j ≤ l) (h1 : xs[j]? = some a) (h2 : ∀ k c, j ≤ k → k < l → xs[k]? = some c → c < a + sp) (hl : l ≤ xs.length) : HasC xs sp (l - j) := by
  refine ⟨a, ?_⟩
  have sub : ((xs.drop j).take (l - j)).Sublist xs := (List.take_sublist _ _).trans (List.drop_sublist _ _)
  have all : ∀ c ∈ (xs.drop j).take (l - j), decide (a ≤ c ∧ c < a + sp) = true := fun c hc => by
    obtain ⟨i, hi⟩ := List.mem_iff_getElem?.mp hc
    have hil := (List.getElem?_eq_some_iff.mp hi).1
    rw [List.length_take, List.length_drop] at hil
    rw [List.getElem?_take, if_pos (by omega), List.getElem?_drop] at hi
    have := hs.at (show j ≤ j + i by omega) h1 hi
    have := h2 (j + i) c (by omega) (by omega) hi
    rw [decide_eq_true_eq]; omega
  have := (sub.filter fun c => decide (a ≤ c ∧ c < a + sp)).length_le
  rw [List.filter_eq_self.mpr all, List.length_take, List.length_drop] at this
  unfold win
  omega
/-- the most abreast, told place by place -/
structure Abr (xs : List Int) (sp : Int) (i : Nat) (m last : Nat) : Prop where
  has : HasC xs sp m
  le : last ≤ xs.length
  lo : i ≤ last
  z0 : i = 0 → last = 0
  low : ∀ k a b, k < last → 0 < i → xs[k]? = some a → xs[i - 1]? = some b → a < b + sp
  all : ∀ (j l : Nat) (a b : Int), j < i → j ≤ l → xs[j]? = some a → xs[l]? = some b → b < a + sp → l + 1 - j ≤ m
theorem Abr.most {xs : List Int} {sp : Int} {m last n : Nat} (h : Abr xs sp xs.length m last) (hs : UpL xs) (k : HasC xs sp n) : n ≤ m := by
  by_cases z : n = 0
  · omega
  obtain ⟨y, k⟩ := k
  obtain ⟨j, a, b, h1, h2, h3⟩ := win_first (by omega) hs k
  have := h.all j (j + (n - 1)) a b (List.getElem?_eq_some_iff.mp h1).1 (by omega) h1 h2 h3
  omega
theorem Abr.start (xs : List Int) (sp : Int) : Abr xs sp 0 0 0 := ⟨.zero, Nat.zero_le _, Nat.le_refl _, fun _ => rfl, fun _ _ _ h => absurd h (Nat.not_lt_zero _), fun _ _ _ _ h => absurd h (Nat.not_lt_zero _)⟩
/-- a turn: the inner loop stands at last -/
theorem Abr.turn {xs : List Int} {sp : Int} {i m last l2 m2 : Nat} {a : Int} (h : Abr xs sp i m last) (hs : UpL xs) (sp1 : 1 ≤ sp) (ha : xs[i]? = some a) (h1 : last ≤ l2) (hl : l2 ≤ xs.length) (h2 : ∀ k c, k < l2 → xs[k]? = some c → c < a + sp) (h3 : ∀ c, xs[l2]? = some c → a + sp ≤ c)
    (hm : m2 = max m (l2 - i)) : Abr xs sp (i + 1) m2 l2 := by
  have hi := (List.getElem?_eq_some_iff.mp ha).1
  have lt : i < l2 := by
    by_cases z : i < l2
    · exact z
    · exfalso
      have e := h.lo
      have : l2 = i := by omega
      subst this
      have := h3 a ha
      omega
  refine ⟨?_, hl, lt, fun z => absurd z (Nat.succ_ne_zero _), fun k c b hk _ hc hb => ?_, fun j l c b hj hjl hc hb hlt => ?_⟩
  · rw [hm]
    rcases Nat.le_total m (l2 - i) with z | z
    · rw [Nat.max_eq_right z]
      exact has_of (b := a) hs (by omega) ha (fun k c _ hk hc => h2 k c hk hc) hl
    · rw [Nat.max_eq_left z]
      exact h.has
  · rw [Nat.add_sub_cancel, ha] at hb
    cases hb
    exact h2 k c hk hc
  · by_cases z : j = i
    · subst z
      rw [ha] at hc; cases hc
      have : l < l2 := by
        by_cases y : l < l2
        · exact y
        · exfalso
          have hll := (List.getElem?_eq_some_iff.mp hb).1
          have e := List.getElem?_eq_getElem (show l2 < xs.length by omega)
          have := h3 _ e
          have := hs.at (show l2 ≤ l by omega) e hb
          omega
      omega
    · have := h.all j l c b (by omega) hjl hc hb hlt
      omega
/-- what the while of the most abreast keeps -/
theorem Abr.low2 {xs : List Int} {sp : Int} {i m last : Nat} {a : Int} (h : Abr xs sp i m last) (hs : UpL xs) (sp1 : 1 ≤ sp) (ha : xs[i]? = some a) (k : Nat) (c : Int) (hk : k < last) (hc : xs[k]? = some c) : c < a + sp := by
  by_cases z : k ≤ i
  · have := hs.at z hc ha
    omega
  · by_cases y : i = 0
    · subst y
      have := h.z0 rfl
      omega
    · have hi := (List.getElem?_eq_some_iff.mp ha).1
      have e := List.getElem?_eq_getElem (show i - 1 < xs.length by omega)
      have := h.low k c _ hk (by omega) hc e
      have := hs.at (show i - 1 ≤ i by omega) e ha
      omega
end DV
namespace DV
open PySem PySem.Spec PyProof.Rows L2
open LamX (ExtN TabS Tabs CodeO)
structure PreL (xs : List Int) (sp : Int) (k : Nat) (p : List Int) : Prop where
  len : p.length ≤ xs.length
  rng : ∀ r ∈ p, 0 ≤ r ∧ r < k
  un : ∀ (i j : Nat) (a b q s : Int), i < j → xs[i]? = some a → xs[j]? = some b → p[i]? = some q → p[j]? = some s → b - a < sp → q ≠ s
theorem PreL.col {xs : List Int} {sp : Int} {k : Nat} {p : List Int} (h : PreL xs sp k p) (e : p.length = xs.length) : ColL xs sp k p := ⟨e, h.rng, h.un⟩
theorem PreL.nil {xs : List Int} {sp : Int} {k : Nat} : PreL xs sp k [] := ⟨Nat.zero_le _, fun _ h => (by cases h), fun _ _ _ _ _ _ _ _ _ h => (by simp at h)⟩
theorem any_int (xs : List Int) (x : Int) : ((xs.map PyData.int).any fun z => PyData.eqv z (.int x)) = decide (x ∈ xs) := by
  rw [List.any_map, Bool.eq_iff_iff, List.any_eq_true, decide_eq_true_eq]
  constructor
  · rintro ⟨y, h1, h2⟩
    rw [Function.comp, eqv_int, decide_eq_true_eq] at h2
    subst h2
    exact h1
  · exact fun h => ⟨x, h, by rw [Function.comp, eqv_int]; exact decide_eq_true rfl⟩
theorem RowsI.few {xs : List Int} {sp : Int} {j : Nat} {rows free : List Int} {freed many : Nat} (h : RowsI xs sp j rows free freed many) : free.length ≤ xs.length := by
  have a := h.perm.length_eq
  rw [List.length_append, List.length_map, List.length_range] at a
  have := h.has.size
  omega
/-- the number of rows is told by the xs alone -/
def Rown (xs : List Int) (sp : Int) (n : Nat) : Prop := HasC xs sp n ∧ ∀ m, HasC xs sp m → m ≤ n
theorem Rown.of {xs rs : List Int} {sp : Int} {n : Nat} (c : ColL xs sp n rs) (h : HasC xs sp n) : Rown xs sp n := ⟨h, fun m k => col_has c k⟩
theorem UpL.sub {xs ys : List Int} (h : UpL ys) (k : xs.Sublist ys) : UpL xs := List.Pairwise.sublist k h
theorem heapL_nil : HeapL [] := by unfold HeapL HQ.HeapF; intro i; simp
theorem mul_n : MulOk (Str.ofString "n") 12 := ⟨by decide, fun _ _ => by decide +kernel, fun _ _ => by decide +kernel⟩
theorem sh_intsL (xs : List Int) : SeqAt.shaped (PyData.list (xs.map .int)) = true := (Shp.list (k := 0) (Shp.map fun p _ => .int)).shaped
end DV
namespace DV
open PySem PySem.Spec PyProof.Rows PySem.Calls PySem.W
end DV
namespace DV
open PySem PySem.Spec PyProof.Rows L2
open LamX (ExtN TabS Tabs CodeO)
section
variable {X : Cx} {F : Fm} {e : Expr} {t : TA} {d : TDA} {pos : Pos}
def dSortDT (t : TDA) : TDL := fun ρ Q => t ρ fun rs ρ1 => match rs with
  | [r] => onT r fun xs => CanSort xs ∧ Q (sortD xs) ρ1
  | _ => False
def tDead : TS := fun _ _ _ => False
def dDead : TDS := fun _ _ => False
theorem ds_dead {st : Stmt} : PDS X F st tDead dDead := ⟨⟨fun _ _ _ _ _ _ h => False.elim h⟩, fun _ _ _ _ _ _ _ _ _ h => False.elim h⟩
end
end DV
namespace DV
open PySem PySem.Spec PyProof.Rows L2
open LamX (ExtN TabS Tabs CodeO)
section
variable {X : Cx} {F : Fm} {a b : Expr} {ta tb : TE} {da db : TDE} {dl dm : TDL} {pos : Pos}
def dParR (i j : Nat) (te : TDE) (tl : TDL) : TDS := fun DD ρ => te ρ fun r ρ1 => onDat r fun y => tl ρ1 fun xs ρ2 => DD.nx ((ρ2.set i (some (.d y))).set j (some (.own xs)))
end
theorem alike_prs (a b c d : Int) : PySem.W.alike (pr a b) (pr c d) = true := by simp [pr, PySem.W.alike, PySem.W.alikeAll]
theorem filterMap_if {α β : Type} (p : α → Bool) (f : α → β) : ∀ xs : List α, (xs.filterMap fun c => if p c = true then some (f c) else none) = (xs.filter p).map f
  | [] => rfl
  | x :: xs => by
    rw [List.filterMap_cons, List.filter_cons]
    cases h : p x with
    | true => simp only [if_true, List.map_cons, filterMap_if p f xs]
    | false => simp only [Bool.false_eq_true, if_false, filterMap_if p f xs]
def fMax3 : FA
  | [.int i, .int j, .int k], Q => Q (.int (if k > (if j > i then j else i) then k else (if j > i then j else i)))
  | _, _ => False
end DV
namespace DV
open PySem PySem.Spec PyProof.Rows L2
open LamX (ExtN TabS Tabs CodeO)
section
variable {X : Cx} {F : Fm} {pos : Pos}
def dNewDic (i : Nat) : TDS := fun DD ρ => DD.nx (ρ.set i (some (.dic [])))
end
end DV
namespace DV
open PySem PySem.Spec PyProof.Rows L2
open LamX (ExtN TabS Tabs CodeO)
def putD (kvs : List (List L2.Key × PyData)) (k : List L2.Key) (y : PyData) : List (List L2.Key × PyData) :=
  if (kvs.any fun kv => decide (kv.1 = k)) = true then kvs.map (fun kv => if kv.1 = k then (kv.1, y) else kv) else kvs ++ [(k, y)]
section
variable {F : Fm} {pins : List Pin} {ρ : Rho} {σ : L2.St} {H : Hp}
theorem setMine_iff {i : Nat} {a : Addr} {f : Ent} (hf : f.mine) (h : OwnAt ρ σ i a) (j : Nat) (b : Addr) : OwnAt (ρ.set i (some f)) σ j b ↔ OwnAt ρ σ j b := by
  obtain ⟨⟨ys, h1, hm⟩, h2⟩ := h
  have hi : i < ρ.length := by
    rcases Nat.lt_or_ge i ρ.length with z | z
    · exact z
    · rw [List.getElem?_eq_none z] at h1; cases h1
  by_cases e : i = j
  · subst e
    constructor
    · rintro ⟨_, h3⟩; exact ⟨⟨ys, h1, hm⟩, h3⟩
    · rintro ⟨_, h3⟩; exact ⟨⟨f, by simp [hi], hf⟩, h3⟩
  · unfold OwnAt
    rw [List.getElem?_set_ne e]
end
section
variable {X : Cx} {F : Fm} {pos : Pos} {es : List Expr} {t : TA} {d : TDA} {value : Expr} {tv : TE} {dv : TDE}
def onDic (ρ : Rho) (i : Nat) (f : List (List L2.Key × PyData) → Prop) : Prop := match ρ[i]? with
  | some (some (.dic kvs)) => f kvs
  | _ => False
/-- d[x, z] = v -/
def dDicPut (i : Nat) (t : TDA) (tv : TDE) : TDS := fun DD ρ => tv ρ fun r ρ1 => onDat r fun y => onDic ρ1 i fun _ => t ρ1 fun rs ρ2 => onD rs fun ds => match ds with
  | [.int x, .int z] => onDic ρ2 i fun kvs => kvs.length + 1 ≤ 100000 ∧ DD.nx (ρ2.set i (some (.dic (putD kvs [.inl x, .inl z] y))))
  | _ => False
end
end DV
namespace DV
open PySem PySem.Spec PyProof.Rows PySem.Calls PySem.W
end DV
namespace DV
open PySem PySem.Spec PyProof.Rows L2
open LamX (ExtN TabS Tabs CodeO)
def keyD (k : List L2.Key) : PyData := .tuple (k.map kD)
section
variable {X : Cx} {F : Fm} {pos : Pos}
def dSortDic (i : Nat) : TDL := fun ρ Q => onDic ρ i fun kvs => CanSort (kvs.map fun kv => keyD kv.1) ∧ Q (sortD (kvs.map fun kv => keyD kv.1)) ρ
end
end DV
namespace DV
open PySem PySem.Spec PyProof.Rows L2
open LamX (ExtN TabS Tabs CodeO)
def valD (kvs : List (List L2.Key × PyData)) (k : List L2.Key) : Option PyData := (kvs.find? fun kv => decide (kv.1 = k)).map (·.2)
section
variable {X : Cx} {F : Fm} {pos : Pos} {e : Expr} {te : TE} {de : TDE}
def onKey (r : R) (f : List L2.Key → Prop) : Prop := match r with
  | .d (.tuple [.int x, .int z]) => f [.inl x, .inl z]
  | _ => False
def dDicGet (i : Nat) (dk : TDE) : TDE := fun ρ Q => onDic ρ i fun _ => dk ρ fun r ρ1 => onKey r fun k => onDic ρ1 i fun kvs => match valD kvs k with
  | some y => Q (.d y) ρ1
  | none => False
end
theorem units1 {n : Nat} (h : n + 64 < cLine) : n + 1 < cLine := by omega
end DV
namespace DV
open PySem PySem.Spec PyProof.Rows L2
open LamX (ExtN TabS Tabs CodeO)
/-- each of rs is the least row that no near earlier one has -/
def LeastR (xs : List Int) (sp : Int) (rs : List Int) : Prop := ∀ (j : Nat) (r b : Int), rs[j]? = some r → xs[j]? = some b →
  0 ≤ r ∧ (∀ (i : Nat) (a q : Int), i < j → xs[i]? = some a → rs[i]? = some q → b - a < sp → q ≠ r) ∧ ∀ s, 0 ≤ s → s < r → ∃ (i : Nat) (a : Int), i < j ∧ xs[i]? = some a ∧ rs[i]? = some s ∧ b - a < sp
theorem LeastR.nil {xs : List Int} {sp : Int} : LeastR xs sp [] := fun j r b h => by simp at h
/-- there is but one such list -/
theorem LeastR.unique {xs rs ss : List Int} {sp : Int} (h : LeastR xs sp rs) (k : LeastR xs sp ss) (h1 : rs.length = xs.length) (h2 : ss.length = xs.length) : rs = ss := by
  have key : ∀ n j, j < n → j < xs.length → rs[j]? = ss[j]? := by
    intro n
    induction n with
    | zero => intro j hj; omega
    | succ n ih =>
      intro j hj hx
      have er := List.getElem?_eq_getElem (show j < rs.length by omega)
      have es := List.getElem?_eq_getElem (show j < ss.length by omega)
      have eb := List.getElem?_eq_getElem hx
      generalize rs[j] = r at er
      generalize ss[j] = s at es
      generalize xs[j] = b at eb
      obtain ⟨r0, r1, r2⟩ := h j r b er eb
      obtain ⟨s0, s1, s2⟩ := k j s b es eb
      have same : ∀ i, i < j → rs[i]? = ss[i]? := fun i hi => ih i (by omega) (by omega)
      rcases Int.lt_trichotomy r s with z | z | z
      · obtain ⟨i, a, hi, ha, hq, hlt⟩ := s2 r r0 z
        exact absurd rfl (r1 i a r hi ha (by rw [same i hi]; exact hq) hlt)
      · rw [er, es, z]
      · obtain ⟨i, a, hi, ha, hq, hlt⟩ := r2 s s0 z
        exact absurd rfl (s1 i a s hi ha (by rw [← same i hi]; exact hq) hlt)
  refine List.ext_getElem? fun j => ?_
  by_cases z : j < xs.length
  · exact key (j + 1) j (Nat.lt_succ_self _) z
  · rw [List.getElem?_eq_none (by omega), List.getElem?_eq_none (by omega)]
/-- the least of the free ones is the least of all that no near one has -/
theorem RowsI.least {xs : List Int} {sp : Int} {j : Nat} {rows free : List Int} {freed many : Nat} {r b : Int} (h : RowsI xs sp j rows free freed many) (hs : UpL xs) (hb : xs[j]? = some b) (hf : ∀ a, freed < j → xs[freed]? = some a → b < a + sp) (hr : r ∈ free) (hmin : ∀ y ∈ free, r ≤ y) :
    ∀ s, 0 ≤ s → s < r → ∃ (i : Nat) (a : Int), i < j ∧ xs[i]? = some a ∧ rows[i]? = some s ∧ b - a < sp := fun s s0 hlt => by
  have hj := (List.getElem?_eq_some_iff.mp hb).1
  have l := h.len
  have hle := h.le
  have rm : r < many := by
    obtain ⟨i, hi, rfl⟩ := List.mem_map.mp (h.perm.mem_iff.mp (List.mem_append_left _ hr))
    have := List.mem_range.mp hi
    omega
  have sm : s ∈ free ++ rows.drop freed := h.perm.mem_iff.mpr (List.mem_map.mpr ⟨s.toNat, List.mem_range.mpr (by omega), by omega⟩)
  rcases List.mem_append.mp sm with z | z
  · have := hmin s z
    omega
  · obtain ⟨k, hk⟩ := List.mem_iff_getElem?.mp z
    rw [List.getElem?_drop] at hk
    have hk1 := (List.getElem?_eq_some_iff.mp hk).1
    have hx := List.getElem?_eq_getElem (show freed + k < xs.length by omega)
    have hfr := List.getElem?_eq_getElem (show freed < xs.length by omega)
    have h1 := hf _ (by omega) hfr
    have h2 := hs.at (show freed ≤ freed + k by omega) hfr hx
    exact ⟨freed + k, _, by omega, hx, hk, by omega⟩
/-- the next row -/
theorem LeastR.snoc {xs rs : List Int} {sp r b : Int} (h : LeastR xs sp rs) (hb : xs[rs.length]? = some b) (r0 : 0 ≤ r) (h1 : ∀ (i : Nat) (a q : Int), i < rs.length → xs[i]? = some a → rs[i]? = some q → b - a < sp → q ≠ r)
    (h2 : ∀ s, 0 ≤ s → s < r → ∃ (i : Nat) (a : Int), i < rs.length ∧ xs[i]? = some a ∧ rs[i]? = some s ∧ b - a < sp) : LeastR xs sp (rs ++ [r]) := by
  intro j q c hq hc
  have low : ∀ i, i < rs.length → (rs ++ [r])[i]? = rs[i]? := fun i hi => by rw [List.getElem?_append, if_pos hi]
  rw [List.getElem?_append] at hq
  by_cases z : j < rs.length
  · rw [if_pos z] at hq
    obtain ⟨a1, a2, a3⟩ := h j q c hq hc
    refine ⟨a1, fun i a p hi ha hp hlt => a2 i a p hi ha (by rw [← low i (by omega)]; exact hp) hlt, fun s s0 hs => ?_⟩
    obtain ⟨i, a, hi, ha, hp, hlt⟩ := a3 s s0 hs
    exact ⟨i, a, hi, ha, by rw [low i (by omega)]; exact hp, hlt⟩
  · rw [if_neg z] at hq
    have hj : j - rs.length = 0 := by
      have := (List.getElem?_eq_some_iff.mp hq).1
      simp at this
      omega
    rw [hj] at hq
    simp at hq
    subst hq
    have e : j = rs.length := by omega
    subst e
    rw [hb] at hc; cases hc
    refine ⟨r0, fun i a p hi ha hp hlt => h1 i a p hi ha (by rw [← low i hi]; exact hp) hlt, fun s s0 hs => ?_⟩
    obtain ⟨i, a, hi, ha, hp, hlt⟩ := h2 s s0 hs
    exact ⟨i, a, hi, ha, by rw [low i hi]; exact hp, hlt⟩
end DV
namespace DV
open PySem PySem.Spec PyProof.Rows L2
open LamX (ExtN TabS Tabs CodeO)
section
variable {F : Fm}
abbrev TDW := Rho → (List PyData → List PyData → Rho → Prop) → Prop
def lcW (k : Nat) (g : TDGt) (tt : TDT) (te : TDE) (vs : List Nat) (Q : List PyData → Rho → Prop) (items ys : List PyData) (ρ1 : Rho) : Prop :=
  ((∀ i ∈ vs, ρ1[i]? = some none) ∧ k ∉ vs) ∧ ∃ I : Nat → List PyData → Rho → Prop, I 0 [] ρ1 ∧
  (∀ i x acc ρ, items[i]? = some x → I i acc ρ → ρ[k]? = some (some (.own ys)) → g (.d x) ρ fun ρ2 => tt ρ2 fun b ρ3 => if b = true then te ρ3 fun r ρ4 => onDat r fun y => Few (acc.length + 1) ∧ ρ4[k]? = some (some (.own ys)) ∧ I (i + 1) (acc ++ [y]) (wipeR ρ4 vs) else ρ3[k]? = some (some (.own ys)) ∧ I (i + 1) acc (wipeR ρ3 vs)) ∧
  ∀ acc ρ, I items.length acc ρ → ρ[k]? = some (some (.own ys)) → Q acc (wipeR ρ vs)
def dLcW (k : Nat) (dw : TDW) (g : TDGt) (tt : TDT) (te : TDE) (vs : List Nat) : TDL := fun ρ Q => dw ρ fun items ys ρ1 => lcW k g tt te vs Q items ys ρ1
end
end DV
namespace DV
open PySem PySem.Spec PyProof.Rows L2
open LamX (ExtN TabS Tabs CodeO)
section
variable {F : Fm}
def dZipX (k : Nat) (te : TDE) : TDW := fun ρ Q => te ρ fun r ρ1 => onOwn ρ1 k fun ys => match seqs ρ1 r with
  | some (_, xs) => Q (zipD xs ys) ys ρ1
  | none => False
end
end DV
namespace DV
open PySem PySem.Spec PyProof.Rows L2
open LamX (ExtN TabS Tabs CodeO)
theorem range_first (p : Nat → Bool) : ∀ (m : Nat) (s : Nat), (∃ r, s ≤ r ∧ r < s + m ∧ p r = true) → ∃ r rest, (List.range' s m).filter p = r :: rest ∧ p r = true ∧ s ≤ r ∧ r < s + m ∧ ∀ t, s ≤ t → t < r → p t = false
  | 0, s, ⟨r, h1, h2, _⟩ => by omega
  | m + 1, s, ⟨r, h1, h2, h3⟩ => by
    rw [List.range'_succ, List.filter_cons]
    cases hp : p s with
    | true => exact ⟨s, _, by rw [if_pos rfl], hp, Nat.le_refl _, by omega, fun t a b => by omega⟩
    | false =>
      have hne : r ≠ s := fun e => by subst e; rw [hp] at h3; cases h3
      obtain ⟨q, rest, e, a, b, c, d⟩ := range_first p m (s + 1) ⟨r, by omega, by omega, h3⟩
      refine ⟨q, rest, by rw [if_neg (by decide)]; exact e, a, by omega, by omega, fun t ht hq => ?_⟩
      by_cases z : t = s
      · rw [z]; exact hp
      · exact d t (by omega) hq
theorem fm_first (p : Nat → Bool) (m : Nat) (h : ∃ r, r < m ∧ p r = true) : ∃ (r : Nat) (rest : List Nat), (List.range m).filter p = r :: rest ∧ p r = true ∧ r < m ∧ ∀ t, t < r → p t = false := by
  obtain ⟨r, h1, h2⟩ := h
  obtain ⟨q, rest, e, a, _, c, d⟩ := range_first p m 0 ⟨r, Nat.zero_le _, by omega, h2⟩
  exact ⟨q, rest, by rw [List.range_eq_range']; exact e, a, by omega, fun t ht => d t (Nat.zero_le _) ht⟩
/-- among m + 1 numbers one is not in a list of m -/
theorem some_free (xs : List Int) (m : Nat) (h : xs.length ≤ m) : ∃ r : Nat, r < m + 1 ∧ ¬ (r : Int) ∈ xs := by
  refine Classical.byContradiction fun z => ?_
  have all : ∀ r : Nat, r < m + 1 → (r : Int) ∈ xs := fun r hr => Classical.byContradiction fun q => z ⟨r, hr, q⟩
  have := nodup_le (xs := (List.range (m + 1)).map fun i : Nat => (i : Int)) (ys := xs) (by
    rw [List.Nodup, List.pairwise_map]
    exact List.Pairwise.imp (fun {a b} hne e => hne (by omega)) List.nodup_range) fun x hx => by
    obtain ⟨i, hi, rfl⟩ := List.mem_map.mp hx
    exact all i (List.mem_range.mp hi)
  rw [List.length_map, List.length_range] at this
  omega
def takenL (ls : List Lmp) (rs : List Int) (x sp : Int) : List Int := (List.zip ls rs).filterMap fun p => if ((p.1.x - x).natAbs : Int) < sp then some p.2 else none
theorem mem_taken {ls : List Lmp} {rs : List Int} {x sp r : Int} : r ∈ takenL ls rs x sp ↔ ∃ (i : Nat) (l : Lmp), ls[i]? = some l ∧ rs[i]? = some r ∧ ((l.x - x).natAbs : Int) < sp := by
  unfold takenL
  rw [List.mem_filterMap]
  constructor
  · rintro ⟨⟨l, q⟩, h1, h2⟩
    split at h2
    · rename_i hlt
      cases h2
      obtain ⟨i, hi⟩ := List.mem_iff_getElem?.mp h1
      rw [List.getElem?_zip_eq_some] at hi
      exact ⟨i, l, hi.1, hi.2, hlt⟩
    · cases h2
  · rintro ⟨i, l, h1, h2, h3⟩
    exact ⟨(l, r), List.mem_iff_getElem?.mpr ⟨i, List.getElem?_zip_eq_some.mpr ⟨h1, h2⟩⟩, by simp only [if_pos h3]⟩
/-- the law's next row is the least one -/
theorem LeastR.next {ls : List Lmp} {rs : List Int} {sp : Int} {l : Lmp} {r : Nat} (h : LeastR (lxs ls) sp rs) (hs : UpL (lxs ls)) (hl : ls[rs.length]? = some l) (hr : ¬ (r : Int) ∈ takenL ls rs l.x sp) (hm : ∀ t : Nat, t < r → (t : Int) ∈ takenL ls rs l.x sp) : LeastR (lxs ls) sp (rs ++ [(r : Int)]) := by
  have hb := lxs_at hl
  have up : ∀ (i : Nat) (m : Lmp), i < rs.length → ls[i]? = some m → m.x ≤ l.x := fun i m hi hm => hs.at (Nat.le_of_lt hi) (lxs_at hm) hb
  refine h.snoc hb (by omega) (fun i a q hi ha hq hlt e => ?_) fun s s0 hlt => ?_
  · subst e
    obtain ⟨m, hm2⟩ : ∃ m, ls[i]? = some m := ⟨_, List.getElem?_eq_getElem (by have := (List.getElem?_eq_some_iff.mp hl).1; omega)⟩
    rw [lxs_at hm2] at ha
    cases ha
    have := up i m hi hm2
    exact hr (mem_taken.mpr ⟨i, m, hm2, hq, by omega⟩)
  · have := hm s.toNat (by omega)
    rw [Int.toNat_of_nonneg s0] at this
    obtain ⟨i, m, h1, h2, h3⟩ := mem_taken.mp this
    have hi := (List.getElem?_eq_some_iff.mp h2).1
    have := up i m hi h1
    exact ⟨i, m.x, hi, lxs_at h1, h2, by omega⟩
end DV
namespace DV
open PySem PySem.Spec PyProof.Rows L2
open LamX (ExtN TabS Tabs CodeO)
structure Scn where
  tk : Int
  hd : Int
  ls : List Lmp
structure Shw where
  b : Bn
  pads : List P2
  full : Int
  hold : Int
  fly : Int
  sc : List Scn
def eSc (s : Scn) : PyData := .tuple [.int s.tk, .int s.hd, eP s.ls]
def eW (w : Shw) : PyData := .tuple [eB w.b, .tuple (w.pads.map enc2), .tuple [.int w.full, .int w.hold, .int w.fly], .tuple (w.sc.map eSc)]
def lp (l : Lmp) : P2 := (l.x, l.z)
def lt2 (p q : P2) : Prop := p.1 < q.1 ∨ (p.1 = q.1 ∧ p.2 < q.2)
/-- a picture: places ascending, each once -/
def PicL (ls : List Lmp) : Prop := ls.Pairwise fun a b => lt2 (lp a) (lp b)
theorem PicL.up {ls : List Lmp} (h : PicL ls) : UpL (lxs ls) := by
  unfold UpL lxs
  rw [List.pairwise_map]
  refine List.Pairwise.imp (fun {a b} q => ?_) h
  rcases q with q | ⟨q, _⟩
  · exact Int.le_of_lt q
  · exact Int.le_of_eq q
def putL (ls : List Lmp) (l : Lmp) : List Lmp := if (ls.any fun k => decide (lp k = lp l)) = true then ls.map (fun k => if lp k = lp l then l else k) else ls ++ [l]
theorem LeastR.app {xs ys rs : List Int} {sp : Int} (h : LeastR xs sp rs) (hl : rs.length = xs.length) : LeastR (xs ++ ys) sp rs := by
  intro j r b hr hb
  have jl : j < xs.length := by rw [← hl]; exact (List.getElem?_eq_some_iff.mp hr).1
  have at' : ∀ i, i ≤ j → (xs ++ ys)[i]? = xs[i]? := fun i hi => List.getElem?_append_left (by omega)
  rw [at' j (Nat.le_refl _)] at hb
  obtain ⟨h0, h1, h2⟩ := h j r b hr hb
  refine ⟨h0, fun i a q hi ha hq => h1 i a q hi (by rw [at' i (by omega)] at ha; exact ha) hq, fun s s0 hs => ?_⟩
  obtain ⟨i, a, hi, ha, hq, hlt⟩ := h2 s s0 hs
  exact ⟨i, a, hi, by rw [at' i (by omega)]; exact ha, hq, hlt⟩
def deepL (ls : List Lmp) (rs : List Int) (d : Int) : List (Lmp × Int) := (List.zip ls rs).filter fun p => decide (p.2 < d)
theorem zip_snoc {α β : Type} {xs : List α} {ys : List β} {n : Nat} {x : α} {y : β} (hx : xs[n]? = some x) (hy : ys[n]? = some y) : List.zip (xs.take (n + 1)) (ys.take (n + 1)) = List.zip (xs.take n) (ys.take n) ++ [(x, y)] := by
  rw [List.take_add_one, List.take_add_one, hx, hy]
  have := (List.getElem?_eq_some_iff.mp hx).1
  have := (List.getElem?_eq_some_iff.mp hy).1
  rw [List.zip_append (by rw [List.length_take, List.length_take]; omega)]
  rfl
theorem deep_go {ls : List Lmp} {rs : List Int} {sp d : Int} (h : LeastR (lxs ls) sp rs) (hl : rs.length = ls.length) : ∀ n, n ≤ ls.length → LeastR (lxs ((deepL (ls.take n) (rs.take n) d).map (·.1))) sp ((deepL (ls.take n) (rs.take n) d).map (·.2))
  | 0, _ => by
    rw [List.take_zero, List.take_zero]
    exact .nil
  | n + 1, hn => by
    have ih := deep_go (d := d) h hl n (by omega)
    have h1 : ls[n]? = some ls[n] := List.getElem?_eq_getElem (by omega)
    have h2 : rs[n]? = some rs[n] := List.getElem?_eq_getElem (by omega)
    generalize ls[n] = l at h1
    generalize rs[n] = r at h2
    have hz : deepL (ls.take (n + 1)) (rs.take (n + 1)) d = deepL (ls.take n) (rs.take n) d ++ (if r < d then [(l, r)] else []) := by
      unfold deepL
      rw [zip_snoc h1 h2, List.filter_append]
      congr 1
      rw [List.filter_cons, List.filter_nil]
      by_cases c : r < d
      · rw [if_pos (decide_eq_true c), if_pos c]
      · rw [if_neg (fun z => c (of_decide_eq_true z)), if_neg c]
    rw [hz]
    by_cases c : r < d
    · rw [if_pos c, List.map_append, List.map_append]
      generalize hps : deepL (ls.take n) (rs.take n) d = ps at *
      have memp : ∀ {i : Nat} {a q : Int}, (lxs (ps.map (·.1)) ++ [l.x])[i]? = some a → (ps.map (·.2))[i]? = some q → ∃ k, k < n ∧ (lxs ls)[k]? = some a ∧ rs[k]? = some q := fun {i a q} ha hq => by
        have il : i < ps.length := by have := (List.getElem?_eq_some_iff.mp hq).1; rwa [List.length_map] at this
        rw [List.getElem?_append_left (by rw [lxs_len, List.length_map]; exact il)] at ha
        have hp : ps[i]? = some ps[i] := List.getElem?_eq_getElem il
        have hm : ps[i] ∈ ps := List.getElem_mem il
        generalize ps[i] = p at hp hm
        have ea : p.1.x = a := by
          have := lxs_at (ls := ps.map (·.1)) (l := p.1) (by rw [List.getElem?_map, hp]; rfl)
          rw [this] at ha
          exact Option.some.inj ha
        have eq : p.2 = q := by
          rw [List.getElem?_map, hp] at hq
          exact Option.some.inj hq
        rw [← hps] at hm
        obtain ⟨hm1, hm2⟩ := List.mem_filter.mp hm
        obtain ⟨k, hk⟩ := List.mem_iff_getElem?.mp hm1
        obtain ⟨k1, k2⟩ := List.getElem?_zip_eq_some.mp hk
        have kn : k < n := by have := (List.getElem?_eq_some_iff.mp k1).1; rw [List.length_take] at this; omega
        rw [List.getElem?_take_of_lt kn] at k1 k2
        exact ⟨k, kn, ea ▸ lxs_at k1, eq ▸ k2⟩
      obtain ⟨r0, ne, lo⟩ := h n r l.x h2 (lxs_at h1)
      have lps : (ps.map (·.2)).length = ps.length := List.length_map _
      have e1 : lxs (ps.map (·.1) ++ [(l, r)].map (·.1)) = lxs (ps.map (·.1)) ++ [l.x] := by
        unfold lxs
        rw [List.map_append]; rfl
      rw [e1]
      have ih2 := LeastR.app (ys := [l.x]) ih (by rw [lxs_len, List.length_map, List.length_map])
      refine ih2.snoc (b := l.x) ?_ r0 (fun i a q hi ha hq hlt => ?_) fun s s0 hs => ?_
      · rw [List.getElem?_append_right (by rw [lxs_len, List.length_map, List.length_map]; exact Nat.le_refl _), lxs_len, List.length_map, List.length_map, Nat.sub_self]; rfl
      · obtain ⟨k, kn, ka, kq⟩ := memp ha hq
        exact ne k a q kn ka kq hlt
      · obtain ⟨k, a, kn, ka, kq, hlt⟩ := lo s s0 hs
        have hlk : ∃ m, ls[k]? = some m ∧ m.x = a := by
          have : k < ls.length := by omega
          refine ⟨ls[k], List.getElem?_eq_getElem this, ?_⟩
          have := lxs_at (List.getElem?_eq_getElem this)
          rw [this] at ka
          exact Option.some.inj ka
        obtain ⟨m, hm, em⟩ := hlk
        have hs' : s < r := hs
        have hin : (m, s) ∈ ps := by
          rw [← hps]
          refine List.mem_filter.mpr ⟨List.mem_iff_getElem?.mpr ⟨k, List.getElem?_zip_eq_some.mpr ⟨?_, ?_⟩⟩, decide_eq_true (show s < d by omega)⟩
          · rw [List.getElem?_take_of_lt kn]; exact hm
          · rw [List.getElem?_take_of_lt kn]; exact kq
        obtain ⟨i, hi⟩ := List.mem_iff_getElem?.mp hin
        have il := (List.getElem?_eq_some_iff.mp hi).1
        refine ⟨i, a, by rw [List.length_map]; exact il, ?_, by rw [List.getElem?_map, hi]; rfl, hlt⟩
        rw [List.getElem?_append_left (by rw [lxs_len, List.length_map]; exact il), ← em]
        exact lxs_at (by rw [List.getElem?_map, hi]; rfl)
    · rw [if_neg c, List.append_nil]
      exact ih
/-- those below a depth keep their rows -/
theorem LeastR.deep {ls : List Lmp} {rs : List Int} {sp d : Int} (h : LeastR (lxs ls) sp rs) (hl : rs.length = ls.length) : LeastR (lxs ((deepL ls rs d).map (·.1))) sp ((deepL ls rs d).map (·.2)) := by
  have := deep_go (d := d) h hl ls.length (Nat.le_refl _)
  rw [List.take_length, show rs.take ls.length = rs by rw [← hl, List.take_length]] at this
  exact this
theorem zip_fst {α β : Type} : ∀ {xs : List α} {ys : List β}, ys.length = xs.length → (List.zip xs ys).map (·.1) = xs
  | [], _, _ => by simp
  | x :: xs, y :: ys, h => by
    rw [List.zip_cons_cons, List.map_cons, zip_fst (by simpa using h)]
  | x :: xs, [], h => by simp at h
end DV
namespace DV
open PySem PySem.Spec PyProof.Rows L2
open LamX (ExtN TabS Tabs CodeO)
inductive Mi
  | d (x : PyData)
  | l (xs : List PyData)
inductive MP : List Mi → List V → List Pin → Prop
  | nil : MP [] [] []
  | d {ms : List Mi} {vs : List V} {ps : List Pin} {x : PyData} {v : V} (h : MP ms vs ps) : MP (.d x :: ms) (v :: vs) (.val v (.d x) :: ps)
  | l {ms : List Mi} {vs : List V} {ps : List Pin} {xs : List PyData} {p : Addr} (h : MP ms vs ps) : MP (.l xs :: ms) (.ref p :: vs) (.acc p xs :: ps)
theorem MP.len {ms : List Mi} {vs : List V} {ps : List Pin} (h : MP ms vs ps) : vs.length = ms.length := by
  induction h with
  | nil => rfl
  | d h ih => simp [ih]
  | l h ih => simp [ih]
section
variable {F : Fm} {ρ : Rho} {σ : L2.St} {H : Hp}
theorem accs_permL {ps qs : List Pin} (h : ps.Perm qs) : (accs ps).Perm (accs qs) := by
  induction h with
  | nil => exact .nil
  | cons x _ ih => cases x with
    | val v r => exact ih
    | acc a xs => exact ih.cons a
    | frz a o => exact ih
  | swap x y l => cases x <;> cases y <;> simp only [accs] <;> first | exact List.Perm.refl _ | exact .swap ..
  | trans _ _ h1 h2 => exact h1.trans h2
theorem Ok.perm {ps qs : List Pin} (O : Ok F ps ρ σ H) (hp : ps.Perm qs) : Ok F qs ρ σ H := by
  have e : Av F qs ρ σ = Av F ps ρ σ := by
    funext a
    unfold Av
    rw [accs_perm hp]
  exact ⟨O.len, by rw [e]; exact O.ent, O.own, fun r hr => by rw [e]; exact O.pin r (hp.mem_iff.mpr hr), (accs_permL hp).nodup_iff.mp O.acs, O.fr, O.nh, O.ln, O.h0, O.lf, O.tb⟩
def setM : List Nat → List Mi → Rho → Rho
  | i :: is, .d x :: ms, ρ => setM is ms (ρ.set i (some (.d x)))
  | i :: is, .l xs :: ms, ρ => setM is ms (ρ.set i (some (.own xs)))
  | _, _, ρ => ρ
end
abbrev TDM := Rho → (List Mi → Rho → Prop) → Prop
section
variable {X : Cx} {F : Fm} {e : Expr} {es : List Expr} {te : TE} {ta : TA} {de : TDE} {dl : TDL} {dm : TDM}
def dmNil : TDM := fun ρ Q => Q [] ρ
def dmD (de : TDE) (dm : TDM) : TDM := fun ρ Q => de ρ fun r ρ1 => onDat r fun x => dm ρ1 fun ms ρ2 => Q (.d x :: ms) ρ2
def dmL (dl : TDL) (dm : TDM) : TDM := fun ρ Q => dl ρ fun xs ρ1 => dm ρ1 fun ms ρ2 => Q (.l xs :: ms) ρ2
/-- the names at is take them -/
def dParM (is : List Nat) (dm : TDM) : TDS := fun DD ρ => dm ρ fun ms ρ1 => ms.length = is.length ∧ DD.nx (setM is ms ρ1)
end
end DV
namespace DV
open PySem PySem.Spec PyProof.Rows L2
open LamX (ExtN TabS Tabs CodeO)
def eTm (p : Int × Int) (s : Scn) : PyData := .tuple [.int p.1, .int p.2, .int (p.2 + s.tk), .int (p.2 + s.tk + s.hd)]
/-- a picture of small numbers -/
structure LmB (l : Lmp) : Prop where
  x0 : -100 ≤ l.x
  x1 : l.x ≤ 100
  z0 : -100 ≤ l.z
  z1 : l.z ≤ 100
  w0 : 0 ≤ l.w
  w1 : l.w ≤ 100
  s0 : l.sh ≠ []
  s1 : l.sh.length ≤ 4
  st : ∀ t ∈ l.sh, okd (.str t) = true ∧ t.length ≤ 12
structure ShwB (w : Shw) : Prop where
  ok : BnOk w.b
  np : w.pads.length ≤ 8
  ip : ∀ p ∈ w.pads, Inb 9800 p
  ns : w.sc.length ≤ 4
  tk : ∀ s ∈ w.sc, 1 ≤ s.tk ∧ w.b.lag ≤ s.tk ∧ s.tk ≤ 20000
  hd : ∀ s ∈ w.sc, 0 ≤ s.hd ∧ s.hd ≤ 1000
  pc : ∀ s ∈ w.sc, PicL s.ls ∧ s.ls.length ≤ 8 ∧ ∀ l ∈ s.ls, LmB l
  f0 : 0 ≤ w.full
  f1 : w.full ≤ 1000000
  h0 : 0 ≤ w.hold
  h1 : w.hold ≤ 2
  y0 : 1 ≤ w.fly
  y1 : w.fly ≤ 3
theorem on6 {a b c d e f' x : PyData} {xs : List PyData} {f : PyData → Prop} : onAt (a :: b :: c :: d :: e :: f' :: x :: xs) 6 f = f x := on_nat (n := 6) rfl
theorem on7 {a b c d e f' g x : PyData} {xs : List PyData} {f : PyData → Prop} : onAt (a :: b :: c :: d :: e :: f' :: g :: x :: xs) 7 f = f x := on_nat (n := 7) rfl
theorem on8 {a b c d e f' g h x : PyData} {xs : List PyData} {f : PyData → Prop} : onAt (a :: b :: c :: d :: e :: f' :: g :: h :: x :: xs) 8 f = f x := on_nat (n := 8) rfl
def seatsP (ls : List Lmp) (rs : List Int) (sp : Int) : List P2 := (List.zip ls rs).map fun p => (p.1.x, p.2 * sp)
theorem seatsP_len {ls : List Lmp} {rs : List Int} {sp : Int} : (seatsP ls rs sp).length ≤ ls.length := by
  unfold seatsP
  rw [List.length_map, List.length_zip]
  exact Nat.min_le_left _ _
/-- a column at which carriers may stand behind the scene k -/
def StandsAt (w : Shw) (k : Int) (p : P2) : Prop := p ∈ w.pads ∨ ∃ (i : Nat) (s : Scn) (rs : List Int), k = i ∧ w.sc[i]? = some s ∧ LeastR (lxs s.ls) w.b.sp rs ∧ rs.length = s.ls.length ∧ p ∈ seatsP s.ls rs w.b.sp
theorem standsAt_sc {w : Shw} {k : Nat} {p : P2} {s : Scn} {rs : List Int} (h : w.sc[k]? = some s) (l : LeastR (lxs s.ls) w.b.sp rs) (lr : rs.length = s.ls.length) : StandsAt w k p ↔ p ∈ w.pads ++ seatsP s.ls rs w.b.sp := by
  rw [List.mem_append]
  constructor
  · rintro (h2 | ⟨i, s2, rs2, e, h3, l2, lr2, h4⟩)
    · exact .inl h2
    · have : k = i := by omega
      subst this
      rw [h] at h3
      cases h3
      rw [LeastR.unique l l2 (by rw [lr, lxs_len]) (by rw [lr2, lxs_len])]
      exact .inr h4
  · rintro (h2 | h2)
    · exact .inl h2
    · exact .inr ⟨k, s, rs, rfl, h, l, lr, h2⟩
structure StandsL (w : Shw) (k : Int) (qs : List Pr) : Prop where
  mem : ∀ p, StandsAt w k p ↔ p ∈ qs
  nd : qs.Nodup
  up : qs.Pairwise lle
theorem lle_anti {p q : Pr} (h : lle p q) (k : lle q p) : p = q := by
  unfold lle at h k
  exact Prod.ext (by omega) (by omega)
theorem up_unique : ∀ {qs rs : List Pr}, qs.Nodup → rs.Nodup → qs.Pairwise lle → rs.Pairwise lle → (∀ p, p ∈ qs ↔ p ∈ rs) → qs = rs
  | [], [], _, _, _, _, _ => rfl
  | [], r :: rs, _, _, _, _, h => nomatch (h r).mpr (List.mem_cons_self ..)
  | q :: qs, [], _, _, _, _, h => nomatch (h q).mp (List.mem_cons_self ..)
  | q :: qs, r :: rs, n1, n2, u1, u2, h => by
    rw [List.nodup_cons] at n1 n2
    rw [List.pairwise_cons] at u1 u2
    have e : q = r := by
      rcases List.mem_cons.mp ((h q).mp (List.mem_cons_self ..)) with e | e
      · exact e
      · rcases List.mem_cons.mp ((h r).mpr (List.mem_cons_self ..)) with e2 | e2
        · exact e2.symm
        · exact lle_anti (u1.1 r e2) (u2.1 q e)
    subst e
    rw [up_unique n1.2 n2.2 u1.2 u2.2 fun p => ?_]
    constructor
    · intro hp
      rcases List.mem_cons.mp ((h p).mp (List.mem_cons_of_mem _ hp)) with e | e
      · exact absurd (e ▸ hp) n1.1
      · exact e
    · intro hp
      rcases List.mem_cons.mp ((h p).mpr (List.mem_cons_of_mem _ hp)) with e | e
      · exact absurd (e ▸ hp) n2.1
      · exact e
theorem StandsL.unique {w : Shw} {k : Int} {qs rs : List Pr} (h : StandsL w k qs) (h2 : StandsL w k rs) : qs = rs := up_unique h.nd h2.nd h.up h2.up fun p => (h.mem p).symm.trans (h2.mem p)
end DV
namespace DV
open PySem PySem.Spec PyProof.Rows L2
open LamX (ExtN TabS Tabs CodeO)
section
variable {ρ : Rho} {n : Nat} {gs : List PyData → Rho → (Rho → Prop) → Prop} {P : Rho → Prop}
theorem items_l {xs : List PyData} : items ρ (.d (.list xs)) = some xs := rfl
theorem items_t {xs : List PyData} : items ρ (.d (.tuple xs)) = some xs := rfl
theorem items_o {i : Nat} : items ρ (.o i) = match ρ[i]? with
    | some (some (.own xs)) => some xs
    | some (some (.ro (.list xs))) => some xs
    | some (some (.ro (.tuple xs))) => some xs
    | some (some (.d (.list xs))) => some xs
    | some (some (.d (.tuple xs))) => some xs
    | _ => none := rfl
theorem ti_t {xs : List PyData} : titems (.d (.tuple xs)) = some xs := rfl
theorem dgT_t {k : Nat} {xs : List PyData} : dgTup k gs (.d (.tuple xs)) ρ P = (xs.length = k ∧ gs xs ρ P) := rfl
theorem seqs_l {xs : List PyData} : seqs ρ (.d (.list xs)) = some (false, xs) := rfl
theorem seqs_t {xs : List PyData} : seqs ρ (.d (.tuple xs)) = some (true, xs) := rfl
theorem seqs_o {i : Nat} : seqs ρ (.o i) = match ρ[i]? with
    | some (some (.ro (.list xs))) => some (false, xs)
    | some (some (.ro (.tuple xs))) => some (true, xs)
    | _ => none := rfl
/-- what is walked -/
def walkR (r : R) (ρ1 : Rho) (Q : List PyData → Rho → Prop) : Prop := match r with
  | .d (.list xs) => Q xs ρ1
  | .d (.tuple xs) => Q xs ρ1
  | .o i => match ρ1[i]? with
    | some (some (.ro (.list xs))) => Q xs ρ1
    | some (some (.ro (.tuple xs))) => Q xs ρ1
    | _ => False
  | _ => False
theorem dSeqI_eq {te : TDE} : dSeqI te = fun ρ Q => te ρ fun r ρ1 => walkR r ρ1 Q := rfl
theorem wk_l {xs : List PyData} {Q : List PyData → Rho → Prop} : walkR (.d (.list xs)) ρ Q = Q xs ρ := rfl
theorem wk_t {xs : List PyData} {Q : List PyData → Rho → Prop} : walkR (.d (.tuple xs)) ρ Q = Q xs ρ := rfl
theorem wk_eP {ls : List Lmp} {Q : List PyData → Rho → Prop} : walkR (.d (eP ls)) ρ Q = Q (ls.map eLm) ρ := rfl
theorem wk_o {i : Nat} {Q : List PyData → Rho → Prop} : walkR (.o i) ρ Q = match ρ[i]? with
    | some (some (.ro (.list xs))) => Q xs ρ
    | some (some (.ro (.tuple xs))) => Q xs ρ
    | _ => False := rfl
/-- tuple(xs) -/
def tupR (rs : List R) (ρ1 : Rho) (Q : R → Rho → Prop) : Prop := match rs with
  | [.d (.tuple xs)] => Q (.d (.tuple xs)) ρ1
  | [r] => onL ρ1 r fun xs => Q (.d (.tuple xs)) ρ1
  | _ => False
theorem dTupOf_eq {t : TDA} : dTupOf t = fun ρ Q => t ρ fun rs ρ1 => tupR rs ρ1 Q := rfl
theorem tu_t {xs : List PyData} {Q : R → Rho → Prop} : tupR [.d (.tuple xs)] ρ Q = Q (.d (.tuple xs)) ρ := rfl
theorem tu_l {xs : List PyData} {Q : R → Rho → Prop} : tupR [.d (.list xs)] ρ Q = Q (.d (.tuple xs)) ρ := rfl
theorem tu_o {i : Nat} {Q : R → Rho → Prop} : tupR [.o i] ρ Q = onL ρ (.o i) fun xs => Q (.d (.tuple xs)) ρ := rfl
theorem tu_eP {ls : List Lmp} {Q : R → Rho → Prop} : tupR [.d (eP ls)] ρ Q = Q (.d (eP ls)) ρ := rfl
theorem items_eW {w : Shw} : items ρ (.d (eW w)) = some [eB w.b, .tuple (w.pads.map enc2), .tuple [.int w.full, .int w.hold, .int w.fly], .tuple (w.sc.map eSc)] := rfl
theorem items_eB {b : Bn} : items ρ (.d (eB b)) = some [.int b.sp, .int b.near, .int b.wind, .int b.clk, .int b.fall, .int b.way, .int b.sil, .int b.cuts, .int b.deep] := rfl
theorem items_eSc {s : Scn} : items ρ (.d (eSc s)) = some [.int s.tk, .int s.hd, eP s.ls] := rfl
theorem items_eLm {l : Lmp} : items ρ (.d (eLm l)) = some [.int l.x, .int l.z, .tuple (l.sh.map .str), .int l.w] := rfl
theorem items_eP {ls : List Lmp} : items ρ (.d (eP ls)) = some (ls.map eLm) := rfl
theorem items_eL {l : Lg} : items ρ (.d (eL l)) = some [pr l.ax l.ay, pr l.bx l.by'] := rfl
theorem items_pr {a b : Int} : items ρ (.d (pr a b)) = some [.int a, .int b] := rfl
theorem items_enc2 {p : P2} : items ρ (.d (enc2 p)) = some [.int p.1, .int p.2] := rfl
theorem items_eTm {p : Int × Int} {s : Scn} : items ρ (.d (eTm p s)) = some [.int p.1, .int p.2, .int (p.2 + s.tk), .int (p.2 + s.tk + s.hd)] := rfl
theorem ti_eB {b : Bn} : titems (.d (eB b)) = some [.int b.sp, .int b.near, .int b.wind, .int b.clk, .int b.fall, .int b.way, .int b.sil, .int b.cuts, .int b.deep] := rfl
theorem ti_eW {w : Shw} : titems (.d (eW w)) = some [eB w.b, .tuple (w.pads.map enc2), .tuple [.int w.full, .int w.hold, .int w.fly], .tuple (w.sc.map eSc)] := rfl
theorem ti_eLm {l : Lmp} : titems (.d (eLm l)) = some [.int l.x, .int l.z, .tuple (l.sh.map .str), .int l.w] := rfl
theorem ti_eP {ls : List Lmp} : titems (.d (eP ls)) = some (ls.map eLm) := rfl
theorem dgT_eSc {s : Scn} : dgTup 3 gs (.d (eSc s)) ρ P = gs [.int s.tk, .int s.hd, eP s.ls] ρ P := by simp [dgTup, eSc]
theorem dgT_eLm {l : Lmp} : dgTup 4 gs (.d (eLm l)) ρ P = gs [.int l.x, .int l.z, .tuple (l.sh.map .str), .int l.w] ρ P := by simp [dgTup, eLm]
theorem dgT_eL {l : Lg} : dgTup 2 gs (.d (eL l)) ρ P = gs [pr l.ax l.ay, pr l.bx l.by'] ρ P := by simp [dgTup, eL]
theorem dgT_pr {a b : Int} : dgTup 2 gs (.d (pr a b)) ρ P = gs [.int a, .int b] ρ P := by simp [dgTup, pr]
theorem dgT_enc2 {p : P2} : dgTup 2 gs (.d (enc2 p)) ρ P = gs [.int p.1, .int p.2] ρ P := by simp [dgTup, enc2, pr]
theorem dgT_eW {w : Shw} : dgTup 4 gs (.d (eW w)) ρ P = gs [eB w.b, .tuple (w.pads.map enc2), .tuple [.int w.full, .int w.hold, .int w.fly], .tuple (w.sc.map eSc)] ρ P := by simp [dgTup, eW]
theorem dgT_eTm {p : Int × Int} {s : Scn} : dgTup 4 gs (.d (eTm p s)) ρ P = gs [.int p.1, .int p.2, .int (p.2 + s.tk), .int (p.2 + s.tk + s.hd)] ρ P := by simp [dgTup, eTm]
theorem seqs_eP {ls : List Lmp} : seqs ρ (.d (eP ls)) = some (true, ls.map eLm) := rfl
theorem dOp_ap {f : F2} {ta tb : TDE} {Q : R → Rho → Prop} : dOp f ta tb ρ Q = ta ρ fun r ρ1 => tb ρ1 fun s ρ2 => onV2 ρ2 r s fun x y => f x y fun z => Q (.d z) ρ2 := rfl
theorem dIx_ap {ta tb : TDE} {Q : R → Rho → Prop} : dIx ta tb ρ Q = ta ρ fun r ρ1 => tb ρ1 fun s ρ2 => onItems ρ2 r fun xs => onInt ρ2 s fun k => onAt xs k fun y => Q (.d y) ρ2 := rfl
theorem dCatT_ap {ta tb : TDE} {Q : R → Rho → Prop} : dCatT ta tb ρ Q = ta ρ fun r ρ1 => tb ρ1 fun s ρ2 => onT r fun xs => onT s fun ys => Few (xs.length + ys.length) ∧ Q (.d (.tuple (xs ++ ys))) ρ2 := rfl
theorem dRepT_ap {ta tb : TDE} {Q : R → Rho → Prop} : dRepT ta tb ρ Q = ta ρ fun r ρ1 => tb ρ1 fun s ρ2 => onT r fun xs => onInt ρ2 s fun k => (xs ≠ [] ∧ 1 ≤ k ∧ k ≤ 1000 ∧ xs.length ≤ 1000) ∧ Q (.d (.tuple (repD k xs))) ρ2 := rfl
end
end DV
namespace PySem
open Sem (wp)
open AutoSeq1
end PySem
namespace DV
open PySem PySem.Spec PyProof.Rows L2
open LamX (ExtN TabS Tabs CodeO)
section
variable {X : Cx} {F : Fm} {e : Expr} {i : Nat} {x : Str} {vpos apos cpos : Pos} {t : TA} {d : TDA}
def dExtendT (i : Nat) (t : TDA) : TDE := fun ρ Q => onOwn ρ i fun _ => t ρ fun rs ρ1 => match rs with
  | [r] => onT r fun zs => onOwn ρ1 i fun xs => Few (xs.length + zs.length) ∧ Q (.d .none) (ρ1.set i (some (.own (xs ++ zs))))
  | _ => False
end
def rgDn (a : Int) (n : Nat) : List PyData := (List.range n).map fun k : Nat => PyData.int (a - (k : Nat))
section
variable {X : Cx} {F : Fm} {a b c : Expr} {t : TA} {d : TDA} {pos p p2 pos2 : Pos}
def dLstDn (t : TDA) : TDL := fun ρ Q => t ρ fun rs ρ1 => match rs with
  | [.d (.int i), .d (.int j), .d (.int k)] => k = -1 ∧ (-(2 ^ 62) ≤ i ∧ i < 2 ^ 62 ∧ -(2 ^ 62) ≤ j ∧ j < 2 ^ 62 ∧ (i - j).toNat ≤ 2 ^ 24) ∧ Q (rgDn i (i - j).toNat) ρ1
  | _ => False
end
end DV
namespace DV
open PySem PySem.Spec PyProof.Rows L2
open LamX (ExtN TabS Tabs CodeO)
def Bn.plain (b : Bn) : Bn := { b with near := 1, wind := 0, clk := 0, fall := 0 }
theorem eqv_nilL (ns : List Int) : PyData.eqv (.list (ns.map .int)) (.list []) = decide (ns = []) := by
  cases ns with
  | nil => rfl
  | cons a ns => rfl
/-- pads side by side -/
structure PadsI (sp wd hi : Int) (i : Nat) (ps : List P2) : Prop where
  len : ps.length = i
  at' : ∀ (k : Nat) (p : P2), ps[k]? = some p → p.1 = k * wd ∧ hi ≤ p.2 ∧ p.2 ≤ hi + sp
theorem PadsI.nil {sp wd hi : Int} : PadsI sp wd hi 0 [] := ⟨rfl, fun k p h => by simp at h⟩
theorem PadsI.snoc {sp wd hi y : Int} {i : Nat} {ps : List P2} (h : PadsI sp wd hi i ps) (h0 : hi ≤ y) (h1 : y ≤ hi + sp) : PadsI sp wd hi (i + 1) (ps ++ [(i * wd, y)]) := by
  refine ⟨by rw [List.length_append, h.len]; rfl, fun k p hp => ?_⟩
  by_cases e : k < ps.length
  · rw [List.getElem?_append_left e] at hp
    exact h.at' k p hp
  · rw [List.getElem?_append_right (by omega)] at hp
    have : k = i := by
      have := (List.getElem?_eq_some_iff.mp hp).1
      rw [List.length_singleton] at this
      have := h.len
      omega
    subst this
    rw [h.len, Nat.sub_self] at hp
    cases hp
    exact ⟨rfl, h0, h1⟩
theorem PadsI.up {sp wd hi : Int} {i : Nat} {ps : List P2} (h : PadsI sp wd hi i ps) (h0 : 1 ≤ wd) : ps.Pairwise fun p q => p.1 < q.1 := by
  rw [List.pairwise_iff_getElem]
  intro a b ha hb hab
  have e1 := (h.at' a _ (List.getElem?_eq_getElem ha)).1
  have e2 := (h.at' b _ (List.getElem?_eq_getElem hb)).1
  rw [e1, e2]
  exact Int.mul_lt_mul_of_pos_right (by omega) (by omega)
end DV
namespace DV
open PySem PySem.Spec PyProof.Rows L2
open LamX (ExtN TabS Tabs CodeO)
theorem LeastR.le {xs rs : List Int} {sp : Int} (h : LeastR xs sp rs) (hl : rs.length = xs.length) {j : Nat} {r : Int} (hr : rs[j]? = some r) : 0 ≤ r ∧ r ≤ j := by
  have jl := (List.getElem?_eq_some_iff.mp hr).1
  have hb := List.getElem?_eq_getElem (show j < xs.length by omega)
  obtain ⟨h0, _, h2⟩ := h j r _ hr hb
  refine ⟨h0, ?_⟩
  have := nodup_le (xs := (List.range r.toNat).map fun i : Nat => (i : Int)) (ys := rs.take j) (by
    rw [List.Nodup, List.pairwise_map]
    exact List.Pairwise.imp (fun {a b} hne e => hne (by omega)) List.nodup_range) fun x hx => by
    obtain ⟨i, hi, rfl⟩ := List.mem_map.mp hx
    have := List.mem_range.mp hi
    obtain ⟨k, a, hk, _, hq, _⟩ := h2 i (by omega) (by omega)
    exact List.mem_iff_getElem?.mpr ⟨k, by rw [List.getElem?_take_of_lt hk]; exact hq⟩
  rw [List.length_map, List.length_range, List.length_take] at this
  omega
theorem seatsP_in {ls : List Lmp} {rs : List Int} {sp : Int} (h : LeastR (lxs ls) sp rs) (hl : rs.length = ls.length) (ll : ls.length ≤ 8) (sp0 : 0 ≤ sp) (sp1 : sp ≤ 100) (hb : ∀ l ∈ ls, LmB l) : ∀ p ∈ seatsP ls rs sp, Inb 9800 p ∧ 0 ≤ p.2 := by
  intro p hp
  unfold seatsP at hp
  obtain ⟨⟨l, r⟩, hm, rfl⟩ := List.mem_map.mp hp
  obtain ⟨j, hj⟩ := List.mem_iff_getElem?.mp hm
  obtain ⟨j1, j2⟩ := List.getElem?_zip_eq_some.mp hj
  obtain ⟨r0, r1⟩ := h.le (by rw [hl, lxs_len]) j2
  have jl := (List.getElem?_eq_some_iff.mp j1).1
  have b := hb l (List.mem_of_getElem? j1)
  have := b.x0
  have := b.x1
  have q0 : 0 ≤ r * sp := Int.mul_nonneg r0 sp0
  have q1 : r * sp ≤ 8 * 100 := Int.mul_le_mul (by omega) sp1 sp0 (by decide)
  unfold Inb
  dsimp only
  omega
theorem StandsL.few {w : Shw} {k : Int} {qs : List Pr} (h : StandsL w k qs) (hw : ShwB w) : qs.length ≤ 16 ∧ ∀ p ∈ qs, Inb 9800 p := by
  have ok := hw.ok
  have sp0 := ok.sp0
  have sp1 := ok.sp1
  have inb : ∀ p ∈ qs, Inb 9800 p := fun p hp => by
    rcases (h.mem p).mpr hp with q | ⟨i, s, rs, _, hs, l, lr, q⟩
    · exact hw.ip p q
    · obtain ⟨_, p1, p2⟩ := hw.pc s (List.mem_of_getElem? hs)
      exact (seatsP_in l lr p1 (by omega) sp1 p2 p q).1
  refine ⟨?_, inb⟩
  have np := hw.np
  by_cases c : ∃ (i : Nat) (s : Scn) (rs : List Int), k = i ∧ w.sc[i]? = some s ∧ LeastR (lxs s.ls) w.b.sp rs ∧ rs.length = s.ls.length
  · obtain ⟨i, s, rs, rfl, hs, l, lr⟩ := c
    have := nodup_le (ys := w.pads ++ seatsP s.ls rs w.b.sp) h.nd fun p hp => (standsAt_sc hs l lr).mp ((h.mem p).mpr hp)
    have := seatsP_len (ls := s.ls) (rs := rs) (sp := w.b.sp)
    obtain ⟨_, p1, _⟩ := hw.pc s (List.mem_of_getElem? hs)
    rw [List.length_append] at *
    omega
  · have := nodup_le (ys := w.pads) h.nd fun p hp => by
      rcases (h.mem p).mpr hp with q | ⟨i, s, rs, e, hs, l, lr, _⟩
      · exact q
      · exact absurd ⟨i, s, rs, e, hs, l, lr⟩ c
    omega
theorem StandsL.fn {w : Shw} {k : Int} {qs : List Pr} (h : StandsL w k qs) (hw : ShwB w) : Fn 2 50000 (.tuple (qs.map encP)) := by
  obtain ⟨h1, h2⟩ := h.few hw
  refine (Fn.tuple (k := 1) (c := 2009) (n := 16) (Fn.map fun p hp => ?_) (by rw [List.length_map]; exact h1)).up (by decide) (by decide)
  obtain ⟨_, _, _, _⟩ := h2 p hp
  exact Fn.tuple (k := 0) (c := 1001) (n := 2) (all2 (Fn.int (bd_of 1000000 (by omega) (by omega) (k := 20))) (Fn.int (bd_of 1000000 (by omega) (by omega) (k := 20)))) (by simp)
end DV
namespace DV
open PySem PySem.Spec PyProof.Rows L2
open LamX (ExtN TabS Tabs CodeO TabB)
open NdefX (NF NScope CellsAt Caps ncx startF envF slotAt)
end DV
namespace DV
open PySem PySem.Spec PyProof.Rows L2
open LamX (ExtN TabS Tabs CodeO TabB)
open NdefX (NF NScope CellsAt Caps ncx startF envF slotAt)
end DV
namespace DV
open PySem PySem.Spec PyProof.Rows L2
open LamX (ExtN TabS Tabs CodeO TabB)
end DV
namespace DV
open PySem PySem.Spec PyProof.Rows L2
end DV
namespace DV
open PySem PySem.Spec PyProof.Rows L2
end DV
namespace DV
open PySem PySem.Spec PyProof.Rows L2
open scoped Rat
end DV
namespace DV
open PySem PySem.Spec PyProof.Rows L2
def clB (cs : List P2) (r : Int) (i j : Nat) : Bool := match cs[i]?, cs[j]? with
  | some p, some q => decide (d2 p q < r * r)
  | _, _ => false
def rowTo (cs : List P2) (r : Int) (i m : Nat) : List (Nat × Nat) := ((List.range m).map fun k => (i, i + 1 + k)).filter fun p => clB cs r p.1 p.2
def rowsTo (cs : List P2) (r : Int) (i : Nat) : List (Nat × Nat) := (List.range i).flatMap fun k => rowTo cs r k (cs.length - (k + 1))
end DV
namespace DV
open PySem PySem.Spec PyProof.Rows L2
end DV
namespace DV
open PySem PySem.Spec PyProof.Rows L2
theorem LeastR.has {xs rs : List Int} {sp : Int} (h : LeastR xs sp rs) (hl : rs.length = xs.length) (up : UpL xs) (sp0 : 1 ≤ sp) {j : Nat} {r b : Int} (hr : rs[j]? = some r) (hb : xs[j]? = some b) : HasC xs sp (r.toNat + 1) := by
  obtain ⟨r0, _, hs⟩ := h j r b hr hb
  refine ⟨b - sp + 1, ?_⟩
  let zs := (List.zip xs rs).filter fun p => decide (b - sp + 1 ≤ p.1 ∧ p.1 < b - sp + 1 + sp)
  have e : (zs.map (·.1)) = win xs sp (b - sp + 1) := by
    show (((List.zip xs rs).filter fun p => decide (b - sp + 1 ≤ p.1 ∧ p.1 < b - sp + 1 + sp)).map (·.1)) = xs.filter _
    have := List.filter_map (f := (fun p : Int × Int => p.1)) (p := fun x => decide (b - sp + 1 ≤ x ∧ x < b - sp + 1 + sp)) (l := List.zip xs rs)
    rw [List.map_fst_zip (by rw [hl]; exact Nat.le_refl _)] at this
    rw [this]; rfl
  rw [← e, List.length_map, ← List.length_map (f := fun p : Int × Int => p.2)]
  have inz : ∀ (i : Nat) (a q : Int), xs[i]? = some a → rs[i]? = some q → b - a < sp → a ≤ b → q ∈ zs.map (·.2) := fun i a q e1 e2 lt le => by
    refine List.mem_map.mpr ⟨(a, q), List.mem_filter.mpr ⟨?_, decide_eq_true ⟨by show b - sp + 1 ≤ a; omega, by show a < b - sp + 1 + sp; omega⟩⟩, rfl⟩
    exact List.mem_of_getElem? (i := i) (by rw [List.getElem?_zip_eq_some]; exact ⟨e1, e2⟩)
  have key := nodup_le (xs := (List.range (r.toNat + 1)).map fun k : Nat => (k : Int)) (ys := zs.map (·.2)) ?_ ?_
  · rw [List.length_map, List.length_range] at key
    exact key
  · unfold List.Nodup
    rw [List.pairwise_map]
    exact List.Pairwise.imp (fun {a b} h e => by omega) (List.pairwise_lt_range)
  · intro x hx
    obtain ⟨k, hk, rfl⟩ := List.mem_map.mp hx
    have hk := List.mem_range.mp hk
    by_cases c : (k : Int) = r
    · rw [c]
      exact inz j b r hb hr (by omega) (Int.le_refl _)
    · obtain ⟨i, a, ij, e1, e2, lt⟩ := hs k (by omega) (by omega)
      exact inz i a k e1 e2 lt (up.at (Nat.le_of_lt ij) e1 hb)
theorem LeastR.col {xs rs : List Int} {sp : Int} (h : LeastR xs sp rs) (hl : rs.length = xs.length) {n : Nat} (hn : ∀ r ∈ rs, r < n) : ColL xs sp n rs := by
  refine ⟨hl, fun r hr => ?_, fun i j a b p q ij e1 e2 e3 e4 lt => ?_⟩
  · obtain ⟨j, hj⟩ := List.mem_iff_getElem?.mp hr
    have jl := (List.getElem?_eq_some_iff.mp hj).1
    exact ⟨(h j r _ hj (List.getElem?_eq_getElem (by omega))).1, hn r hr⟩
  · exact (h j q b e4 e2).2.1 i a p ij e1 e3 lt
end DV
namespace DV
open PySem PySem.Spec PyProof.Rows L2
open LamX (ExtN TabS Tabs CodeO)
section
variable {X : Cx} {F : Fm} {e e2 a b c : Expr} {te te2 ta tb tc : TE} {de de2 da db dc : TDE} {pos p : Pos}
def fInA : F2
  | x, .list ds, Q => (SeqAt.shaped x = true ∧ SeqAt.shaped (.list ds) = true) ∧ Q (.bool (ds.any fun z => PyData.eqv z x))
  | x, .tuple ds, Q => (SeqAt.shaped x = true ∧ SeqAt.shaped (.tuple ds) = true) ∧ Q (.bool (ds.any fun z => PyData.eqv z x))
  | _, _, _ => False
theorem fInA_l {x : PyData} {ds : List PyData} {Q : PyData → Prop} : fInA x (.list ds) Q = ((SeqAt.shaped x = true ∧ SeqAt.shaped (.list ds) = true) ∧ Q (.bool (ds.any fun z => PyData.eqv z x))) := rfl
theorem fInA_t {x : PyData} {ds : List PyData} {Q : PyData → Prop} : fInA x (.tuple ds) Q = ((SeqAt.shaped x = true ∧ SeqAt.shaped (.tuple ds) = true) ∧ Q (.bool (ds.any fun z => PyData.eqv z x))) := rfl
def rNotInA (K : PySem.W.Frag) : R2 := fun x y H Q => ∃ d ds, Dp K H x d ∧ (Dp K H y (.list ds) ∨ Dp K H y (.tuple ds)) ∧ SeqAt.shaped d = true ∧ PyData.canLayAll0 ds = true ∧ Q (.bl (!ds.any fun z => PyData.eqv z d)) H
theorem op_NotInA (hu : X.A.units + 65 < cLine) : OpR X (compareOp .NotIn) (rNotInA X.K) := by
  intro pins s σ H x y v u Q I rx ry h
  obtain ⟨d, ds, hd, he | he, sd, se, q⟩ := h
  · obtain ⟨as, r1⟩ := Dp.reads I d x v hd rx
    obtain ⟨bs, r2⟩ := Dp.reads I (.list ds) y u he ry
    exact SeqAt.notIn_list_reads r2 r1 se (SeqAt.canLay_of_shaped sd) (room_in_shaped sd hu) ⟨.bl _, H, I, rfl, q⟩
  · obtain ⟨as, r1⟩ := Dp.reads I d x v hd rx
    obtain ⟨bs, r2⟩ := Dp.reads I (.tuple ds) y u he ry
    exact SeqAt.notIn_tuple_reads r2 r1 se (SeqAt.canLay_of_shaped sd) (room_in_shaped sd hu) ⟨.bl _, H, I, rfl, q⟩
def fNotInA : F2
  | x, .list ds, Q => (SeqAt.shaped x = true ∧ SeqAt.shaped (.list ds) = true) ∧ Q (.bool (!ds.any fun z => PyData.eqv z x))
  | x, .tuple ds, Q => (SeqAt.shaped x = true ∧ SeqAt.shaped (.tuple ds) = true) ∧ Q (.bool (!ds.any fun z => PyData.eqv z x))
  | _, _, _ => False
theorem so_NotInA {K : PySem.W.Frag} : SO K (rNotInA K) fNotInA := by
  constructor
  · intro H x y dx dy Q h1 h2 q
    cases dy <;> first | exact q.elim | skip
    · exact ⟨dx, _, h1, .inl h2, q.1.1, SeqAt.canLay_of_shaped q.1.2, q.2 _ .bool⟩
    · exact ⟨dx, _, h1, .inr h2, q.1.1, SeqAt.canLay_of_shaped q.1.2, q.2 _ .bool⟩
  · intro x y Q Q' hq q
    cases y <;> first | exact q.elim | skip
    · exact ⟨q.1, hq _ q.2⟩
    · exact ⟨q.1, hq _ q.2⟩
theorem pt_notinA (hu : X.A.units + 65 < cLine) (hK : X.K = F.K) (ha : PD X F a ta da) (hb : PD X F b tb db) (hm : behindInMarks .NotIn b = false := by rfl) : PDT X F (.Compare a [.NotIn] [b] pos) (tTest (tOp (rNotInA F.K) ta tb)) (dTV (dOp fNotInA da db)) :=
  pt_cmpD (by rw [← hK]; exact op_NotInA hu) hm so_NotInA ha hb
theorem fNotInA_l {x : PyData} {ds : List PyData} {Q : PyData → Prop} : fNotInA x (.list ds) Q = ((SeqAt.shaped x = true ∧ SeqAt.shaped (.list ds) = true) ∧ Q (.bool (!ds.any fun z => PyData.eqv z x))) := rfl
theorem fNotInA_t {x : PyData} {ds : List PyData} {Q : PyData → Prop} : fNotInA x (.tuple ds) Q = ((SeqAt.shaped x = true ∧ SeqAt.shaped (.tuple ds) = true) ∧ Q (.bool (!ds.any fun z => PyData.eqv z x))) := rfl
def tupA (rs : List R) (ρ1 : Rho) (Q : R → Rho → Prop) : Prop := match rs with
  | [.d (.tuple xs)] => Q (.d (.tuple xs)) ρ1
  | [.o i] => match ρ1[i]? with
    | some (some (.ro (.tuple xs))) => Q (.d (.tuple xs)) ρ1
    | _ => onL ρ1 (.o i) fun xs => Q (.d (.tuple xs)) ρ1
  | [r] => onL ρ1 r fun xs => Q (.d (.tuple xs)) ρ1
  | _ => False
def dTupA (t : TDA) : TDE := fun ρ Q => t ρ fun rs ρ1 => tupA rs ρ1 Q
theorem dTupA_eq {t : TDA} : dTupA t = fun ρ Q => t ρ fun rs ρ1 => tupA rs ρ1 Q := rfl
theorem ta_t {ρ : Rho} {xs : List PyData} {Q : R → Rho → Prop} : tupA [.d (.tuple xs)] ρ Q = Q (.d (.tuple xs)) ρ := rfl
theorem ta_l {ρ : Rho} {xs : List PyData} {Q : R → Rho → Prop} : tupA [.d (.list xs)] ρ Q = Q (.d (.tuple xs)) ρ := rfl
theorem ta_eP {ρ : Rho} {ls : List Lmp} {Q : R → Rho → Prop} : tupA [.d (eP ls)] ρ Q = Q (.d (eP ls)) ρ := rfl
theorem ta_o {ρ : Rho} {i : Nat} {Q : R → Rho → Prop} : tupA [.o i] ρ Q = match ρ[i]? with
    | some (some (.ro (.tuple xs))) => Q (.d (.tuple xs)) ρ
    | _ => onL ρ (.o i) fun xs => Q (.d (.tuple xs)) ρ := rfl
theorem tupA_of {rs : List R} {ρ : Rho} {Q : R → Rho → Prop} (h : tupA rs ρ Q) : (∃ xs, rs = [.d (.tuple xs)] ∧ Q (.d (.tuple xs)) ρ) ∨ (∃ i xs, rs = [.o i] ∧ ρ[i]? = some (some (.ro (.tuple xs))) ∧ Q (.d (.tuple xs)) ρ) ∨ ∃ r xs, rs = [r] ∧ litems ρ r = some xs ∧ Q (.d (.tuple xs)) ρ := by
  unfold tupA at h
  split at h
  · exact .inl ⟨_, rfl, h⟩
  · split at h
    · exact .inr (.inl ⟨_, _, rfl, by assumption, h⟩)
    · obtain ⟨xs, e, q⟩ := onL_of h
      exact .inr (.inr ⟨_, xs, rfl, e, q⟩)
  · obtain ⟨xs, e, q⟩ := onL_of h
    exact .inr (.inr ⟨_, xs, rfl, e, q⟩)
  · exact h.elim
theorem tupA_mono {rs : List R} {ρ : Rho} {Q Q' : R → Rho → Prop} (hq : ∀ r ρ, Q r ρ → Q' r ρ) (h : tupA rs ρ Q) : tupA rs ρ Q' := by
  unfold tupA at h ⊢
  split at h
  · exact hq _ _ h
  · split at h
    · exact hq _ _ h
    · exact onL_mono h fun xs => hq _ _
  · exact onL_mono h fun xs => hq _ _
  · exact h.elim
theorem pd_tupleA {t : TA} {d : TDA} {p : Pos} (hg : Gl X "tuple") (hm : X.mg "tuple" = none) (ha : PDA X F [e] t d) (hK : X.K = F.K := by rfl) (he : starEach [e] X.env = (false, eval e X.env) :: starEach [] X.env := by rfl) (hpl : (backTo pos (starEach [] X.env)).any (·.1) = false := by rfl) :
    PD X F (.Call (.Name "tuple" p) [e] [] pos) (tCB (fun xs H Q => ∃ p ys, xs = [.ref p] ∧ ((SqL F.K H p ys ∧ ∀ l, H l = none → Q (.ref l) (upd H l (.tup ys))) ∨ (SqT F.K H p ys ∧ Q (.ref p) H))) t) (dTupA d) := by
  refine ⟨?_, fun pins ρ σ H Q O h => ?_, fun ρ Q Q' hq h => ?_⟩
  · have := pe_callTy (p := p) (pos := pos) call_tuple_of hg hm (by decide +kernel) ha.pa (by decide) (by decide) he hpl
    rw [hK] at this
    exact this
  · refine ha.da.run pins ρ σ H _ O (ha.da.mono _ _ _ (fun rs ρ1 h1 vs H1 O1 R1 => ?_) h)
    rcases tupA_of h1 with ⟨xs, rfl, h1⟩ | ⟨i, xs, rfl, q, h1⟩ | ⟨r, xs, rfl, e1, h1⟩
    · simp only [ROks] at R1
      obtain ⟨v, _, rfl, r1, rfl⟩ := R1
      have r2 : Im F.K (Av F pins ρ1 σ) H1 (.tuple xs) v := r1
      have r3 := r2
      simp only [Im] at r2
      obtain ⟨p, us, rfl, l, im⟩ := r2
      exact ⟨p, us, rfl, .inr ⟨l.sq, h1 _ _ O1 r3⟩⟩
    · simp only [ROks] at R1
      obtain ⟨v, _, rfl, r1, rfl⟩ := R1
      have g0 := r1.1
      obtain ⟨u, g1, g2⟩ := O1.ent i _ q
      rw [g0] at g1; cases g1
      rcases g2 with im | ⟨a, us, zs, rfl, e1, l, t⟩
      · have r3 := im
        simp only [Im] at im
        obtain ⟨p, us, rfl, l, im⟩ := im
        exact ⟨p, us, rfl, .inr ⟨l.sq, h1 _ _ O1 r3⟩⟩
      · cases e1
    · simp only [ROks] at R1
      obtain ⟨v, _, rfl, r1, rfl⟩ := R1
      obtain ⟨p, us, rfl, l, im⟩ := litems_ok O1 r1 e1
      refine ⟨p, us, rfl, .inl ⟨l, fun l' hl => ?_⟩⟩
      obtain ⟨O2, i2⟩ := newTup O1 hl im
      exact h1 _ _ O2 i2
  · exact ha.da.mono _ _ _ (fun rs ρ1 h1 => tupA_mono hq h1) h
end
section
variable {X : Cx} {F : Fm} {a b : Expr} {ta tb : TE} {da db : TDE} {pos : Pos}
def onTru (ρ : Rho) (r : R) (f : Bool → Prop) : Prop := match val ρ r with
  | some (.int i) => f (i != 0)
  | some (.bool k) => f k
  | some .none => f false
  | some (.tuple xs) => f !xs.isEmpty
  | some (.list xs) => f !xs.isEmpty
  | _ => False
def dOrT (ta tb : TDE) : TDE := fun ρ Q => ta ρ fun r ρ1 => onTru ρ1 r fun k => if k = true then Q r ρ1 else tb ρ1 Q
def dAndT (ta tb : TDE) : TDE := fun ρ Q => ta ρ fun r ρ1 => onTru ρ1 r fun k => if k = true then tb ρ1 Q else Q r ρ1
theorem onTru_int {ρ : Rho} {i : Int} {f : Bool → Prop} : onTru ρ (.d (.int i)) f = f (i != 0) := rfl
theorem onTru_bool {ρ : Rho} {k : Bool} {f : Bool → Prop} : onTru ρ (.d (.bool k)) f = f k := rfl
theorem onTru_none {ρ : Rho} {f : Bool → Prop} : onTru ρ (.d .none) f = f false := rfl
theorem onTru_tuple {ρ : Rho} {xs : List PyData} {f : Bool → Prop} : onTru ρ (.d (.tuple xs)) f = f !xs.isEmpty := rfl
theorem onTru_list {ρ : Rho} {xs : List PyData} {f : Bool → Prop} : onTru ρ (.d (.list xs)) f = f !xs.isEmpty := rfl
end
theorem Shp.refl {k : Nat} {d : PyData} (h : Shp k d) : PyData.eqv d d = true := SeqAt.eqv_refl d h.lay
end DV
namespace DV
open PySem PySem.Spec PyProof.Rows L2
open LamX (ExtN TabS Tabs CodeO)
def keyIsD : PyData → L2.Key → Bool
  | .int i, .inl j => decide (i = j)
  | .str x, .inr y => decide (x = y)
  | _, _ => false
def findD (kvs : List (PyData × PyData)) (k : L2.Key) : Option PyData := (kvs.find? fun p => keyIsD p.1 k).map (·.2)
theorem keyIs_kD {q k : L2.Key} : keyIsD (kD q) k = decide (q = k) := by
  rcases q with i | x <;> rcases k with j | y <;> simp [kD, keyIsD]
theorem kv_find {K : PySem.W.Frag} {N : Addr → Prop} {H : Hp} {k : L2.Key} : ∀ {ds : List (PyData × PyData)} {kvs : List (L2.Key × V)}, ImKv K N H ds kvs → (valV kvs k = none ∧ findD ds k = none) ∨ ∃ v d, valV kvs k = some v ∧ findD ds k = some d ∧ Im K N H d v
  | [], _, h => by
    simp only [ImKv] at h
    subst h
    exact .inl ⟨rfl, rfl⟩
  | (a, d) :: ds, _, h => by
    simp only [ImKv] at h
    obtain ⟨q, x, xs, rfl, rfl, im, t⟩ := h
    by_cases z : q = k
    · refine .inr ⟨x, d, valV_pos z, ?_, im⟩
      unfold findD
      rw [List.find?_cons, keyIs_kD, decide_eq_true z]
      rfl
    · have e : findD ((kD q, d) :: ds) k = findD ds k := by
        unfold findD
        rw [List.find?_cons, keyIs_kD, decide_eq_false z]
      rw [e, valV_neg z]
      exact kv_find t
section
variable {X : Cx} {F : Fm} {e o i : Expr} {te ti : TE} {de di : TDE} {pos p : Pos} {t : TA} {d : TDA}
/-- what was made is locked: nobody changes it any more -/
def tFrzE (t : TE) : TE := fun σ H Q => t σ H fun v H1 => ∃ p kvs, v = .ref p ∧ H1 p = some (.dK kvs) ∧ ∀ od, Q v (upd H1 p (.frz od (.dK kvs)))
theorem pe_frz (h : PE X e te) : PE X e (tFrzE te) := by
  refine ⟨fun pins s σ H Q I hw => ?_⟩
  refine thn (h.run pins s σ H _ I hw) fun v s1 ⟨x, H1, I1, r, p, kvs, ex, hp, q⟩ => ?_
  subst ex
  obtain ⟨od, I2⟩ := I1.lock hp trivial
  exact ⟨.ref p, _, I2, r, q od⟩
theorem frz_new {Q : V → Hp → Prop} {H1 : Hp} {p : Addr} {kvs : List (L2.Key × V)} (h : ∀ od, Q (.ref p) (upd H1 p (.frz od (.dK kvs)))) :
    ∃ p' kvs', V.ref p = .ref p' ∧ (upd H1 p (.dK kvs)) p' = some (.dK kvs') ∧ ∀ od, Q (.ref p) (upd (upd H1 p (.dK kvs)) p' (.frz od (.dK kvs'))) :=
  ⟨p, kvs, rfl, upd_same, fun od => by rw [L2.upd_upd]; exact h od⟩
theorem new_dict {pins : List Pin} {ρ : Rho} {σ : L2.St} {H : Hp} (O : Ok F pins ρ σ H) {p : Addr} {ds : List (PyData × PyData)} {kvs : List (L2.Key × V)} {od : Obj} (hp : H p = none) (h : ImKv F.K (Av F pins ρ σ) H ds kvs) :
    Ok F pins ρ σ (upd H p (.frz od (.dK kvs))) ∧ Im F.K (Av F pins ρ σ) (upd H p (.frz od (.dK kvs))) (.dict ds) (.ref p) := by
  have g := grow_new (o := .frz od (.dK kvs)) hp
  refine ⟨O.new hp, ?_⟩
  simp only [Im]
  refine ⟨p, kvs, rfl, ⟨⟨od, upd_same⟩, fun z => ?_⟩, ImKv.go ⟨fun a o _ e _ => g a o e, fun a z => .inl z⟩ h⟩
  obtain ⟨o, e⟩ := O.avH z
  rw [hp] at e; cases e
def onKeyD (y : PyData) (f : L2.Key → Prop) : Prop := match y with
  | .int i => f (.inl i)
  | .str x => f (.inr x)
  | _ => False
theorem onKeyD_of {K : PySem.W.Frag} {H : Hp} {y : PyData} {v : V} {f : L2.Key → Prop} (h : onKeyD y f) (hd : Dp K H v y) : ∃ k, v = kV k ∧ f k := by
  unfold onKeyD at h
  split at h
  · cases hd; exact ⟨_, rfl, h⟩
  · cases hd; exact ⟨_, rfl, h⟩
  · exact h.elim
theorem onKeyD_mono {y : PyData} {f g : L2.Key → Prop} (k : ∀ q, f q → g q) (h : onKeyD y f) : onKeyD y g := by
  unfold onKeyD at h ⊢
  split at h <;> first | exact k _ h | exact h.elim
/-- the dict that stands there -/
def onDict (r : R) (f : List (PyData × PyData) → Prop) : Prop := match r with
  | .d (.dict ds) => f ds
  | _ => False
theorem onDict_eq {ds : List (PyData × PyData)} {f : List (PyData × PyData) → Prop} : onDict (.d (.dict ds)) f = f ds := rfl
def dDGet (de di : TDE) : TDE := fun ρ Q => de ρ fun r ρ1 => onDict r fun ds => di ρ1 fun s ρ2 => onV ρ2 s fun y => onKeyD y fun k => match findD ds k with
  | some z => Q (.d z) ρ2
  | none => False
def dDIn (n : Bool) (di de : TDE) : TDE := fun ρ Q => di ρ fun s ρ1 => onV ρ1 s fun y => de ρ1 fun r ρ2 => onDict r fun ds => onKeyD y fun k => Q (.d (.bool (if n = true then !(findD ds k).isSome else (findD ds k).isSome))) ρ2
end
end DV
namespace DV
open PySem PySem.Spec PyProof.Rows L2
open LamX (ExtN TabS Tabs CodeO)
section
variable {X : Cx} {F : Fm} {e : Expr} {pos p : Pos} {t : TA} {d : TDA}
def onDict1 (rs : List R) (f : List (PyData × PyData) → Prop) : Prop := match rs with
  | [r] => onDict r f
  | _ => False
theorem onDict1_eq {ds : List (PyData × PyData)} {f : List (PyData × PyData) → Prop} : onDict1 [.d (.dict ds)] f = f ds := rfl
def dSortDK (t : TDA) : TDL := fun ρ Q => t ρ fun rs ρ1 => onDict1 rs fun ds => CanSort (ds.map (·.1)) ∧ Q (sortD (ds.map (·.1))) ρ1
def dDictL (t : TDA) : TDE := fun ρ Q => t ρ fun rs ρ1 => match rs with
  | [r] => onL ρ1 r fun xs => ∃ kvs : List (L2.Key × PyData), xs = kvs.map (fun q => .tuple [kD q.1, q.2]) ∧ (kvs.map (·.1)).Nodup ∧ Q (.d (.dict (kvs.map fun q => (kD q.1, q.2)))) ρ1
  | _ => False
end
end DV
namespace DV
open PySem PySem.Spec PyProof.Rows PySem.Calls PySem.W
end DV
namespace DV
open PySem PySem.Spec PyProof.Rows PySem.Calls PySem.W
end DV
namespace DV
open PySem PySem.Spec PyProof.Rows L2
open LamX (ExtN TabS Tabs CodeO)
def enK {α : Type} (xs : List α) : List (L2.Key × α) := xs.zipIdx.map fun q => (Sum.inl (q.2 : Int), q.1)
end DV
namespace DV
open PySem PySem.Spec PyProof.Rows L2
open LamX (ExtN TabS Tabs CodeO)
def onSq (ρ : Rho) (r : R) (f : List PyData → Prop) : Prop := match r with
  | .d (.tuple xs) => f xs
  | r => onL ρ r f
theorem onSq_t {ρ : Rho} {xs : List PyData} {f : List PyData → Prop} : onSq ρ (.d (.tuple xs)) f = f xs := rfl
theorem onSq_l {ρ : Rho} {xs : List PyData} {f : List PyData → Prop} : onSq ρ (.d (.list xs)) f = f xs := rfl
theorem onSq_o {ρ : Rho} {i : Nat} {f : List PyData → Prop} : onSq ρ (.o i) f = onL ρ (.o i) f := rfl
section
variable {F : Fm}
def kvD (kvs : List (L2.Key × PyData)) : List (PyData × PyData) := kvs.map fun q => (kD q.1, q.2)
end
section
variable {X : Cx} {F : Fm} {e e2 : Expr} {p p2 pos pos2 : Pos} {t : TA} {d : TDA}
def onSq1 (ρ : Rho) (rs : List R) (f : List PyData → Prop) : Prop := match rs with
  | [r] => onSq ρ r f
  | _ => False
def dDictEn (t : TDA) : TDE := fun ρ Q => t ρ fun rs ρ1 => onSq1 ρ1 rs fun xs => Q (.d (.dict (kvD (enK xs)))) ρ1
def onSq2 (ρ : Rho) (rs : List R) (f : List PyData → List PyData → Prop) : Prop := match rs with
  | [r, s] => onSq ρ r fun xs => onSq ρ s fun ys => f xs ys
  | _ => False
def dDictZip (t : TDA) : TDE := fun ρ Q => t ρ fun rs ρ1 => onSq2 ρ1 rs fun xs ys => ∃ ks : List L2.Key, xs = ks.map kD ∧ ks.Nodup ∧ Q (.d (.dict (kvD (ks.zip ys)))) ρ1
theorem onSq1_eq {ρ : Rho} {r : R} {f : List PyData → Prop} : onSq1 ρ [r] f = onSq ρ r f := rfl
theorem onSq2_eq {ρ : Rho} {r s : R} {f : List PyData → List PyData → Prop} : onSq2 ρ [r, s] f = onSq ρ r fun xs => onSq ρ s fun ys => f xs ys := rfl
theorem onKeyD_int {i : Int} {f : L2.Key → Prop} : onKeyD (.int i) f = f (.inl i) := rfl
theorem onKeyD_str {x : Str} {f : L2.Key → Prop} : onKeyD (.str x) f = f (.inr x) := rfl
/-- {} -/
def dNewD : TDE := fun ρ Q => Q (.d (.dict [])) ρ
theorem pd_newD : PD X F (.Dict [] [] pos) (tFrzE tDNewK) dNewD := by
  refine ⟨pe_frz pe_dnewK, fun pins ρ σ H Q O h p hp => frz_new fun od => ?_, fun ρ Q Q' hq h => hq _ _ h⟩
  obtain ⟨O2, i2⟩ := new_dict O hp (ds := []) (kvs := []) (by simp only [ImKv])
  exact h _ _ O2 i2
end
end DV
namespace DV
open PySem PySem.Spec PyProof.Rows L2
open LamX (ExtN TabS Tabs CodeO)
section
variable {X : Cx} {F : Fm} {tg e : Expr} {te : TE} {de : TDE}
def dDicI (te : TDE) : TDI := fun ρ Q => te ρ fun r ρ1 => onDict r fun ds => Q (ds.map (·.1)) ρ1
end
end DV
namespace DV
open PySem PySem.Spec PyProof.Rows L2
open LamX (ExtN TabS Tabs CodeO)
def upI (n : Nat) : List Int := (List.range n).map fun i : Nat => (i : Int)
theorem upI_at {n i : Nat} (h : i < n) : (upI n)[i]? = some (i : Int) := by
  unfold upI
  rw [List.getElem?_map, List.getElem?_eq_getElem (by rw [List.length_range]; exact h), List.getElem_range]
  rfl
end DV
namespace DV
open PySem PySem.Spec PyProof.Rows L2
open LamX (ExtN TabS Tabs CodeO)
end DV
namespace DV
open PySem PySem.Spec PyProof.Rows L2
open LamX (ExtN TabS Tabs CodeO)
section
variable {F : Fm} {pins : List Pin} {ρ : Rho} {σ : L2.St} {H : Hp}
theorem Ok.newDik (O : Ok F pins ρ σ H) {i : Nat} {p : Addr} (hp : H p = none) (hi : Fr pins i) :
    Ok F pins (ρ.set i (some (.dik []))) (σ.set i (some (.ref p))) (upd H p (.dK [])) := by
  have nAv : ¬ Av F pins ρ σ p := fun h => by obtain ⟨o, h⟩ := O.avH h; rw [hp] at h; cases h
  have h00 : F.H0 p = none := by
    cases e : F.H0 p with
    | none => rfl
    | some o =>
      by_cases hl : F.L p
      · exact absurd (.inl (O.ln p hl)) nAv
      · exact absurd hp (O.fr0 p o hl e)
  have O1 := O.new (o := .dK []) hp
  have nAv1 : ¬ ∃ j, OwnAt ρ σ j p := fun ⟨j, h⟩ => nAv (.inr (.inl ⟨j, h⟩))
  have ow : ∀ j b, OwnAt (ρ.set i (some (.dik []))) (σ.set i (some (.ref p))) j b → (j = i ∧ b = p) ∨ (j ≠ i ∧ OwnAt ρ σ j b) := fun j b h => by
    obtain ⟨⟨ys, h1, hm⟩, h2⟩ := h
    rcases getset h1 with ⟨rfl, q, hl⟩ | ⟨ne, q⟩
    · rw [List.getElem?_set_self (by rw [O.len]; exact hl)] at h2
      cases h2; exact .inl ⟨rfl, rfl⟩
    · rw [List.getElem?_set_ne (fun z => ne z.symm)] at h2
      exact .inr ⟨ne, ⟨ys, q, hm⟩, h2⟩
  have G : Go (Av F pins ρ σ) (Av F pins (ρ.set i (some (.dik []))) (σ.set i (some (.ref p)))) H (upd H p (.dK [])) := by
    refine ⟨fun a o _ h _ => grow_new hp a o h, fun a h => ?_⟩
    rcases h with h | ⟨j, h⟩ | h
    · exact .inl (.inl h)
    · rcases ow j a h with ⟨_, rfl⟩ | ⟨_, h⟩
      · exact .inr hp
      · exact .inl (.inr (.inl ⟨j, h⟩))
    · exact .inl (.inr (.inr h))
  have g := grow_new (o := .dK []) hp
  refine ⟨by rw [List.length_set, List.length_set]; exact O.len, fun j f hj => ?_, fun j k b z1 z2 => ?_, fun q hq => ?_, O.acs, fun a o n h m => g _ _ (O.fr a o n h m), fun a h => ?_, O.ln, O.h0, fun j b z hL => ?_, O.tb.ext g⟩
  · rcases getset hj with ⟨rfl, q, hl⟩ | ⟨ne, q⟩
    · cases q
      exact ⟨.ref p, by rw [List.getElem?_set_self (by rw [O.len]; exact hl)], p, [], rfl, upd_same, rfl, .nil, h00⟩
    · obtain ⟨v, h3, h4⟩ := O.ent j f q
      exact ⟨v, by rw [List.getElem?_set_ne (fun z => ne z.symm)]; exact h3, EntOk.go G h4 fun b o _ z _ => g _ _ z⟩
  · rcases ow j b z1 with ⟨e1, e2⟩ | ⟨n1, y1⟩
    · rcases ow k b z2 with ⟨e3, _⟩ | ⟨n2, y2⟩
      · rw [e1, e3]
      · rw [e2] at y2; exact absurd ⟨k, y2⟩ nAv1
    · rcases ow k b z2 with ⟨e3, e4⟩ | ⟨n2, y2⟩
      · rw [e4] at y1; exact absurd ⟨j, y1⟩ nAv1
      · exact O.own j k b y1 y2
  · have h := O.pin q hq
    cases q with
    | val v r =>
      cases r with
      | d x => exact Im.go G h
      | o j =>
        have ne := hi v j hq
        obtain ⟨h1, x, h2⟩ := h
        exact ⟨by rw [List.getElem?_set_ne (fun z => ne z.symm)]; exact h1, x, by rw [slot_ne ne]; exact h2⟩
      | raw u => exact h
    | acc b ys =>
      obtain ⟨us, h3, h4, h5, h6⟩ := h
      refine ⟨us, g _ _ h3, h4.go G, h5, fun ⟨j, z⟩ => ?_⟩
      rcases ow j b z with ⟨_, rfl⟩ | ⟨_, z⟩
      · exact nAv (.inr (.inr (mem_accs.mpr ⟨ys, hq⟩)))
      · exact h6 ⟨j, z⟩
    | frz b o =>
      obtain ⟨u, h1⟩ := h
      exact ⟨u, g _ _ h1⟩
  · obtain ⟨o, h, m⟩ := O.nh a h
    exact ⟨o, g _ _ h, m⟩
  · rcases ow j b z with ⟨_, rfl⟩ | ⟨_, z⟩
    · obtain ⟨o, h⟩ := O.h0 b (O.ln b hL)
      rw [h00] at h; cases h
    · exact O.lf j b z hL
theorem Ok.setDik (O : Ok F pins ρ σ H) {i : Nat} {a : Addr} {kvs0 kvs : List (L2.Key × PyData)} {vs : List (L2.Key × V)} (h0 : ρ[i]? = some (some (.dik kvs0))) (h : OwnAt ρ σ i a) (hk : vs.map (·.1) = kvs.map (·.1)) (hx : ImAll F.K (Av F pins ρ σ) H (kvs.map (·.2)) (vs.map (·.2))) :
    Ok F pins (ρ.set i (some (.dik kvs))) σ (upd H a (.dK vs)) := by
  have oe := setMine_iff (f := .dik kvs) trivial h
  have ae : Av F pins (ρ.set i (some (.dik kvs))) σ = Av F pins ρ σ := by
    funext b
    unfold Av
    simp only [oe]
  have aa : Av F pins ρ σ a := .inr (.inl ⟨i, h⟩)
  have G : Go (Av F pins ρ σ) (Av F pins ρ σ) H (upd H a (.dK vs)) := ⟨fun b o n e _ => by
    have hb : b ≠ a := fun z => n (by rw [z]; exact aa)
    rw [upd_ne hb]; exact e, fun b z => .inl z⟩
  obtain ⟨v0, s0, a0, vs0, e0, _, _, _, h00⟩ := O.ent i _ h0
  have e1 : v0 = .ref a := by have := h.2; rw [this] at s0; cases s0; rfl
  rw [e1] at e0
  cases e0
  obtain ⟨o0, hH, hl⟩ := O.ownL h
  have hi : i < ρ.length := by
    rcases Nat.lt_or_ge i ρ.length with z | z
    · exact z
    · rw [List.getElem?_eq_none z] at h0; cases h0
  refine ⟨by rw [List.length_set]; exact O.len, fun j e hj => ?_, fun j k b z1 z2 => O.own j k b ((oe j b).mp z1) ((oe k b).mp z2), fun p hp => ?_, O.acs, fun b o n e m => ?_, fun b z => ?_, O.ln, O.h0, fun j b z => O.lf j b ((oe j b).mp z), ?_⟩
  · rw [ae]
    by_cases e2 : i = j
    · subst e2
      rw [List.getElem?_set_self hi] at hj
      cases hj
      exact ⟨.ref a, h.2, a, vs, rfl, upd_same, hk, hx.go G, h00⟩
    · rw [List.getElem?_set_ne e2] at hj
      obtain ⟨v, h3, h4⟩ := O.ent j e hj
      refine ⟨v, h3, EntOk.go G h4 fun b us ev hb ex => ?_⟩
      subst ev
      rw [upd_ne (fun z => e2 (O.own i j a h (by subst z; exact ⟨⟨e, hj, ex⟩, h3⟩)))]
      exact hb
  · rw [ae]
    have hq := O.pin p hp
    cases p with
    | val v r =>
      cases r with
      | d x => exact Im.go G hq
      | o j =>
        obtain ⟨g1, x, g2⟩ := hq
        have ne : j ≠ i := fun z => by
          subst z
          unfold slot at g2
          rw [h0] at g2
          cases g2
        exact ⟨g1, x, by rw [slot_ne ne]; exact g2⟩
      | raw u => exact hq
    | acc b ys =>
      obtain ⟨us, h3, h4, h5, h6⟩ := hq
      have hb : b ≠ a := fun z => h6 ⟨i, by rw [z]; exact h⟩
      exact ⟨us, by rw [upd_ne hb]; exact h3, h4.go G, h5, fun ⟨j, z⟩ => h6 ⟨j, (oe j b).mp z⟩⟩
    | frz b o =>
      obtain ⟨u, h1⟩ := hq
      refine ⟨u, ?_⟩
      rw [upd_ne (fun z => ?_)]
      · exact h1
      · subst z
        obtain ⟨w, g1, g2, _⟩ := O.ownM h
        rw [h1] at g1; cases g1; exact g2.elim
  · have hb : b ≠ a := fun z => by
      subst z
      rw [h00] at e; cases e
    rw [upd_ne hb]
    exact O.fr b o n e m
  · by_cases hb : b = a
    · rw [hb]; exact ⟨_, upd_same, trivial⟩
    · obtain ⟨o, e, m⟩ := O.nh b z
      exact ⟨o, by rw [upd_ne hb]; exact e, m⟩
  · obtain ⟨o1, e1, m1⟩ := O.avM aa
    exact O.tb.upd e1 m1
end
def putI (kvs : List (L2.Key × PyData)) (k : L2.Key) (y : PyData) : List (L2.Key × PyData) :=
  if (kvs.any fun kv => decide (kv.1 = k)) = true then kvs.map (fun kv => if kv.1 = k then (kv.1, y) else kv) else kvs ++ [(k, y)]
theorem any_keysI {α β : Type} (k : L2.Key) : ∀ {xs : List (L2.Key × α)} {ys : List (L2.Key × β)}, xs.map (·.1) = ys.map (·.1) → (xs.any fun kv => decide (kv.1 = k)) = ys.any fun kv => decide (kv.1 = k)
  | [], [], _ => rfl
  | [], _ :: _, h => by cases h
  | _ :: _, [], h => by cases h
  | x :: xs, y :: ys, h => by
    rw [List.map_cons, List.map_cons, List.cons.injEq] at h
    rw [List.any_cons, List.any_cons, h.1, any_keysI k h.2]
section
variable {K : PySem.W.Frag} {N : Addr → Prop} {H : Hp}
theorem put_replI {k : L2.Key} {y : PyData} {v : V} (hy : Im K N H y v) : ∀ {vs : List (L2.Key × V)} {kvs : List (L2.Key × PyData)}, vs.map (·.1) = kvs.map (·.1) → ImAll K N H (kvs.map (·.2)) (vs.map (·.2)) →
    (vs.map fun kv => if kv.1 = k then (kv.1, v) else kv).map (·.1) = (kvs.map fun kv => if kv.1 = k then (kv.1, y) else kv).map (·.1) ∧ ImAll K N H ((kvs.map fun kv => if kv.1 = k then (kv.1, y) else kv).map (·.2)) ((vs.map fun kv => if kv.1 = k then (kv.1, v) else kv).map (·.2))
  | [], [], _, _ => ⟨rfl, .nil⟩
  | [], _ :: _, h, _ => by cases h
  | _ :: _, [], h, _ => by cases h
  | x :: xs, p :: ps, h, im => by
    rw [List.map_cons, List.map_cons, List.cons.injEq] at h
    rw [List.map_cons, List.map_cons] at im
    simp only [ImAll] at im
    obtain ⟨w, ws, e, h1, h2⟩ := im
    rw [List.cons.injEq] at e
    obtain ⟨rfl, rfl⟩ := e
    obtain ⟨i1, i2⟩ := put_replI (k := k) hy h.2 h2
    simp only [List.map_cons]
    by_cases z : p.1 = k
    · rw [if_pos z, if_pos (h.1.trans z)]
      exact ⟨by rw [i1, h.1], .cons hy i2⟩
    · rw [if_neg z, if_neg (fun q => z (h.1.symm.trans q))]
      exact ⟨by rw [i1, h.1], .cons h1 i2⟩
theorem put_relI {k : L2.Key} {y : PyData} {v : V} (hy : Im K N H y v) {vs : List (L2.Key × V)} {kvs : List (L2.Key × PyData)} (h : vs.map (·.1) = kvs.map (·.1)) (im : ImAll K N H (kvs.map (·.2)) (vs.map (·.2))) :
    (putK vs k v).map (·.1) = (putI kvs k y).map (·.1) ∧ ImAll K N H ((putI kvs k y).map (·.2)) ((putK vs k v).map (·.2)) := by
  unfold putK putI
  rw [any_keysI k h]
  by_cases z : (kvs.any fun kv => decide (kv.1 = k)) = true
  · rw [if_pos z, if_pos z]
    exact put_replI hy h im
  · rw [if_neg z, if_neg z, List.map_append, List.map_append, List.map_append, List.map_append]
    exact ⟨by rw [h]; rfl, im.append (.cons hy .nil)⟩
theorem kv_imI : ∀ {kvs : List (L2.Key × PyData)} {vs : List (L2.Key × V)}, vs.map (·.1) = kvs.map (·.1) → ImAll K N H (kvs.map (·.2)) (vs.map (·.2)) → ImKv K N H (kvD kvs) vs
  | [], [], _, _ => by simp only [kvD, List.map_nil, ImKv]
  | [], _ :: _, h, _ => by cases h
  | _ :: _, [], h, _ => by cases h
  | (k, y) :: kvs, (q, v) :: vs, h, im => by
    rw [List.map_cons, List.map_cons, List.cons.injEq] at h
    rw [List.map_cons, List.map_cons] at im
    simp only [ImAll] at im
    obtain ⟨w, ws, e, h1, h2⟩ := im
    rw [List.cons.injEq] at e
    obtain ⟨rfl, rfl⟩ := e
    unfold kvD
    rw [List.map_cons]
    simp only [ImKv]
    exact ⟨q, v, vs, rfl, by rw [show q = k from h.1], h1, kv_imI h.2 h2⟩
end
section
variable {X : Cx} {F : Fm} {pos : Pos} {value key : Expr} {tv tk : TE} {dv dk : TDE}
def onDik (ρ : Rho) (i : Nat) (f : List (L2.Key × PyData) → Prop) : Prop := match ρ[i]? with
  | some (some (.dik kvs)) => f kvs
  | _ => False
theorem onDik_of {ρ : Rho} {i : Nat} {f : List (L2.Key × PyData) → Prop} (h : onDik ρ i f) : ∃ kvs, ρ[i]? = some (some (.dik kvs)) ∧ f kvs := by
  unfold onDik at h
  split at h
  · exact ⟨_, by assumption, h⟩
  · exact h.elim
def dNewDik (i : Nat) : TDS := fun DD ρ => DD.nx (ρ.set i (some (.dik [])))
/-- d = {} -/
theorem ds_newDik {i : Nat} {x : Str} {pos' p2 : Pos} (hN : X.N.Nodup) (hf : ¬ F.fix i) (hi : X.N[i]? = some x := by rfl) (hx : Loc X.env.scope x := by first | exact Or.inl rfl | exact Or.inr rfl) (hs : swapsWith (.Dict [] [] p2) (some (.Name x pos')) pos.line X.env = pure false := by rfl) (hfn : X.fn x = true ∨ X.env.scope.names.lookup x = some .local := by first | exact .inl rfl | exact .inr rfl) :
    PDS X F (.Assign [.Name x pos'] (.Dict [] [] p2) pos) (tAsg tDNewK (gName i)) (dNewDik i) :=
  ⟨ps_set hN hi hx pe_dnewK hs hfn, fun pins ρ σ H D DD O S R h => fun p hp => R.nx _ _ _ (O.newDik hp (S.fr hf)) h⟩
/-- d[k] = v -/
def dDikPut (i : Nat) (tk tv : TDE) : TDS := fun DD ρ => tv ρ fun r ρ1 => onDat r fun y => onDik ρ1 i fun _ => tk ρ1 fun s ρ2 => onV ρ2 s fun z => onKeyD z fun k => onDik ρ2 i fun kvs => kvs.length + 1 ≤ 100000 ∧ DD.nx (ρ2.set i (some (.dik (putI kvs k y))))
theorem ds_dikPut {i : Nat} {x : Str} {vpos spos : Pos} (hu : X.A.units + 1 < cLine) (hk : PD X F key tk dk) (hv : PD X F value tv dv) (hN : X.N[i]? = some x := by rfl) (hvis : Vis X.env.scope x := by first | exact Or.inl rfl | exact Or.inr (Or.inl rfl) | exact Or.inr (Or.inr rfl)) (hd : (x == ("__debug__" : Str)) = false := by decide)
    (hcd : (x == ("__classdict__" : Str)) = false := by decide) (hs : swapsWith value (some (.Subscript (.Name x vpos) key spos)) pos.line X.env = pure false := by rfl) :
    PDS X F (.Assign [.Subscript (.Name x vpos) key spos] value pos) (sDPut (tVar i) tk tv) (dDikPut i dk dv) := by
  refine ⟨ps_dput hu (pe_var hN hvis hd hcd) hk.pe hv.pe hs, fun pins ρ σ H D DD O S R h => ?_⟩
  refine hv.de.run pins ρ σ H _ O (hv.de.mono _ _ _ (fun r ρ1 h1 v H1 O1 R1 => ?_) h)
  cases r with
  | o k => exact h1.elim
  | raw u => exact h1.elim
  | d y =>
    obtain ⟨kvs0, e0, h2⟩ := onDik_of h1
    have O2 := O1.push R1
    obtain ⟨va, sa, a, vs0, rfl, _⟩ := O2.ent i _ e0
    refine ⟨.ref a, sa, ?_⟩
    refine hk.de.run (.val v (.d y) :: pins) ρ1 σ H1 _ O2 (hk.de.mono _ _ _ (fun s ρ2 h3 u H2 O3 R3 => ?_) h2)
    obtain ⟨z, ez, h4⟩ := onV_of h3
    obtain ⟨k, rfl, h5⟩ := onKeyD_of h4 (val_dp O3 R3 ez)
    obtain ⟨kvs, e5, hl, h6⟩ := onDik_of h5
    obtain ⟨vb, sb, b, vs, rfl, hb, hk2, him, h00⟩ := O3.ent i _ e5
    have eb : b = a := by rw [sa] at sb; cases sb; rfl
    subst eb
    obtain ⟨O5, R5⟩ := O3.popV
    have len : vs.length = kvs.length := by have := congrArg List.length hk2; rwa [List.length_map, List.length_map] at this
    have own : OwnAt ρ2 σ i b := ⟨⟨_, e5, trivial⟩, sb⟩
    have pr := put_relI (k := k) (show Im F.K (Av F pins ρ2 σ) _ y v from R5) hk2 him
    have fw : vs.length < sizeLine := by rw [len, sizeLine_eq]; omega
    exact ⟨b, _, rfl, DPut.k (k := k) hb fw, R.nx _ _ _ (O5.setDik e5 own pr.1 pr.2) h6⟩
def dFrzD (i : Nat) (ds : TDS) : TDS := fun DD ρ => onDik ρ i fun kvs => ds DD (ρ.set i (some (.d (.dict (kvD kvs)))))
/-- four at once -/
def dNew4 (i j k l : Nat) : TDS := fun DD ρ => DD.nx ((((ρ.set i (some (.dik []))).set j (some (.dik []))).set k (some (.dik []))).set l (some (.dik [])))
end
end DV
namespace DV
open PySem PySem.Spec PyProof.Rows L2
open LamX (ExtN TabS Tabs CodeO)
section
variable {X : Cx} {F : Fm} {o e : Expr} {te : TE} {de : TDE} {t : TA} {d : TDA} {apos cpos : Pos}
def isFirst (xs : List PyData) (y : PyData) (j : Nat) : Prop := ∃ z, xs[j]? = some z ∧ PyData.eqv z y = true ∧ ∀ (m : Nat) (z' : PyData), m < j → xs[m]? = some z' → PyData.eqv z' y = false
def onLst (r : R) (f : List PyData → Prop) : Prop := match r with
  | .d (.list xs) => f xs
  | _ => False
theorem onLst_eq {xs : List PyData} {f : List PyData → Prop} : onLst (.d (.list xs)) f = f xs := rfl
def dIndexD (de : TDE) (t : TDA) : TDE := fun ρ Q => de ρ fun r ρ1 => onLst r fun xs => t ρ1 fun rs ρ2 => onD rs fun ys => match ys with
  | [y] => SeqAt.shaped (.list xs) = true ∧ SeqAt.shaped y = true ∧ ∃ j, isFirst xs y j ∧ Q (.d (.int (j : Nat))) ρ2
  | _ => False
end
end DV
namespace DV
open PySem PySem.Spec PyProof.Rows L2
open LamX (ExtN TabS Tabs CodeO)
section
variable {X : Cx} {F : Fm} {a b c : Expr} {ta tb : TE} {da db : TDL} {tt : TT} {dt : TDT} {pos : Pos}
def dIfL (t : TDT) (ta tb : TDL) : TDL := fun ρ Q => t ρ fun k ρ1 => if k = true then ta ρ1 Q else tb ρ1 Q
end
end DV
namespace DV
open PySem PySem.Spec PyProof.Rows L2
open LamX (ExtN TabS Tabs CodeO)
/-- what stands at a key -/
def keyAt {α : Type} (ks : List Int) (as : List α) (k : Int) : Option α := ((ks.zip as).find? fun q => decide (q.1 = k)).map (·.2)
theorem keyAt_some {α : Type} {ks : List Int} {as : List α} {k : Int} (hl : ks.length = as.length) (h : k ∈ ks) : ∃ a, keyAt ks as k = some a ∧ a ∈ as := by
  unfold keyAt
  cases e : (ks.zip as).find? fun q => decide (q.1 = k) with
  | some q =>
    have := List.mem_of_find?_eq_some e
    exact ⟨q.2, rfl, (List.of_mem_zip this).2⟩
  | none =>
    obtain ⟨i, hi⟩ := List.mem_iff_getElem?.mp h
    have il := (List.getElem?_eq_some_iff.mp hi).1
    have ha := List.getElem?_eq_getElem (show i < as.length by omega)
    have hm : (k, as[i]) ∈ ks.zip as := List.mem_of_getElem? (List.getElem?_zip_eq_some.mpr ⟨hi, ha⟩)
    have := List.find?_eq_none.mp e _ hm
    simp at this
end DV
namespace DV
open PySem PySem.Spec PyProof.Rows L2
open LamX (ExtN TabS Tabs CodeO)
def ItK (k : Bool) (g : Heap) (it l : Addr) (i : Nat) : Prop := match k with
  | true => g.IsTupleIter it l i
  | false => g.IsListIter it l i
def HpK (k : Bool) (g : Heap) (l : Addr) (xs : Array Value) : Prop := match k with
  | true => g.IsTuple l xs
  | false => g.IsList l xs
def obK (k : Bool) (l : Addr) : Obj := match k with
  | true => { cls := .type "tuple_iterator", data := .fields #[.ref l, .int 0 0] }
  | false => { cls := .type "list_iterator", data := .fields #[.ref l, .int 0 0] }
theorem ItK.of {k : Bool} {g : Heap} {it l : Addr} (h : g.get? it = some (obK k l)) : ItK k g it l 0 := by
  cases k
  · exact ⟨_, h, rfl, rfl⟩
  · exact ⟨_, h, rfl, rfl⟩
theorem ItK.ob {k : Bool} {g : Heap} {it l : Addr} {i : Nat} (h : ItK k g it l i) : ∃ o fs, g.get? it = some o ∧ o.data = .fields fs := by
  cases k
  · obtain ⟨o, e, _, d⟩ := h; exact ⟨o, _, e, d⟩
  · obtain ⟨o, e, _, d⟩ := h; exact ⟨o, _, e, d⟩
theorem ItK.at {k : Bool} {g g' : Heap} {it l : Addr} {i : Nat} (h : ItK k g it l i) (f : ∀ o, g.get? it = some o → g'.get? it = some o) : ItK k g' it l i := by
  cases k
  · exact Heap.IsListIter.at h f
  · exact Heap.IsTupleIter.at h f
def zip3D (xs ys zs : List PyData) : List PyData := (List.zip xs (List.zip ys zs)).map fun p => .tuple [p.1, p.2.1, p.2.2]
section
variable {X : Cx} {F : Fm} {e e2 e3 : Expr} {pos p tpos : Pos} {t : TA} {d : TDA} {elts : List Expr} {kk : Nat}
def dZip3 (t : TDA) : TDI := fun ρ Q => t ρ fun rs ρ1 => match rs with
  | [r, s, u] => match seqs ρ1 r, seqs ρ1 s, seqs ρ1 u with
    | some (_, xs), some (true, ys), some (true, zs) => Q (zip3D xs ys zs) ρ1
    | _, _, _ => False
  | _ => False
end
end DV
namespace DV
open PySem PySem.Spec PyProof.Rows L2
open LamX (ExtN TabS Tabs CodeO)
open scoped Rat
mutual
def noL : PyData → Bool
  | .list _ => false
  | .tuple xs => noLs xs
  | .dict kvs => noLk kvs
  | _ => true
def noLs : List PyData → Bool
  | [] => true
  | x :: xs => noL x && noLs xs
def noLk : List (PyData × PyData) → Bool
  | [] => true
  | (_, v) :: r => noL v && noLk r
end
def reprOk : PyData → Bool
  | .list xs => noLs xs
  | d => noL d
/-- data with dicts that can be shown -/
structure Fs (k c : Nat) (d : PyData) : Prop where
  sh : d.showable = true
  nl : noL d = true
  deep : d.depth ≤ k
  few : d.shown.length ≤ c
structure PlainD (d : PyData) : Prop where
  sh : d.showable = true
  ok : reprOk d = true
  deep : d.depth ≤ 60
  few : d.shown.length ≤ sizeLine
theorem Fs.up {j k b c : Nat} {d : PyData} (h : Fs j b d) (z : j ≤ k) (y : b ≤ c) : Fs k c d := ⟨h.sh, h.nl, Nat.le_trans h.deep z, Nat.le_trans h.few y⟩
theorem Fs.fn {k c : Nat} {d : PyData} (h : Fn k c d) (n : noL d = true) : Fs k c d := ⟨(okd_facts d h.ok).2.1, n, h.deep, Nat.le_trans (shown_le d h.ok) h.few⟩
theorem Fs.fr {q : Rat} {k : Nat} (h : Sz k q) (z : k ≤ 1000 := by decide) : Fs 1 2009 (fr q) := .fn (fa_fr h z) (by simp [DV.fr, noL, noLs])
theorem Fs.int {i : Int} {k : Nat} (h : Bd k i) (z : k ≤ 1000 := by decide) : Fs 0 1001 (.int i) := .fn (Fn.int h z) (by simp [noL])
theorem join_le {c : Nat} : ∀ {ts : List Str}, (∀ t ∈ ts, t.length ≤ c) → (Str.join ", " ts).length ≤ ts.length * (c + 2)
  | [], _ => by show (Str.join ", " []).length ≤ _; rw [show (Str.join ", " []).length = 0 by decide]; omega
  | [x], h => by
    have := h x (List.mem_cons_self ..)
    show x.length ≤ 1 * (c + 2)
    omega
  | x :: y :: xs, h => by
    have ih := join_le (ts := y :: xs) fun t ht => h t (List.mem_cons_of_mem _ ht)
    have h1 := h x (List.mem_cons_self ..)
    have e : Str.join ", " (x :: y :: xs) = x ++ ", " ++ Str.join ", " (y :: xs) := rfl
    rw [e, strLen_append, strLen_append]
    have e2 : (Str.ofString ", ").length = 2 := by decide
    rw [show (x :: y :: xs).length = (y :: xs).length + 1 from rfl, Nat.succ_mul]
    omega
theorem fss {k c : Nat} : ∀ {xs : List PyData}, (∀ x ∈ xs, Fs k c x) → PyData.showableAll xs = true ∧ noLs xs = true ∧ PyData.depthAll xs ≤ k
  | [], _ => ⟨by simp [PyData.showableAll], by simp [noLs], by simp [PyData.depthAll]⟩
  | x :: xs, h => by
    have a := h x (List.mem_cons_self ..)
    have b := fss (xs := xs) fun y hy => h y (List.mem_cons_of_mem _ hy)
    simp only [PyData.showableAll, noLs, PyData.depthAll, Bool.and_eq_true]
    exact ⟨⟨a.sh, b.1⟩, ⟨a.nl, b.2.1⟩, Nat.max_le.mpr ⟨a.deep, b.2.2⟩⟩
theorem shownAll_le {k c : Nat} {xs : List PyData} (h : ∀ x ∈ xs, Fs k c x) : ∀ t ∈ PyData.shownAll xs, t.length ≤ c := fun t ht => by
  rw [shownAll_eq_map] at ht
  obtain ⟨x, hx, rfl⟩ := List.mem_map.mp ht
  exact (h x hx).few
theorem shownAll_len (xs : List PyData) : (PyData.shownAll xs).length = xs.length := by rw [shownAll_eq_map, List.length_map]
theorem Fs.tuple {k c n : Nat} {xs : List PyData} (h : ∀ x ∈ xs, Fs k c x) (hn : xs.length ≤ n) : Fs (k + 1) (n * (c + 2) + 3) (.tuple xs) := by
  obtain ⟨a, b, d⟩ := fss h
  have j := join_le (shownAll_le h)
  rw [shownAll_len] at j
  have := Nat.mul_le_mul_right (c + 2) hn
  refine ⟨by simp only [PyData.showable]; exact a, by simp only [noL]; exact b, by simp only [PyData.depth]; omega, ?_⟩
  rw [PyData.shown_tuple, strLen_append, strLen_append]
  have e1 : (Str.ofString "(").length = 1 := by decide
  have e2 : (Str.ofString (if (xs.length == 1) = true then ",)" else ")")).length ≤ 2 := by split <;> decide
  omega
theorem PlainD.list {k c n : Nat} {xs : List PyData} (h : ∀ x ∈ xs, Fs k c x) (hn : xs.length ≤ n) (hk : k ≤ 59) (hc : n * (c + 2) + 2 ≤ sizeLine) : PlainD (.list xs) := by
  obtain ⟨a, b, d⟩ := fss h
  have j := join_le (shownAll_le h)
  rw [shownAll_len] at j
  have := Nat.mul_le_mul_right (c + 2) hn
  refine ⟨by simp only [PyData.showable]; exact a, b, by simp only [PyData.depth]; omega, ?_⟩
  rw [PyData.shown_list, strLen_append, strLen_append]
  have e1 : (Str.ofString "[").length = 1 := by decide
  have e2 : (Str.ofString "]").length = 1 := by decide
  omega
theorem fskv {k c : Nat} : ∀ {kvs : List (PyData × PyData)}, (∀ p ∈ kvs, Fs 0 1001 p.1 ∧ Fs k c p.2) → PyData.showableKv kvs = true ∧ noLk kvs = true ∧ PyData.depthKv kvs ≤ k ∧ ∀ t ∈ PyData.shownKv kvs, t.length ≤ c + 1003
  | [], _ => ⟨by simp [PyData.showableKv], by simp [noLk], by simp [PyData.depthKv], by simp [PyData.shownKv]⟩
  | (x, y) :: r, h => by
    obtain ⟨a1, a2⟩ := h (x, y) (List.mem_cons_self ..)
    obtain ⟨b1, b2, b3, b4⟩ := fskv (kvs := r) fun p hp => h p (List.mem_cons_of_mem _ hp)
    have f1 := a1.few
    have f2 := a2.few
    have d1 := a1.deep
    have d2 := a2.deep
    dsimp only at f1 f2 d1 d2
    simp only [PyData.showableKv, noLk, PyData.depthKv, PyData.shownKv, Bool.and_eq_true]
    refine ⟨⟨⟨a1.sh, a2.sh⟩, b1⟩, ⟨a2.nl, b2⟩, by omega, fun t ht => ?_⟩
    rcases List.mem_cons.mp ht with rfl | ht
    · rw [strLen_append, strLen_append]
      have e2 : (Str.ofString ": ").length = 2 := by decide
      omega
    · exact b4 t ht
theorem shownKv_len : ∀ kvs : List (PyData × PyData), (PyData.shownKv kvs).length = kvs.length
  | [] => by simp [PyData.shownKv]
  | (x, y) :: r => by simp [PyData.shownKv, shownKv_len r]
theorem Fs.dict {k c n : Nat} {kvs : List (PyData × PyData)} (h : ∀ p ∈ kvs, Fs 0 1001 p.1 ∧ Fs k c p.2) (hn : kvs.length ≤ n) : Fs (k + 1) (n * (c + 1005) + 2) (.dict kvs) := by
  obtain ⟨a, b, d, e⟩ := fskv h
  have j := join_le e
  rw [shownKv_len] at j
  have := Nat.mul_le_mul_right (c + 1005) hn
  rw [show c + 1003 + 2 = c + 1005 by omega] at j
  refine ⟨by simp only [PyData.showable]; exact a, by simp only [noL]; exact b, by simp only [PyData.depth]; omega, ?_⟩
  show (dictText (PyData.shownKv kvs)).length ≤ _
  unfold dictText
  rw [strLen_append, strLen_append]
  have e1 : (Str.ofString "{").length = 1 := by decide
  have e2 : (Str.ofString "}").length = 1 := by decide
  omega
theorem Fs.map {α : Type} {k c : Nat} {f : α → PyData} {xs : List α} (h : ∀ x ∈ xs, Fs k c (f x)) : ∀ y ∈ xs.map f, Fs k c y := fun y hy => by
  obtain ⟨x, hx, rfl⟩ := List.mem_map.mp hy
  exact h x hx
end DV
namespace DV
open PySem PySem.Spec PyProof.Rows L2
open LamX (ExtN TabS Tabs CodeO)
open scoped Rat
end DV
namespace DV
open PySem PySem.Spec PyProof.Rows L2
open LamX (ExtN TabS Tabs CodeO)
section
variable {X : Cx} {F : Fm} {e e2 : Expr} {pos p tpos : Pos} {t : TA} {d : TDA} {elts : List Expr} {kk : Nat}
def dZip2 (t : TDA) : TDI := fun ρ Q => t ρ fun rs ρ1 => match rs with
  | [r, s] => match seqs ρ1 r, seqs ρ1 s with
    | some (_, xs), some (_, ys) => Q (zipD xs ys) ρ1
    | _, _ => False
  | _ => False
end
end DV
namespace DV
open PySem PySem.Spec PyProof.Rows L2
open LamX (ExtN TabS Tabs CodeO TabB)
open NdefX (NF NScope CellsAt Caps ncx startF envF slotAt)
def keyS (S : Int) : PyData → Int
  | .tuple [.int n, .int d] => n * S / d
  | _ => 0
/-- a pair of whole numbers that y[0] * S // y[1] takes -/
def PairOk (S : Int) (x : PyData) : Prop := ∃ n d : Int, x = .tuple [.int n, .int d] ∧ CMulW n S ∧ CDivW (n * S) d
abbrev sortKS (S : Int) (ds : List PyData) : List PyData := ds.mergeSort (PySem.W.dataLe false fun d => .int (keyS S d))
section
variable {X : Cx} {F : Fm} {e : Expr} {t : TA} {d : TDA} {k j : Nat} {y z : Str} {c P : Addr} {params : Arguments} {body : Expr} {scope : Scope} {lpos kpos p1 pos : Pos} {Nl : List Str}
def dSortKS (j : Nat) (t : TDA) : TDL := fun ρ Q => t ρ fun rs ρ1 => match rs with
  | [.d (.list ds)] => ∃ S : Int, ρ1[j]? = some (some (.d (.int S))) ∧ (∀ x ∈ ds, PairOk S x) ∧ Q (sortKS S ds) ρ1
  | _ => False
end
end DV
namespace DV
open PySem PySem.Spec PyProof.Rows L2
open LamX (ExtN TabS Tabs CodeO)
def keepO : HO → Option HO
  | .tup xs => some (.tup xs)
  | .frz o (.tup xs) => some (.frz o (.tup xs))
  | .ext φ => some (.ext φ)
  | _ => none
def keepH (H0 H : Hp) : Hp := fun b => match H0 b with
  | some o => some o
  | none => (H b).bind keepO
theorem keepO_of {o u : HO} (h : keepO o = some u) : u = o := by
  unfold keepO at h
  split at h <;> first | cases h; rfl | cases h
theorem keepH_old {H0 H : Hp} {b : Addr} {o : HO} (h : H0 b = some o) : keepH H0 H b = some o := by unfold keepH; rw [h]
theorem keepH_cases {H0 H : Hp} {b : Addr} {o : HO} (h : keepH H0 H b = some o) : H0 b = some o ∨ (H0 b = none ∧ H b = some o ∧ keepO o = some o) := by
  unfold keepH at h
  cases e : H0 b with
  | some u => rw [e] at h; exact .inl h
  | none =>
    rw [e] at h
    dsimp only at h
    cases e2 : H b with
    | none => rw [e2] at h; cases h
    | some u =>
      rw [e2] at h
      have h' : keepO u = some o := h
      cases keepO_of h'
      exact .inr ⟨rfl, rfl, h'⟩
theorem keepH_new {H0 H : Hp} {b : Addr} {o : HO} (h : H0 b = none) (k : H b = some o) : keepH H0 H b = keepO o := by unfold keepH; rw [h, k]; rfl
theorem keepH_none {H0 H : Hp} {b : Addr} (h : keepH H0 H b = none) : H0 b = none := by
  cases e : H0 b with
  | none => rfl
  | some o => rw [keepH_old e] at h; cases h
def Fm.keep (F : Fm) (H0 : Hp) : Fm := ⟨F.K, H0, F.N, F.L, F.fix, F.T⟩
section
variable {F : Fm} {pins : List Pin} {ρ : Rho} {σ : L2.St} {H H1 H' : Hp}
theorem Ok.keep (O : Ok F pins ρ σ H) (hL : ∀ a, ¬ F.L a) : Ok (F.keep (keepH F.H0 H)) pins ρ σ H := by
  refine ⟨O.len, fun i e h => ?_, O.own, fun p hp => ?_, O.acs, fun a o _ h n => ?_, O.nh, O.ln, fun a h => ?_, O.lf, O.tb.1, fun a ps h => ?_⟩
  · obtain ⟨v, e1, e2⟩ := O.ent i e h
    refine ⟨v, e1, ?_⟩
    cases e with
    | d x => exact e2
    | own xs =>
      obtain ⟨a, vs, r1, r2, r3, r4⟩ := e2
      have r5 : F.H0 a = none := r4.resolve_left (hL a)
      exact ⟨a, vs, r1, r2, r3, .inr (by show keepH _ _ a = none; rw [keepH_new r5 r2]; rfl)⟩
    | dic kvs =>
      obtain ⟨a, vs, r1, r2, r3, r4, r5⟩ := e2
      exact ⟨a, vs, r1, r2, r3, r4, by show keepH _ _ a = none; rw [keepH_new r5 r2]; rfl⟩
    | dik kvs =>
      obtain ⟨a, vs, r1, r2, r3, r4, r5⟩ := e2
      exact ⟨a, vs, r1, r2, r3, r4, by show keepH _ _ a = none; rw [keepH_new r5 r2]; rfl⟩
    | ro x =>
      rcases e2 with e2 | ⟨a, us, xs, r1, r2, r3, r4⟩
      · exact .inl e2
      · refine .inr ⟨a, us, xs, r1, r2, ?_, r4⟩
        rcases r3 with ⟨z | ⟨o, z⟩, y⟩ | z
        · exact .inl ⟨.inl (keepH_old z), y⟩
        · exact .inl ⟨.inr ⟨o, keepH_old z⟩, y⟩
        · exact .inr z
    | raw u => exact e2
  · have := O.pin p hp
    cases p with
    | val v r => exact this
    | frz a o => exact this
    | acc a xs =>
      obtain ⟨vs, r1, r2, r3, r4⟩ := this
      exact ⟨vs, r1, r2, by show keepH _ _ a = none; rw [keepH_new r3 r1]; rfl, r4⟩
  · rcases keepH_cases h with z | ⟨_, z, _⟩
    · exact O.fr a o (hL a) z n
    · exact z
  · obtain ⟨o, e⟩ := O.h0 a h
    exact ⟨o, keepH_old e⟩
  · rcases keepH_cases h with z | ⟨_, _, z⟩
    · exact O.tb.2 a ps z
    · cases z
theorem Ok.unkeep (O : Ok (F.keep (keepH F.H0 H1)) pins ρ σ H) (hL : ∀ a, ¬ F.L a) (h0 : ∀ a, F.N a → ∃ o, F.H0 a = some o) : Ok F pins ρ σ H := by
  refine ⟨O.len, fun i e h => ?_, O.own, fun p hp => ?_, O.acs, fun a o l h n => O.fr a o l (keepH_old h) n, O.nh, O.ln, h0, O.lf, O.tb.1, fun a ps h => O.tb.2 a ps (keepH_old h)⟩
  · obtain ⟨v, e1, e2⟩ := O.ent i e h
    refine ⟨v, e1, ?_⟩
    cases e with
    | d x => exact e2
    | own xs =>
      obtain ⟨a, vs, r1, r2, r3, r4⟩ := e2
      exact ⟨a, vs, r1, r2, r3, .inr (keepH_none (r4.resolve_left (hL a)))⟩
    | dic kvs =>
      obtain ⟨a, vs, r1, r2, r3, r4, r5⟩ := e2
      exact ⟨a, vs, r1, r2, r3, r4, keepH_none r5⟩
    | dik kvs =>
      obtain ⟨a, vs, r1, r2, r3, r4, r5⟩ := e2
      exact ⟨a, vs, r1, r2, r3, r4, keepH_none r5⟩
    | ro x =>
      rcases e2 with e2 | ⟨a, us, xs, r1, r2, r3, r4⟩
      · exact .inl e2
      · refine .inr ⟨a, us, xs, r1, r2, ?_, r4⟩
        rcases r3 with ⟨z | ⟨o, z⟩, y⟩ | z
        · rcases keepH_cases z with z | ⟨_, _, z⟩
          · exact .inl ⟨.inl z, y⟩
          · cases z
        · rcases keepH_cases z with z | ⟨_, _, z⟩
          · exact .inl ⟨.inr ⟨o, z⟩, y⟩
          · cases z
        · exact .inr z
    | raw u => exact e2
  · have := O.pin p hp
    cases p with
    | val v r => exact this
    | frz a o => exact this
    | acc a xs =>
      obtain ⟨vs, r1, r2, r3, r4⟩ := this
      exact ⟨vs, r1, r2, keepH_none r3, r4⟩
theorem rok_keep {A : Addr → Prop} {H0 : Hp} {r : R} {v : V} (h : ROk (F.keep H0) A ρ σ H r v) : ROk F A ρ σ H r v := by
  cases r <;> exact h
theorem Rel.keep {D : Ends} {DD : DEnds} (R : Rel F pins D DD) (hL : ∀ a, ¬ F.L a) (h0 : ∀ a, F.N a → ∃ o, F.H0 a = some o) : Rel (F.keep (keepH F.H0 H1)) pins D DD :=
  ⟨fun ρ σ H O q => R.nx ρ σ H (O.unkeep hL h0) q, fun ρ σ H v r O z q => R.rt ρ σ H v r (O.unkeep hL h0) (rok_keep z) q, fun ρ σ H O q => R.bk ρ σ H (O.unkeep hL h0) q,
   fun ρ σ H O q => R.ct ρ σ H (O.unkeep hL h0) q, fun ρ σ H p xs O q => R.rl ρ σ H p xs (O.unkeep hL h0) q⟩
end
end DV
namespace DV
open PySem PySem.Spec PyProof.Rows L2
open LamX (ExtN TabS Tabs CodeO)
/-- the set at a holds these pairs -/
def SetIn (P : Program) (w : World) (K : PySem.W.Frag) (H : Hp) (a : Addr) (ps : List Pr) : Prop := ∃ L : List (Addr × List Int), H a = some (SetTO P w a L) ∧ (∀ z ∈ L, SqT K H z.1 (z.2.map V.int)) ∧ ∀ p : Pr, [p.1, p.2] ∈ L.map (·.2) ↔ p ∈ ps
section
variable {F : Fm} {pins : List Pin} {ρ : Rho} {σ : L2.St} {H : Hp}
theorem SetIn.kept {P : Program} {w : World} {a : Addr} {ps : List Pr} (O : Ok F pins ρ σ H) (hL : ∀ a, ¬ F.L a) (h : SetIn P w F.K H a ps) : SetIn P w F.K (keepH F.H0 H) a ps := by
  obtain ⟨L, h1, h2, h3⟩ := h
  have key : ∀ (b : Addr) (o : HO), H b = some o → keepO o = some o → keepH F.H0 H b = some o := fun b o e k => by
    cases e0 : F.H0 b with
    | none => rw [keepH_new e0 e, k]
    | some u =>
      have : H b = some u := O.fr b u (hL b) e0 fun ps z => by
        subst z
        obtain ⟨qs, e3⟩ := O.tb.2 b ps e0
        rw [e] at e3
        cases e3
        cases k
      rw [e] at this
      cases this
      exact keepH_old e0
  refine ⟨L, key a _ h1 rfl, fun z hz => ?_, h3⟩
  rcases h2 z hz with (e | ⟨o, e⟩) | e
  · exact .inl (.inl (key _ _ e rfl))
  · exact .inl (.inr ⟨o, key _ _ e rfl⟩)
  · exact .inr e
end
section
variable {X : Cx} {F : Fm} {e a b : Expr} {t : TA} {d : TDA} {pos p q : Pos} {ta tb : TE} {da db : TDE} {rest : List Stmt} {us : TS} {d0 : TDS}
/-- i = set(xs); the rest -/
def dLetSet (P : Program) (w : World) (K : PySem.W.Frag) (i : Nat) (d : TDA) (dus : Hp → TDS) : TDS := fun DD ρ => d ρ fun rs ρ1 => match rs with
  | [r] => onL ρ1 r fun xs => ∃ ps, asPairs xs = some ps ∧ ps.length < 64 ∧ ∀ H0 a, SetIn P w K H0 a ps → dus H0 DD (ρ1.set i (some (.raw (.ref a))))
  | _ => False
end
end DV
namespace DV
open PySem PySem.Spec PyProof.Rows PySem.Calls PySem.W
section
variable {prog : Program} {w : World} {A : Around} {E : Value → Shared → Prop} {s : Shared}
variable {z TI TO i1 i2 e : Addr} {fp1 fp2 : List Addr} {n1 n2 i : Nat} {P1 P2 : Nat → Value → Prop} {St1 St2 : Nat → Heap → Prop}
abbrev IsZipF (h : Heap) (z TI TO : Addr) (v : Value) (f : Bool) : Prop :=
  h.get? z = some { cls := .type "zip", dict := none, data := .fields #[v, .bool f, .bool false, .ref TI, .ref TO], slots := #[] }
/-- a zip that an enumerate draws from, before its i-th pair -/
def ZS (z TI TO i1 i2 : Addr) (St1 St2 : Nat → Heap → Prop) (i : Nat) (g : Heap) : Prop :=
  (∃ v f, IsZipF g z TI TO v f ∧ (v = .none ∧ f = false ∨ ∃ T : Addr, v = rawInt T)) ∧ IsPair g TI (.ref i1) (.ref i2) ∧ (∃ x y, IsPair g TO x y) ∧ St1 i g ∧ St2 i g
theorem ZS.ty (h : ZS z TI TO i1 i2 St1 St2 i s.heap) : s.TypeIs (.ref z) "zip" := by
  obtain ⟨⟨v, f, h, _⟩, _⟩ := h
  exact ⟨_, h, rfl⟩
theorem ZS.map {St1' St2' : Nat → Heap → Prop} {g g' : Heap} (h : ZS z TI TO i1 i2 St1 St2 i g) (k : ∀ c o, c = z ∨ c = TI ∨ c = TO → g.get? c = some o → g'.get? c = some o) (m1 : St1 i g → St1' i g') (m2 : St2 i g → St2' i g') : ZS z TI TO i1 i2 St1' St2' i g' := by
  obtain ⟨⟨v, f, h1, h2⟩, h3, ⟨x, y, h4⟩, h5, h6⟩ := h
  exact ⟨⟨v, f, k _ _ (.inl rfl) h1, h2⟩, k _ _ (.inr (.inl rfl)) h3, ⟨x, y, k _ _ (.inr (.inr rfl)) h4⟩, m1 h5, m2 h6⟩
end
end DV
namespace DV
open PySem PySem.Spec PyProof.Rows L2
open LamX (ExtN TabS Tabs CodeO)
section
variable {X : Cx} {F : Fm} {e e2 : Expr} {pos p pos2 p2 tpos : Pos} {t : TA} {d : TDA} {elts : List Expr} {kk : Nat}
def dEnumZip (t : TDA) : TDI := fun ρ Q => t ρ fun rs ρ1 => match rs with
  | [r, s] => match seqs ρ1 r, seqs ρ1 s with
    | some (_, xs), some (_, ys) => Q (enumD (zipD xs ys)) ρ1
    | _, _ => False
  | _ => False
end
end DV
namespace DV
open PySem PySem.Spec PyProof.Rows L2
open LamX (ExtN TabS Tabs CodeO)
def fLenD : FA
  | [.dict kvs], Q => Q (.int (kvs.length : Nat))
  | _, _ => False
theorem DpKv.length {K : PySem.W.Frag} {H : Hp} : ∀ {vs : List (L2.Key × V)} {ds : List (PyData × PyData)}, DpKv K H vs ds → vs.length = ds.length
  | _, [], h => by cases h; rfl
  | _, _ :: _, h => by cases h with | cons h1 h2 => simp [DpKv.length h2]
end DV
namespace DV
open PySem PySem.Spec PyProof.Rows L2
open LamX (ExtN TabS Tabs CodeO)
section
variable {X : Cx} {F : Fm} {tg e : Expr} {te : TE} {de : TDE} {apos cpos : Pos}
def dDicV (te : TDE) : TDI := fun ρ Q => te ρ fun r ρ1 => onDict r fun ds => Q (ds.map (·.2)) ρ1
end
end DV
namespace DV
open PySem PySem.Spec PyProof.Rows L2
open LamX (ExtN TabS Tabs CodeO)
section
variable {X : Cx} {F : Fm} {e a b : Expr} {t : TA} {d : TDA} {pos p q : Pos} {ta tb : TE} {da db : TDE} {rest : List Stmt} {us : TS} {d0 : TDS}
/-- i = set(xs), xs a list or a tuple; the rest -/
def dLetSetK (P : Program) (w : World) (K : PySem.W.Frag) (i : Nat) (d : TDA) (dus : Hp → TDS) : TDS := fun DD ρ => d ρ fun rs ρ1 => match rs with
  | [r] => match seqs ρ1 r with
    | some (_, xs) => ∃ ps, asPairs xs = some ps ∧ ps.length < 64 ∧ ∀ H0 a, SetIn P w K H0 a ps → dus H0 DD (ρ1.set i (some (.raw (.ref a))))
    | _ => False
  | _ => False
end
end DV
namespace DV
open PySem PySem.Spec PyProof.Rows L2
open LamX (ExtN TabS Tabs CodeO TabB)
open NdefX (NF NScope CellsAt Caps ncx startF envF slotAt)
end DV
namespace DV
open PySem PySem.Spec PyProof.Rows L2
open LamX (ExtN TabS Tabs CodeO TabB)
open NdefX (NF NScope CellsAt Caps ncx startF envF slotAt)
def nAt : PyData → Int
  | .int n => n
  | _ => 0
def wAt (pic : List PyData) (d : PyData) : Int := match (pic[(nAt d).toNat]? : Option PyData) with
  | some (.tuple ls) => (match (ls[3]? : Option PyData) with
    | some (.int w) => w
    | _ => 0)
  | _ => 0
def keyF (pic : List PyData) (d : PyData) : PyData := .tuple [.int (0 - wAt pic d), .int (nAt d)]
def FaOk (pic : List PyData) (x : PyData) : Prop := ∃ (n : Nat) (ls : List PyData) (w : Int), x = .int (n : Int) ∧ pic[n]? = some (.tuple ls) ∧ ls[3]? = some (.int w)
abbrev sortKF (pic ds : List PyData) : List PyData := ds.mergeSort (PySem.W.dataLe false (keyF pic))
section
variable {X : Cx} {F : Fm} {e : Expr} {t : TA} {d : TDA} {k j : Nat} {y z : Str} {c P : Addr} {params : Arguments} {body : Expr} {scope : Scope} {lpos kpos p1 pos : Pos} {Nl : List Str}
def dSortKF (j : Nat) (t : TDA) : TDL := fun ρ Q => t ρ fun rs ρ1 => match rs with
  | [.d (.list ds)] => ∃ pic : List PyData, ρ1[j]? = some (some (.d (.tuple pic))) ∧ (∀ x ∈ ds, FaOk pic x) ∧ Q (sortKF pic ds) ρ1
  | _ => False
end
end DV
namespace DV
open PySem PySem.Spec PyProof.Rows PySem.SeqAt L2
open AutoSeq1 (wpAny_loadPart')
end DV
namespace DV
open PySem PySem.Spec PyProof.Rows L2
open LamX (ExtN TabS Tabs CodeO)
/-- none, a truth, a number, a text, () -/
def flatD : PyData → Bool
  | .none => true
  | .bool _ => true
  | .int _ => true
  | .str _ => true
  | .tuple [] => true
  | _ => false
section
open PySem.SeqAt
theorem isTup_nil {h : Heap} {b : Addr} {vs : Array Value} {as : List Addr} (r : ReadsAll h vs.toList [] as) : vs = #[] := by
  generalize e : vs.toList = l at r
  cases r
  simpa using e
end
section
variable {X : Cx} {pins : List (Addr × Obj)} {σ : L2.St} {H : Hp} {s : Shared}
mutual
theorem Dp.rd (I : L2.Inv X pins σ H s) : ∀ (d : PyData) (v : V) (u : Value), Dp X.K H v d → RelV v u → ∃ as, Reads s.heap u d as
  | .none, _, _, h, r => by
    cases h
    cases r
    exact ⟨_, Reads.none⟩
  | .bool b, _, _, h, r => by
    cases h
    cases r
    exact ⟨_, Reads.bool b⟩
  | .int i, _, _, h, r => by
    cases h
    obtain ⟨t, rfl⟩ := r
    exact ⟨_, Reads.int i t⟩
  | .str x, _, _, h, r => by
    cases h
    obtain ⟨t, rfl⟩ := r
    exact ⟨_, Reads.str x t⟩
  | .list qs, _, _, h, r => by
    cases h with
    | lst k1 k2 =>
      cases r
      obtain ⟨tis, rv, ⟨o, n, e0, e1, _, e2⟩, _⟩ := I.list k1
      obtain ⟨as, kr⟩ := Dp.rdAll I qs _ tis k2 rv
      exact ⟨_, Reads.list e0 e1 e2 kr⟩
  | .tuple qs, _, _, h, r => by
    cases h with
    | tup k1 k2 =>
      cases r
      obtain ⟨tis, rv, ⟨o, e0, e1, n, e2⟩, _⟩ := I.tuple k1
      obtain ⟨as, kr⟩ := Dp.rdAll I qs _ tis k2 rv
      exact ⟨_, Reads.tuple e0 e1 e2 kr⟩
  | .dict qs, _, _, h, r => by
    cases h with
    | dic l t =>
      cases r
      obtain ⟨_, ns, vs, kv, o, es, ep, y1, y2, h3, h4, h5, h6⟩ := dk_rd I.hok l
      obtain ⟨⟨as, g1⟩, bs, g2⟩ := DpKv.rd I qs _ vs es.toList t kv h5
      exact ⟨_, Reads.dict y1 y2.1 h3 g1 g2⟩
theorem Dp.rdAll (I : L2.Inv X pins σ H s) : ∀ (qs : List PyData) (vs : List V) (us : List Value), DpAll X.K H vs qs → Vals vs us → ∃ as, ReadsAll s.heap us qs as
  | [], _, _, h, r => by
    cases h
    cases r
    exact ⟨_, ReadsAll.nil⟩
  | d :: qs, _, _, h, r => by
    cases h with
    | cons y1 y2 =>
      cases r with
      | cons z1 z2 =>
        obtain ⟨as, g1⟩ := Dp.rd I d _ _ y1 z1
        obtain ⟨bs, g2⟩ := Dp.rdAll I qs _ _ y2 z2
        exact ⟨_, ReadsAll.cons g1 g2⟩
theorem DpKv.rd (I : L2.Inv X pins σ H s) : ∀ (qs : List (PyData × PyData)) (kvs : List (L2.Key × V)) (vs : List (L2.Key × Value)) (es : List DictEntry), DpKv X.K H kvs qs → KV kvs vs → Pairs (mixKind X.prog X.w) es vs →
    (∃ as, ReadsAll s.heap (es.map (·.key)) (qs.map (·.1)) as) ∧ ∃ bs, ReadsAll s.heap (es.map (·.val)) (qs.map (·.2)) bs
  | [], _, _, _, h, kv, p => by
    cases h
    cases kv
    cases p
    exact ⟨⟨_, ReadsAll.nil⟩, _, ReadsAll.nil⟩
  | (k, d) :: qs, _, _, _, h, kv, p => by
    cases h with
    | cons y1 y2 =>
      cases kv with
      | cons z1 z2 =>
        cases p with
        | cons p1 p2 p3 =>
          obtain ⟨⟨as, g1⟩, bs, g2⟩ := DpKv.rd I qs _ _ _ y2 z2 p3
          obtain ⟨e1, rv⟩ := z1
          obtain ⟨cs, q3⟩ := Dp.rd I d _ _ y1 rv
          dsimp only at e1 p1
          rw [← e1] at p1
          rw [← p2] at q3
          exact ⟨⟨_, ReadsAll.cons (key_reads p1) g1⟩, _, ReadsAll.cons q3 g2⟩
end
end
section
variable {X : Cx} {F : Fm} {a b e : Expr} {es : List Expr} {ta tb : TE} {da db : TDE} {pos : Pos} {t : TA} {d : TDA}
def fEqA : F2 := fun x y Q => flatD y = true ∧ Q (.bool (PyData.eqv x y))
def fNeA : F2
  | .tuple xs, .tuple [], Q => Q (.bool (!decide (xs = [])))
  | _, _, _ => False
def fStrI : FA
  | [.int i], Q => i.natAbs.log2 < 1920 ∧ Q (.str (toString i))
  | _, _ => False
theorem sc_strI {K : PySem.W.Frag} : SC K (fun xs H Q => ∃ i, xs = [.int i] ∧ i.natAbs.log2 < 1920 ∧ Q (.str (toString i)) H) fStrI := by
  constructor
  · intro H vs ds Q h q
    unfold fStrI at q
    split at q
    · obtain ⟨v, rfl, h1⟩ := dpall1 h
      cases dp_int h1
      exact ⟨_, rfl, q.1, q.2 _ .str⟩
    · exact q.elim
  · intro ds Q Q' hq q
    unfold fStrI at q ⊢
    split at q
    · exact ⟨q.1, hq _ q.2⟩
    · exact q.elim
end
def SysB (base : Heap) : Prop := ∃ o, base.get? sysModules = some o
section
variable {X : Cx} {pins : List (Addr × Obj)} {σ : L2.St} {H : Hp} {s : Shared} {N : Addr → Prop}
theorem sys_now (I : L2.Inv X pins σ H s) (h : SysB X.base) : ∀ xs, H sysModules ≠ some (.lst xs) := by
  obtain ⟨o, e⟩ := h
  intro xs q
  rw [(I.env0.bs _ _ e).2] at q
  cases q
mutual
theorem Im.rds (I : L2.Inv X pins σ H s) (hs : ∀ xs, H sysModules ≠ some (.lst xs)) : ∀ (d : PyData) (v : V) (u : Value), Im X.K N H d v → RelV v u → ∃ as, Reads s.heap u d as ∧ sysModules ∉ as
  | .none, _, _, h, r => by
    simp only [Im] at h
    subst h
    cases r
    exact ⟨_, Reads.none, by simp⟩
  | .bool b, _, _, h, r => by
    simp only [Im] at h
    subst h
    cases r
    exact ⟨_, Reads.bool b, by simp⟩
  | .int i, _, _, h, r => by
    simp only [Im] at h
    subst h
    obtain ⟨t, rfl⟩ := r
    exact ⟨_, Reads.int i t, by simp⟩
  | .str x, _, _, h, r => by
    simp only [Im] at h
    subst h
    obtain ⟨t, rfl⟩ := r
    exact ⟨_, Reads.str x t, by simp⟩
  | .list qs, _, _, h, r => by
    simp only [Im] at h
    obtain ⟨a, xs, rfl, lk, ia⟩ := h
    cases (show _ = Value.ref a from r)
    obtain ⟨tis, rv, ⟨o, n, e0, e1, _, e2⟩, _⟩ := I.list lk.sq
    obtain ⟨as, kr, hn⟩ := Im.rdsAll I hs qs _ tis ia rv
    refine ⟨_, Reads.list e0 e1 e2 kr, fun hm => ?_⟩
    rcases List.mem_cons.mp hm with e | hm
    · exact hs _ (by rw [e]; exact lk.1)
    · exact hn hm
  | .tuple qs, _, _, h, r => by
    simp only [Im] at h
    obtain ⟨a, xs, rfl, lk, ia⟩ := h
    cases (show _ = Value.ref a from r)
    obtain ⟨tis, rv, ⟨o, e0, e1, n, e2⟩, _⟩ := I.tuple lk.sq
    obtain ⟨as, kr, hn⟩ := Im.rdsAll I hs qs _ tis ia rv
    exact ⟨_, Reads.tuple e0 e1 e2 kr, hn⟩
  | .dict qs, _, _, h, r => by
    simp only [Im] at h
    obtain ⟨a, kvs, rfl, ⟨⟨oz, lk⟩, _⟩, ia⟩ := h
    cases (show _ = Value.ref a from r)
    obtain ⟨_, ns, vs, kv, o, es, ep, y1, y2, h3, h4, h5, h6⟩ := dk_rd I.hok (.inr ⟨oz, lk⟩)
    obtain ⟨⟨as, g1, n1⟩, bs, g2, n2⟩ := Im.rdsKv I hs qs _ vs es.toList ia kv h5
    refine ⟨_, Reads.dict y1 y2.1 h3 g1 g2, fun hm => ?_⟩
    rcases List.mem_cons.mp hm with e | hm
    · rw [← e] at ns; simp at ns
    · rcases List.mem_append.mp hm with hm | hm
      · exact n1 hm
      · exact n2 hm
theorem Im.rdsAll (I : L2.Inv X pins σ H s) (hs : ∀ xs, H sysModules ≠ some (.lst xs)) : ∀ (qs : List PyData) (vs : List V) (us : List Value), ImAll X.K N H qs vs → Vals vs us → ∃ as, ReadsAll s.heap us qs as ∧ sysModules ∉ as
  | [], _, _, h, r => by
    simp only [ImAll] at h
    subst h
    cases r
    exact ⟨_, ReadsAll.nil, by simp⟩
  | d :: qs, _, _, h, r => by
    simp only [ImAll] at h
    obtain ⟨x, xs, rfl, h1, h2⟩ := h
    cases r with
    | cons z1 z2 =>
      obtain ⟨as, g1, n1⟩ := Im.rds I hs d _ _ h1 z1
      obtain ⟨bs, g2, n2⟩ := Im.rdsAll I hs qs _ _ h2 z2
      exact ⟨_, ReadsAll.cons g1 g2, fun hm => (List.mem_append.mp hm).elim n1 n2⟩
theorem Im.rdsKv (I : L2.Inv X pins σ H s) (hs : ∀ xs, H sysModules ≠ some (.lst xs)) : ∀ (qs : List (PyData × PyData)) (kvs : List (L2.Key × V)) (vs : List (L2.Key × Value)) (es : List DictEntry), ImKv X.K N H qs kvs → KV kvs vs → Pairs (mixKind X.prog X.w) es vs →
    (∃ as, ReadsAll s.heap (es.map (·.key)) (qs.map (·.1)) as ∧ sysModules ∉ as) ∧ ∃ bs, ReadsAll s.heap (es.map (·.val)) (qs.map (·.2)) bs ∧ sysModules ∉ bs
  | [], _, _, _, h, kv, p => by
    simp only [ImKv] at h
    subst h
    cases kv
    cases p
    exact ⟨⟨_, ReadsAll.nil, by simp⟩, _, ReadsAll.nil, by simp⟩
  | (k, d) :: qs, _, _, _, h, kv, p => by
    simp only [ImKv] at h
    obtain ⟨q, x, xs, rfl, rfl, h1, h2⟩ := h
    cases kv with
    | cons z1 z2 =>
      cases p with
      | cons p1 p2 p3 =>
        obtain ⟨⟨as, g1, n1⟩, bs, g2, n2⟩ := Im.rdsKv I hs qs _ _ _ h2 z2 p3
        obtain ⟨e1, rv⟩ := z1
        obtain ⟨cs, q3, n3⟩ := Im.rds I hs d _ _ h1 rv
        dsimp only at e1 p1
        rw [← e1] at p1
        rw [← p2] at q3
        exact ⟨⟨_, ReadsAll.cons (key_reads p1) g1, fun hm => (List.mem_append.mp hm).elim (fun z => nomatch z) n1⟩, _, ReadsAll.cons q3 g2, fun hm => (List.mem_append.mp hm).elim n3 n2⟩
end
end
structure PlainW (d : PyData) : Prop where
  sh : d.showable = true
  deep : d.depth ≤ 60
  few : d.shown.length ≤ sizeLine
def rReprW (K : PySem.W.Frag) : List V → Hp → VK → Prop := fun vs H Q => ∃ (v : V) (d : PyData) (N : Addr → Prop), vs = [v] ∧ Im K N H d v ∧ PlainW d ∧ Q (.str d.shown) H
section
variable {X : Cx} {F : Fm} {e : Expr} {es : List Expr} {pos p : Pos} {t : TA} {d : TDA}
theorem call_reprW (hsy : SysB X.base) (hr : X.A.guards = some []) (hu : X.A.units + 64 < cLine) : CallR X (.builtin "repr") (rReprW X.K) := by
  intro pins s σ H vs us Q I r h
  obtain ⟨v, d, N, rfl, hd, ⟨hs, hdp, hsz⟩, q⟩ := h
  obtain ⟨u, rfl, ru⟩ := vals1 r
  have fin : ∀ (h' : Heap) (u' : Tok) (tk : Nat), (∀ b o, s.heap.get? b = some o → h'.get? b = some o) → EP X pins σ Q (.str d.shown u') { s with heap := h', toks := tk } := fun h' u' tk hk =>
    ⟨.str d.shown, H, I.kept hk, ⟨u', rfl⟩, q⟩
  obtain ⟨as, rd, hns⟩ := Im.rds I (sys_now I hsy) d v u hd ru
  cases rd with
  | none =>
    rw [PyData.shown_none] at q
    exact PySem.P.repr_of_none ⟨.str _, H, I.tok _, ⟨_, rfl⟩, q⟩
  | bool b =>
    rw [PyData.shown_bool] at q
    exact PySem.P.repr_of_bool ⟨.str _, H, I.tok _, ⟨_, rfl⟩, q⟩
  | int i tk =>
    have hz : i.natAbs.log2 < 1920 := by simpa [PyData.showable] using hs
    rw [PyData.shown_int] at q
    exact PySem.P.repr_of_int hz ⟨.str _, H, I.tok _, ⟨_, rfl⟩, q⟩
  | str x tk =>
    rw [PyData.shown_str] at q hsz
    exact PySem.P.repr_of_str ⟨.str _, H, I.tok _, ⟨_, rfl⟩, q⟩ hsz
  | list k1 k2 k3 k4 => exact repr_of_reads' (.list k1 k2 k3 k4) hs (fun _ => hns) hr (by omega) (fun _ _ e => e) fin hsz
  | tuple k1 k2 k3 k4 => exact repr_of_reads' (.tuple k1 k2 k3 k4) hs (fun _ => hns) hr (by omega) (fun _ _ e => e) fin hsz
  | dict k1 k2 k3 k4 k5 => exact repr_of_reads' (.dict k1 k2 k3 k4 k5) hs (fun _ => hns) hr (by omega) (fun _ _ e => e) fin hsz
def dReprW (t : TDA) : TDE := fun ρ Q => t ρ fun rs ρ1 => match rs with
  | [.d d] => PlainW d ∧ Q (.d (.str d.shown)) ρ1
  | _ => False
theorem pd_reprW (hsy : SysB X.base) (hgd : X.A.guards = some []) (hu : X.A.units + 64 < cLine) (hg : Gl X "repr") (hm : X.mg "repr" = none) (ha : PDA X F (e :: es) t d) (hK : X.K = F.K := by rfl)
    (he : starEach (e :: es) X.env = (false, eval e X.env) :: starEach es X.env := by rfl) (hpl : (backTo pos (starEach es X.env)).any (·.1) = false := by rfl) :
    PD X F (.Call (.Name "repr" p) (e :: es) [] pos) (tCB (rReprW F.K) t) (dReprW d) := by
  refine ⟨?_, fun pins ρ σ H Q O h => ?_, fun ρ Q Q' hq h => ?_⟩
  · have := pe_callB (p := p) (pos := pos) (call_reprW hsy hgd hu) hg hm (by decide +kernel) ha.pa (by decide) (by decide) he hpl
    rw [hK] at this
    exact this
  · refine ha.da.run pins ρ σ H _ O (ha.da.mono _ _ _ (fun rs ρ1 h1 vs H1 O1 R1 => ?_) h)
    split at h1
    · rename_i x
      simp only [ROks] at R1
      obtain ⟨v, _, rfl, r1, rfl⟩ := R1
      exact ⟨v, x, _, rfl, r1, h1.1, h1.2 _ _ O1 (.sc .str)⟩
    · exact h1.elim
  · refine ha.da.mono _ _ _ (fun rs ρ1 h1 => ?_) h
    revert h1
    split
    · exact fun h1 => ⟨h1.1, hq _ _ h1.2⟩
    · exact fun h1 => h1
end
theorem law_goesB {P : Program} {w : World} {K : PySem.W.Frag} {mg mb : Str → Option Value} {k : Nat} {fa a : Addr} {fd : FuncData} {x : Str} {sp : Sp} {s₁ : Shared} {vs : List Value} {ns : List Int}
    (inK : K.In s₁.heap) (nm : s₁.heap.Ns mainGlobals mg) (nb : s₁.heap.Ns builtinsNs mb) (bb : ∀ x : Str, x ≠ "__name__" → mb x = bootBuiltins x) (nl : s₁.heap.NoLimit) (ny : ∃ mm, s₁.heap.Ns sysModules mm) (ng : s₁.gens = #[])
    (at_a : s₁.heap.get? a = some { cls := .type "list", data := .seq vs.toArray }) (hin : IntsAre vs ns) (short : ns.length ≤ sizeLine) (room : Room k callerA)
    (G : ∀ base : Heap, K.In base → base.Ns mainGlobals mg → SysB base → FnG P w K mg base CX0 k fa fd [x] sp) (bind : ∀ (s : Shared) (u : Value), BindsTo s fd ⟨[u], []⟩ [(x, u)])
    (hs : ∀ H : Hp, SqL K H a (ns.map V.int) → sp [.ref a] H (fun v _ => v = .bl true) fun _ _ _ => False) :
    codeAny (model P w) callerA (.call (.ref fa) ⟨[.ref a], []⟩) (fun r s' => r = .ok (.ret (.bool true)) ∧ OldK s₁.heap s'.heap ∧ s'.os = s₁.os ∧ AllBare s'.gens) s₁ := by
  let ob : Obj := { cls := .type "list", data := .seq vs.toArray }
  let Hs : Hp := fun b => if b = a ∧ K.lookup a = none then some (.frz ob (.lst (ns.map V.int))) else none
  have Hs_some : ∀ {b u}, Hs b = some u → b = a ∧ K.lookup a = none ∧ u = .frz ob (.lst (ns.map V.int)) := by
    intro b u q
    have q : (if b = a ∧ K.lookup a = none then some (HO.frz ob (.lst (ns.map V.int))) else none) = some u := q
    split at q
    · rename_i c; cases q; exact ⟨c.1, c.2, rfl⟩
    · cases q
  have rel := vals_ints hin
  have sq : SqL K Hs a (ns.map V.int) := by
    cases hk : K.lookup a with
    | none => exact .inl (.inr ⟨ob, if_pos ⟨rfl, hk⟩⟩)
    | some o =>
      have e := inK a o hk
      rw [at_a] at e; cases e
      exact .inr ⟨_, vs.toArray, _, hk, rfl, rfl, rfl, by rw [List.size_toArray, hin.length]; exact short, by simpa using rel⟩
  have hok : HOk P w Hs s₁.heap := by
    intro b u q
    obtain ⟨rfl, _, rfl⟩ := Hs_some q
    exact ⟨at_a, by rw [List.length_map]; exact short, vs, _, rel, at_a⟩
  have keepK : ∀ {b : Addr} {o : Obj}, K.lookup b = some o → Hs b = none := by
    intro b o e
    cases q : Hs b with
    | none => rfl
    | some u => obtain ⟨rfl, z, _⟩ := Hs_some q; rw [z] at e; cases e
  have keepD : ∀ {b : Addr} {o : Obj} {es : Array DictEntry} {ep : Nat}, s₁.heap.get? b = some o → o.data = .dict es ep → Hs b = none := by
    intro b o es ep e d
    cases q : Hs b with
    | none => rfl
    | some u =>
      obtain ⟨rfl, _, _⟩ := Hs_some q
      rw [at_a] at e; cases e
      exact absurd d (by intro z; cases z)
  have ns_of : ∀ {b : Addr} {m : Str → Option Value}, s₁.heap.Ns b m → (hidT s₁.heap Hs).Ns b m := by
    rintro b m ⟨o, es, ep, e, d, r⟩
    exact ⟨o, es, ep, hidT_get e (keepD e d), d, r⟩
  have kb : K.In (hidT s₁.heap Hs) := fun b o e => hidT_get (inK b o e) (keepK e)
  have md : Mod K mg (hidT s₁.heap Hs) := by
    obtain ⟨mc, l1, l2⟩ := nl
    exact ⟨kb, ns_of nm, ⟨mb, ns_of nb, bb⟩, ⟨mc, ns_of l1, l2⟩⟩
  have env0 : Env0 P w K mg (hidT s₁.heap Hs) callerA [] s₁ Hs :=
    ⟨rfl, md, fun b o => of_hidT, Nat.le_of_eq (hidT_size _ _), trivial, (fun b hb => nomatch hb), hok, .of_eq ng⟩
  refine codeAny_mono ((G _ kb (ns_of nm) (by obtain ⟨mm, h⟩ := ny; obtain ⟨o, _, _, e, _⟩ := ns_of h; exact ⟨o, e⟩)).goes callerA [] s₁ Hs ⟨[.ref a], []⟩ [.ref a] [.ref a] _ _ room rfl env0 (bind s₁ (.ref a)) (.cons rfl .nil) (hs Hs sq)) ?_
  rintro (e | fl) s' z
  · exact False.elim z
  cases fl with
  | next => exact False.elim z
  | brk => exact False.elim z
  | cont => exact False.elim z
  | ret u =>
    obtain ⟨v, H', os, bare, un, hok', rv, q⟩ := z
    have q : v = .bl true := q
    subst q
    obtain rfl : u = Value.bool true := rv
    refine ⟨rfl, .of_keep ?_, os, bare⟩
    intro b o e
    cases q : Hs b with
    | none => exact un.keep b o e q (fun z => nomatch z) (fun z => nomatch z)
    | some u =>
      obtain ⟨rfl, _, rfl⟩ := Hs_some q
      obtain ⟨e2, _⟩ := hok' _ _ (un.frzs _ _ _ q)
      rw [at_a] at e; cases e
      exact e2
theorem walk_goesB {l : PySem.W.OpenLaw} {n k : Nat} {q : Program} {loose : List Str} {XP : (Str → Option Value) → Heap → Prop} {YP : World → Heap → Prop} {d : DefRec} {K : Params → PySem.W.Frag} {sp : PySem.W.Frag → Sp} {x : Str}
    (himp : importsNone q = true) (hn : l.most = some n) (hn2 : n ≤ sizeLine) (hdf : d.params.defaults = []) (hr : Room k callerA) (hY : ∀ (w : World) (h : Heap), YP w h → (K w.params).In h)
    (G : ∀ (w : World) (mg : Str → Option Value) (fa : Addr) (h : Heap), (K w.params).In h → h.Ns mainGlobals mg → mg d.name = some (.ref fa) →
      ∃ fd : FuncData, (∀ (s : Shared) (u : Value), BindsTo s fd ⟨[u], []⟩ [(x, u)]) ∧ ∀ base : Heap, (K w.params).In base → base.Ns mainGlobals mg → SysB base → FnG l.prog w (K w.params) mg base CX0 k fa fd [x] (sp (K w.params)))
    (hsp : ∀ (K : PySem.W.Frag) (H : Hp) (a : Addr) (ns : List Int), ns.length ≤ n → SqL K H a (ns.map V.int) → sp K [.ref a] H (fun v _ => v = .bl true) fun _ _ _ => False) :
    PySem.W.WalkO q loose XP YP l.row.toRowW d [] (fun f vs => PySem.call f vs) := by
  apply Att.attach_call hn hdf
  intro w s₀ s₁ mg mb fa o pm cd doc a vs ns Gr Y ho hd hcd hmg hobj hints hlen hg
  have inK := hY w _ Y
  obtain ⟨fd, hb, hF⟩ := G w mg fa _ inK Gr.T.g hmg
  exact law_goesB inK Gr.T.g Gr.T.b Gr.T.builtins Gr.T.nolimit (by obtain ⟨mm, h, _⟩ := (Gr.T.seer himp).mods; exact ⟨mm, h⟩) hg hobj hints (Nat.le_trans hlen hn2) hr hF hb fun H => hsp _ H a ns hlen
end DV
namespace DV
open PySem PySem.Spec PyProof.Rows L2
open LamX (ExtN TabS Tabs CodeO)
theorem fg_void {P : Program} {w : World} {K : PySem.W.Frag} {mg : Str → Option Value} {base : Heap} {CX : CXT} {k : Nat} {f : Addr} {fd : FuncData} {ps : List Str} {sp : Sp} (h : ∀ vs H Q E, ¬ sp vs H Q E) : FnG P w K mg base CX k f fd ps sp :=
  ⟨fun vs H Q E q => (h vs H Q E q).elim, fun _ _ _ H _ _ vs Q E _ _ _ _ _ q => (h vs H Q E q).elim⟩
theorem kw_NoneType_int : kitB "NoneType" "int" = some false := by decide +kernel
theorem kw_NoneType_bool : kitB "NoneType" "bool" = some false := by decide +kernel
theorem kw_NoneType_str : kitB "NoneType" "str" = some false := by decide +kernel
theorem kw_NoneType_tuple : kitB "NoneType" "tuple" = some false := by decide +kernel
theorem kw_NoneType_dict : kitB "NoneType" "dict" = some false := by decide +kernel
theorem kw_NoneType_list : kitB "NoneType" "list" = some false := by decide +kernel
theorem kw_bool_int : kitB "bool" "int" = some true := by decide +kernel
theorem kw_bool_bool : kitB "bool" "bool" = some true := by decide +kernel
theorem kw_bool_str : kitB "bool" "str" = some false := by decide +kernel
theorem kw_bool_tuple : kitB "bool" "tuple" = some false := by decide +kernel
theorem kw_bool_dict : kitB "bool" "dict" = some false := by decide +kernel
theorem kw_bool_list : kitB "bool" "list" = some false := by decide +kernel
theorem kw_int_int : kitB "int" "int" = some true := by decide +kernel
theorem kw_int_bool : kitB "int" "bool" = some false := by decide +kernel
theorem kw_int_str : kitB "int" "str" = some false := by decide +kernel
theorem kw_int_tuple : kitB "int" "tuple" = some false := by decide +kernel
theorem kw_int_dict : kitB "int" "dict" = some false := by decide +kernel
theorem kw_int_list : kitB "int" "list" = some false := by decide +kernel
theorem kw_str_int : kitB "str" "int" = some false := by decide +kernel
theorem kw_str_bool : kitB "str" "bool" = some false := by decide +kernel
theorem kw_str_str : kitB "str" "str" = some true := by decide +kernel
theorem kw_str_tuple : kitB "str" "tuple" = some false := by decide +kernel
theorem kw_str_dict : kitB "str" "dict" = some false := by decide +kernel
theorem kw_str_list : kitB "str" "list" = some false := by decide +kernel
theorem kw_list_int : kitB "list" "int" = some false := by decide +kernel
theorem kw_list_bool : kitB "list" "bool" = some false := by decide +kernel
theorem kw_list_str : kitB "list" "str" = some false := by decide +kernel
theorem kw_list_tuple : kitB "list" "tuple" = some false := by decide +kernel
theorem kw_list_dict : kitB "list" "dict" = some false := by decide +kernel
theorem kw_list_list : kitB "list" "list" = some true := by decide +kernel
theorem kw_tuple_int : kitB "tuple" "int" = some false := by decide +kernel
theorem kw_tuple_bool : kitB "tuple" "bool" = some false := by decide +kernel
theorem kw_tuple_str : kitB "tuple" "str" = some false := by decide +kernel
theorem kw_tuple_tuple : kitB "tuple" "tuple" = some true := by decide +kernel
theorem kw_tuple_dict : kitB "tuple" "dict" = some false := by decide +kernel
theorem kw_tuple_list : kitB "tuple" "list" = some false := by decide +kernel
theorem kw_dict_int : kitB "dict" "int" = some false := by decide +kernel
theorem kw_dict_bool : kitB "dict" "bool" = some false := by decide +kernel
theorem kw_dict_str : kitB "dict" "str" = some false := by decide +kernel
theorem kw_dict_tuple : kitB "dict" "tuple" = some false := by decide +kernel
theorem kw_dict_dict : kitB "dict" "dict" = some true := by decide +kernel
theorem kw_dict_list : kitB "dict" "list" = some false := by decide +kernel
mutual
def okV (b : Nat) : PyData → Bool
  | .none => true
  | .bool _ => true
  | .int i => decide (i.natAbs < 2 ^ b)
  | .str x => okd (.str x)
  | .list xs => okVs b xs
  | .tuple xs => okVs b xs
  | .dict kvs => okVk b kvs
def okVs (b : Nat) : List PyData → Bool
  | [] => true
  | x :: xs => okV b x && okVs b xs
def okVk (b : Nat) : List (PyData × PyData) → Bool
  | [] => true
  | (k, v) :: r => okV b k && okV b v && okVk b r
end
mutual
def wV : PyData → Nat
  | .none => 5
  | .bool _ => 5
  | .int _ => 1001
  | .str x => 10 * x.length + 2
  | .list xs => wVs xs + 3
  | .tuple xs => wVs xs + 3
  | .dict kvs => wVk kvs + 3
def wVs : List PyData → Nat
  | [] => 0
  | x :: xs => wV x + 2 + wVs xs
def wVk : List (PyData × PyData) → Nat
  | [] => 0
  | (k, v) :: r => wV k + wV v + 4 + wVk r
end
structure Vl (b k c : Nat) (d : PyData) : Prop where
  ok : okV b d = true
  deep : d.depth ≤ k
  few : wV d ≤ c
theorem Vl.up {b b' k k' c c' : Nat} {d : PyData} (h : Vl b k c d) (z : b ≤ b') (y : k ≤ k') (x : c ≤ c') : Vl b' k' c' d := ⟨by
  have key : ∀ n, (∀ d : PyData, sizeOf d < n → okV b d = true → okV b' d = true) := fun n => by
    induction n with
    | zero => exact fun d h => absurd h (Nat.not_lt_zero _)
    | succ n ih =>
      intro d hd ho
      have all : ∀ xs : List PyData, sizeOf xs < n + 1 → okVs b xs = true → okVs b' xs = true := fun xs => by
        induction xs with
        | nil => intro _ _; simp [okVs]
        | cons x xs ihx =>
          intro hz h
          simp only [okVs, Bool.and_eq_true] at h ⊢
          simp only [List.cons.sizeOf_spec] at hz
          exact ⟨ih x (by omega) h.1, ihx (by omega) h.2⟩
      have kv : ∀ r : List (PyData × PyData), sizeOf r < n + 1 → okVk b r = true → okVk b' r = true := fun r => by
        induction r with
        | nil => intro _ _; simp [okVk]
        | cons p r ihr =>
          obtain ⟨q, v⟩ := p
          intro hz h
          simp only [okVk, Bool.and_eq_true] at h ⊢
          simp only [List.cons.sizeOf_spec, Prod.mk.sizeOf_spec] at hz
          exact ⟨⟨ih q (by omega) h.1.1, ih v (by omega) h.1.2⟩, ihr (by omega) h.2⟩
      cases d with
      | none => simp [okV]
      | bool x => simp [okV]
      | int i =>
        simp only [okV, decide_eq_true_eq] at ho ⊢
        exact Nat.lt_of_lt_of_le ho (Nat.pow_le_pow_right (by decide) z)
      | str x => simpa only [okV] using ho
      | list xs =>
        simp only [okV] at ho ⊢
        simp only [PyData.list.sizeOf_spec] at hd
        exact all xs (by omega) ho
      | tuple xs =>
        simp only [okV] at ho ⊢
        simp only [PyData.tuple.sizeOf_spec] at hd
        exact all xs (by omega) ho
      | dict r =>
        simp only [okV] at ho ⊢
        simp only [PyData.dict.sizeOf_spec] at hd
        exact kv r (by omega) ho
  exact key _ d (Nat.lt_succ_self _) h.ok, Nat.le_trans h.deep y, Nat.le_trans h.few x⟩
theorem Vl.none {b : Nat} : Vl b 0 5 .none := ⟨by simp [okV], by simp [PyData.depth], by simp [wV]⟩
theorem Vl.bool {b : Nat} {x : Bool} : Vl b 0 5 (.bool x) := ⟨by simp [okV], by simp [PyData.depth], by simp [wV]⟩
theorem Vl.int {b : Nat} {i : Int} (h : i.natAbs < 2 ^ b) : Vl b 0 1001 (.int i) := ⟨by simpa [okV] using h, by simp [PyData.depth], by simp [wV]⟩
theorem Vl.str {b : Nat} {x : Str} (h : okd (.str x) = true) : Vl b 0 (10 * x.length + 2) (.str x) := ⟨by simpa only [okV] using h, by simp [PyData.depth], by simp [wV]⟩
theorem okVs_iff {b : Nat} : ∀ {xs : List PyData}, okVs b xs = true ↔ ∀ x ∈ xs, okV b x = true
  | [] => by simp [okVs]
  | x :: xs => by simp only [okVs, Bool.and_eq_true, List.mem_cons, forall_eq_or_imp, okVs_iff (xs := xs)]
theorem depths_le {k : Nat} : ∀ {xs : List PyData}, PyData.depthAll xs ≤ k ↔ ∀ x ∈ xs, x.depth ≤ k
  | [] => by simp [PyData.depthAll]
  | x :: xs => by simp only [PyData.depthAll, Nat.max_le, List.mem_cons, forall_eq_or_imp, depths_le (xs := xs)]
theorem wVs_append : ∀ xs ys : List PyData, wVs (xs ++ ys) = wVs xs + wVs ys
  | [], ys => by simp [wVs]
  | x :: xs, ys => by
    simp only [List.cons_append, wVs]
    rw [wVs_append xs ys]
    omega
/-- a tuple, or a list, of such items -/
theorem Vl.tup {b k c : Nat} {xs : List PyData} (h : ∀ x ∈ xs, okV b x = true ∧ x.depth ≤ k) (w : wVs xs + 3 ≤ c) : Vl b (k + 1) c (.tuple xs) :=
  ⟨by simp only [okV]; exact okVs_iff.mpr fun x hx => (h x hx).1, by simp only [PyData.depth]; have := depths_le.mpr fun x hx => (h x hx).2; omega, by simpa only [wV] using w⟩
theorem Vl.lst {b k c : Nat} {xs : List PyData} (h : ∀ x ∈ xs, okV b x = true ∧ x.depth ≤ k) (w : wVs xs + 3 ≤ c) : Vl b (k + 1) c (.list xs) :=
  ⟨by simp only [okV]; exact okVs_iff.mpr fun x hx => (h x hx).1, by simp only [PyData.depth]; have := depths_le.mpr fun x hx => (h x hx).2; omega, by simpa only [wV] using w⟩
theorem Vl.items {b k c : Nat} {xs : List PyData} (h : Vl b k c (.tuple xs)) : (∀ x ∈ xs, okV b x = true ∧ x.depth + 1 ≤ k) ∧ wVs xs + 3 ≤ c := by
  have h1 := h.ok
  have h2 := h.deep
  have h3 := h.few
  simp only [okV] at h1
  simp only [PyData.depth] at h2
  simp only [wV] at h3
  exact ⟨fun x hx => ⟨okVs_iff.mp h1 x hx, by have := depths_le.mp (Nat.le_refl (PyData.depthAll xs)) x hx; omega⟩, h3⟩
theorem joined_le : ∀ {ts : List Str} {ws : List Nat}, ts.length = ws.length → (∀ (i : Nat) (t : Str) (n : Nat), ts[i]? = some t → ws[i]? = some n → t.length ≤ n) → (Str.join ", " ts).length ≤ ws.sum + 2 * ws.length
  | [], [], _, _ => by show (Str.join ", " []).length ≤ _; rw [show (Str.join ", " []).length = 0 by decide]; omega
  | [x], [n], _, h => by
    have := h 0 x n rfl rfl
    show x.length ≤ _
    simp
    omega
  | x :: y :: xs, n :: m :: ns, e, h => by
    have ih := joined_le (ts := y :: xs) (ws := m :: ns) (by simpa using e) fun i t n h1 h2 => h (i + 1) t n (by simpa using h1) (by simpa using h2)
    have h1 := h 0 x n rfl rfl
    have e : Str.join ", " (x :: y :: xs) = x ++ ", " ++ Str.join ", " (y :: xs) := rfl
    rw [e, strLen_append, strLen_append]
    have e2 : (Str.ofString ", ").length = 2 := by decide
    rw [e2, List.sum_cons, List.length_cons]
    omega
  | [_], _ :: _ :: _, e, _ => by simp at e
  | _ :: _ :: _, [_], e, _ => by simp at e
theorem wVs_sum : ∀ xs : List PyData, wVs xs = (xs.map wV).sum + 2 * xs.length
  | [] => rfl
  | x :: xs => by
    simp only [wVs, List.map_cons, List.sum_cons, List.length_cons]
    rw [wVs_sum xs]
    omega
theorem shownKv_map : ∀ kvs : List (PyData × PyData), PyData.shownKv kvs = kvs.map fun p => p.1.shown ++ Str.ofString ": " ++ p.2.shown
  | [] => by simp [PyData.shownKv]
  | (k, v) :: r => by simp [PyData.shownKv, shownKv_map r]
theorem wVk_sum : ∀ kvs : List (PyData × PyData), wVk kvs = (kvs.map fun p => wV p.1 + wV p.2 + 2).sum + 2 * kvs.length
  | [] => rfl
  | (k, v) :: r => by
    simp only [wVk, List.map_cons, List.sum_cons, List.length_cons]
    rw [wVk_sum r]
    omega
theorem Vl.shown_le {b : Nat} (hb : b ≤ 1000) : ∀ (n : Nat) (d : PyData), sizeOf d < n → okV b d = true → d.showable = true ∧ d.shown.length ≤ wV d := by
  intro n
  induction n with
  | zero => exact fun d h => absurd h (Nat.not_lt_zero _)
  | succ n ih =>
    intro d hd ho
    have mem_lt : ∀ {xs : List PyData} {x : PyData}, x ∈ xs → sizeOf x < sizeOf xs := fun hx => List.sizeOf_lt_of_mem hx
    have all : ∀ xs : List PyData, sizeOf xs < n → okVs b xs = true → PyData.showableAll xs = true ∧ (Str.join ", " (PyData.shownAll xs)).length ≤ wVs xs := fun xs hz h => by
      have it : ∀ x ∈ xs, x.showable = true ∧ x.shown.length ≤ wV x := fun x hx => ih x (by have := mem_lt hx; omega) (okVs_iff.mp h x hx)
      refine ⟨?_, ?_⟩
      · clear h hz
        induction xs with
        | nil => simp [PyData.showableAll]
        | cons x xs ihx =>
          simp only [PyData.showableAll, Bool.and_eq_true]
          exact ⟨(it x (List.mem_cons_self ..)).1, ihx fun y hy => it y (List.mem_cons_of_mem _ hy)⟩
      · rw [wVs_sum, shownAll_eq_map]
        have := joined_le (ts := xs.map PyData.shown) (ws := xs.map wV) (by rw [List.length_map, List.length_map]) fun i t n h1 h2 => by
          rw [List.getElem?_map] at h1 h2
          obtain ⟨x, hx, rfl⟩ := Option.map_eq_some_iff.mp h1
          rw [hx] at h2
          cases h2
          exact (it x (List.mem_of_getElem? hx)).2
        rw [List.length_map] at this
        exact this
    cases d with
    | none => exact ⟨by simp [PyData.showable], by rw [PyData.shown_none]; simp only [wV]; decide⟩
    | bool x => exact ⟨by simp [PyData.showable], by rw [PyData.shown_bool]; simp only [wV]; cases x <;> decide⟩
    | int i =>
      simp only [okV, decide_eq_true_eq] at ho
      have hl : i.natAbs.log2 < 1000 := by
        by_cases h0 : i.natAbs = 0
        · rw [h0]; decide
        · exact Nat.lt_of_lt_of_le ((Nat.log2_lt h0).mpr ho) hb
      exact ⟨by simp only [PyData.showable, decide_eq_true_eq]; omega, by rw [PyData.shown_int, PySem.ofString_length]; simp only [wV]; exact int_text_length_le (k := 1000) (by decide) hl⟩
    | str x =>
      simp only [okV] at ho
      refine ⟨by simp [PyData.showable], ?_⟩
      have := DV.shown_le (.str x) ho
      simpa only [cost, wV] using this
    | list xs =>
      simp only [okV] at ho
      simp only [PyData.list.sizeOf_spec] at hd
      obtain ⟨a, j⟩ := all xs (by omega) ho
      refine ⟨by simp only [PyData.showable]; exact a, ?_⟩
      rw [PyData.shown_list, strLen_append, strLen_append]
      have e1 : (Str.ofString "[").length = 1 := by decide
      have e2 : (Str.ofString "]").length = 1 := by decide
      simp only [wV]
      omega
    | tuple xs =>
      simp only [okV] at ho
      simp only [PyData.tuple.sizeOf_spec] at hd
      obtain ⟨a, j⟩ := all xs (by omega) ho
      refine ⟨by simp only [PyData.showable]; exact a, ?_⟩
      rw [PyData.shown_tuple, strLen_append, strLen_append]
      have e1 : (Str.ofString "(").length = 1 := by decide
      have e2 : (Str.ofString (if (xs.length == 1) = true then ",)" else ")")).length ≤ 2 := by split <;> decide
      simp only [wV]
      omega
    | dict r =>
      simp only [okV] at ho
      simp only [PyData.dict.sizeOf_spec] at hd
      have it : ∀ p ∈ r, (p.1.showable = true ∧ p.1.shown.length ≤ wV p.1) ∧ p.2.showable = true ∧ p.2.shown.length ≤ wV p.2 := by
        have h2 : sizeOf r < n := by omega
        clear hd
        induction r with
        | nil => exact fun p hp => nomatch hp
        | cons q r ihr =>
          obtain ⟨k, v⟩ := q
          simp only [okVk, Bool.and_eq_true] at ho
          simp only [List.cons.sizeOf_spec, Prod.mk.sizeOf_spec] at h2
          intro p hp
          rcases List.mem_cons.mp hp with rfl | hp
          · exact ⟨ih k (by omega) ho.1.1, ih v (by omega) ho.1.2⟩
          · exact ihr ho.2 (by omega) p hp
      refine ⟨?_, ?_⟩
      · simp only [PyData.showable]
        clear ho hd
        induction r with
        | nil => simp [PyData.showableKv]
        | cons q r ihr =>
          obtain ⟨k, v⟩ := q
          simp only [PyData.showableKv, Bool.and_eq_true]
          obtain ⟨a, c⟩ := it _ (List.mem_cons_self ..)
          exact ⟨⟨a.1, c.1⟩, ihr fun p hp => it p (List.mem_cons_of_mem _ hp)⟩
      · show (dictText (PyData.shownKv r)).length ≤ _
        unfold dictText
        rw [strLen_append, strLen_append, shownKv_map]
        have e1 : (Str.ofString "{").length = 1 := by decide
        have e2 : (Str.ofString "}").length = 1 := by decide
        have e3 : (Str.ofString ": ").length = 2 := by decide
        have := joined_le (ts := r.map fun p => p.1.shown ++ Str.ofString ": " ++ p.2.shown) (ws := r.map fun p => wV p.1 + wV p.2 + 2) (by rw [List.length_map, List.length_map]) fun i t n h1 h2 => by
          rw [List.getElem?_map] at h1 h2
          obtain ⟨p, hp, rfl⟩ := Option.map_eq_some_iff.mp h1
          rw [hp] at h2
          cases h2
          obtain ⟨a, c⟩ := it p (List.mem_of_getElem? hp)
          rw [strLen_append, strLen_append]
          dsimp only
          omega
        rw [List.length_map] at this
        simp only [wV]
        rw [wVk_sum]
        omega
theorem Vl.plain {b k c : Nat} {d : PyData} (h : Vl b k c d) (hb : b ≤ 1000 := by decide) (hk : k ≤ 60 := by decide) (hc : c ≤ 16000000 := by decide) : PlainW d := by
  obtain ⟨a, e⟩ := Vl.shown_le hb _ d (Nat.lt_succ_self _) h.ok
  refine ⟨a, Nat.le_trans h.deep hk, Nat.le_trans e (Nat.le_trans h.few (Nat.le_trans hc ?_))⟩
  rw [sizeLine_eq]; decide
end DV
namespace DV
open PySem PySem.Spec PyProof.Rows L2
open LamX (ExtN TabS Tabs CodeO)
def DistN (ps : List Pr) (n : Nat) : Prop := ∃ qs : List Pr, qs.Nodup ∧ (∀ p, p ∈ qs ↔ p ∈ ps) ∧ n = qs.length
theorem dup_out {α : Type} : ∀ {ps : List α}, ¬ ps.Nodup → ∃ rs : List α, rs.length + 1 = ps.length ∧ ∀ p, p ∈ rs ↔ p ∈ ps
  | [], h => absurd List.nodup_nil h
  | x :: xs, h => by
    by_cases hx : x ∈ xs
    · refine ⟨xs, rfl, fun p => ⟨fun q => List.mem_cons_of_mem _ q, fun q => ?_⟩⟩
      rcases List.mem_cons.mp q with rfl | q
      · exact hx
      · exact q
    · have h2 : ¬ xs.Nodup := fun z => h (List.nodup_cons.mpr ⟨hx, z⟩)
      obtain ⟨rs, hl, hm⟩ := dup_out h2
      exact ⟨x :: rs, by simp [hl], fun p => by simp [hm p]⟩
theorem DistN.all {ps : List Pr} {n : Nat} (h : DistN ps n) : n = ps.length ↔ ps.Nodup := by
  obtain ⟨qs, nd, me, rfl⟩ := h
  constructor
  · intro e
    refine Classical.byContradiction fun h => ?_
    obtain ⟨rs, hl, hm⟩ := dup_out h
    have := nodup_le nd fun p hp => (hm p).mpr ((me p).mp hp)
    omega
  · intro nd2
    have a := nodup_le nd fun p hp => (me p).mp hp
    have b := nodup_le nd2 fun p hp => (me p).mpr hp
    omega
section
variable {X : Cx} {F : Fm} {e : Expr} {t : TA} {d : TDA} {pos p q p2 : Pos}
def dLenSet (d : TDA) : TDE := fun ρ Q => d ρ fun rs ρ1 => match rs with
  | [r] => match seqs ρ1 r with
    | some (_, xs) => ∃ ps, asPairs xs = some ps ∧ ps.length < 64 ∧ ∀ n, DistN ps n → Q (.d (.int (n : Nat))) ρ1
    | _ => False
  | _ => False
end
end DV
namespace DV
open PySem PySem.Spec PyProof.Rows L2
open LamX (ExtN TabS Tabs CodeO)
section
variable {X : Cx} {F : Fm} {e a b : Expr} {t : TA} {d : TDA} {pos p q : Pos} {ta tb : TE} {da db : TDE} {rest : List Stmt} {us : TS} {d0 : TDS}
/-- i = set(xs), other sets stand; the rest -/
def dLetSetN (P : Program) (w : World) (K : PySem.W.Frag) (HF : Hp) (i : Nat) (d : TDA) (dus : Hp → TDS) : TDS := fun DD ρ => d ρ fun rs ρ1 => match rs with
  | [r] => match seqs ρ1 r with
    | some (_, xs) => ∃ ps, asPairs xs = some ps ∧ ps.length < 64 ∧ ∀ H0 a, SetIn P w K H0 a ps → (∀ b qs, SetIn P w K HF b qs → SetIn P w K H0 b qs) → dus H0 DD (ρ1.set i (some (.raw (.ref a))))
    | _ => False
  | _ => False
end
end DV
namespace DV
open PySem PySem.Spec PyProof.Rows L2
open LamX (ExtN TabS Tabs CodeO)
theorem HpK.at {k : Bool} {g g' : Heap} {l : Addr} {xs : Array Value} (h : HpK k g l xs) (f : ∀ o, g.get? l = some o → g'.get? l = some o) : HpK k g' l xs := by
  cases k
  · exact Heap.IsList.at h f
  · exact Heap.IsTuple.at h f
structure Zk where
  z : Addr
  TI : Addr
  TO : Addr
  i1 : Addr
  i2 : Addr
  l1 : Addr
  l2 : Addr
  xs : Array Value
  ys : Array Value
  k1 : Bool
  k2 : Bool
def Zk.n (p : Zk) : Nat := min p.xs.size p.ys.size
structure Zk.St (p : Zk) (b : Nat) (i : Nat) (h : Heap) : Prop where
  ti : PySem.IsPair h p.TI (Value.ref p.i1) (Value.ref p.i2)
  a1 : ItK p.k1 h p.i1 p.l1 i
  a2 : ItK p.k2 h p.i2 p.l2 i
  m1 : HpK p.k1 h p.l1 p.xs
  m2 : HpK p.k2 h p.l2 p.ys
  zip : (PySem.IsZip h p.z p.TI p.TO .none ∧ ∃ a c, PySem.IsPair h p.TO a c) ∨ ∃ T f oT, PySem.IsZipHeld h p.z p.TI p.TO T f ∧ h.get? T = some oT ∧ b ≤ (T : Nat)
structure Zk.Ps (p : Zk) (b : Nat) (i : Nat) (acc : Array Value) (h : Heap) : Prop where
  sz : acc.size = i
  at' : ∀ j : Nat, j < i → ∃ T x y, acc[j]? = some (Value.ref T) ∧ p.xs[j]? = some x ∧ p.ys[j]? = some y ∧ PySem.IsPair h T x y ∧ b ≤ (T : Nat)
  inc : ∀ (j k : Nat) (T U : Addr), j < k → acc[j]? = some (Value.ref T) → acc[k]? = some (Value.ref U) → (T : Nat) < (U : Nat)
section
variable {prog : Program} {w : World} {A : Around} {E : Value → Shared → Prop} {s : Shared}
structure Zk.In (p : Zk) (h : Heap) : Prop where
  D : ZipSep2 p.z p.TI p.TO p.i1 p.i2 [p.i1, p.l1] [p.i2, p.l2]
  n1 : p.l1 ≠ p.i1
  n2 : p.l2 ≠ p.i2
  n : p.n ≤ 2 ^ 24
  z : PySem.IsZip h p.z p.TI p.TO .none
  TI : PySem.IsPair h p.TI (Value.ref p.i1) (Value.ref p.i2)
  TO : ∃ a c, PySem.IsPair h p.TO a c
  i1 : ItK p.k1 h p.i1 p.l1 0
  i2 : ItK p.k2 h p.i2 p.l2 0
  l1 : HpK p.k1 h p.l1 p.xs
  l2 : HpK p.k2 h p.l2 p.ys
end
theorem Zk.Ps.list {p : Zk} {b n : Nat} {acc : Array Value} {h : Heap} (s : p.Ps b n acc h) : ∃ Ts : List Addr, acc.toList = Ts.map Value.ref ∧ Ts.length = n ∧ Ts.Nodup ∧ ∀ (j : Nat) (T : Addr), Ts[j]? = some T → ∃ x y, p.xs[j]? = some x ∧ p.ys[j]? = some y ∧ PySem.IsPair h T x y ∧ b ≤ (T : Nat) := by
  have hl : acc.toList.length = n := by rw [Array.length_toList]; exact s.sz
  have at2 : ∀ j : Nat, j < n → ∃ T x y, acc.toList[j]? = some (Value.ref T) ∧ p.xs[j]? = some x ∧ p.ys[j]? = some y ∧ PySem.IsPair h T x y ∧ b ≤ (T : Nat) := fun j hj => by
    obtain ⟨T, x, y, e1, r⟩ := s.at' j hj
    exact ⟨T, x, y, by rw [Array.getElem?_toList]; exact e1, r⟩
  refine ⟨acc.toList.map refOf, ?_, by rw [List.length_map, hl], ?_, fun j T hT => ?_⟩
  · rw [List.map_map]
    refine List.ext_getElem? fun j => ?_
    rw [List.getElem?_map]
    by_cases hj : j < n
    · obtain ⟨T, x, y, e, _⟩ := at2 j hj
      rw [e]; rfl
    · rw [List.getElem?_eq_none (by omega)]; rfl
  · refine List.nodup_iff_pairwise_ne.mpr (List.pairwise_iff_getElem.mpr fun j k hj hk hjk => ?_)
    rw [List.length_map] at hj hk
    obtain ⟨T, _, _, e, _⟩ := at2 j (by omega)
    obtain ⟨U, _, _, e', _⟩ := at2 k (by omega)
    have := s.inc j k T U hjk (by rw [← Array.getElem?_toList]; exact e) (by rw [← Array.getElem?_toList]; exact e')
    rw [List.getElem_map, List.getElem_map]
    rw [List.getElem?_eq_getElem hj] at e
    rw [List.getElem?_eq_getElem hk] at e'
    rw [Option.some.inj e, Option.some.inj e']
    exact Nat.ne_of_lt this
  · rw [List.getElem?_map] at hT
    by_cases hj : j < n
    · obtain ⟨T', x, y, e, r⟩ := at2 j hj
      rw [e] at hT
      cases hT
      exact ⟨x, y, r⟩
    · rw [List.getElem?_eq_none (by omega)] at hT; cases hT
section
variable {X : Cx} {F : Fm} {e e2 : Expr} {t : TA} {d : TDA} {p p2 pos pos2 : Pos}
def dTupZipK (t : TDA) : TDE := fun ρ Q => t ρ fun rs ρ1 => match rs with
  | [r, s] => match seqs ρ1 r, seqs ρ1 s with
    | some (_, xs), some (_, ys) => min xs.length ys.length ≤ 2 ^ 24 ∧ Q (.d (.tuple (zipD xs ys))) ρ1
    | _, _ => False
  | _ => False
end
end DV
namespace DV
open PySem PySem.Spec PyProof.Rows L2
open LamX (ExtN TabS Tabs CodeO)
section
variable {X : Cx} {F : Fm} {e : Expr} {t : TA} {d : TDA} {pos p q p2 : Pos}
def dLenSetL (d : TDA) : TDE := fun ρ Q => d ρ fun rs ρ1 => match rs with
  | [r] => onL ρ1 r fun xs => ∃ ps, asPairs xs = some ps ∧ ps.length < 64 ∧ ∀ n, DistN ps n → Q (.d (.int (n : Nat))) ρ1
  | _ => False
end
end DV
namespace DV
open PySem PySem.Spec PyProof.Rows L2
open LamX (ExtN TabS Tabs CodeO TabB)
/-- data, and at last the function at f -/
def spA (K : PySem.W.Frag) (T : List (Addr × Str)) (n : Nat) (f : Addr) (S : Sd) : Sp := fun vs H Q _ => ∃ (N : Addr → Prop) (xs : List PyData) (us : List V), Tabs T H ∧ (∀ a, N a → ∃ o, H a = some o ∧ Mutab o) ∧ vs = us ++ [V.ref f] ∧ xs.length = n ∧ ImAll K N H xs us ∧
  S xs fun z => ∀ v H', Gr H H' → Tabs T H' → Im K N H' z v → Q v H'
def rowA (n : Nat) (xs : List PyData) (f : Addr) : Rho := xs.map (fun x => some (Ent.d x)) ++ some (Ent.raw (.ref f)) :: List.replicate (n - (xs.length + 1)) none
theorem rowA_ent {n i : Nat} {xs : List PyData} {f : Addr} {e : Ent} (h : (rowA n xs f)[i]? = some (some e)) : (∃ x, xs[i]? = some x ∧ e = .d x) ∨ (i = xs.length ∧ e = .raw (.ref f)) := by
  unfold rowA at h
  by_cases hi : i < xs.length
  · rw [List.getElem?_append_left (by simpa using hi), List.getElem?_map, List.getElem?_eq_getElem hi] at h
    exact .inl ⟨_, List.getElem?_eq_getElem hi, by simpa using h.symm⟩
  · rw [List.getElem?_append_right (by simpa using Nat.le_of_not_lt hi), List.length_map] at h
    cases hj : i - xs.length with
    | zero =>
      rw [hj] at h
      exact .inr ⟨by omega, by simpa using h.symm⟩
    | succ j =>
      rw [hj, List.getElem?_cons_succ, List.getElem?_replicate] at h
      split at h <;> cases h
section
variable {P : Program} {w : World} {K : PySem.W.Frag} {mg : Str → Option Value} {base : Heap} {T : List (Addr × Str)}
theorem fnA {x qual : Str} {st : Stmt} {g f : Addr} {fd : FuncData} {N ps : List Str} {k n : Nat} {S : Sd} (W : Fun K x qual st g fd) (Sc : FnScope N ps (defScope st)) (hn : n + 1 = ps.length)
    (body : ∀ (cdv : Value) (A : Around) (out : List Env) (s : Shared) (H : Hp) (E : XK) (Nn : Addr → Prop), Room k (A.deeper (envOfC qual (defScope st) s.heap.objs.size g cdv)) → A.guards = some [] →
      ∃ ts tds, PDSs (cxOf CX0 P w K mg base N qual (defScope st) g cdv A out s H E).nox (frP K H Nn T) (defBody st) ts tds ∧
        ∀ xs Q, xs.length = n → S xs Q → tds { nx := fun _ => Q .none, rt := fun r ρ => retP r ρ Q } (rowA N.length xs f)) : FnG P w K mg base CX0 (k + 1) g fd ps (spA K T n f S) := by
  have hpl : ps.length ≤ N.length := by have := congrArg List.length Sc.pre; rw [List.length_take] at this; omega
  refine fg_ofC W Sc (fun vs H Q E h => ?_) fun cdv hcd A out s H vs Q E hr hgd h => ?_
  · obtain ⟨Nn, xs, us, _, _, rfl, hl, ha, _⟩ := h
    have := ha.length
    rw [List.length_append, List.length_singleton]
    omega
  obtain ⟨Nn, xs, us, tb, hM, rfl, hl, ha, hS⟩ := h
  have hul := ha.length
  have hN : ∀ a, Nn a → ∃ o, H a = some o := fun a z => let ⟨o, e, _⟩ := hM a z; ⟨o, e⟩
  obtain ⟨ts, tds, hb, hq⟩ := body cdv A out s H E Nn hr hgd
  refine ⟨ts, hb.pss, ?_⟩
  have noOwn : ∀ i a, ¬ OwnAt (rowA N.length xs f) (L2.start N (us ++ [V.ref f])) i a := by
    rintro i a ⟨⟨ys, h1, hm⟩, _⟩
    rcases rowA_ent h1 with ⟨x, _, rfl⟩ | ⟨_, rfl⟩ <;> exact hm
  have O : Ok (frP K H Nn T) [] (rowA N.length xs f) (L2.start N (us ++ [V.ref f])) H := by
    refine ⟨?_, fun i e h1 => ?_, fun i j a h1 _ => absurd h1 (noOwn i a), fun p hp => (nomatch hp), .nil, fun a o _ e _ => e, hM, fun a h => h.elim, hN, fun i a _ h => h.elim, tb, fun a ps e => ⟨ps, e⟩⟩
    · unfold rowA L2.start
      simp only [List.length_append, List.length_map, List.length_replicate, List.length_cons, List.length_nil]
      omega
    · rcases rowA_ent h1 with ⟨x, hx, rfl⟩ | ⟨rfl, rfl⟩
      · obtain ⟨v, hv, iv⟩ := ha.get hx
        refine ⟨v, ?_, Im.go ⟨fun _ _ _ e _ => e, fun b z => .inl ?_⟩ iv⟩
        · have hi : i < us.length := (List.getElem?_eq_some_iff.mp hv).1
          unfold L2.start
          rw [List.getElem?_append_left (by simp only [List.length_map, List.length_append]; omega), List.getElem?_map, List.getElem?_append_left hi, hv]
          rfl
        · rcases z with z | ⟨j, z⟩ | z
          · exact z
          · exact absurd z (noOwn j b)
          · cases z
      · refine ⟨.ref f, ?_, rfl⟩
        unfold L2.start
        rw [List.getElem?_append_left (by simp only [List.length_map, List.length_append, List.length_singleton]; omega), List.getElem?_map, List.getElem?_append_right (by omega), show xs.length - us.length = 0 by omega]
        rfl
  refine hb.ds [] _ _ H _ _ O (fun v j hp => nomatch hp) ⟨fun ρ σ H' O' q => ?_, fun ρ σ H' v r O' R' q => ?_, fun _ _ _ _ q => False.elim q, fun _ _ _ _ q => False.elim q, fun _ _ _ _ _ _ q => False.elim q⟩ (hq xs _ hl hS)
  · exact q .non H' ⟨fun a o e => O'.fr a o (fun z => z) e, O'.tb.2⟩ O'.tb.1 .none
  · have G : Go (Av (frP K H Nn T) [] ρ σ) Nn H' H' := ⟨fun _ _ _ e _ => e, fun a z => .inl (.inl z)⟩
    have fr : Gr H H' := ⟨fun a o e => O'.fr a o (fun z => z) e, O'.tb.2⟩
    cases r with
    | d z => exact q v H' fr O'.tb.1 (Im.go G R')
    | raw u => exact q.elim
    | o i =>
      obtain ⟨ys, e, q⟩ := onOwn_of q
      obtain ⟨p, us, h1, h2, h3, h4⟩ := O'.ownGet e
      have := R'.1
      rw [h1] at this; cases this
      refine q _ H' fr O'.tb.1 ?_
      simp only [Im]
      refine ⟨p, us, rfl, ⟨h2, fun z => ?_⟩, h3.go G⟩
      obtain ⟨_, _, hl⟩ := O'.ownL h4
      rcases hl with hl | hl
      · exact hl
      · obtain ⟨o, e, _⟩ := hM p z
        have hl : H p = none := hl
        rw [hl] at e; cases e
end
section
variable {X : Cx} {F : Fm} {e : Expr} {es : List Expr} {t : TA} {d : TDA} {k i : Nat} {f g : Addr} {fd : FuncData} {ps : List Str} {x : Str} {p pos : Pos}
def dDef (f : Addr) : TDE := fun ρ Q => Q (.raw (.ref f)) ρ
theorem pe_def (hg : Gl X x) (hm : X.mg x = some (.ref f)) (hd : (x == ("__debug__" : Str)) = false := by decide) : PE X (.Name x p) (tC (.ref f)) :=
  ⟨fun pins s σ H Q I h => ld_glob I hg hm ⟨V.ref f, H, I, rfl, h⟩ hd⟩
theorem pd_def (hg : Gl X x) (hm : X.mg x = some (.ref f)) (hd : (x == ("__debug__" : Str)) = false := by decide) : PD X F (.Name x p) (tC (.ref f)) (dDef f) :=
  ⟨pe_def hg hm hd, ⟨fun pins ρ σ H Q O h2 => h2 (.ref f) H O rfl, fun _ _ _ hq h => hq _ _ h⟩⟩
/-- the data of all but the last, that is the function at f -/
def datsF (f : Addr) : List R → Option (List PyData)
  | [.raw (.ref g)] => if g = f then some [] else none
  | .d x :: rs => (datsF f rs).map (x :: ·)
  | _ => none
def dCallA (f : Addr) (S : Sd) (t : TDA) : TDE := fun ρ Q => t ρ fun rs ρ1 => ∃ xs, datsF f rs = some xs ∧ S xs fun z => Q (.d z) ρ1
theorem datsF_ok {pins : List Pin} {ρ : Rho} {σ : L2.St} {H : Hp} : ∀ {rs : List R} {xs : List PyData} {vs : List V}, datsF f rs = some xs → ROks F (Av F pins ρ σ) ρ σ H rs vs → ∃ us, vs = us ++ [V.ref f] ∧ ImAll F.K (Av F pins ρ σ) H xs us
  | [.raw (.ref g)], xs, vs, h, r => by
    simp only [datsF] at h
    split at h
    · rename_i e
      subst e
      cases h
      simp only [ROks] at r
      obtain ⟨v, us, rfl, r1, rfl⟩ := r
      cases (show v = V.ref g from r1)
      exact ⟨[], rfl, .nil⟩
    · cases h
  | .d x :: rs, xs, vs, h, r => by
    have h : (datsF f rs).map (x :: ·) = some xs := by
      cases rs with
      | nil => simpa [datsF] using h
      | cons r rs => simpa [datsF] using h
    cases h2 : datsF f rs with
    | none => rw [h2] at h; cases h
    | some ys =>
      rw [h2] at h
      cases h
      simp only [ROks] at r
      obtain ⟨v, us, rfl, r1, r2⟩ := r
      obtain ⟨ws, rfl, im⟩ := datsF_ok h2 r2
      exact ⟨v :: ws, rfl, .cons r1 im⟩
theorem de_callA {n : Nat} {S : Sd} {E : XK} (hS : MonoP S) (hn : ∀ xs Q, S xs Q → xs.length = n) (h : DA F t d) : DE F (fun σ H Q => t σ H fun vs H1 => spA F.K F.T n f S vs H1 Q E) (dCallA f S d) := by
  constructor
  · intro pins ρ σ H Q O hq
    refine h.run pins ρ σ H _ O (h.mono _ _ _ (fun rs ρ1 h1 vs H1 O1 R1 => ?_) hq)
    obtain ⟨xs, e, h2⟩ := h1
    obtain ⟨us, rfl, im⟩ := datsF_ok e R1
    refine ⟨Av F pins ρ1 σ, xs, us, O1.tb.1, fun a ha => O1.avM ha, rfl, hn _ _ h2, im, hS _ _ _ (fun z q v H' g tb im => ?_) h2⟩
    exact q v H' (O1.heapN g tb) im
  · intro ρ Q Q' hq hh
    exact h.mono _ _ _ (fun rs ρ1 ⟨xs, e, h2⟩ => ⟨xs, e, hS _ _ _ (fun z => hq _ _) h2⟩) hh
theorem pd_callA {n : Nat} {S : Sd} (G : FnG X.prog X.w X.K X.mg X.base CX0 k g fd ps (spA F.K F.T n f S)) (hS : MonoP S) (hn : ∀ xs Q, S xs Q → xs.length = n) (hr : Room k X.A) (hgd : X.A.guards = some []) (hg : Gl X x) (hm : X.mg x = some (.ref g)) (hk : PySem.W.keepIn X.K (.ref g) = true) (hb : Binds X.K fd ps [])
    (ha : PDA X F (e :: es) t d) (hdb : (x == ("__debug__" : Str)) = false := by decide) (he : starEach (e :: es) X.env = (false, eval e X.env) :: starEach es X.env := by rfl) (hpl : (backTo pos (starEach es X.env)).any (·.1) = false := by rfl) :
    PD X F (.Call (.Name x p) (e :: es) [] pos) (fun σ H Q => t σ H fun vs H1 => spA F.K F.T n f S vs H1 Q E0) (dCallA f S d) :=
  ⟨pe_callG G hr hgd hg hm hk hb ha.pa hdb he hpl, de_callA hS hn ha.da⟩
def dCallV (i : Nat) (f : Addr) (ks : List Kd) (S : Sd) (t : TDA) : TDE := fun ρ Q => ρ[i]? = some (some (.raw (.ref f))) ∧ dCallP ks S t ρ Q
theorem pe_callV {sp : Sp} {E : XK} (G : FnG X.prog X.w X.K X.mg X.base CX0 k f fd ps sp) (hr : Room k X.A) (hgd : X.A.guards = some []) (hN : X.N[i]? = some x) (hv : Vis X.env.scope x) (hk : PySem.W.keepIn X.K (.ref f) = true) (hb : Binds X.K fd ps [])
    (ha : PA X (e :: es) t) (hdb : (x == ("__debug__" : Str)) = false) (hcd : (x == ("__classdict__" : Str)) = false) (he : starEach (e :: es) X.env = (false, eval e X.env) :: starEach es X.env) (hpl : (backTo pos (starEach es X.env)).any (·.1) = false) :
    PE X (.Call (.Name x p) (e :: es) [] pos) (fun σ H Q => σ[i]? = some (some (.ref f)) ∧ t σ H fun vs H1 => sp vs H1 Q E) := by
  constructor
  rintro pins s σ H Q I ⟨h1, h2⟩
  apply wpAny_Call_Name_kw
  refine thn ((pe_var (pos := p) hN hv hdb hcd).run pins s σ H (fun v G => v = .ref f ∧ G = H) I ⟨_, h1, rfl, rfl⟩) ?_
  rintro u s1 ⟨v, H0, J, rv, rfl, rfl⟩
  cases (show u = Value.ref f from rv)
  refine PySem.W.callWith_K (h₀ := X.base) J.ok.mod.kin hk (thn (ha.run pos pins s1 σ _ _ J h2) ?_) he hpl
  rintro us s2 ⟨vs, H1, I1, r, q⟩
  exact ⟨I1.kIn, goes_fn G hr hgd hb I1 r q⟩
theorem pd_callV {ks : List Kd} {S : Sd} (G : FnG X.prog X.w X.K X.mg X.base CX0 k f fd ps (spP F.K F.T ks S)) (hS : MonoP S) (hr : Room k X.A) (hgd : X.A.guards = some []) (hk : PySem.W.keepIn X.K (.ref f) = true) (hb : Binds X.K fd ps [])
    (ha : PDA X F (e :: es) t d) (hN : X.N[i]? = some x := by rfl) (hv : Vis X.env.scope x := by first | exact Or.inl rfl | exact Or.inr (Or.inl rfl) | exact Or.inr (Or.inr rfl)) (hdb : (x == ("__debug__" : Str)) = false := by decide) (hcd : (x == ("__classdict__" : Str)) = false := by decide)
    (he : starEach (e :: es) X.env = (false, eval e X.env) :: starEach es X.env := by rfl) (hpl : (backTo pos (starEach es X.env)).any (·.1) = false := by rfl) :
    PD X F (.Call (.Name x p) (e :: es) [] pos) (fun σ H Q => σ[i]? = some (some (.ref f)) ∧ t σ H fun vs H1 => spP F.K F.T ks S vs H1 Q E0) (dCallV i f ks S d) := by
  refine ⟨pe_callV G hr hgd hN hv hk hb ha.pa hdb hcd he hpl, ⟨?_, ?_⟩⟩
  · rintro pins ρ σ H Q O ⟨h1, h2⟩
    obtain ⟨v, g1, g2⟩ := O.ent i _ h1
    cases (show v = .ref f from g2)
    exact ⟨g1, (de_callP hS ha.da).run pins ρ σ H Q O h2⟩
  · rintro ρ Q Q' hq ⟨h1, h2⟩
    exact ⟨h1, (de_callP (F := F) (E := E0) hS ha.da).mono ρ Q Q' hq h2⟩
end
end DV
namespace DV
open PySem PySem.Spec PyProof.Rows L2
open LamX (ExtN TabS Tabs CodeO TabB)
def Gw (H H' : Hp) : Prop := ∀ a o, H a = some o → H' a = some o
/-- it lays what is new alone, and that is x -/
def CE (K : PySem.W.Frag) (te : TE) (x : PyData) : Prop := ∀ (σ : L2.St) (H : Hp) (Q : V → Hp → Prop), (∀ v H', Gw H H' → (∀ (N : Addr → Prop) (H2 : Hp), (∀ a o, H a = none → H' a = some o → H2 a = some o) → (∀ a, N a → ∃ o, H a = some o) → Im K N H2 x v) → Q v H') → te σ H Q
def CAs (K : PySem.W.Frag) (t : TA) (xs : List PyData) : Prop := ∀ (σ : L2.St) (H : Hp) (Q : List V → Hp → Prop), (∀ vs H', Gw H H' → (∀ (N : Addr → Prop) (H2 : Hp), (∀ a o, H a = none → H' a = some o → H2 a = some o) → (∀ a, N a → ∃ o, H a = some o) → ImAll K N H2 xs vs) → Q vs H') → t σ H Q
section
variable {K : PySem.W.Frag} {te : TE} {t : TA} {x : PyData} {xs : List PyData}
theorem ce_c {v : V} {z : PyData} (h : Sc z v) : CE K (tC v) z := fun σ H Q q => q v H (fun _ _ e => e) fun N H2 _ _ => h _ _ _
theorem ca_nil : CAs K tNil [] := fun σ H Q q => q [] H (fun _ _ e => e) fun N H2 _ _ => .nil
theorem ca_cons (h : CE K te x) (k : CAs K t xs) : CAs K (tCons te t) (x :: xs) := fun σ H Q q => h σ H _ fun v H1 g1 i1 => k σ H1 _ fun vs H2 g2 i2 => q (v :: vs) H2 (fun a o e => g2 a o (g1 a o e)) fun N H3 hh hN => by
  refine .cons (i1 N H3 (fun a o n e => hh a o n (g2 a o e)) hN) (i2 N H3 (fun a o n e => hh a o ?_ e) fun a z => ?_)
  · cases e0 : H a with
    | none => rfl
    | some u => rw [g1 a u e0] at n; cases n
  · obtain ⟨o, e⟩ := hN a z
    exact ⟨o, g1 a o e⟩
theorem ce_tup (h : CAs K t xs) (hl : xs.length ≤ 1000) : CE K (tTup t) (.tuple xs) := fun σ H Q q => h σ H _ fun vs H1 g i => by
  have e0 := (i (fun _ => False) H1 (fun a o _ e => e) (fun a z => z.elim)).length
  refine ⟨by rw [sizeLine_eq]; omega, fun p hp => q (.ref p) _ (fun a o e => grow_new hp a o (g a o e)) fun N H2 hh hN => ?_⟩
  have hn : H p = none := by
    cases e1 : H p with
    | none => rfl
    | some u => rw [g p u e1] at hp; cases hp
  simp only [Im]
  refine ⟨p, vs, rfl, .inl ⟨.inl (hh p _ hn upd_same), fun z => ?_⟩, i N H2 (fun a o n e => hh a o n (grow_new hp a o e)) hN⟩
  obtain ⟨o, e⟩ := hN p z
  rw [hn] at e; cases e
end
section
variable {X : Cx} {F : Fm} {tv : TE} {k : L2.Key} {x : PyData} {kc : Expr} {v : Expr} {pos : Pos}
def dDisp1 (k : L2.Key) (x : PyData) : TDE := fun ρ Q => Q (.d (.dict [(kD k, x)])) ρ
theorem pd_disp1 (hk : PE X kc (tC (kV k))) (hv : PE X v tv) (hx : CE F.K tv x) : PD X F (.Dict [some kc] [v] pos) (tFrzE (tDisp [(tC (kV k), tv)])) (dDisp1 k x) := by
  refine ⟨pe_frz (pe_disp (pps_cons hk hv pps_nil) rfl rfl (by simp) (by show 1 ≤ 15; decide)), fun pins ρ σ H Q O h p hp => ?_, fun ρ Q Q' hq h => hq _ _ h⟩
  show tv σ (upd H p (.dK [])) _
  refine hx σ _ _ fun y H2 g i => ?_
  refine ⟨g p _ upd_same, [(k, y)], rfl, (by show 1 ≤ 15; decide), p, [(k, y)], rfl, upd_same, fun od => ?_⟩
  rw [L2.upd_upd]
  have gr : ∀ a o, H a = some o → (upd H2 p (.frz od (.dK [(k, y)]))) a = some o := fun a o e => by
    have ne : a ≠ p := fun z => by rw [z, hp] at e; cases e
    rw [upd_ne ne]
    exact g a o (by rw [upd_ne ne]; exact e)
  have O2 : Ok F pins ρ σ (upd H2 p (.frz od (.dK [(k, y)]))) := O.heap gr
  have nA : ¬ Av F pins ρ σ p := fun z => by
    obtain ⟨o, e⟩ := O.avH z
    rw [hp] at e; cases e
  refine h (.ref p) _ O2 ?_
  show Im F.K (Av F pins ρ σ) _ (.dict [(kD k, x)]) (.ref p)
  simp only [Im, ImKv]
  refine ⟨p, [(k, y)], rfl, ⟨⟨od, upd_same⟩, nA⟩, k, y, [], rfl, rfl, ?_, rfl⟩
  refine i _ _ (fun a o n e => ?_) fun a z => ?_
  · have ne : a ≠ p := fun z => by rw [z, upd_same] at n; cases n
    rw [upd_ne ne]
    exact e
  · obtain ⟨o, e⟩ := O.avH z
    exact ⟨o, grow_new hp a o e⟩
theorem dDisp1_i {i : Int} {x : PyData} {ρ : Rho} {Q : R → Rho → Prop} : dDisp1 (.inl i) x ρ Q = Q (.d (.dict [(.int i, x)])) ρ := rfl
theorem dDisp1_s {y : Str} {x : PyData} {ρ : Rho} {Q : R → Rho → Prop} : dDisp1 (.inr y) x ρ Q = Q (.d (.dict [(.str y, x)])) ρ := rfl
end
end DV
namespace DV
open PySem PySem.Spec PyProof.Rows L2
section
open PySem.SeqAt
theorem rc_nilL {A : Around} {s : Shared} {a b : Value} {xs : List PyData} {as bs : List Addr} (ra : Reads s.heap a (.list xs) as) (rb : Reads s.heap b (.list []) bs) (hu : A.units < cLine) : RcAt A s a b (decide (xs = [])) := by
  cases rb with
  | @list b o vs n ys bs j1 j2 j3 j4 =>
    have hb : s.heap.IsList b vs := ⟨_, j1, j2, _, j3⟩
    have ev : vs = #[] := isTup_nil (b := b) j4
    subst ev
    cases ra with
    | @list l o' us m _ as' k1 k2 k3 k4 =>
      have ha : s.heap.IsList l us := ⟨_, k1, k2, _, k3⟩
      have n1 : us.size = xs.length := by simpa using ReadsAll.length _ _ _ k4
      cases xs with
      | nil =>
        have eu : us = #[] := Array.eq_empty_of_size_eq_zero n1
        subst eu
        exact RcAt.lists (e := fun _ => true) ha hb rfl hu fun j _ h2 => absurd h2 (Nat.not_lt_zero _)
      | cons x xs => exact RcAt.lists_lengths ha hb (by rw [n1]; simp) hu
end
section
variable {X : Cx} {F : Fm} {a b : Expr} {pos : Pos} {ta tb : TE} {da db : TDE}
def rEqN (K : PySem.W.Frag) : R2 := fun x y H Q => ∃ ds, Dp K H x (.list ds) ∧ Dp K H y (.list []) ∧ Q (.bl (decide (ds = []))) H
theorem op_eqN (hu : X.A.units + 64 < cLine) : OpR X (compareOp .Eq) (rEqN X.K) := by
  intro pins s σ H x y v u Q I rx ry h
  obtain ⟨ds, hd, he, q⟩ := h
  obtain ⟨as, r1⟩ := Dp.rd I _ x v hd rx
  obtain ⟨bs, r2⟩ := Dp.rd I _ y u he ry
  exact rc_nilL r1 r2 (by omega) X.prog X.w X.xe _ ⟨.bl _, H, I, rfl, q⟩
def fEqN : F2
  | .list xs, .list [], Q => Q (.bool (decide (xs = [])))
  | _, _, _ => False
def fNeN : F2
  | .list xs, .list [], Q => Q (.bool (!decide (xs = [])))
  | _, _, _ => False
theorem so_EqN {K : PySem.W.Frag} : SO K (rEqN K) fEqN := by
  constructor
  · intro H x y dx dy Q h1 h2 q
    unfold fEqN at q
    split at q
    · exact ⟨_, h1, h2, q _ .bool⟩
    · exact q.elim
  · intro x y Q Q' hq q
    unfold fEqN at q ⊢
    split at q
    · exact hq _ q
    · exact q.elim
theorem pd_eqN (hu : X.A.units + 64 < cLine) (hK : X.K = F.K) (ha : PD X F a ta da) (hb : PD X F b tb db) : PD X F (.Compare a [.Eq] [b] pos) (tOp (rEqN F.K) ta tb) (dOp fEqN da db) := by
  have h := pd_cmp (X := X) (F := F) (pos := pos) (op_eqN hu) (nomark _) (by rw [hK]; exact so_EqN) ha hb
  rw [hK] at h; exact h
end
end DV
namespace DV
open PySem PySem.Spec PyProof.Rows L2
open LamX (ExtN TabS Tabs CodeO)
section
variable {X : Cx} {F : Fm} {pos : Pos} {e : Expr} {te : TE} {de : TDE}
def dDikGet (i : Nat) (dk : TDE) : TDE := fun ρ Q => onDik ρ i fun _ => dk ρ fun s ρ1 => onV ρ1 s fun y => onKeyD y fun k => onDik ρ1 i fun kvs => match findD (kvD kvs) k with
  | some z => Q (.d z) ρ1
  | none => False
def dDikIn (i : Nat) (dk : TDE) : TDE := fun ρ Q => dk ρ fun s ρ1 => onV ρ1 s fun y => onKeyD y fun k => onDik ρ1 i fun kvs => Q (.d (.bool (findD (kvD kvs) k).isSome)) ρ1
theorem onDik_mono {ρ : Rho} {i : Nat} {f g : List (L2.Key × PyData) → Prop} (k : ∀ kvs, f kvs → g kvs) (h : onDik ρ i f) : onDik ρ i g := by
  unfold onDik at h ⊢
  split at h <;> first | exact k _ h | exact h.elim
theorem pd_dikGet {i : Nat} {x : Str} {vpos : Pos} (hu : X.A.units + 1 < cLine) (hk : PD X F e te de) (hs : NoSl e) (hN : X.N[i]? = some x := by rfl) (hvis : Vis X.env.scope x := by first | exact Or.inl rfl | exact Or.inr (Or.inl rfl) | exact Or.inr (Or.inr rfl)) (hd : (x == ("__debug__" : Str)) = false := by decide)
    (hcd : (x == ("__classdict__" : Str)) = false := by decide) : PD X F (.Subscript (.Name x vpos) e pos) (tDGet (tVar i) te) (dDikGet i de) := by
  refine ⟨pe_dget hu (pe_var (pos := vpos) hN hvis hd hcd) hk.pe hs, fun pins ρ σ H Q O h => ?_, fun ρ Q Q' hq h => ?_⟩
  · obtain ⟨kvs0, e0, h1⟩ := onDik_of h
    obtain ⟨v, s0, a, vs0, rfl, _⟩ := O.ent i _ e0
    refine ⟨.ref a, s0, ?_⟩
    refine hk.de.run pins ρ σ H _ O (hk.de.mono _ _ _ (fun s ρ1 h2 u H1 O1 R1 => ?_) h1)
    obtain ⟨y, e1, h3⟩ := onV_of h2
    obtain ⟨k, rfl, h4⟩ := onKeyD_of h3 (val_dp O1 R1 e1)
    obtain ⟨kvs, e2, h5⟩ := onDik_of h4
    obtain ⟨v1, s1, a1, vs, rfl, hH, hkk, him, _⟩ := O1.ent i _ e2
    rw [s0] at s1
    cases s1
    rcases kv_find (k := k) (kv_imI hkk him) with ⟨_, e3⟩ | ⟨z, d, e3, e4, iz⟩
    · rw [e3] at h5; exact h5.elim
    · rw [e4] at h5
      exact ⟨a, z, rfl, .inl ⟨vs, k, .inl hH, rfl, e3.symm⟩, h5 _ _ O1 iz⟩
  · refine onDik_mono (fun kvs h1 => hk.de.mono _ _ _ (fun s ρ1 h2 => onV_mono h2 fun y h3 => onKeyD_mono (fun k h4 => onDik_mono (fun kvs h5 => ?_) h4) h3) h1) h
    split at h5
    · exact hq _ _ h5
    · exact h5.elim
theorem pd_dikIn {i : Nat} {x : Str} {vpos : Pos} (hu : X.A.units + 1 < cLine) (hk : PD X F e te de) (hm : behindInMarks .In (.Name x vpos) = false := by rfl) (hN : X.N[i]? = some x := by rfl) (hvis : Vis X.env.scope x := by first | exact Or.inl rfl | exact Or.inr (Or.inl rfl) | exact Or.inr (Or.inr rfl)) (hd : (x == ("__debug__" : Str)) = false := by decide)
    (hcd : (x == ("__classdict__" : Str)) = false := by decide) : PD X F (.Compare e [.In] [.Name x vpos] pos) (tDIn te (tVar i)) (dDikIn i de) := by
  refine ⟨pe_cmp (h1 := hm) (pc_din hu hk.pe (pe_var (pos := vpos) hN hvis hd hcd)), fun pins ρ σ H Q O h => ?_, fun ρ Q Q' hq h => ?_⟩
  · refine hk.de.run pins ρ σ H _ O (hk.de.mono _ _ _ (fun s ρ1 h2 u H1 O1 R1 => ?_) h)
    obtain ⟨y, e1, h3⟩ := onV_of h2
    obtain ⟨k, rfl, h4⟩ := onKeyD_of h3 (val_dp O1 R1 e1)
    obtain ⟨kvs, e2, h5⟩ := onDik_of h4
    obtain ⟨v1, s1, a1, vs, rfl, hH, hkk, him, _⟩ := O1.ent i _ e2
    refine ⟨.ref a1, s1, a1, valV vs k, rfl, .inl ⟨vs, k, .inl hH, rfl, rfl⟩, ?_⟩
    have e : (valV vs k).isSome = (findD (kvD kvs) k).isSome := by
      rcases kv_find (k := k) (kv_imI hkk him) with ⟨e1, e2⟩ | ⟨x, z, e1, e2, _⟩
      · rw [e1, e2]; rfl
      · rw [e1, e2]; rfl
    rw [e]
    exact h5 _ _ O1 (.sc .bool)
  · exact hk.de.mono _ _ _ (fun s ρ1 h2 => onV_mono h2 fun y h3 => onKeyD_mono (fun k h4 => onDik_mono (fun kvs h5 => hq _ _ h5) h4) h3) h
theorem pt_dikIn {i : Nat} {x : Str} {vpos : Pos} (hu : X.A.units + 1 < cLine) (hk : PD X F e te de) (hm : behindInMarks .In (.Name x vpos) = false := by rfl) (hN : X.N[i]? = some x := by rfl) (hvis : Vis X.env.scope x := by first | exact Or.inl rfl | exact Or.inr (Or.inl rfl) | exact Or.inr (Or.inr rfl)) (hd : (x == ("__debug__" : Str)) = false := by decide)
    (hcd : (x == ("__classdict__" : Str)) = false := by decide) : PDT X F (.Compare e [.In] [.Name x vpos] pos) (tTest (tDIn te (tVar i))) (dTV (dDikIn i de)) :=
  ⟨pt_cmp (h1 := hm) (pc_din hu hk.pe (pe_var (pos := vpos) hN hvis hd hcd)), dt_tv (k := tTest) (fun _ => rfl) (pd_dikIn (pos := pos) hu hk hm hN hvis hd hcd).de⟩
end
/-- what is found behind a store -/
theorem findD_put {kvs : List (L2.Key × PyData)} {k q : L2.Key} {y : PyData} : findD (kvD (putI kvs k y)) q = if q = k then some y else findD (kvD kvs) q := by
  have find : ∀ ds : List (L2.Key × PyData), findD (kvD ds) q = (ds.find? fun kv => decide (kv.1 = q)).map (·.2) := fun ds => by
    unfold findD kvD
    rw [List.find?_map, Option.map_map]
    congr 1
    refine congrArg (fun f => List.find? f ds) (funext fun kv => ?_)
    exact keyIs_kD
  rw [find, find]
  unfold putI
  split
  · rename_i h
    induction kvs with
    | nil => simp at h
    | cons p ps ih =>
      rw [List.map_cons, List.find?_cons, List.find?_cons]
      by_cases hp : p.1 = k
      · rw [if_pos hp]
        by_cases hq : q = k
        · subst hq
          simp [hp]
        · have : ¬ p.1 = q := fun z => hq (by rw [← z, hp])
          simp only [this, decide_false, if_neg hq]
          by_cases ha : (ps.any fun kv => decide (kv.1 = k)) = true
          · have := ih ha
            rw [if_neg hq] at this
            exact this
          · have e : ps.map (fun kv => if kv.1 = k then (kv.1, y) else kv) = ps := by
              conv => rhs; rw [← List.map_id ps]
              refine List.map_congr_left fun kv hkv => ?_
              rw [if_neg fun z => ha (List.any_eq_true.mpr ⟨kv, hkv, decide_eq_true z⟩)]
              rfl
            rw [e]
      · rw [if_neg hp]
        have ha : (ps.any fun kv => decide (kv.1 = k)) = true := by
          rw [List.any_cons, Bool.or_eq_true] at h
          exact h.resolve_left fun z => hp (of_decide_eq_true z)
        by_cases hq : p.1 = q
        · have : ¬ q = k := fun z => hp (by rw [hq, z])
          simp [hq, this]
        · simp only [hq, decide_false]
          exact ih ha
  · rename_i h
    rw [List.find?_append]
    by_cases hq : q = k
    · subst hq
      have : (kvs.find? fun kv => decide (kv.1 = q)) = none := by
        rw [List.find?_eq_none]
        intro kv hkv z
        exact h (List.any_eq_true.mpr ⟨kv, hkv, z⟩)
      rw [this]
      simp
    · have : ¬ k = q := fun z => hq z.symm
      simp [hq, this]
end DV
namespace DV
open PySem PySem.Spec PyProof.Rows L2
open LamX (ExtN TabS Tabs CodeO)
section
variable {prog : Program} {w : World} {A : Around} {E : Value → Shared → Prop} {s : Shared}
/-- what the walk of the least one answers is the item of an index, and its data the least -/
theorem least_at {n : Nat} {vs : Array Value} {x : PyData} {xs : List PyData} {as : List Addr} {v : Value} {f : PyData → PyData → Bool} (hr : ReadsAll s.heap vs.toList (x :: xs) as)
    (hP : vs[argBest (fun i j => f ((x :: xs).getD i PyData.none) ((x :: xs).getD j PyData.none)) (vs.size - 1)]? = some v) :
    ∃ i : Nat, vs[i]? = some v ∧ (x :: xs)[i]? = some (xs.foldl (fun a y => if f y a then y else a) x) := by
  have hn := PySem.W.readsAll_len hr
  obtain ⟨_, _, lt, _, _⟩ := PySem.W.readsAll_atA hr _ v hP
  refine ⟨_, hP, ?_⟩
  rw [List.length_cons] at hn
  have q := (PySem.W.argBest_fold f PyData.none x xs xs.length (Nat.le_refl _)).2
  rw [List.take_length] at q
  rw [show vs.size - 1 = xs.length by omega] at lt ⊢
  rw [← q, List.getD_eq_getElem?_getD, List.getElem?_eq_getElem lt]
  rfl
theorem min_seq_at {l : Addr} {vs : Array Value} {x : PyData} {xs : List PyData} {as : List Addr} {Q : Value → Shared → Prop} (hh : A.handled = none) (hl : s.heap.IsList l vs ∨ s.heap.IsTuple l vs) (hr : ReadsAll s.heap vs.toList (x :: xs) as) (ha : PySem.W.AlikeAll (x :: xs)) (hd : A.units + 1 + PyData.depthAll (x :: xs) < cLine)
    (go : ∀ (i : Nat) v h' tk, vs[i]? = some v → (x :: xs)[i]? = some (PySem.W.minD x xs) → (∀ b o, s.heap.get? b = some o → h'.get? b = some o) → Q v { s with heap := h', toks := tk }) :
    wpAny (model prog w) A (call (.builtin "min") [.ref l]) Q E s := by
  have hn := PySem.W.readsAll_len hr
  rw [List.length_cons] at hn
  have fin : ∀ (s₂ : Shared) (v : Value) (s' : Shared) (a : Addr) (o : Obj), s₂ = { s with heap := s.heap.push o } → a = s.heap.objs.size → vs[argBest (fun i j => PySem.W.dataLt ((x :: xs).getD i PyData.none) ((x :: xs).getD j PyData.none)) (vs.size - 1)]? = some v → Moved [a] (fun a b => b = a) s₂ s' → Q v s' := by
    intro s₂ v s' a o e ea hP m
    obtain ⟨h', tk, rfl, hk'⟩ := PySem.W.moved_old e ea m
    obtain ⟨i, h1, h2⟩ := least_at (n := 0) hr hP
    exact go i v h' tk h1 h2 hk'
  rcases hl with hl | hl
  · refine call_min_walkH (PySem.W.iter_listW (A := A.in1) hh hl fun s₂ e W st hfp hw hk => ?_)
    exact ⟨_, _, _, _, _, _, _, s.heap, _, rfl, W, st, hfp, by omega, hw, hk, PySem.W.cmpIn_lt (A := A.in1) hr ha (by show A.units + 1 + _ < _; exact hd), fun v s' hP m => fin s₂ v s' _ _ e rfl hP m⟩
  · refine call_min_walkH (PySem.W.iter_tupleW (A := A.in1) hh hl fun s₂ e W st hfp hw hk => ?_)
    exact ⟨_, _, _, _, _, _, _, s.heap, _, rfl, W, st, hfp, by omega, hw, hk, PySem.W.cmpIn_lt (A := A.in1) hr ha (by show A.units + 1 + _ < _; exact hd), fun v s' hP m => fin s₂ v s' _ _ e rfl hP m⟩
end
def rBestD (fn : PyData → List PyData → PyData) (K : PySem.W.Frag) : List V → Hp → VK → Prop := fun vs H Q => ∃ (a : Addr) (us : List V) (x : PyData) (ys : List PyData), vs = [V.ref a] ∧ (SqL K H a us ∨ SqT K H a us) ∧ DpAll K H us (x :: ys) ∧ PySem.W.AlikeAll (x :: ys) ∧ PyData.depthAll (x :: ys) ≤ 50 ∧
  ∀ (i : Nat) (u : V), us[i]? = some u → (x :: ys)[i]? = some (fn x ys) → Q u H
section
variable {X : Cx} {pins : List (Addr × Obj)} {σ : L2.St} {H : Hp} {s : Shared}
theorem vals_back : ∀ {us : List V} {its : List Value} {i : Nat} {v : Value}, Vals us its → its[i]? = some v → ∃ u, us[i]? = some u ∧ RelV u v
  | _, _, 0, v, .cons r _, h => by
    cases h
    exact ⟨_, rfl, r⟩
  | _, _, i + 1, v, .cons _ t, h => by
    rw [List.getElem?_cons_succ] at h
    obtain ⟨u, h1, h2⟩ := vals_back t h
    exact ⟨u, by rw [List.getElem?_cons_succ]; exact h1, h2⟩
  | _, _, _, _, .nil, h => by simp at h
theorem each_all {h : Heap} : ∀ {its : List Value} {ds : List PyData}, PySem.W.EachIs (fun u d => ∃ as, Reads h u d as) its ds → ∃ as, ReadsAll h its ds as
  | _, _, .nil => ⟨_, .nil⟩
  | _, _, .cons ⟨as, r⟩ t => by
    obtain ⟨bs, q⟩ := each_all t
    exact ⟨_, .cons r q⟩
theorem cr_minDL (hc : X.calm = true) (hu : X.A.units + 64 < cLine) : CallR X (.builtin "min") (rBestD PySem.W.minD X.K) := by
  intro pins s σ H vs us Q I r h
  obtain ⟨a, ws, x, ys, rfl, hs, hd, hal, hdp, q⟩ := h
  rw [Vals.ref1 r]
  have fin : ∀ (its : List Value), Vals ws its → (s.heap.IsList a its.toArray ∨ s.heap.IsTuple a its.toArray) → wpAny (model X.prog X.w) X.A (call (.builtin "min") [.ref a]) (EP X pins σ Q) X.xe s := by
    intro its rv hl
    obtain ⟨as, rd⟩ := each_all (each_reads I hd rv)
    refine min_seq_at (I.ok.hd hc) hl (by simpa using rd) hal (by omega) fun i v h' tk e1 e2 k => ?_
    obtain ⟨u, g1, g2⟩ := vals_back rv (by simpa using e1)
    exact ⟨u, H, I.kept (t' := tk) k, g2, q i u g1 e2⟩
  rcases hs with hs | hs
  · obtain ⟨its, rv, hl, hz⟩ := I.list hs
    exact fin its rv (.inl hl.isList)
  · obtain ⟨its, rv, hl, hz⟩ := I.tuple hs
    exact fin its rv (.inr hl)
end
section
variable {X : Cx} {F : Fm} {e : Expr} {t : TA} {d : TDA} {pos p : Pos}
def dBestD (fn : PyData → List PyData → PyData) (t : TDA) : TDE := fun ρ Q => t ρ fun rs ρ1 => match rs with
  | [r] => match seqs ρ1 r with
    | some (_, x :: ys) => PySem.W.AlikeAll (x :: ys) ∧ PyData.depthAll (x :: ys) ≤ 50 ∧ Q (.d (fn x ys)) ρ1
    | _ => False
  | _ => False
theorem imAll_at {K : PySem.W.Frag} {N : Addr → Prop} {H : Hp} : ∀ {ds : List PyData} {vs : List V} {i : Nat} {u : V} {z : PyData}, ImAll K N H ds vs → vs[i]? = some u → ds[i]? = some z → Im K N H z u
  | [], vs, i, u, z, h, _, h2 => by simp at h2
  | d :: ds, vs, i, u, z, h, h1, h2 => by
    simp only [ImAll] at h
    obtain ⟨v, vs, rfl, g1, g2⟩ := h
    cases i with
    | zero => cases h1; cases h2; exact g1
    | succ i => exact imAll_at g2 h1 h2
theorem de_best {fn : PyData → List PyData → PyData} (ha : PDA X F [e] t d) : DE F (tCB (rBestD fn F.K) t) (dBestD fn d) := by
  refine ⟨fun pins ρ σ H Q O h => ?_, fun ρ Q Q' hq h => ?_⟩
  · refine ha.da.run pins ρ σ H _ O (ha.da.mono _ _ _ (fun rs ρ1 h1 vs H1 O1 R1 => ?_) h)
    split at h1
    · rename_i r
      simp only [ROks] at R1
      obtain ⟨v, _, rfl, r1, rfl⟩ := R1
      split at h1
      · rename_i k x ys e3
        obtain ⟨hal, hdp, q⟩ := h1
        obtain ⟨a, pl, rfl, d1, O4, av, k1⟩ := seqs_ok O1 r1 e3
        have in1 : ∀ q ∈ pl, q ∈ pl ++ pins := fun q hq => List.mem_append_left _ hq
        obtain ⟨us, hsq, im⟩ : ∃ us, (SqL F.K H1 a us ∨ SqT F.K H1 a us) ∧ ImAll F.K (Av F (pl ++ pins) ρ1 σ) H1 (x :: ys) us := by
          cases k with
          | false =>
            obtain ⟨us, a1, a2⟩ := (show LstAt F pl a (x :: ys) by simpa using k1) _ _ _ _ in1 O4
            exact ⟨us, .inl a1, a2⟩
          | true =>
            obtain ⟨us, a1, a2⟩ := (show TupAt F pl a (x :: ys) by simpa using k1) _ _ _ _ in1 O4
            exact ⟨us, .inr a1, a2⟩
        refine ⟨a, us, x, ys, rfl, hsq, im.dp, hal, hdp, fun i u g1 g2 => q _ _ O1 ?_⟩
        have := imAll_at im g1 g2
        rw [av] at this
        exact this
      · exact h1.elim
    · exact h1.elim
  · refine ha.da.mono _ _ _ (fun rs ρ1 h1 => ?_) h
    revert h1
    split
    · split
      · exact fun ⟨a, b, c⟩ => ⟨a, b, hq _ _ c⟩
      · exact fun h2 => h2
    · exact fun h1 => h1
theorem pd_minDL (hc : X.calm = true) (hu : X.A.units + 64 < cLine) (hg : Gl X "min") (hm : X.mg "min" = none) (ha : PDA X F [e] t d) (hK : X.K = F.K := by rfl)
    (he : starEach [e] X.env = (false, eval e X.env) :: starEach [] X.env := by rfl) (hpl : (backTo pos (starEach [] X.env)).any (·.1) = false := by rfl) :
    PD X F (.Call (.Name "min" p) [e] [] pos) (tCB (rBestD PySem.W.minD F.K) t) (dBestD PySem.W.minD d) := by
  refine ⟨?_, de_best ha⟩
  have := pe_callB (p := p) (pos := pos) (cr_minDL hc hu) hg hm (by decide +kernel) ha.pa (by decide) (by decide) he hpl
  rw [hK] at this
  exact this
end
/-- min of a list, by what its items tell -/
theorem minD_map {α : Type} (enc : α → PyData) (lt : α → α → Bool) (h : ∀ a b, PySem.W.dataLt (enc a) (enc b) = lt a b) (x : α) (xs : List α) : PySem.W.minD (enc x) (xs.map enc) = enc (xs.foldl (fun a y => if lt y a then y else a) x) := by
  unfold PySem.W.minD
  induction xs generalizing x with
  | nil => rfl
  | cons y ys ih =>
    rw [List.map_cons, List.foldl_cons, List.foldl_cons, h]
    by_cases z : lt y x = true
    · rw [if_pos z, if_pos z]; exact ih y
    · rw [if_neg z, if_neg z]; exact ih x
/-- the least of a list by a whole number's order: it is in the list, and none is below it -/
theorem fold_least {α : Type} (le : α → α → Prop) (lt : α → α → Bool) (hr : ∀ a, le a a) (ht : ∀ a b c, le a b → le b c → le a c) (h1 : ∀ a b, lt a b = true → le a b) (h2 : ∀ a b, lt a b = false → le b a) : ∀ (xs : List α) (x : α),
    xs.foldl (fun a y => if lt y a then y else a) x ∈ x :: xs ∧ ∀ y ∈ x :: xs, le (xs.foldl (fun a y => if lt y a then y else a) x) y
  | [], x => ⟨List.mem_cons_self .., fun y hy => by rw [List.mem_singleton.mp hy]; exact hr x⟩
  | z :: zs, x => by
    rw [List.foldl_cons]
    by_cases c : lt z x = true
    · rw [if_pos c]
      obtain ⟨a, b⟩ := fold_least le lt hr ht h1 h2 zs z
      refine ⟨List.mem_cons_of_mem _ a, fun y hy => ?_⟩
      rcases List.mem_cons.mp hy with e | hy
      · rw [e]; exact ht _ _ _ (b z (List.mem_cons_self ..)) (h1 _ _ c)
      · exact b y hy
    · rw [if_neg c]
      obtain ⟨a, b⟩ := fold_least le lt hr ht h1 h2 zs x
      refine ⟨?_, fun y hy => ?_⟩
      · rcases List.mem_cons.mp a with e | a
        · rw [e]; exact List.mem_cons_self ..
        · exact List.mem_cons_of_mem _ (List.mem_cons_of_mem _ a)
      · rcases List.mem_cons.mp hy with e | hy
        · rw [e]; exact b x (List.mem_cons_self ..)
        · rcases List.mem_cons.mp hy with e | hy
          · rw [e]; exact ht _ _ _ (b x (List.mem_cons_self ..)) (h2 _ _ (by simpa using c))
          · exact b y (List.mem_cons_of_mem _ hy)
end DV
namespace K14
open PySem PySem.Spec PyProof.Rows L2 DV
open scoped Rat
def topS (i : Nat) : Stmt := PySem.Challenge.pw_lampsaloft_k14_rows_of_depth.main.body.getD i (.Pass ⟨0, 0, 0, 0⟩)
abbrev nm_is_integer : List Str := ["thing"]
abbrev s_is_integer : Stmt := topS 2
theorem sc_is_integer : FnScope nm_is_integer ["thing"] (defScope s_is_integer) := ⟨rfl, rfl, rfl, by decide +kernel, rfl, by decide +kernel, by decide +kernel⟩
abbrev nm_is_natural : List Str := ["thing"]
abbrev s_is_natural : Stmt := topS 3
theorem sc_is_natural : FnScope nm_is_natural ["thing"] (defScope s_is_natural) := ⟨rfl, rfl, rfl, by decide +kernel, rfl, by decide +kernel, by decide +kernel⟩
abbrev nm_rows_of : List Str := ["picture", "spacing", "rows", "free", "freed", "many", "lamp"]
abbrev s_rows_of : Stmt := topS 5
theorem sc_rows_of : FnScope nm_rows_of ["picture", "spacing"] (defScope s_rows_of) := ⟨rfl, rfl, rfl, by decide +kernel, rfl, by decide +kernel, by decide +kernel⟩
abbrev nm_rows_many : List Str := ["rows"]
abbrev s_rows_many : Stmt := topS 6
theorem sc_rows_many : FnScope nm_rows_many ["rows"] (defScope s_rows_many) := ⟨rfl, rfl, rfl, by decide +kernel, rfl, by decide +kernel, by decide +kernel⟩
abbrev nm_most_abreast : List Str := ["picture", "spacing", "best", "last", "first", "lamp"]
abbrev s_most_abreast : Stmt := topS 7
theorem sc_most_abreast : FnScope nm_most_abreast ["picture", "spacing"] (defScope s_most_abreast) := ⟨rfl, rfl, rfl, by decide +kernel, rfl, by decide +kernel, by decide +kernel⟩
abbrev nm_is_rows : List Str := ["picture", "spacing", "thing", "row", "latest", "lamp"]
abbrev s_is_rows : Stmt := topS 8
theorem sc_is_rows : FnScope nm_is_rows ["picture", "spacing", "thing"] (defScope s_is_rows) := ⟨rfl, rfl, rfl, by decide +kernel, rfl, by decide +kernel, by decide +kernel⟩
abbrev nm__law_bag : List Str := ["_law_script", "_law_cell"]
abbrev s__law_bag : Stmt := topS 10
theorem sc__law_bag : FnScope nm__law_bag ["_law_script"] (defScope s__law_bag) := ⟨rfl, rfl, rfl, by decide +kernel, rfl, by decide +kernel, by decide +kernel⟩
abbrev nm__law_take : List Str := ["_law_bag_here", "_law_many", "_law_cell", "_law_stirred", "_law_value", "_law_begin", "_law_second"]
abbrev s__law_take : Stmt := topS 11
theorem sc__law_take : FnScope nm__law_take ["_law_bag_here", "_law_many"] (defScope s__law_take) := ⟨rfl, rfl, rfl, by decide +kernel, rfl, by decide +kernel, by decide +kernel⟩
abbrev nm__law_some : List Str := ["_law_bag_here", "_law_things"]
abbrev s__law_some : Stmt := topS 12
theorem sc__law_some : FnScope nm__law_some ["_law_bag_here", "_law_things"] (defScope s__law_some) := ⟨rfl, rfl, rfl, by decide +kernel, rfl, by decide +kernel, by decide +kernel⟩
abbrev nm__law_alike : List Str := ["_law_found", "_law_due"]
abbrev s__law_alike : Stmt := topS 13
theorem sc__law_alike : FnScope nm__law_alike ["_law_found", "_law_due"] (defScope s__law_alike) := ⟨rfl, rfl, rfl, by decide +kernel, rfl, by decide +kernel, by decide +kernel⟩
abbrev nm__law_is_int : List Str := ["_law_thing"]
abbrev s__law_is_int : Stmt := topS 14
theorem sc__law_is_int : FnScope nm__law_is_int ["_law_thing"] (defScope s__law_is_int) := ⟨rfl, rfl, rfl, by decide +kernel, rfl, by decide +kernel, by decide +kernel⟩
abbrev nm__law_odd : List Str := ["_law_bag_here", "_law_menu"]
abbrev s__law_odd : Stmt := topS 15
theorem sc__law_odd : FnScope nm__law_odd ["_law_bag_here"] (defScope s__law_odd) := ⟨rfl, rfl, rfl, by decide +kernel, rfl, by decide +kernel, by decide +kernel⟩
abbrev nm__law_bent : List Str := ["_law_bag_here", "_law_thing", "_law_deep", "_law_menu", "_law_way", "_law_at"]
abbrev s__law_bent : Stmt := topS 16
theorem sc__law_bent : FnScope nm__law_bent ["_law_bag_here", "_law_thing", "_law_deep"] (defScope s__law_bent) := ⟨rfl, rfl, rfl, by decide +kernel, rfl, by decide +kernel, by decide +kernel⟩
abbrev nm__law_are : List Str := ["_law_thing", "_law_least", "_law_is_one", "_law_one"]
abbrev s__law_are : Stmt := topS 17
theorem sc__law_are : FnScope nm__law_are ["_law_thing", "_law_least", "_law_is_one"] (defScope s__law_are) := ⟨rfl, rfl, rfl, by decide +kernel, rfl, by decide +kernel, by decide +kernel⟩
abbrev nm__law_shades : List Str := ["_law_bag_here", "_law_names", "_law_some_here", "_law_turn"]
abbrev s__law_shades : Stmt := topS 18
theorem sc__law_shades : FnScope nm__law_shades ["_law_bag_here"] (defScope s__law_shades) := ⟨rfl, rfl, rfl, by decide +kernel, rfl, by decide +kernel, by decide +kernel⟩
abbrev nm__law_shape : List Str := ["_law_points"]
abbrev s__law_shape : Stmt := topS 19
theorem sc__law_shape : FnScope nm__law_shape ["_law_points"] (defScope s__law_shape) := ⟨rfl, rfl, rfl, by decide +kernel, rfl, by decide +kernel, by decide +kernel⟩
abbrev nm__law_rows : List Str := ["_law_picture", "_law_spacing", "_law_found", "_law_at", "_law_lamp", "_law_barred", "_law_k", "_law_row"]
abbrev s__law_rows : Stmt := topS 20
theorem sc__law_rows : FnScope nm__law_rows ["_law_picture", "_law_spacing"] (defScope s__law_rows) := ⟨rfl, rfl, rfl, by decide +kernel, rfl, by decide +kernel, by decide +kernel⟩
abbrev nm__law_abreast : List Str := ["_law_picture", "_law_spacing", "_law_found", "_law_lamp", "_law_many", "_law_one", "_law_best"]
abbrev s__law_abreast : Stmt := topS 21
theorem sc__law_abreast : FnScope nm__law_abreast ["_law_picture", "_law_spacing"] (defScope s__law_abreast) := ⟨rfl, rfl, rfl, by decide +kernel, rfl, by decide +kernel, by decide +kernel⟩
abbrev nm__law_are_rows : List Str := ["_law_picture", "_law_spacing", "_law_rows_here", "_law_at", "_law_lamp", "_law_k"]
abbrev s__law_are_rows : Stmt := topS 22
theorem sc__law_are_rows : FnScope nm__law_are_rows ["_law_picture", "_law_spacing", "_law_rows_here"] (defScope s__law_are_rows) := ⟨rfl, rfl, rfl, by decide +kernel, rfl, by decide +kernel, by decide +kernel⟩
abbrev nm__law_is_rows : List Str := ["_law_picture", "_law_spacing", "_law_thing", "_law_row"]
abbrev s__law_is_rows : Stmt := topS 23
theorem sc__law_is_rows : FnScope nm__law_is_rows ["_law_picture", "_law_spacing", "_law_thing"] (defScope s__law_is_rows) := ⟨rfl, rfl, rfl, by decide +kernel, rfl, by decide +kernel, by decide +kernel⟩
abbrev nm__law_close_picture : List Str := ["_law_bag_here", "_law_wide", "_law_dots", "_law_turn", "_law_lamps", "_law_x", "_law_z"]
abbrev s__law_close_picture : Stmt := topS 24
theorem sc__law_close_picture : FnScope nm__law_close_picture ["_law_bag_here"] (defScope s__law_close_picture) := ⟨rfl, rfl, rfl, by decide +kernel, rfl, by decide +kernel, by decide +kernel⟩
abbrev nm_law : List Str := ["_law_script", "_law_bag_here", "_law_turn", "_law_picture", "_law_spacing", "_law_said", "_law_due", "_law_some_here", "_law_lamp", "_law_spread", "_law_row", "_law_things", "_law_more", "_law_thing", "_law_kept"]
abbrev s_law : Stmt := topS 25
theorem sc_law : FnScope nm_law ["_law_script"] (defScope s_law) := ⟨rfl, rfl, rfl, by decide +kernel, rfl, by decide +kernel, by decide +kernel⟩
structure Bi (mg : Str → Option Value) : Prop where
  b_isinstance : mg "isinstance" = none
  b_int : mg "int" = none
  b_bool : mg "bool" = none
  b_tuple : mg "tuple" = none
  b_len : mg "len" = none
  b_max : mg "max" = none
  b_enumerate : mg "enumerate" = none
  b_zip : mg "zip" = none
  b_all : mg "all" = none
  b_abs : mg "abs" = none
  b_repr : mg "repr" = none
  b_list : mg "list" = none
  b_str : mg "str" = none
  b_range : mg "range" = none
  b_sorted : mg "sorted" = none
  b_set : mg "set" = none
  b_min : mg "min" = none
  i_heappush : mg "heappush" = some (.builtin "_heapq.heappush")
  i_heappop : mg "heappop" = some (.builtin "_heapq.heappop")
def famePairs (ls : List Lmp) : List Pr := ls.zipIdx.map fun p => (-p.1.w, (p.2 : Int))
def FameOf (ls : List Lmp) (fs : List Nat) : Prop := ∃ qs : List Pr, Sortd (famePairs ls) qs ∧ qs.map (·.2) = fs.map (fun i : Nat => (i : Int))
theorem FameOf.unique {ls : List Lmp} {fs gs : List Nat} (h : FameOf ls fs) (k : FameOf ls gs) : fs = gs := by
  obtain ⟨qs, ⟨p1, s1⟩, e1⟩ := h
  obtain ⟨rs, ⟨p2, s2⟩, e2⟩ := k
  have e : qs = rs := List.Perm.eq_of_pairwise (fun a b _ _ h k => lle_anti h k) s1 s2 (p1.trans p2.symm)
  subst e
  exact (List.map_inj_right (fun x y z => by omega)).mp (e1.symm.trans e2)
def FameQ (ls : List Lmp) (rs : List Int) (sp : Int) (qs : List P2) : Prop := qs.Perm (seatsP ls rs sp) ∧ ∃ fs, FameOf ls fs ∧ fs.Perm (List.range ls.length) ∧ qs = fs.map fun i => (seatsP ls rs sp)[i]?.getD (0, 0)
structure Ngt where
  fk : List Int
  fq : List Rat
  er : List (List Rat)
  wi : List (List (Rat × Rat))
  lk : List Int
  lv : List Nat
/-- by how much a clock may be late -/
def ErrB (w : Shw) (q : Rat) : Prop := Sz 12 q ∧ -(w.b.clk : Rat) ≤ q ∧ q ≤ (w.b.clk : Rat)
structure NgtI (w : Shw) (n : Nat) (N : Ngt) : Prop where
  fu : N.fk.Pairwise (· < ·)
  fl : N.fk.length = N.fq.length
  fin : ∀ k ∈ N.fk, 0 ≤ k ∧ k < n
  fz : ∀ q ∈ N.fq, Sz 60 q
  el : N.er.length = n
  ez : ∀ es ∈ N.er, es.length = w.sc.length ∧ ∀ q ∈ es, ErrB w q
  wl : N.wi.length = n
  wz : ∀ ws ∈ N.wi, ws.length = w.sc.length + 1 ∧ ∀ p ∈ ws, Sz 12 p.1 ∧ Sz 12 p.2
  lu : N.lk.Pairwise (· < ·)
  ll : N.lk.length = N.lv.length
  lin : ∀ k ∈ N.lk, 0 ≤ k ∧ k < n
  lz : ∀ v ∈ N.lv, v < w.sc.length
theorem NgtI.nil (w : Shw) : NgtI w 0 ⟨[], [], [], [], [], []⟩ := ⟨List.Pairwise.nil, rfl, (fun k h => nomatch h), (fun k h => nomatch h), rfl, (fun k h => nomatch h), rfl, (fun k h => nomatch h), List.Pairwise.nil, rfl, (fun k h => nomatch h), (fun k h => nomatch h)⟩
/-- each leg begins where the carrier's last one ended -/
def chainE (c : Int) : P2 → List (List Int × List Lg) → Prop
  | _, [] => True
  | p, e :: es => match keyAt e.1 e.2 c with
    | none => True
    | some l => frm l = p ∧ chainE c (too l) es
def endE (c : Int) : P2 → List (List Int × List Lg) → Option P2
  | p, [] => some p
  | _, e :: es => match keyAt e.1 e.2 c with
    | none => none
    | some l => endE c (too l) es
theorem chainE_snoc {c : Int} {e : List Int × List Lg} : ∀ {es : List (List Int × List Lg)} {p : P2}, chainE c p es → (∀ q l, endE c p es = some q → keyAt e.1 e.2 c = some l → frm l = q) → chainE c p (es ++ [e])
  | [], p, _, h => by
    show chainE c p [e]
    unfold chainE
    split
    · trivial
    · rename_i l hl
      exact ⟨h p l rfl hl, trivial⟩
  | a :: es, p, h1, h => by
    show chainE c p (a :: (es ++ [e]))
    unfold chainE at h1 ⊢
    unfold endE at h
    split
    · trivial
    · rename_i l hl
      rw [hl] at h1 h
      exact ⟨h1.1, chainE_snoc h1.2 h⟩
theorem endE_snoc {c : Int} {e : List Int × List Lg} {q : P2} {l : Lg} : ∀ {es : List (List Int × List Lg)} {p : P2}, endE c p es = some q → keyAt e.1 e.2 c = some l → endE c p (es ++ [e]) = some (too l)
  | [], p, h1, h => by
    show endE c p [e] = _
    unfold endE
    rw [h]
    rfl
  | a :: es, p, h1, h => by
    show endE c p (a :: (es ++ [e])) = _
    unfold endE at h1 ⊢
    cases hl : keyAt a.1 a.2 c with
    | none => rw [hl] at h1; cases h1
    | some m =>
      rw [hl] at h1
      exact endE_snoc h1 h
theorem keyAt_idx {α : Type} {ks : List Int} {as : List α} {k : Int} {a : α} (h : keyAt ks as k = some a) : ∃ i : Nat, ks[i]? = some k ∧ as[i]? = some a := by
  unfold keyAt at h
  obtain ⟨q, hq, rfl⟩ := Option.map_eq_some_iff.mp h
  have e : q.1 = k := of_decide_eq_true (List.find?_some (p := fun q : Int × α => decide (q.1 = k)) hq)
  obtain ⟨i, hi⟩ := List.mem_iff_getElem?.mp (List.mem_of_find?_eq_some hq)
  obtain ⟨h1, h2⟩ := List.getElem?_zip_eq_some.mp hi
  exact ⟨i, by rw [h1, e], h2⟩
def RunI (w : Shw) (ks : List Int) (ps : List P2) (es : List (List Int × List Lg)) : Prop := ∀ (c : Nat) (p : P2), w.pads[c]? = some p → chainE c p es ∧ ∀ q, keyAt ks ps (c : Int) = some q → endE c p es = some q
theorem RunI.nil (w : Shw) : RunI w (upI w.pads.length) w.pads [] := fun c p hp => ⟨trivial, fun q hq => by
  obtain ⟨i, h1, h2⟩ := keyAt_idx hq
  have il : i < w.pads.length := (List.getElem?_eq_some_iff.mp h2).1
  rw [upI_at il] at h1
  have e : i = c := by have := Option.some.inj h1; omega
  rw [e, hp] at h2
  exact h2⟩
theorem RunI.snoc {w : Shw} {ks ks2 : List Int} {ps ps2 : List P2} {es : List (List Int × List Lg)} {ls : List Lg} (h : RunI w ks ps es) (hold : ∀ (i : Nat) (c : Int) (v : P2), ks2[i]? = some c → ps2[i]? = some v → keyAt ks ps c = some v) (hf : ls.map frm = ps2) (hl : ks2.length = ls.length) :
    RunI w ks2 (ls.map too) (es ++ [(ks2, ls)]) := fun c p hp => by
  obtain ⟨h1, h2⟩ := h c p hp
  have key : ∀ l, keyAt ks2 ls (c : Int) = some l → endE c p es = some (frm l) := fun l hk => by
    obtain ⟨i, i1, i2⟩ := keyAt_idx hk
    exact h2 _ (hold i c (frm l) i1 (by rw [← hf, List.getElem?_map, i2]; rfl))
  refine ⟨chainE_snoc h1 fun q l hq hk => ?_, fun q hq => ?_⟩
  · rw [key l hk] at hq
    exact Option.some.inj hq
  · obtain ⟨i, i1, i2⟩ := keyAt_idx hq
    obtain ⟨l, hl2, _⟩ := keyAt_some hl (List.mem_of_getElem? i1)
    obtain ⟨j, j1, j2⟩ := keyAt_idx hl2
    have e2 : keyAt ks2 (ls.map too) (c : Int) = some (too l) := by
      have := hq
      unfold keyAt at this hl2 ⊢
      rw [List.zip_map_right, List.find?_map] at this ⊢
      obtain ⟨z, hz, rfl⟩ := Option.map_eq_some_iff.mp hl2
      rw [show ((fun q : Int × P2 => decide (q.1 = (c : Int))) ∘ Prod.map id too) = fun q : Int × Lg => decide (q.1 = (c : Int)) from rfl, hz]
      rfl
    rw [hq] at e2
    rw [Option.some.inj e2]
    exact endE_snoc (key l hl2) hl2
def EdF (w : Shw) (s : Scn) (ls : List Lg) : Prop := (∀ l ∈ ls, frm l = too l) ∨ ∃ (rs : List Int) (qs ms : List P2), LeastR (lxs s.ls) w.b.sp rs ∧ rs.length = s.ls.length ∧ FameQ s.ls rs w.b.sp qs ∧ ms.Perm w.pads ∧
  (ls.map too).Perm (qs.take ls.length ++ ms.take (ls.length - (qs.take ls.length).length))
def RunG (w : Shw) (ks : List Int) (ps : List P2) (es : List (List Int × List Lg)) : Prop := RunI w ks ps es ∧ ∀ (j : Nat) (p : List Int × List Lg) (s : Scn), es[j]? = some p → w.sc[j]? = some s → EdF w s p.2
theorem RunG.nil (w : Shw) : RunG w (upI w.pads.length) w.pads [] := ⟨RunI.nil w, fun j p s h => by simp at h⟩
theorem RunG.snoc {w : Shw} {ks ks2 : List Int} {ps ps2 : List P2} {es : List (List Int × List Lg)} {ls : List Lg} {j : Nat} {s : Scn} (h : RunG w ks ps es) (hold : ∀ (i : Nat) (c : Int) (v : P2), ks2[i]? = some c → ps2[i]? = some v → keyAt ks ps c = some v) (hf : ls.map frm = ps2) (hl : ks2.length = ls.length)
    (hel : es.length = j) (hs : w.sc[j]? = some s) (he : EdF w s ls) : RunG w ks2 (ls.map too) (es ++ [(ks2, ls)]) := by
  refine ⟨h.1.snoc hold hf hl, fun k p t hk ht => ?_⟩
  by_cases lt : k < es.length
  · rw [List.getElem?_append_left lt] at hk
    exact h.2 k p t hk ht
  · have e : k = es.length := by
      have := (List.getElem?_eq_some_iff.mp hk).1
      rw [List.length_append] at this
      simp at this
      omega
    rw [e, List.getElem?_append_right (Nat.le_refl _), Nat.sub_self] at hk
    cases hk
    rw [e, hel, hs] at ht
    cases ht
    exact he
structure LmC (l : Lmp) : Prop where
  x0 : -20 ≤ l.x
  x1 : l.x ≤ 40
  z0 : 0 ≤ l.z
  z1 : l.z ≤ 8
  w0 : 0 ≤ l.w
  w1 : l.w ≤ 3
  s0 : l.sh ≠ []
  s1 : l.sh.length ≤ 12
  st : ∀ t ∈ l.sh, okd (.str t) = true ∧ t.length ≤ 12
structure PicC (ls : List Lmp) : Prop where
  n : ls.length ≤ 14
  up : PicL ls
  l : ∀ l ∈ ls, LmC l
theorem fn_lc {l : Lmp} (h : LmC l) : Fn 2 9000 (eLm l) := by
  unfold eLm
  have b : ∀ {i : Int}, -100 ≤ i → i ≤ 100 → Fn 1 2000 (.int i) := fun h1 h2 => (Fn.int (bd_of 100 h1 h2 (k := 10))).up (by decide) (by decide)
  have s : Fn 1 2000 (.tuple (l.sh.map .str)) := (Fn.tuple (k := 0) (c := 122) (n := 12) (Fn.map fun t ht => by
    obtain ⟨h1, h2⟩ := h.st t ht
    exact ⟨h1, by simp [PyData.depth], by show 10 * t.length + 2 ≤ 122; omega⟩) (by rw [List.length_map]; exact h.s1)).up (by decide) (by decide)
  obtain ⟨_, _, _, _, _, _, _, _, _⟩ := h
  exact (Fn.tuple (k := 1) (c := 2000) (n := 4) (all4 (b (by omega) (by omega)) (b (by omega) (by omega)) s (b (by omega) (by omega))) (by simp)).up (by decide) (by decide)
theorem fn_pc {ls : List Lmp} (h : PicC ls) : Fn 3 130000 (eP ls) := by
  unfold eP
  exact (Fn.tuple (k := 2) (c := 9000) (n := 14) (Fn.map fun l hl => fn_lc (h.l l hl)) (by rw [List.length_map]; exact h.n)).up (by decide) (by decide)
/-- in ascending order -/
def SortdN (ps qs : List Nat) : Prop := qs.Perm ps ∧ qs.Pairwise (· ≤ ·)
theorem SortdN.unique {ps qs rs : List Nat} (h : SortdN ps qs) (k : SortdN ps rs) : qs = rs :=
  List.Perm.eq_of_pairwise (fun a b _ _ x y => Nat.le_antisymm x y) h.2 k.2 (h.1.trans k.1.symm)
theorem fm_congr {α β : Type} {f g : α → Option β} : ∀ {xs : List α}, (∀ x ∈ xs, f x = g x) → xs.filterMap f = xs.filterMap g
  | [], _ => rfl
  | x :: xs, h => by rw [List.filterMap_cons, List.filterMap_cons, h x (List.mem_cons_self ..), fm_congr fun y hy => h y (List.mem_cons_of_mem _ hy)]
def lxAt (ls : List Lmp) (k : Nat) : Int := (ls[k]?.map Lmp.x).getD 0
theorem barred_eq {ls : List Lmp} {rs : List Int} {x sp : Int} (hl : rs.length ≤ ls.length) (hx : ∀ (k : Nat) (l : Lmp), k < rs.length → ls[k]? = some l → l.x ≤ x) :
    (List.range rs.length).filterMap (fun k => if x - lxAt ls k < sp then some (rs[k]?.getD 0) else none) = takenL ls rs x sp := by
  have e : List.zip ls rs = (List.range rs.length).map fun k => (ls[k]?.getD ⟨0, 0, [], 0⟩, rs[k]?.getD 0) := by
    refine List.ext_getElem? fun k => ?_
    rw [List.getElem?_map]
    by_cases h : k < rs.length
    · rw [List.getElem?_eq_getElem (by rw [List.length_zip]; omega), List.getElem?_eq_getElem (by rw [List.length_range]; exact h), List.getElem_range, List.getElem_zip]
      simp [List.getElem?_eq_getElem h, List.getElem?_eq_getElem (show k < ls.length by omega)]
    · rw [List.getElem?_eq_none (by rw [List.length_zip]; omega), List.getElem?_eq_none (by rw [List.length_range]; omega)]
      rfl
  unfold takenL
  rw [e, List.filterMap_map]
  refine fm_congr fun k hk => ?_
  have kl := List.getElem?_eq_getElem (show k < ls.length by have := List.mem_range.mp hk; omega)
  have := hx k _ (List.mem_range.mp hk) kl
  unfold lxAt
  show _ = if (((ls[k]?.getD _).x - x).natAbs : Int) < sp then _ else _
  rw [kl]
  dsimp only [Option.map, Option.getD]
  generalize ls[k]'(by have := List.mem_range.mp hk; omega) = lk at this ⊢
  have ea : ((lk.x - x).natAbs : Int) < sp ↔ x - lk.x < sp := by omega
  by_cases h : x - lk.x < sp
  · rw [if_pos h, if_pos (ea.mpr h)]
  · rw [if_neg h, if_neg (fun z => h (ea.mp z))]
def isI : PyData → Bool
  | .int _ => true
  | _ => false
theorem ite_i {i j : Int} {A B : Prop} (y : i = j → A) (n : ¬ i = j → B) : if PyData.eqv (.int i) (.int j) = true then A else B := by
  by_cases h : i = j
  · rw [if_pos (by rw [eqv_int]; exact decide_eq_true h)]
    exact y h
  · rw [if_neg (by rw [eqv_int]; simpa using h)]
    exact n h
theorem okd_ofString (s : String) : okd (.str (Str.ofString s)) = true := by
  have h : ∀ c ∈ (Str.ofString s).cps.toList, c < 0x110000 := fun c hc => by
    rw [signs_ofString] at hc
    obtain ⟨ch, _, rfl⟩ := List.mem_map.mp hc
    have := ch.valid
    rcases this with h | h
    · exact Nat.lt_trans h (by decide)
    · exact h.2
  simp only [okd, Bool.and_eq_true, List.all_eq_true, decide_eq_true_eq, PyData.canLay0, PyData.strOk]
  refine ⟨?_, fun c hc => Nat.lt_of_lt_of_le (h c hc) (by decide)⟩
  rw [Array.all_eq_true]
  intro i hi
  exact decide_eq_true (h _ (by rw [Array.mem_toList_iff]; exact Array.getElem_mem hi))
/-- all of a list, by looking -/
def vlB (b k c : Nat) (d : PyData) : Bool := okV b d && (decide (d.depth ≤ k) && decide (wV d ≤ c))
theorem vl_all {b k c : Nat} {xs : List PyData} (h : xs.all (vlB b k c) = true) : ∀ x ∈ xs, Vl b k c x := fun x hx => by
  have := List.all_eq_true.mp h x hx
  unfold vlB at this
  simp only [Bool.and_eq_true, decide_eq_true_eq] at this
  exact ⟨this.1, this.2.1, this.2.2⟩
theorem wVs_len : ∀ xs : List PyData, 2 * xs.length ≤ wVs xs
  | [] => Nat.le_refl _
  | x :: xs => by
    have := wVs_len xs
    simp only [wVs, List.length_cons]
    omega
theorem isI_ex {d : PyData} (h : isI d = true) : ∃ a, d = .int a := by
  unfold isI at h
  split at h
  · exact ⟨_, rfl⟩
  · cases h
theorem cut_mid {xs : List PyData} {a b : Nat} (h : a ≤ b) (hb : b ≤ xs.length) : DV.cutD xs (some (a : Int)) (some (b : Int)) = (xs.take b).drop a := by
  unfold DV.cutD HT.sIx
  simp only
  rw [if_neg (by omega), if_neg (by omega)]
  apply List.ext_getElem?
  intro k
  simp only [List.getElem?_take, List.getElem?_drop]
  rw [show min (a : Int).toNat xs.length = a by omega, show min (b : Int).toNat xs.length = b by omega]
  by_cases hk : a + k < b
  · rw [if_pos hk, if_pos (by omega)]
  · rw [if_neg hk, if_neg (by omega)]
def isN : PyData → Bool
  | .int i => decide (0 ≤ i)
  | _ => false
def areN (n : Nat) : PyData → Bool
  | .tuple xs => decide (n ≤ xs.length) && xs.all isI
  | _ => false
/-- no two of one row nearer than sp -/
def rowsOk (xs : List Int) (sp : Int) (rs : List Int) : Prop := ∀ (i j : Nat) (a b r : Int), i < j → xs[i]? = some a → xs[j]? = some b → rs[i]? = some r → rs[j]? = some r → sp ≤ b - a
def rowsTo (xs : List Int) (sp : Int) (rs : List Int) (i : Nat) : Prop := ∀ (p q : Nat) (a b r : Int), q < i → p < q → xs[p]? = some a → xs[q]? = some b → rs[p]? = some r → rs[q]? = some r → sp ≤ b - a
/-- the last of the first i that stands in row r -/
def lastX (xs rs : List Int) : Nat → Int → Option Int
  | 0, _ => none
  | i + 1, r => if rs[i]? = some r then xs[i]? else lastX xs rs i r
theorem lastX_some {xs rs : List Int} {r x : Int} : ∀ {i : Nat}, lastX xs rs i r = some x → ∃ p, p < i ∧ rs[p]? = some r ∧ xs[p]? = some x ∧ ∀ q, p < q → q < i → rs[q]? ≠ some r
  | i + 1, h => by
    unfold lastX at h
    split at h
    · rename_i e
      exact ⟨i, Nat.lt_succ_self _, e, h, fun q h1 h2 => by omega⟩
    · rename_i e
      obtain ⟨p, h1, h2, h3, h4⟩ := lastX_some h
      refine ⟨p, by omega, h2, h3, fun q g1 g2 => ?_⟩
      rcases Nat.lt_or_ge q i with g | g
      · exact h4 q g1 g
      · rw [show q = i by omega]; exact e
theorem lastX_none {xs rs : List Int} {r : Int} : ∀ {i : Nat}, i ≤ xs.length → lastX xs rs i r = none → ∀ p, p < i → rs[p]? ≠ some r
  | 0, _, _, p, h => absurd h (Nat.not_lt_zero _)
  | i + 1, hl, h, p, hp => by
    unfold lastX at h
    split at h
    · rw [List.getElem?_eq_getElem (by omega)] at h; cases h
    · rename_i e
      rcases Nat.lt_or_ge p i with g | g
      · exact lastX_none (by omega) h p g
      · rw [show p = i by omega]; exact e
noncomputable def rowsC (ls : List Lmp) (sp : Int) (d : PyData) : Bool := @ite _ (∃ rs : List Int, d = .tuple (rs.map .int) ∧ rs.length = ls.length ∧ (∀ r ∈ rs, 0 ≤ r) ∧ rowsOk (lxs ls) sp rs) (Classical.propDecidable _) true false
theorem ints_inj : ∀ {rs qs : List Int}, rs.map PyData.int = qs.map PyData.int → rs = qs
  | [], [], _ => rfl
  | [], _ :: _, h => by simp at h
  | _ :: _, [], h => by simp at h
  | r :: rs, q :: qs, h => by
    rw [List.map_cons, List.map_cons] at h
    injection h with h1 h2
    injection h1 with h1
    rw [h1, ints_inj h2]
theorem rowsC_not {ls : List Lmp} {sp : Int} {d : PyData} (h : ∀ rs : List Int, d = .tuple (rs.map .int) → rs.length = ls.length → (∀ r ∈ rs, 0 ≤ r) → ¬ rowsOk (lxs ls) sp rs) : rowsC ls sp d = false := by
  unfold rowsC
  exact if_neg fun ⟨rs, e, a, b, c⟩ => h rs e a b c
theorem rowsC_yes {ls : List Lmp} {sp : Int} {rs : List Int} (a : rs.length = ls.length) (b : ∀ r ∈ rs, 0 ≤ r) (c : rowsOk (lxs ls) sp rs) : rowsC ls sp (.tuple (rs.map .int)) = true := by
  unfold rowsC
  exact if_pos ⟨rs, rfl, a, b, c⟩
theorem fm_isI : ∀ xs : List PyData, (xs.filterMap fun x => if isI x = true then none else some x) = [] ↔ xs.all isI = true
  | [] => by simp
  | x :: xs => by
    rw [List.filterMap_cons, List.all_cons]
    cases h : isI x with
    | true => simpa using fm_isI xs
    | false => simp
theorem fm_neg : ∀ rs : List Int, (rs.filterMap fun r => (if r < 0 then some r else none : Option Int).map PyData.int) = (rs.filter fun r => decide (r < 0)).map .int
  | [] => rfl
  | r :: rs => by
    rw [List.filterMap_cons, List.filter_cons, fm_neg rs]
    by_cases h : r < 0
    · simp [h]
    · simp [h]
theorem sh_ints {xs : List Int} : SeqAt.shaped (.list (xs.map .int)) = true := (Shp.list (Shp.map fun c _ => Shp.int)).shaped
theorem ints_all : ∀ {xs : List PyData}, xs.all isI = true → ∃ rs : List Int, xs = rs.map .int
  | [], _ => ⟨[], rfl⟩
  | x :: xs, h => by
    rw [List.all_cons, Bool.and_eq_true] at h
    obtain ⟨a, rfl⟩ := isI_ex h.1
    obtain ⟨rs, rfl⟩ := ints_all h.2
    exact ⟨a :: rs, rfl⟩
theorem nats_all : ∀ {xs : List PyData}, xs.all isN = true → ∃ rs : List Int, xs = rs.map .int ∧ ∀ r ∈ rs, 0 ≤ r
  | [], _ => ⟨[], rfl, by simp⟩
  | x :: xs, h => by
    rw [List.all_cons, Bool.and_eq_true] at h
    obtain ⟨rs, rfl, hr⟩ := nats_all h.2
    have h1 := h.1
    unfold isN at h1
    split at h1
    · rename_i a
      exact ⟨a :: rs, rfl, fun r z => (List.mem_cons.mp z).elim (fun e => by rw [e]; exact of_decide_eq_true h1) (hr r)⟩
    · cases h1
/-- where the most stand, the least x of them -/
def AbrY (xs : List Int) (sp : Int) (m : Nat) (y : PyData) : Prop := (m = 0 ∧ y = .none) ∨ ∃ a, y = .int a ∧ 1 ≤ m ∧ a ∈ xs ∧ m ≤ (win xs sp a).length ∧ ∀ b ∈ xs, b < a → (win xs sp b).length < m
theorem AbrY.unique {xs : List Int} {sp : Int} {m : Nat} {y z : PyData} (h : AbrY xs sp m y) (k : AbrY xs sp m z) : y = z := by
  rcases h with ⟨h0, rfl⟩ | ⟨a, rfl, m1, ax, am, al⟩
  · rcases k with ⟨_, rfl⟩ | ⟨_, _, m1, _⟩
    · rfl
    · omega
  · rcases k with ⟨k0, _⟩ | ⟨b, rfl, _, bx, bm, bl⟩
    · omega
    · rcases Int.lt_trichotomy a b with z | z | z
      · have := bl a ax z
        omega
      · rw [z]
      · have := al b bx z
        omega
theorem win_ix {sp b : Int} (sp1 : 1 ≤ sp) : ∀ {xs : List Int} {k : Nat}, UpL xs → xs[k]? = some b → ∃ k0 c, k0 ≤ k ∧ xs[k0]? = some b ∧ xs[k0 + ((win xs sp b).length - 1)]? = some c ∧ c < b + sp
  | [], k, _, h => by simp at h
  | x :: xs, k, hs, h => by
    by_cases hx : x < b
    · cases k with
      | zero => simp at h; omega
      | succ k =>
        obtain ⟨k0, c, h1, h2, h3, h4⟩ := win_ix sp1 (List.pairwise_cons.mp hs).2 (by simpa using h)
        have e : win (x :: xs) sp b = win xs sp b := by
          unfold win
          rw [List.filter_cons, if_neg (by rw [decide_eq_true_eq]; omega)]
        rw [e]
        exact ⟨k0 + 1, c, by omega, by simpa using h2, by rw [show k0 + 1 + ((win xs sp b).length - 1) = (k0 + ((win xs sp b).length - 1)) + 1 by omega]; simpa using h3, h4⟩
    · have e : x = b := by
        have := hs.at (Nat.zero_le k) (a := x) rfl h
        omega
      subst e
      have n1 : 1 ≤ (win (x :: xs) sp x).length := List.length_pos_of_mem (List.mem_filter.mpr ⟨List.mem_cons_self .., by rw [decide_eq_true_eq]; omega⟩)
      obtain ⟨c, hc, hlt⟩ := win_last hs n1 (Nat.le_refl _)
      exact ⟨0, c, Nat.zero_le _, rfl, by rw [Nat.zero_add]; exact hc, hlt⟩
theorem win_at {xs : List Int} {sp : Int} {j l : Nat} {a : Int} (hs : UpL xs) (hjl : j ≤ l) (h1 : xs[j]? = some a) (h2 : ∀ k c, k < l → xs[k]? = some c → c < a + sp) (hl : l ≤ xs.length) : l - j ≤ (win xs sp a).length := by
  have sub : ((xs.drop j).take (l - j)).Sublist xs := (List.take_sublist _ _).trans (List.drop_sublist _ _)
  have all : ∀ c ∈ (xs.drop j).take (l - j), decide (a ≤ c ∧ c < a + sp) = true := fun c hc => by
    obtain ⟨i, hi⟩ := List.mem_iff_getElem?.mp hc
    have hil := (List.getElem?_eq_some_iff.mp hi).1
    rw [List.length_take, List.length_drop] at hil
    rw [List.getElem?_take, if_pos (by omega), List.getElem?_drop] at hi
    have := hs.at (show j ≤ j + i by omega) h1 hi
    have := h2 (j + i) c (by omega) hi
    rw [decide_eq_true_eq]; omega
  have := (sub.filter fun c => decide (a ≤ c ∧ c < a + sp)).length_le
  rw [List.filter_eq_self.mpr all, List.length_take, List.length_drop] at this
  unfold win
  omega
/-- up to the place i -/
def AbrZ (xs : List Int) (sp : Int) (i m : Nat) (y : PyData) : Prop := (m = 0 ∧ y = .none) ∨ ∃ (a : Int) (j : Nat), y = .int a ∧ 1 ≤ m ∧ j < i ∧ xs[j]? = some a ∧ m ≤ (win xs sp a).length ∧ ∀ k b, k < j → xs[k]? = some b → (win xs sp b).length < m
theorem AbrZ.up {xs : List Int} {sp : Int} {i m : Nat} {y : PyData} (h : AbrZ xs sp i m y) : AbrZ xs sp (i + 1) m y := by
  rcases h with h | ⟨a, j, h1, h2, h3, h4⟩
  · exact .inl h
  · exact .inr ⟨a, j, h1, h2, by omega, h4⟩
theorem AbrZ.new {xs : List Int} {sp : Int} {i m l2 last : Nat} {a : Int} {y : PyData} (sp1 : 1 ≤ sp) (h : Abr xs sp i m last) (hs : UpL xs) (ha : xs[i]? = some a) (hil : i ≤ l2) (hl : l2 ≤ xs.length) (h2 : ∀ k c, k < l2 → xs[k]? = some c → c < a + sp) (gt : m < l2 - i) : AbrZ xs sp (i + 1) (l2 - i) (.int a) := by
  refine .inr ⟨a, i, rfl, by omega, by omega, ha, win_at hs hil ha h2 hl, fun k b hk hb => ?_⟩
  obtain ⟨k0, c, q1, q2, q3, q4⟩ := win_ix sp1 hs hb
  have := h.all k0 _ b c (by omega) (Nat.le_add_right _ _) q2 q3 q4
  omega
theorem AbrZ.end_ {xs : List Int} {sp : Int} {m : Nat} {y : PyData} (hs : UpL xs) (h : AbrZ xs sp xs.length m y) : AbrY xs sp m y := by
  rcases h with h | ⟨a, j, rfl, h2, h3, h4, h5, h6⟩
  · exact .inl h
  · refine .inr ⟨a, rfl, h2, List.mem_of_getElem? h4, h5, fun b hb lt => ?_⟩
    obtain ⟨k, hk⟩ := List.mem_iff_getElem?.mp hb
    refine h6 k b ?_ hk
    rcases Nat.lt_or_ge k j with z | z
    · exact z
    · have := hs.at z h4 hk
      omega
theorem has_at {xs : List Int} {sp : Int} {n : Nat} (hs : UpL xs) (n1 : 1 ≤ n) (h : HasC xs sp n) : ∃ a ∈ xs, n ≤ (win xs sp a).length := by
  obtain ⟨y, h⟩ := h
  obtain ⟨j, a, b, h1, h2, h3⟩ := win_first n1 hs h
  have jl := (List.getElem?_eq_some_iff.mp h2).1
  have := win_at (sp := sp) (a := a) (l := j + n) hs (by omega) h1 (fun k c hk hc => by
    have := hs.at (i := k) (k := j + (n - 1)) (by omega) hc h2
    omega) (by omega)
  exact ⟨a, List.mem_of_getElem? h1, by omega⟩
theorem wVs_ints : ∀ xs : List Int, wVs (xs.map .int) = 1003 * xs.length
  | [] => rfl
  | x :: xs => by
    have := wVs_ints xs
    simp only [List.map_cons, wVs, wV, this, List.length_cons]
    omega
theorem vl_ints {b : Nat} {rs : List Int} (h : ∀ r ∈ rs, Bd b r) (l : rs.length ≤ 40) : Vl b 1 41000 (.tuple (rs.map .int)) ∧ Vl b 1 41000 (.list (rs.map .int)) := by
  have it : ∀ x ∈ rs.map PyData.int, okV b x = true ∧ x.depth ≤ 0 := fun x hx => by
    obtain ⟨r, hr, rfl⟩ := List.mem_map.mp hx
    exact ⟨by simp only [okV, decide_eq_true_eq]; exact h r hr, by simp [PyData.depth]⟩
  have w := wVs_ints rs
  exact ⟨Vl.tup (k := 0) it (by omega), Vl.lst (k := 0) it (by omega)⟩
theorem rng_ints : ∀ (n : Nat) (a : Int), rng a n = ((List.range n).map fun i : Nat => a + (i : Int)).map .int := fun n a => by
  apply List.ext_getElem?
  intro i
  rw [List.getElem?_map, List.getElem?_map]
  by_cases h : i < n
  · rw [List.getElem?_range h]
    exact rng_at h
  · rw [List.getElem?_eq_none (by rw [rng_len]; omega), List.getElem?_eq_none (by rw [List.length_range]; omega)]
    rfl
theorem fineW {d : PyData} (h : Fine d) : PlainW d := by
  obtain ⟨a, _, c, e⟩ := h.plain
  exact ⟨a, c, e⟩
def encQ : Option P2 → PyData
  | none => .tuple [.int 0, .int 0, .none]
  | some p => .tuple [.int p.1, .int p.2, .int p.2]
def prQ : Option P2 → P2
  | none => (0, 0)
  | some p => p
theorem alike_prs (xs : List P2) : PySem.W.AlikeAll (xs.map enc2) := by
  refine ⟨fun x hx y hy => ?_, fun x hx => ?_⟩
  · obtain ⟨i, _, rfl⟩ := List.mem_map.mp hx
    obtain ⟨j, _, rfl⟩ := List.mem_map.mp hy
    exact alike_pr
  · obtain ⟨i, _, rfl⟩ := List.mem_map.mp hx
    exact fun h => by cases h
theorem depth_prs0 : ∀ xs : List P2, PyData.depthAll (xs.map enc2) ≤ 2
  | [] => by simp [PyData.depthAll]
  | x :: xs => by
    have := depth_prs0 xs
    rw [List.map_cons, PyData.depthAll]
    have : (enc2 x).depth ≤ 2 := by simp [enc2, pr, PyData.depth, PyData.depthAll]
    omega
theorem depth_prs (xs : List P2) (p : P2) : PyData.depthAll (enc2 p :: xs.map enc2) ≤ 50 := Nat.le_trans (depth_prs0 (p :: xs)) (by decide)
def maxZ (rs : List Int) : Int := rs.foldl max (-1)
theorem maxZ_eq {rs : List Int} {m : Int} (hm : m ∈ rs) (h1 : ∀ r ∈ rs, -1 ≤ r) (h2 : ∀ y ∈ rs, y ≤ m) : maxZ rs = m := by
  obtain ⟨a, b⟩ := foldl_max rs (-1)
  unfold maxZ
  have := b m (List.mem_cons_of_mem _ hm)
  rcases List.mem_cons.mp a with e | e
  · have := h1 m hm
    omega
  · have := h2 _ e
    omega
theorem maxZ_all {rs : List Int} {m : Int} (hm : m ∈ (-1) :: rs) (h2 : ∀ y ∈ (-1) :: rs, y ≤ m) : maxZ rs = m := by
  obtain ⟨a, b⟩ := foldl_max rs (-1)
  unfold maxZ
  have := b m hm
  have := h2 _ a
  omega
/-- as many rows as the most abreast -/
theorem maxZ_col {xs rs : List Int} {sp : Int} {n : Nat} (h0 : ColL xs sp n rs) (h1 : HasC xs sp n) : maxZ rs + 1 = n := by
  obtain ⟨a, b⟩ := foldl_max rs (-1)
  unfold maxZ
  generalize rs.foldl max (-1) = m at *
  have : n ≤ (m + 1).toNat := col_has (k := (m + 1).toNat) (rs := rs) ⟨h0.len, fun r hr => by have := h0.rng r hr; have := b r (List.mem_cons_of_mem _ hr); omega, h0.un⟩ h1
  have := b (-1) (List.mem_cons_self ..)
  rcases List.mem_cons.mp a with e | e
  · omega
  · have := h0.rng m e
    omega
def S_is_integer : Sd := SpE (α := PyData) (fun d => [d]) (fun d => True) (fun d => .bool (isI d))
theorem m_is_integer : MonoP S_is_integer := m_SpE
theorem u_is_integer {d : PyData} {Q : PyData → Prop}  (hQ : Q (.bool (isI d))) : S_is_integer [d] Q := ⟨(d), rfl, trivial, hQ⟩
def S_rows_of : Sd := SpR (α := (List Lmp) × Int) (fun ⟨ls, sp⟩ => [eP ls, .int sp]) (fun ⟨ls, sp⟩ => UpL (lxs ls) ∧ 1 ≤ sp ∧ ls.length ≤ 1000) (fun ⟨ls, sp⟩ z => ∃ (rs : List Int) (n : Nat), z = .tuple (rs.map .int) ∧ ColL (lxs ls) sp n rs ∧ HasC (lxs ls) sp n ∧ LeastR (lxs ls) sp rs)
theorem m_rows_of : MonoP S_rows_of := m_SpR
theorem u_rows_of {ls : List Lmp} {sp : Int} {Q : PyData → Prop} (h0 : UpL (lxs ls)) (h1 : 1 ≤ sp) (h2 : ls.length ≤ 1000) (hQ : ∀ z, (∃ (rs : List Int) (n : Nat), z = .tuple (rs.map .int) ∧ ColL (lxs ls) sp n rs ∧ HasC (lxs ls) sp n ∧ LeastR (lxs ls) sp rs) → Q z) : S_rows_of [eP ls, .int sp] Q := ⟨(ls, sp), rfl, ⟨h0, h1, h2⟩, hQ⟩
def S_rows_many : Sd := SpE (α := (List Int)) (fun rs => [.tuple (rs.map .int)]) (fun rs => ∀ r ∈ rs, -1 ≤ r) (fun rs => .int (maxZ rs + 1))
theorem m_rows_many : MonoP S_rows_many := m_SpE
theorem u_rows_many {rs : List Int} {Q : PyData → Prop} (h0 : ∀ r ∈ rs, -1 ≤ r) (hQ : Q (.int (maxZ rs + 1))) : S_rows_many [.tuple (rs.map .int)] Q := ⟨(rs), rfl, h0, hQ⟩
def S_most_abreast : Sd := SpR (α := (List Lmp) × Int) (fun ⟨ls, sp⟩ => [eP ls, .int sp]) (fun ⟨ls, sp⟩ => UpL (lxs ls) ∧ 1 ≤ sp ∧ ls.length ≤ 1000) (fun ⟨ls, sp⟩ z => ∃ (m : Nat) (y : PyData), z = .tuple [.int m, y] ∧ HasC (lxs ls) sp m ∧ (∀ n, HasC (lxs ls) sp n → n ≤ m) ∧ AbrY (lxs ls) sp m y)
theorem m_most_abreast : MonoP S_most_abreast := m_SpR
theorem u_most_abreast {ls : List Lmp} {sp : Int} {Q : PyData → Prop} (h0 : UpL (lxs ls)) (h1 : 1 ≤ sp) (h2 : ls.length ≤ 1000) (hQ : ∀ z, (∃ (m : Nat) (y : PyData), z = .tuple [.int m, y] ∧ HasC (lxs ls) sp m ∧ (∀ n, HasC (lxs ls) sp n → n ≤ m) ∧ AbrY (lxs ls) sp m y) → Q z) : S_most_abreast [eP ls, .int sp] Q := ⟨(ls, sp), rfl, ⟨h0, h1, h2⟩, hQ⟩
abbrev S__law_bag : SdL := S_bag
theorem m__law_bag : MonoF S__law_bag := m_bag
abbrev S__law_take : Sb := S_take
theorem m__law_take : MonoB S__law_take := m_take
abbrev S__law_alike : Sd := S_alike
theorem m__law_alike : MonoP S__law_alike := m_alike
def S__law_is_int : Sd := SpE (α := PyData) (fun d => [d]) (fun d => True) (fun d => .bool (isI d))
theorem m__law_is_int : MonoP S__law_is_int := m_SpE
theorem u__law_is_int {d : PyData} {Q : PyData → Prop}  (hQ : Q (.bool (isI d))) : S__law_is_int [d] Q := ⟨(d), rfl, trivial, hQ⟩
def S__law_shape : Sd := SpR (α := (List Pr)) (fun ps => [.list (ps.map encP)]) (fun ps => ps.length < 64) (fun ps z => ∃ qs, SortdS ps qs ∧ z = .tuple (qs.map encP))
theorem m__law_shape : MonoP S__law_shape := m_SpR
theorem u__law_shape {ps : List Pr} {Q : PyData → Prop} (h0 : ps.length < 64) (hQ : ∀ z, (∃ qs, SortdS ps qs ∧ z = .tuple (qs.map encP)) → Q z) : S__law_shape [.list (ps.map encP)] Q := ⟨(ps), rfl, h0, hQ⟩
def S__law_rows : Sd := SpR (α := (List Lmp) × Int) (fun ⟨ls, sp⟩ => [eP ls, .int sp]) (fun ⟨ls, sp⟩ => UpL (lxs ls) ∧ 1 ≤ sp ∧ sp ≤ 1000 ∧ ls.length ≤ 900) (fun ⟨ls, sp⟩ z => ∃ rs : List Int, LeastR (lxs ls) sp rs ∧ rs.length = ls.length ∧ (∀ r ∈ rs, 0 ≤ r ∧ r ≤ 1000) ∧ z = .tuple (rs.map .int))
theorem m__law_rows : MonoP S__law_rows := m_SpR
theorem u__law_rows {ls : List Lmp} {sp : Int} {Q : PyData → Prop} (h0 : UpL (lxs ls)) (h1 : 1 ≤ sp) (h2 : sp ≤ 1000) (h3 : ls.length ≤ 900) (hQ : ∀ z, (∃ rs : List Int, LeastR (lxs ls) sp rs ∧ rs.length = ls.length ∧ (∀ r ∈ rs, 0 ≤ r ∧ r ≤ 1000) ∧ z = .tuple (rs.map .int)) → Q z) : S__law_rows [eP ls, .int sp] Q := ⟨(ls, sp), rfl, ⟨h0, h1, h2, h3⟩, hQ⟩
def S__law_abreast : Sd := SpR (α := (List Lmp) × Int) (fun ⟨ls, sp⟩ => [eP ls, .int sp]) (fun ⟨ls, sp⟩ => UpL (lxs ls) ∧ 1 ≤ sp ∧ ls.length ≤ 900) (fun ⟨ls, sp⟩ z => ∃ (m : Nat) (y : PyData), z = .tuple [.int m, y] ∧ HasC (lxs ls) sp m ∧ (∀ n, HasC (lxs ls) sp n → n ≤ m) ∧ AbrY (lxs ls) sp m y)
theorem m__law_abreast : MonoP S__law_abreast := m_SpR
theorem u__law_abreast {ls : List Lmp} {sp : Int} {Q : PyData → Prop} (h0 : UpL (lxs ls)) (h1 : 1 ≤ sp) (h2 : ls.length ≤ 900) (hQ : ∀ z, (∃ (m : Nat) (y : PyData), z = .tuple [.int m, y] ∧ HasC (lxs ls) sp m ∧ (∀ n, HasC (lxs ls) sp n → n ≤ m) ∧ AbrY (lxs ls) sp m y) → Q z) : S__law_abreast [eP ls, .int sp] Q := ⟨(ls, sp), rfl, ⟨h0, h1, h2⟩, hQ⟩
def S__law_are_rows : Sd := SpR (α := (List Lmp) × Int × (List Int)) (fun ⟨ls, sp, rs⟩ => [eP ls, .int sp, .tuple (rs.map .int)]) (fun ⟨ls, sp, rs⟩ => ls.length ≤ 999 ∧ rs.length = ls.length) (fun ⟨ls, sp, rs⟩ z => ∃ b : Bool, z = .bool b ∧ (b = true ↔ rowsOk (lxs ls) sp rs))
theorem m__law_are_rows : MonoP S__law_are_rows := m_SpR
theorem u__law_are_rows {ls : List Lmp} {sp : Int} {rs : List Int} {Q : PyData → Prop} (h0 : ls.length ≤ 999) (h1 : rs.length = ls.length) (hQ : ∀ z, (∃ b : Bool, z = .bool b ∧ (b = true ↔ rowsOk (lxs ls) sp rs)) → Q z) : S__law_are_rows [eP ls, .int sp, .tuple (rs.map .int)] Q := ⟨(ls, sp, rs), rfl, ⟨h0, h1⟩, hQ⟩
def S_is_natural : Sd := SpE (α := PyData) (fun d => [d]) (fun d => True) (fun d => .bool (isN d))
theorem m_is_natural : MonoP S_is_natural := m_SpE
theorem u_is_natural {d : PyData} {Q : PyData → Prop}  (hQ : Q (.bool (isN d))) : S_is_natural [d] Q := ⟨(d), rfl, trivial, hQ⟩
abbrev S__law_some : Sb := S_some
theorem m__law_some : MonoB S__law_some := m_some
def S__law_are : Sd := SpE (α := PyData × Nat × Nat × Nat × Nat) (fun ⟨d, b, k, c, n⟩ => [d, .int (n : Int)]) (fun ⟨d, b, k, c, n⟩ => Vl b k c d ∧ c ≤ 200000) (fun ⟨d, b, k, c, n⟩ => .bool (areN n d))
theorem m__law_are : MonoP S__law_are := m_SpE
theorem n__law_are : ∀ xs Q, S__law_are xs Q → xs.length = 2 := by rintro _ _ ⟨_, rfl, _⟩; rfl
theorem u__law_are {d : PyData} {b : Nat} {k : Nat} {c : Nat} {n : Nat} {Q : PyData → Prop} (h0 : Vl b k c d) (h1 : c ≤ 200000) (hQ : Q (.bool (areN n d))) : S__law_are [d, .int (n : Int)] Q := ⟨(d, b, k, c, n), rfl, ⟨h0, h1⟩, hQ⟩
def S_is_rows : Sd := SpE (α := (List Lmp) × Int × PyData × Nat × Nat × Nat) (fun ⟨ls, sp, d, b, k, c⟩ => [eP ls, .int sp, d]) (fun ⟨ls, sp, d, b, k, c⟩ => UpL (lxs ls) ∧ 1 ≤ sp ∧ sp ≤ 1000 ∧ ls.length ≤ 999 ∧ Vl b k c d ∧ c ≤ 200000) (fun ⟨ls, sp, d, b, k, c⟩ => .bool (rowsC ls sp d))
theorem m_is_rows : MonoP S_is_rows := m_SpE
theorem u_is_rows {ls : List Lmp} {sp : Int} {d : PyData} {b : Nat} {k : Nat} {c : Nat} {Q : PyData → Prop} (h0 : UpL (lxs ls)) (h1 : 1 ≤ sp) (h2 : sp ≤ 1000) (h3 : ls.length ≤ 999) (h4 : Vl b k c d) (h5 : c ≤ 200000) (hQ : Q (.bool (rowsC ls sp d))) : S_is_rows [eP ls, .int sp, d] Q := ⟨(ls, sp, d, b, k, c), rfl, ⟨h0, h1, h2, h3, h4, h5⟩, hQ⟩
def S__law_odd : Sb := SpB (α := Unit) 1 (fun _ => []) (fun _ => True) (fun _ z => Vl 700 4 6000 z)
theorem m__law_odd : MonoB S__law_odd := m_SpB
theorem u__law_odd  {m : Nat} {bag : List PyData} {Q : PyData → List PyData → Prop} (hb : Bag m bag) (hm : m + 1 < 2 ^ 60)  (hQ : ∀ z bag', (Vl 700 4 6000 z) → Bag (m + 1) bag' → Q z bag') : S__law_odd bag [] Q := ⟨(), m, hb, hm, rfl, trivial, hQ⟩
def S__law_shades : Sb := SpB (α := Unit) 10 (fun _ => []) (fun _ => True) (fun _ z => ∃ ss : List Str, z = .tuple (ss.map .str) ∧ ss ≠ [] ∧ ss.length ≤ 12 ∧ ∀ t ∈ ss, okd (.str t) = true ∧ t.length ≤ 12)
theorem m__law_shades : MonoB S__law_shades := m_SpB
theorem u__law_shades  {m : Nat} {bag : List PyData} {Q : PyData → List PyData → Prop} (hb : Bag m bag) (hm : m + 10 < 2 ^ 60)  (hQ : ∀ z bag', (∃ ss : List Str, z = .tuple (ss.map .str) ∧ ss ≠ [] ∧ ss.length ≤ 12 ∧ ∀ t ∈ ss, okd (.str t) = true ∧ t.length ≤ 12) → Bag (m + 10) bag' → Q z bag') : S__law_shades bag [] Q := ⟨(), m, hb, hm, rfl, trivial, hQ⟩
def S__law_is_rows : Sd := SpE (α := (List Lmp) × Int × PyData × Nat × Nat × Nat) (fun ⟨ls, sp, d, b, k, c⟩ => [eP ls, .int sp, d]) (fun ⟨ls, sp, d, b, k, c⟩ => UpL (lxs ls) ∧ 1 ≤ sp ∧ sp ≤ 1000 ∧ ls.length ≤ 999 ∧ Vl b k c d ∧ c ≤ 200000) (fun ⟨ls, sp, d, b, k, c⟩ => .bool (rowsC ls sp d))
theorem m__law_is_rows : MonoP S__law_is_rows := m_SpE
theorem u__law_is_rows {ls : List Lmp} {sp : Int} {d : PyData} {b : Nat} {k : Nat} {c : Nat} {Q : PyData → Prop} (h0 : UpL (lxs ls)) (h1 : 1 ≤ sp) (h2 : sp ≤ 1000) (h3 : ls.length ≤ 999) (h4 : Vl b k c d) (h5 : c ≤ 200000) (hQ : Q (.bool (rowsC ls sp d))) : S__law_is_rows [eP ls, .int sp, d] Q := ⟨(ls, sp, d, b, k, c), rfl, ⟨h0, h1, h2, h3, h4, h5⟩, hQ⟩
def S__law_close_picture : Sb := SpB (α := Unit) 200 (fun _ => []) (fun _ => True) (fun _ z => ∃ ls : List Lmp, z = eP ls ∧ PicC ls)
theorem m__law_close_picture : MonoB S__law_close_picture := m_SpB
theorem u__law_close_picture  {m : Nat} {bag : List PyData} {Q : PyData → List PyData → Prop} (hb : Bag m bag) (hm : m + 200 < 2 ^ 60)  (hQ : ∀ z bag', (∃ ls : List Lmp, z = eP ls ∧ PicC ls) → Bag (m + 200) bag' → Q z bag') : S__law_close_picture bag [] Q := ⟨(), m, hb, hm, rfl, trivial, hQ⟩
def Sr__law_bent (nn : Nat) : Sb := SpB (α := PyData × Nat) (5 * nn) (fun ⟨d, n⟩ => [d, .int (n : Int)]) (fun ⟨d, n⟩ => n < nn ∧ ((n = 0 ∧ ∃ i : Int, d = .int i ∧ Bd 60 i) ∨ (n = 1 ∧ ∃ rs : List Int, d = .tuple (rs.map .int) ∧ rs.length ≤ 40 ∧ ∀ r ∈ rs, Bd 60 r))) (fun ⟨d, n⟩ z => Vl 700 (4 + n) (6000 + 54000 * n) z)
theorem mr__law_bent {nn : Nat} : MonoB (Sr__law_bent nn) := m_SpB
theorem ur__law_bent {nn : Nat} {d : PyData} {n : Nat} {m : Nat} {bag : List PyData} {Q : PyData → List PyData → Prop} (hb : Bag m bag) (hm : m + (5 * nn) < 2 ^ 60) (h0 : n < nn) (h1 : ((n = 0 ∧ ∃ i : Int, d = .int i ∧ Bd 60 i) ∨ (n = 1 ∧ ∃ rs : List Int, d = .tuple (rs.map .int) ∧ rs.length ≤ 40 ∧ ∀ r ∈ rs, Bd 60 r))) (hQ : ∀ z bag', (Vl 700 (4 + n) (6000 + 54000 * n) z) → Bag (m + (5 * nn)) bag' → Q z bag') : Sr__law_bent nn bag [d, .int (n : Int)] Q := ⟨(d, n), m, hb, hm, rfl, ⟨h0, h1⟩, hQ⟩
def S__law_bent : Sb := Sr__law_bent 3
theorem m__law_bent : MonoB S__law_bent := mr__law_bent
theorem u__law_bent {d : PyData} {n : Nat} {m : Nat} {bag : List PyData} {Q : PyData → List PyData → Prop} (hb : Bag m bag) (hm : m + (5 * 3) < 2 ^ 60) (h0 : n < 3) (h1 : ((n = 0 ∧ ∃ i : Int, d = .int i ∧ Bd 60 i) ∨ (n = 1 ∧ ∃ rs : List Int, d = .tuple (rs.map .int) ∧ rs.length ≤ 40 ∧ ∀ r ∈ rs, Bd 60 r))) (hQ : ∀ z bag', (Vl 700 (4 + n) (6000 + 54000 * n) z) → Bag (m + (5 * 3)) bag' → Q z bag') : S__law_bent bag [d, .int (n : Int)] Q := ⟨(d, n), m, hb, hm, rfl, ⟨h0, h1⟩, hQ⟩
theorem nope__law_bent {K : PySem.W.Frag} {T : List (Addr × Str)} {ks : List Kd} {vs : List V} {H : Hp} {Q : VK} {E : XK} (h : spB K T ks (Sr__law_bent 0) vs H Q E) : False := by
  obtain ⟨_, _, _, _, bag, xs, _, _, _, _, _, _, _, hS⟩ := h
  obtain ⟨⟨d, n⟩, m, hb, hm, _, ⟨h0, h1⟩, _⟩ := hS
  omega
def S_law : Sd := fun xs Q => ∃ ns : List Int, xs = [.list (ns.map .int)] ∧ Q (.bool true)
theorem m_law : MonoP S_law := fun xs Q Q' hq ⟨ns, h1, h2⟩ => ⟨ns, h1, hq _ h2⟩
theorem law_spec : ∀ ns : List Int, ns.length ≤ 63 → S_law [.list (ns.map .int)] fun z => z = .bool true := fun ns _ => ⟨ns, rfl, rfl⟩
local macro_rules | `(tactic| walk_at "K14Z0") => `(tactic| simp only [dSeq, dAsg, dCB, dCons, dNil, dVar, onVs, vals, val, slot, setR, fGcd, dIfS, dTV, onV2, fLt, fLe, fGt, fGe, fAdd, fSub, fMul, fDiv, fMod, fI0, dC, dUn, onV, fNeg, dNext, dRet, dTup, onD, dats, fDivZ, fI, fPow, Few, retP, fAbs, fInt, fMax, fMin, fLen, fSqrt, fEq, fNe, dNot, dAnd, dOr, dAndV, dOrV, dNotV, dIfE, dDrop, dRetN, dPar, noO, dSetL, dLst, dOfL, dOwnM, onOwn, onDat, kAppend, kInsert, dSetItem, dAddItem, onItems, onInt, dNoPart, dPart, dSlice, onL, litems, dSlL, dCat, onM, mitems, dRng1, dRng2, dCallP, dCallB, dCallF, noSelf, onArgs, dats2, dIsi, tyName, dYes, dgCons, dgNil, retB, dBreak, dCont, ne_eq, not_false_eq_true, true_and, and_true, List.getElem?_cons_zero, List.getElem?_cons_succ, List.set_cons_zero, List.set_cons_succ, Option.map, List.length_cons, List.length_nil, dBestD, dParM, dmNil, dmD, dmL, setM, dLc_eq, dLc2_eq, dFor_eq, dSortSet, dSort, dListOf, dIsN, dNotN, isNo, dAug, dMulA, dgUnl, dSlT, onT, dEnum, dZip, dZipM, dRetL, dPar3, dRevT, dLstRg, dTupRg, dRg1, dRg2, dChainLe, List.nil_append, List.cons_append, if_true, if_false, dFrz, dLcO, dMin2D, dAppX, dParL, dParLL, dRepL, fMax3, dNewDic, dDicPut, dDicGet, dSortDic, onDic, onKey, dLcW, dZipX, dParR, dDead, dSortD, dSortDT, fNeS, fEqS, dgSet, dDGet, onDict_eq, onKeyD_int, onKeyD_str, dDIn, dSortDK, onDict1_eq, dDictL, dDictEn, dDictZip, onSq1_eq, onSq2_eq, onSq_t, onSq_l, onSq_o, dNewD, dDicI, dNewDik, dDikPut, onDik, dFrzD, dNew4, dIndexD, onLst_eq, dIfL, dOrT, dAndT, onTru_int, onTru_bool, onTru_none, onTru_tuple, onTru_list, dTupZip, dTupZipK, dZip3, dZip2, dSortKS, dSortKF, dLetSet, dLetSetK, dLetSetN, dEnumZip, dDicV, fLenD, dFgt, fEqA, fNeA, fStrI, dReprW, dLenSet, dLenSetL, dDikGet, dDikIn, dDisp1_i, dDisp1_s, fEqN, fNeN, dDef, datsF, dCallA, dCallV, fIsB, fNotB, fInA_l, fInA_t, fNotInA_l, fNotInA_t, List.map_cons, List.map_nil, fw0, fw1, fw2, fw3, fw4, fw5, fw6, fw7, fw8, fw9, fw10, fw11, fw12, fw13, fw14, fw15, dExtend, dExtendT, dLstDn, dMaxDf, dOp_ap, dIx_ap, dCatT_ap, dRepT_ap, items_l, items_t, items_o, ti_t, dgT_t, seqs_l, seqs_t, seqs_o, dSeqI_eq, wk_l, wk_t, wk_eP, wk_o, dTupOf_eq, tu_t, tu_l, tu_o, tu_eP, dTupA_eq, ta_t, ta_l, ta_o, ta_eP, items_eW, items_eB, items_eSc, items_eLm, items_eP, items_eL, items_pr, items_enc2, items_eTm, ti_eB, ti_eW, ti_eLm, ti_eP, dgT_eSc, dgT_eLm, dgT_eL, dgT_pr, dgT_enc2, dgT_eW, dgT_eTm, seqs_eP, on0, on1, on2, on3, on4, on5, on6, on7, on8])
local macro_rules | `(tactic| walk_at "K14Z1") => `(tactic| simp only [dSeq, dAsg, dCB, dCons, dNil, dVar, onVs, vals, val, slot, setR, fGcd, dIfS, dTV, dOp, dBin, onV2, fLt, fLe, fGt, fGe, fAdd, fSub, fMul, fDiv, fMod, fI0, dC, dUn, onV, fNeg, dNext, dRet, dTup, onD, dats, fDivZ, fI, fPow, Few, retP, fAbs, fInt, fMax, fMin, fLen, fSqrt, fEq, fNe, dNot, dAnd, dOr, dAndV, dOrV, dNotV, dIfE, dDrop, dRetN, dPar, noO, dSetL, dLst, dOfL, dOwnM, onOwn, onDat, kAppend, kInsert, dSetItem, dAddItem, dIx, onItems, items, onInt, dNoPart, dPart, dSlice, onL, litems, dSlL, dCat, onM, mitems, dTupOf, dSeqI, dRng1, dRng2, dCallP, dCallB, dCallF, noSelf, onArgs, dats2, dIsi, tyName, dYes, dgTup, dgCons, dgNil, retB, dBreak, dCont, ne_eq, not_false_eq_true, true_and, and_true, List.getElem?_cons_zero, List.getElem?_cons_succ, List.set_cons_zero, List.set_cons_succ, Option.map, List.length_cons, List.length_nil, dBestD, dParM, dmNil, dmD, dmL, setM, dLc_eq, dLc2_eq, dFor_eq, dSortSet, dSort, dListOf, dIsN, dNotN, isNo, dAug, dMulA, dgUnl, dCatT, dSlT, onT, titems, dEnum, dZip, dZipM, seqs, dRetL, dPar3, dRevT, dLstRg, dTupRg, dRg1, dRg2, dChainLe, List.nil_append, List.cons_append, if_true, if_false, dFrz, dLcO, dMin2D, dAppX, dParL, dParLL, dRepL, fMax3, dNewDic, dDicPut, dDicGet, dSortDic, onDic, onKey, dLcW, dZipX, dParR, dDead, dSortD, dSortDT, fNeS, fEqS, dgSet, dDGet, onDict_eq, onKeyD_int, onKeyD_str, dDIn, dSortDK, onDict1_eq, dDictL, dDictEn, dDictZip, onSq1_eq, onSq2_eq, onSq_t, onSq_l, onSq_o, dNewD, dDicI, dNewDik, dDikPut, onDik, dFrzD, dNew4, dIndexD, onLst_eq, dIfL, dOrT, dAndT, onTru_int, onTru_bool, onTru_none, onTru_tuple, onTru_list, dTupA, tupA, dTupZip, dTupZipK, dZip3, dZip2, dSortKS, dSortKF, dLetSet, dLetSetK, dLetSetN, dEnumZip, dDicV, fLenD, dFgt, fEqA, fNeA, fStrI, dReprW, dLenSet, dLenSetL, dDikGet, dDikIn, dDisp1_i, dDisp1_s, fEqN, fNeN, dDef, datsF, dCallA, dCallV, fIsB, fNotB, fInA_l, fInA_t, fNotInA_l, fNotInA_t, List.map_cons, List.map_nil, fw0, fw1, fw2, fw3, fw4, fw5, fw6, fw7, fw8, fw9, fw10, fw11, fw12, fw13, fw14, fw15])
local macro_rules | `(tactic| walk_at "K14Z2") => `(tactic| simp only [dSeq, dAsg, dCB, dCons, dNil, dVar, onVs, vals, val, slot, setR, fGcd, dIfS, dTV, onV2, fLt, fLe, fGt, fGe, fAdd, fSub, fMul, fDiv, fMod, fI0, dC, dUn, onV, fNeg, dNext, dRet, dTup, onD, dats, fDivZ, fI, fPow, Few, retP, fAbs, fInt, fMax, fMin, fLen, fSqrt, fEq, fNe, dNot, dAnd, dOr, dAndV, dOrV, dNotV, dIfE, dDrop, dRetN, dPar, noO, dSetL, dLst, dOfL, dOwnM, onOwn, onDat, kAppend, kInsert, dSetItem, dAddItem, onItems, onInt, dNoPart, dPart, dSlice, onL, litems, dSlL, dCat, onM, mitems, dRng1, dRng2, dCallP, dCallB, dCallF, noSelf, onArgs, dats2, dIsi, tyName, dYes, dgCons, dgNil, retB, dBreak, dCont, ne_eq, not_false_eq_true, true_and, and_true, List.getElem?_cons_zero, List.getElem?_cons_succ, List.set_cons_zero, List.set_cons_succ, Option.map, List.length_cons, List.length_nil, dBestD, dParM, dmNil, dmD, dmL, setM, dLc_eq, dLc2_eq, dFor_eq, dSortSet, dSort, dListOf, dIsN, dNotN, isNo, dAug, dMulA, dgUnl, dSlT, onT, dEnum, dZip, dZipM, dRetL, dPar3, dRevT, dLstRg, dTupRg, dRg1, dRg2, dChainLe, List.nil_append, List.cons_append, if_true, if_false, dFrz, dLcO, dMin2D, dAppX, dParL, dParLL, dRepL, fMax3, dNewDic, dDicPut, dDicGet, dSortDic, onDic, onKey, dLcW, dZipX, dParR, dDead, dSortD, dSortDT, fNeS, fEqS, dgSet, dDGet, onDict_eq, onKeyD_int, onKeyD_str, dDIn, dSortDK, onDict1_eq, dDictL, dDictEn, dDictZip, onSq1_eq, onSq2_eq, onSq_t, onSq_l, onSq_o, dNewD, dDicI, dNewDik, dDikPut, onDik, dFrzD, dNew4, dIndexD, onLst_eq, dIfL, dOrT, dAndT, onTru_int, onTru_bool, onTru_none, onTru_tuple, onTru_list, dTupZip, dTupZipK, dZip3, dZip2, dSortKS, dSortKF, dLetSet, dLetSetK, dLetSetN, dEnumZip, dDicV, fLenD, dFgt, fEqA, fNeA, fStrI, dReprW, dLenSet, dLenSetL, dDikGet, dDikIn, dDisp1_i, dDisp1_s, fEqN, fNeN, dDef, datsF, dCallA, dCallV, fIsB, fNotB, fInA_l, fInA_t, fNotInA_l, fNotInA_t, List.map_cons, List.map_nil, fw0, fw1, fw2, fw3, fw4, fw5, fw6, fw7, fw8, fw9, fw10, fw11, fw12, fw13, fw14, fw15, dExtend, dExtendT, dLstDn, dMaxDf, dOp_ap, dIx_ap, dCatT_ap, dRepT_ap, items_l, items_t, items_o, ti_t, dgT_t, seqs_l, seqs_t, seqs_o, dSeqI_eq, wk_l, wk_t, wk_eP, wk_o, dTupOf_eq, tu_t, tu_l, tu_o, tu_eP, dTupA_eq, ta_t, ta_l, ta_o, ta_eP, items_eW, items_eB, items_eSc, items_eLm, items_eP, items_eL, items_pr, items_enc2, items_eTm, ti_eB, ti_eW, ti_eLm, ti_eP, dgT_eSc, dgT_eLm, dgT_eL, dgT_pr, dgT_enc2, dgT_eW, dgT_eTm, seqs_eP, on0, on1, on2, on3, on4, on5, on6, on7, on8, wipeR])
local macro_rules | `(tactic| walk_at "K14Z3") => `(tactic| simp only [dSeq, dAsg, dCB, dCons, dNil, dVar, onVs, vals, val, slot, setR, fGcd, dIfS, dTV, dOp, dBin, onV2, fLt, fLe, fGt, fGe, fAdd, fSub, fMul, fDiv, fMod, fI0, dC, dUn, onV, fNeg, dNext, dRet, dTup, onD, dats, fDivZ, fI, fPow, Few, retP, fAbs, fInt, fMax, fMin, fLen, fSqrt, fEq, fNe, dNot, dAnd, dOr, dAndV, dOrV, dNotV, dIfE, dDrop, dRetN, dPar, noO, dSetL, dLst, dOfL, dOwnM, onOwn, onDat, kAppend, kInsert, dSetItem, dAddItem, dIx, onItems, items, onInt, dNoPart, dPart, dSlice, onL, litems, dSlL, dCat, onM, mitems, dTupOf, dSeqI, dRng1, dRng2, dCallP, dCallB, dCallF, noSelf, onArgs, dats2, dIsi, tyName, dYes, dgTup, dgCons, dgNil, retB, dBreak, dCont, ne_eq, not_false_eq_true, true_and, and_true, List.getElem?_cons_zero, List.getElem?_cons_succ, List.set_cons_zero, List.set_cons_succ, Option.map, List.length_cons, List.length_nil, dBestD, dParM, dmNil, dmD, dmL, setM, dLc_eq, dLc2_eq, dFor_eq, dSortSet, dSort, dListOf, dIsN, dNotN, isNo, dAug, dMulA, dgUnl, dCatT, dSlT, onT, titems, dEnum, dZip, dZipM, seqs, dRetL, dPar3, dRevT, dLstRg, dTupRg, dRg1, dRg2, dChainLe, List.nil_append, List.cons_append, if_true, if_false, dFrz, dLcO, dMin2D, dAppX, dParL, dParLL, dRepL, fMax3, dNewDic, dDicPut, dDicGet, dSortDic, onDic, onKey, dLcW, dZipX, dParR, dDead, dSortD, dSortDT, fNeS, fEqS, dgSet, dDGet, onDict_eq, onKeyD_int, onKeyD_str, dDIn, dSortDK, onDict1_eq, dDictL, dDictEn, dDictZip, onSq1_eq, onSq2_eq, onSq_t, onSq_l, onSq_o, dNewD, dDicI, dNewDik, dDikPut, onDik, dFrzD, dNew4, dIndexD, onLst_eq, dIfL, dOrT, dAndT, onTru_int, onTru_bool, onTru_none, onTru_tuple, onTru_list, dTupA, tupA, dTupZip, dTupZipK, dZip3, dZip2, dSortKS, dSortKF, dLetSet, dLetSetK, dLetSetN, dEnumZip, dDicV, fLenD, dFgt, fEqA, fNeA, fStrI, dReprW, dLenSet, dLenSetL, dDikGet, dDikIn, dDisp1_i, dDisp1_s, fEqN, fNeN, dDef, datsF, dCallA, dCallV, fIsB, fNotB, fInA_l, fInA_t, fNotInA_l, fNotInA_t, List.map_cons, List.map_nil, fw0, fw1, fw2, fw3, fw4, fw5, fw6, fw7, fw8, fw9, fw10, fw11, fw12, fw13, fw14, fw15, wipeR])
local macro_rules | `(tactic| walk_at "K14Z4") => `(tactic| simp only [dSeq, dAsg, dCB, dCons, dNil, dVar, onVs, vals, val, slot, setR, fGcd, dIfS, dTV, onV2, fLt, fLe, fGt, fGe, fAdd, fSub, fMul, fDiv, fMod, fI0, dC, dUn, onV, fNeg, dNext, dRet, dTup, onD, dats, fDivZ, fI, fPow, Few, retP, fAbs, fInt, fMax, fMin, fLen, fSqrt, fEq, fNe, dNot, dAnd, dOr, dAndV, dOrV, dNotV, dIfE, dDrop, dRetN, dPar, noO, dSetL, dLst, dOfL, dOwnM, onOwn, onDat, kAppend, kInsert, dSetItem, dAddItem, onItems, onInt, dNoPart, dPart, dSlice, onL, litems, dSlL, dCat, onM, mitems, dRng1, dRng2, dCallP, dCallB, dCallF, noSelf, onArgs, dats2, dIsi, tyName, dYes, dgCons, dgNil, retB, dBreak, dCont, ne_eq, not_false_eq_true, true_and, and_true, List.getElem?_cons_zero, List.getElem?_cons_succ, List.set_cons_zero, List.set_cons_succ, Option.map, List.length_cons, List.length_nil, dBestD, dParM, dmNil, dmD, dmL, setM, dLc_eq, dLc2_eq, dFor_eq, dSortSet, dSort, dListOf, dIsN, dNotN, isNo, dAug, dMulA, dgUnl, dSlT, onT, dEnum, dZip, dZipM, dRetL, dPar3, dRevT, dLstRg, dTupRg, dRg1, dRg2, dChainLe, List.nil_append, List.cons_append, if_true, if_false, dFrz, dLcO, dMin2D, dAppX, dParL, dParLL, dRepL, fMax3, dNewDic, dDicPut, dDicGet, dSortDic, onDic, onKey, dLcW, dZipX, dParR, dDead, dSortD, dSortDT, fNeS, fEqS, dgSet, dDGet, onDict_eq, onKeyD_int, onKeyD_str, dDIn, dSortDK, onDict1_eq, dDictL, dDictEn, dDictZip, onSq1_eq, onSq2_eq, onSq_t, onSq_l, onSq_o, dNewD, dDicI, dNewDik, dDikPut, onDik, dFrzD, dNew4, dIndexD, onLst_eq, dIfL, dOrT, dAndT, onTru_int, onTru_bool, onTru_none, onTru_tuple, onTru_list, dTupZip, dTupZipK, dZip3, dZip2, dSortKS, dSortKF, dLetSet, dLetSetK, dLetSetN, dEnumZip, dDicV, fLenD, dFgt, fEqA, fNeA, fStrI, dReprW, dLenSet, dLenSetL, dDikGet, dDikIn, dDisp1_i, dDisp1_s, fEqN, fNeN, dDef, datsF, dCallA, dCallV, fIsB, fNotB, fInA_l, fInA_t, fNotInA_l, fNotInA_t, List.map_cons, List.map_nil, fw0, fw1, fw2, fw3, fw4, fw5, fw6, fw7, fw8, fw9, fw10, fw11, fw12, fw13, fw14, fw15, dExtend, dExtendT, dLstDn, dMaxDf, dOp_ap, dIx_ap, dCatT_ap, dRepT_ap, items_l, items_t, items_o, ti_t, dgT_t, seqs_l, seqs_t, seqs_o, dSeqI_eq, wk_l, wk_t, wk_eP, wk_o, dTupOf_eq, tu_t, tu_l, tu_o, tu_eP, dTupA_eq, ta_t, ta_l, ta_o, ta_eP, items_eW, items_eB, items_eSc, items_eLm, items_eP, items_eL, items_pr, items_enc2, items_eTm, ti_eB, ti_eW, ti_eLm, ti_eP, dgT_eSc, dgT_eLm, dgT_eL, dgT_pr, dgT_enc2, dgT_eW, dgT_eTm, seqs_eP, on0, on1, on2, on3, on4, on5, on6, on7, on8, Bool.not_true, Bool.false_eq_true, if_false])
local macro_rules | `(tactic| walk_at "K14Z5") => `(tactic| simp only [dSeq, dAsg, dCB, dCons, dNil, dVar, onVs, vals, val, slot, setR, fGcd, dIfS, dTV, onV2, fLt, fLe, fGt, fGe, fAdd, fSub, fMul, fDiv, fMod, fI0, dC, dUn, onV, fNeg, dNext, dRet, dTup, onD, dats, fDivZ, fI, fPow, Few, retP, fAbs, fInt, fMax, fMin, fLen, fSqrt, fEq, fNe, dNot, dAnd, dOr, dAndV, dOrV, dNotV, dIfE, dDrop, dRetN, dPar, noO, dSetL, dLst, dOfL, dOwnM, onOwn, onDat, kAppend, kInsert, dSetItem, dAddItem, onItems, onInt, dNoPart, dPart, dSlice, onL, litems, dSlL, dCat, onM, mitems, dRng1, dRng2, dCallP, dCallB, dCallF, noSelf, onArgs, dats2, dIsi, tyName, dYes, dgCons, dgNil, retB, dBreak, dCont, ne_eq, not_false_eq_true, true_and, and_true, List.getElem?_cons_zero, List.getElem?_cons_succ, List.set_cons_zero, List.set_cons_succ, Option.map, List.length_cons, List.length_nil, dBestD, dParM, dmNil, dmD, dmL, setM, dLc_eq, dLc2_eq, dFor_eq, dSortSet, dSort, dListOf, dIsN, dNotN, isNo, dAug, dMulA, dgUnl, dSlT, onT, dEnum, dZip, dZipM, dRetL, dPar3, dRevT, dLstRg, dTupRg, dRg1, dRg2, dChainLe, List.nil_append, List.cons_append, if_true, if_false, dFrz, dLcO, dMin2D, dAppX, dParL, dParLL, dRepL, fMax3, dNewDic, dDicPut, dDicGet, dSortDic, onDic, onKey, dLcW, dZipX, dParR, dDead, dSortD, dSortDT, fNeS, fEqS, dgSet, dDGet, onDict_eq, onKeyD_int, onKeyD_str, dDIn, dSortDK, onDict1_eq, dDictL, dDictEn, dDictZip, onSq1_eq, onSq2_eq, onSq_t, onSq_l, onSq_o, dNewD, dDicI, dNewDik, dDikPut, onDik, dFrzD, dNew4, dIndexD, onLst_eq, dIfL, dOrT, dAndT, onTru_int, onTru_bool, onTru_none, onTru_tuple, onTru_list, dTupZip, dTupZipK, dZip3, dZip2, dSortKS, dSortKF, dLetSet, dLetSetK, dLetSetN, dEnumZip, dDicV, fLenD, dFgt, fEqA, fNeA, fStrI, dReprW, dLenSet, dLenSetL, dDikGet, dDikIn, dDisp1_i, dDisp1_s, fEqN, fNeN, dDef, datsF, dCallA, dCallV, fIsB, fNotB, fInA_l, fInA_t, fNotInA_l, fNotInA_t, List.map_cons, List.map_nil, fw0, fw1, fw2, fw3, fw4, fw5, fw6, fw7, fw8, fw9, fw10, fw11, fw12, fw13, fw14, fw15, dExtend, dExtendT, dLstDn, dMaxDf, dOp_ap, dIx_ap, dCatT_ap, dRepT_ap, items_l, items_t, items_o, ti_t, dgT_t, seqs_l, seqs_t, seqs_o, dSeqI_eq, wk_l, wk_t, wk_eP, wk_o, dTupOf_eq, tu_t, tu_l, tu_o, tu_eP, dTupA_eq, ta_t, ta_l, ta_o, ta_eP, items_eW, items_eB, items_eSc, items_eLm, items_eP, items_eL, items_pr, items_enc2, items_eTm, ti_eB, ti_eW, ti_eLm, ti_eP, dgT_eSc, dgT_eLm, dgT_eL, dgT_pr, dgT_enc2, dgT_eW, dgT_eTm, seqs_eP, on0, on1, on2, on3, on4, on5, on6, on7, on8, eP])
section
variable {P : Program} {w : World} {K : PySem.W.Frag} {mg : Str → Option Value} {base : Heap} {TT : List (Addr × Str)}
set_option maxHeartbeats 4000000 in
theorem ok_is_integer {f : Addr} {fd : FuncData} (W : Fun K "is_integer" "is_integer" s_is_integer f fd) (T : Bi mg) :
    FnG P w K mg base CX0 1 f fd ["thing"] (spP K TT [.d] S_is_integer) := by
  refine fnP W sc_is_integer rfl fun cdv A out s H E Nn hr hgd => ⟨_, _, (dss_one (ds_ret (pd_and (pd_isinst (n := "int") (pdv 0) rfl T.b_isinstance rfl T.b_int (by decide +kernel)) (pdn_one (pd_not (pd_isinst (n := "bool") (pdv 0) rfl T.b_isinstance rfl T.b_bool (by decide +kernel))))))), ?_⟩
  clear W T hr hgd
  rintro xs Q hl ⟨d, rfl, _, hQ⟩
  clear hl
  replace hQ : Q (.bool (isI d)) := hQ
  have e : rhoP nm_is_integer.length [.d] [d] = [some (.d (d))] := rfl
  rw [e]
  clear e
  cases d <;> (simp only [dSeq, dAsg, dCB, dCons, dNil, dVar, onVs, vals, val, slot, setR, fGcd, dIfS, dTV, onV2, fLt, fLe, fGt, fGe, fAdd, fSub, fMul, fDiv, fMod, fI0, dC, dUn, onV, fNeg, dNext, dRet, dTup, onD, dats, fDivZ, fI, fPow, Few, retP, fAbs, fInt, fMax, fMin, fLen, fSqrt, fEq, fNe, dNot, dAnd, dOr, dAndV, dOrV, dNotV, dIfE, dDrop, dRetN, dPar, noO, dSetL, dLst, dOfL, dOwnM, onOwn, onDat, kAppend, kInsert, dSetItem, dAddItem, onItems, onInt, dNoPart, dPart, dSlice, onL, litems, dSlL, dCat, onM, mitems, dRng1, dRng2, dCallP, dCallB, dCallF, noSelf, onArgs, dats2, dIsi, tyName, dYes, dgCons, dgNil, retB, dBreak, dCont, ne_eq, not_false_eq_true, true_and, and_true, List.getElem?_cons_zero, List.getElem?_cons_succ, List.set_cons_zero, List.set_cons_succ, Option.map, List.length_cons, List.length_nil, dBestD, dParM, dmNil, dmD, dmL, setM, dLc_eq, dLc2_eq, dFor_eq, dSortSet, dSort, dListOf, dIsN, dNotN, isNo, dAug, dMulA, dgUnl, dSlT, onT, dEnum, dZip, dZipM, dRetL, dPar3, dRevT, dLstRg, dTupRg, dRg1, dRg2, dChainLe, List.nil_append, List.cons_append, if_true, if_false, dFrz, dLcO, dMin2D, dAppX, dParL, dParLL, dRepL, fMax3, dNewDic, dDicPut, dDicGet, dSortDic, onDic, onKey, dLcW, dZipX, dParR, dDead, dSortD, dSortDT, fNeS, fEqS, dgSet, dDGet, onDict_eq, onKeyD_int, onKeyD_str, dDIn, dSortDK, onDict1_eq, dDictL, dDictEn, dDictZip, onSq1_eq, onSq2_eq, onSq_t, onSq_l, onSq_o, dNewD, dDicI, dNewDik, dDikPut, onDik, dFrzD, dNew4, dIndexD, onLst_eq, dIfL, dOrT, dAndT, onTru_int, onTru_bool, onTru_none, onTru_tuple, onTru_list, dTupZip, dTupZipK, dZip3, dZip2, dSortKS, dSortKF, dLetSet, dLetSetK, dLetSetN, dEnumZip, dDicV, fLenD, dFgt, fEqA, fNeA, fStrI, dReprW, dLenSet, dLenSetL, dDikGet, dDikIn, dDisp1_i, dDisp1_s, fEqN, fNeN, dDef, datsF, dCallA, dCallV, fIsB, fNotB, fInA_l, fInA_t, fNotInA_l, fNotInA_t, List.map_cons, List.map_nil, fw0, fw1, fw2, fw3, fw4, fw5, fw6, fw7, fw8, fw9, fw10, fw11, fw12, fw13, fw14, fw15, dExtend, dExtendT, dLstDn, dMaxDf, dOp_ap, dIx_ap, dCatT_ap, dRepT_ap, items_l, items_t, items_o, ti_t, dgT_t, seqs_l, seqs_t, seqs_o, dSeqI_eq, wk_l, wk_t, wk_eP, wk_o, dTupOf_eq, tu_t, tu_l, tu_o, tu_eP, dTupA_eq, ta_t, ta_l, ta_o, ta_eP, items_eW, items_eB, items_eSc, items_eLm, items_eP, items_eL, items_pr, items_enc2, items_eTm, ti_eB, ti_eW, ti_eLm, ti_eP, dgT_eSc, dgT_eLm, dgT_eL, dgT_pr, dgT_enc2, dgT_eW, dgT_eTm, seqs_eP, on0, on1, on2, on3, on4, on5, on6, on7, on8, kw_NoneType_int, kw_NoneType_bool, kw_NoneType_str, kw_NoneType_tuple, kw_NoneType_dict, kw_NoneType_list, kw_bool_int, kw_bool_bool, kw_bool_str, kw_bool_tuple, kw_bool_dict, kw_bool_list, kw_int_int, kw_int_bool, kw_int_str, kw_int_tuple, kw_int_dict, kw_int_list, kw_str_int, kw_str_bool, kw_str_str, kw_str_tuple, kw_str_dict, kw_str_list, kw_list_int, kw_list_bool, kw_list_str, kw_list_tuple, kw_list_dict, kw_list_list, kw_tuple_int, kw_tuple_bool, kw_tuple_str, kw_tuple_tuple, kw_tuple_dict, kw_tuple_list, kw_dict_int, kw_dict_bool, kw_dict_str, kw_dict_tuple, kw_dict_dict, kw_dict_list, Bool.not_false, Bool.not_true, if_true, if_false, Bool.false_eq_true]; exact hQ)
set_option maxHeartbeats 4000000 in
theorem ok_rows_of {f : Addr} {fd : FuncData} (W : Fun K "rows_of" "rows_of" s_rows_of f fd) (T : Bi mg) :
    FnG P w K mg base CX0 1 f fd ["picture", "spacing"] (spP K TT [.d, .d] S_rows_of) := by
  refine fnP W sc_rows_of rfl fun cdv A out s H E Nn hr hgd => ⟨_, _, (dss_cons (ds_setL (i := 2) sc_rows_of.nd (pl_lst pda_nil) fixP)
      (dss_cons (ds_setL (i := 3) sc_rows_of.nd (pl_lst pda_nil) fixP)
      (dss_cons (ds_set (i := 4) sc_rows_of.nd pd_int fixP)
      (dss_cons (ds_set (i := 5) sc_rows_of.nd pd_int fixP)
      (dss_cons (ds_for PassesOwn.never rfl (pdi_seq (pdv 0)) (pgd_name (i := 6) sc_rows_of.nd) (dss_cons (ds_while PassesOwn.never (pt_w (pwd_and (pt_lt (pdv 4) (pd_callB call_len_seq sc_len rfl T.b_len (by decide +kernel) (pda_cons (pdv 2) pda_nil))) (pwd_and1 (pt_le (pd_add (pd_ix (pd_ix (pdv 0) (pdv 4) (fun _ _ => rfl)) pd_int (fun _ _ => rfl)) (pdv 1)) (pd_ix (pdv 6) pd_int (fun _ _ => rfl)))))) (dss_cons (ds_expr (pd_heappush rfl T.i_heappush (pda_cons (pdv 3) (pda_cons (pd_ix (pdv 2) (pdv 4) (fun _ _ => rfl)) pda_nil))))
      (dss_one (ds_aug (i := 4) sc_rows_of.nd pd_int ip_add fixP))))
      (dss_cons (ds_if (pt_eq hr.units rfl (pd_callB call_len_seq sc_len rfl T.b_len (by decide +kernel) (pda_cons (pdv 3) pda_nil)) pd_int) (dss_cons (ds_expr (pd_heappush rfl T.i_heappush (pda_cons (pdv 3) (pda_cons (pdv 5) pda_nil))))
      (dss_one (ds_aug (i := 5) sc_rows_of.nd pd_int ip_add fixP))) dss_nil)
      (dss_one (ds_expr (pd_append (i := 2) (pda_cons (pd_heappop rfl T.i_heappop (pda_cons (pdv 3) pda_nil)) pda_nil)))))) nofixP)
      (dss_one (ds_ret (pd_tupleA rfl T.b_tuple (pda_cons (pdv 2) pda_nil))))))))), ?_⟩
  clear W T hr hgd
  rintro xs Q hl ⟨⟨ls, sp⟩, rfl, ⟨h0, h1, h2⟩, hQ⟩
  clear hl
  replace hQ : ∀ z, (∃ (rs : List Int) (n : Nat), z = .tuple (rs.map .int) ∧ ColL (lxs ls) sp n rs ∧ HasC (lxs ls) sp n ∧ LeastR (lxs ls) sp rs) → Q z   := hQ
  have e : rhoP nm_rows_of.length [.d, .d] [eP ls, .int sp] = [some (.d (eP ls)), some (.d (.int sp)), none, none, none, none, none] := rfl
  rw [e]
  clear e
  refine seqI fun kk hk => ?_
  walk_at "K14Z1"
  rw [hk]
  clear hk
  refine seqI fun kk hk => ?_
  walk_at "K14Z1"
  rw [hk]
  clear hk
  refine seqI fun kk hk => ?_
  walk_at "K14Z1"
  rw [hk]
  clear hk
  refine seqI fun kk hk => ?_
  walk_at "K14Z1"
  rw [hk]
  clear hk
  refine seqI fun kk hk => ?_
  simp only [dSeq, dAsg, dCB, dCons, dNil, dVar, onVs, vals, val, slot, setR, fGcd, dIfS, dTV, dOp, dBin, onV2, fLt, fLe, fGt, fGe, fAdd, fSub, fMul, fDiv, fMod, fI0, dC, dUn, onV, fNeg, dNext, dRet, dTup, onD, dats, fDivZ, fI, fPow, Few, retP, fAbs, fInt, fMax, fMin, fLen, fSqrt, fEq, fNe, dNot, dAnd, dOr, dAndV, dOrV, dNotV, dIfE, dDrop, dRetN, dPar, noO, dSetL, dLst, dOfL, dOwnM, onOwn, onDat, kAppend, kInsert, dSetItem, dAddItem, dIx, onItems, items, onInt, dNoPart, dPart, dSlice, onL, litems, dSlL, dCat, onM, mitems, dTupOf, dSeqI, dRng1, dRng2, dCallP, dCallB, dCallF, noSelf, onArgs, dats2, dIsi, tyName, dYes, dgTup, dgCons, dgNil, retB, dBreak, dCont, ne_eq, not_false_eq_true, true_and, and_true, List.getElem?_cons_zero, List.getElem?_cons_succ, List.set_cons_zero, List.set_cons_succ, Option.map, List.length_cons, List.length_nil, dBestD, dParM, dmNil, dmD, dmL, setM, dLc_eq, dLc2_eq, dFor_eq, dSortSet, dSort, dListOf, dIsN, dNotN, isNo, dAug, dMulA, dgUnl, dCatT, dSlT, onT, titems, dEnum, dZip, dZipM, seqs, dRetL, dPar3, dRevT, dLstRg, dTupRg, dRg1, dRg2, dChainLe, List.nil_append, List.cons_append, if_true, if_false, dFrz, dLcO, dMin2D, dAppX, dParL, dParLL, dRepL, fMax3, dNewDic, dDicPut, dDicGet, dSortDic, onDic, onKey, dLcW, dZipX, dParR, dDead, dSortD, dSortDT, fNeS, fEqS, dgSet, dDGet, onDict_eq, onKeyD_int, onKeyD_str, dDIn, dSortDK, onDict1_eq, dDictL, dDictEn, dDictZip, onSq1_eq, onSq2_eq, onSq_t, onSq_l, onSq_o, dNewD, dDicI, dNewDik, dDikPut, onDik, dFrzD, dNew4, dIndexD, onLst_eq, dIfL, dOrT, dAndT, onTru_int, onTru_bool, onTru_none, onTru_tuple, onTru_list, dTupA, tupA, dTupZip, dTupZipK, dZip3, dZip2, dSortKS, dSortKF, dLetSet, dLetSetK, dLetSetN, dEnumZip, dDicV, fLenD, dFgt, fEqA, fNeA, fStrI, dReprW, dLenSet, dLenSetL, dDikGet, dDikIn, dDisp1_i, dDisp1_s, fEqN, fNeN, dDef, datsF, dCallA, dCallV, fIsB, fNotB, fInA_l, fInA_t, fNotInA_l, fNotInA_t, List.map_cons, List.map_nil, fw0, fw1, fw2, fw3, fw4, fw5, fw6, fw7, fw8, fw9, fw10, fw11, fw12, fw13, fw14, fw15, eP]
  refine for_st ls eLm (fun z : List Int × List Int × Nat × Nat × Option Ent => [some (.d (eP ls)), some (.d (.int sp)), some (.own (z.1.map .int)), some (.own (z.2.1.map .int)), some (.d (.int z.2.2.1)), some (.d (.int z.2.2.2.1)), z.2.2.2.2]) (fun i z => RowsI (lxs ls) sp i z.1 z.2.1 z.2.2.1 z.2.2.2.1 ∧ HeapL z.2.1 ∧ LeastR (lxs ls) sp z.1) ([], [], 0, 0, none) rfl ⟨.start _ _, heapL_nil, .nil⟩ (fun i l z hl hI C hC => ?_) fun z hz => ?_
  · obtain ⟨rows, free, freed, many, a6⟩ := z
    obtain ⟨hI, hH, hR⟩ := hI
    simp only at hI hH hR
    have hj := lxs_at hl
    have lr := hI.len
    have il := (List.getElem?_eq_some_iff.mp hl).1
    have fewR : rows.length ≤ 1000 := by omega
    have hC2 : ∀ (rows free : List Int) (freed many : Nat) (a6 : Option Ent), RowsI (lxs ls) sp (i + 1) rows free freed many → HeapL free → LeastR (lxs ls) sp rows → C [some (.d (eP ls)), some (.d (.int sp)), some (.own (rows.map .int)), some (.own (free.map .int)), some (.d (.int freed)), some (.d (.int many)), a6] := fun rows free freed many a6 h h2 h3 => hC (rows, free, freed, many, a6) ⟨h, h2, h3⟩
    clear hC
    simp only [setR, List.set_cons_succ, List.set_cons_zero]
    refine seqI fun k2 hk2 => ?_
    have out : ∀ (fr : List Int) (fd : Nat), RowsI (lxs ls) sp i rows fr fd many → HeapL fr → (∀ a, fd < i → (lxs ls)[fd]? = some a → l.x < a + sp) → k2 [some (.d (eP ls)), some (.d (.int sp)), some (.own (rows.map .int)), some (.own (fr.map .int)), some (.d (.int fd)), some (.d (.int many)), some (.d (eLm l))] := fun fr fd hI hH hlast => by
      rw [hk2]
      clear hk2
      refine seqI fun k3 hk3 => ?_
      have pop : ∀ (fr : List Int) (many : Nat), RowsI (lxs ls) sp i rows fr fd many → HeapL fr → 0 < fr.length → k3 [some (.d (eP ls)), some (.d (.int sp)), some (.own (rows.map .int)), some (.own (fr.map .int)), some (.d (.int fd)), some (.d (.int many)), some (.d (eLm l))] := fun fr many hI hH hpos => by
        rw [hk3]
        clear hk3
        simp only [dSeq, dAsg, dCB, dCons, dNil, dVar, onVs, vals, val, slot, setR, fGcd, dIfS, dTV, dOp, dBin, onV2, fLt, fLe, fGt, fGe, fAdd, fSub, fMul, fDiv, fMod, fI0, dC, dUn, onV, fNeg, dNext, dRet, dTup, onD, dats, fDivZ, fI, fPow, Few, retP, fAbs, fInt, fMax, fMin, fLen, fSqrt, fEq, fNe, dNot, dAnd, dOr, dAndV, dOrV, dNotV, dIfE, dDrop, dRetN, dPar, noO, dSetL, dLst, dOfL, dOwnM, onOwn, onDat, kAppend, kInsert, dSetItem, dAddItem, dIx, onItems, items, onInt, dNoPart, dPart, dSlice, onL, litems, dSlL, dCat, onM, mitems, dTupOf, dSeqI, dRng1, dRng2, dCallP, dCallB, dCallF, noSelf, onArgs, dats2, dIsi, tyName, dYes, dgTup, dgCons, dgNil, retB, dBreak, dCont, ne_eq, not_false_eq_true, true_and, and_true, List.getElem?_cons_zero, List.getElem?_cons_succ, List.set_cons_zero, List.set_cons_succ, Option.map, List.length_cons, List.length_nil, dBestD, dParM, dmNil, dmD, dmL, setM, dLc_eq, dLc2_eq, dFor_eq, dSortSet, dSort, dListOf, dIsN, dNotN, isNo, dAug, dMulA, dgUnl, dCatT, dSlT, onT, titems, dEnum, dZip, dZipM, seqs, dRetL, dPar3, dRevT, dLstRg, dTupRg, dRg1, dRg2, dChainLe, List.nil_append, List.cons_append, if_true, if_false, dFrz, dLcO, dMin2D, dAppX, dParL, dParLL, dRepL, fMax3, dNewDic, dDicPut, dDicGet, dSortDic, onDic, onKey, dLcW, dZipX, dParR, dDead, dSortD, dSortDT, fNeS, fEqS, dgSet, dDGet, onDict_eq, onKeyD_int, onKeyD_str, dDIn, dSortDK, onDict1_eq, dDictL, dDictEn, dDictZip, onSq1_eq, onSq2_eq, onSq_t, onSq_l, onSq_o, dNewD, dDicI, dNewDik, dDikPut, onDik, dFrzD, dNew4, dIndexD, onLst_eq, dIfL, dOrT, dAndT, onTru_int, onTru_bool, onTru_none, onTru_tuple, onTru_list, dTupA, tupA, dTupZip, dTupZipK, dZip3, dZip2, dSortKS, dSortKF, dLetSet, dLetSetK, dLetSetN, dEnumZip, dDicV, fLenD, dFgt, fEqA, fNeA, fStrI, dReprW, dLenSet, dLenSetL, dDikGet, dDikIn, dDisp1_i, dDisp1_s, fEqN, fNeN, dDef, datsF, dCallA, dCallV, fIsB, fNotB, fInA_l, fInA_t, fNotInA_l, fNotInA_t, List.map_cons, List.map_nil, fw0, fw1, fw2, fw3, fw4, fw5, fw6, fw7, fw8, fw9, fw10, fw11, fw12, fw13, fw14, fw15, dHPop]
        refine ⟨fr, asInts_map fr, hpos, hH, fun v ms hm hmin hmH => ?_⟩
        have tk := hI.take h0 hj hm
        have v0 := (tk.rng v (List.mem_append_right _ (List.mem_singleton.mpr rfl))).1
        have hj2 : (lxs ls)[rows.length]? = some l.x := by rw [lr]; exact hj
        have := hC2 (rows ++ [v]) ms fd many (some (.d (eLm l))) tk hmH (hR.snoc hj2 v0 (fun k a q hk ha hq hlt => tk.un k i a l.x q v (by omega) (by omega) ha hj (by rw [List.getElem?_append, if_pos hk]; exact hq) (by rw [List.getElem?_append, if_neg (by omega), lr, Nat.sub_self]; rfl) hlt) fun s s0 hs => by
          obtain ⟨k, a, hk, ha, hq, hlt⟩ := hI.least h0 hj hlast (hm.mem_iff.mp (List.mem_cons_self ..)) hmin s s0 hs
          exact ⟨k, a, by omega, ha, hq, hlt⟩)
        rw [List.map_append] at this
        exact ⟨few_le (by rw [List.length_map]; omega), this⟩
      simp only [dSeq, dAsg, dCB, dCons, dNil, dVar, onVs, vals, val, slot, setR, fGcd, dIfS, dTV, dOp, dBin, onV2, fLt, fLe, fGt, fGe, fAdd, fSub, fMul, fDiv, fMod, fI0, dC, dUn, onV, fNeg, dNext, dRet, dTup, onD, dats, fDivZ, fI, fPow, Few, retP, fAbs, fInt, fMax, fMin, fLen, fSqrt, fEq, fNe, dNot, dAnd, dOr, dAndV, dOrV, dNotV, dIfE, dDrop, dRetN, dPar, noO, dSetL, dLst, dOfL, dOwnM, onOwn, onDat, kAppend, kInsert, dSetItem, dAddItem, dIx, onItems, items, onInt, dNoPart, dPart, dSlice, onL, litems, dSlL, dCat, onM, mitems, dTupOf, dSeqI, dRng1, dRng2, dCallP, dCallB, dCallF, noSelf, onArgs, dats2, dIsi, tyName, dYes, dgTup, dgCons, dgNil, retB, dBreak, dCont, ne_eq, not_false_eq_true, true_and, and_true, List.getElem?_cons_zero, List.getElem?_cons_succ, List.set_cons_zero, List.set_cons_succ, Option.map, List.length_cons, List.length_nil, dBestD, dParM, dmNil, dmD, dmL, setM, dLc_eq, dLc2_eq, dFor_eq, dSortSet, dSort, dListOf, dIsN, dNotN, isNo, dAug, dMulA, dgUnl, dCatT, dSlT, onT, titems, dEnum, dZip, dZipM, seqs, dRetL, dPar3, dRevT, dLstRg, dTupRg, dRg1, dRg2, dChainLe, List.nil_append, List.cons_append, if_true, if_false, dFrz, dLcO, dMin2D, dAppX, dParL, dParLL, dRepL, fMax3, dNewDic, dDicPut, dDicGet, dSortDic, onDic, onKey, dLcW, dZipX, dParR, dDead, dSortD, dSortDT, fNeS, fEqS, dgSet, dDGet, onDict_eq, onKeyD_int, onKeyD_str, dDIn, dSortDK, onDict1_eq, dDictL, dDictEn, dDictZip, onSq1_eq, onSq2_eq, onSq_t, onSq_l, onSq_o, dNewD, dDicI, dNewDik, dDikPut, onDik, dFrzD, dNew4, dIndexD, onLst_eq, dIfL, dOrT, dAndT, onTru_int, onTru_bool, onTru_none, onTru_tuple, onTru_list, dTupA, tupA, dTupZip, dTupZipK, dZip3, dZip2, dSortKS, dSortKF, dLetSet, dLetSetK, dLetSetN, dEnumZip, dDicV, fLenD, dFgt, fEqA, fNeA, fStrI, dReprW, dLenSet, dLenSetL, dDikGet, dDikIn, dDisp1_i, dDisp1_s, fEqN, fNeN, dDef, datsF, dCallA, dCallV, fIsB, fNotB, fInA_l, fInA_t, fNotInA_l, fNotInA_t, List.map_cons, List.map_nil, fw0, fw1, fw2, fw3, fw4, fw5, fw6, fw7, fw8, fw9, fw10, fw11, fw12, fw13, fw14, fw15, dHPush, sh_int, eqv_int, List.length_map]
      refine ite_b (c := (fr.length : Int) = 0) (fun hz => ?_) fun hz => pop fr many hI hH (by omega)
      have hz : fr = [] := List.length_eq_zero_iff.mp (by omega)
      subst hz
      refine ⟨[], rfl, few_le (by decide), heapL_nil, fun ms hm hmH => ?_⟩
      exact pop ms (many + 1) (hI.more h0 hj hlast h1 hm) hmH (by rw [hm.length_eq]; exact Nat.one_pos)
    simp only [dSeq, dAsg, dCB, dCons, dNil, dVar, onVs, vals, val, slot, setR, fGcd, dIfS, dTV, dOp, dBin, onV2, fLt, fLe, fGt, fGe, fAdd, fSub, fMul, fDiv, fMod, fI0, dC, dUn, onV, fNeg, dNext, dRet, dTup, onD, dats, fDivZ, fI, fPow, Few, retP, fAbs, fInt, fMax, fMin, fLen, fSqrt, fEq, fNe, dNot, dAnd, dOr, dAndV, dOrV, dNotV, dIfE, dDrop, dRetN, dPar, noO, dSetL, dLst, dOfL, dOwnM, onOwn, onDat, kAppend, kInsert, dSetItem, dAddItem, dIx, onItems, items, onInt, dNoPart, dPart, dSlice, onL, litems, dSlL, dCat, onM, mitems, dTupOf, dSeqI, dRng1, dRng2, dCallP, dCallB, dCallF, noSelf, onArgs, dats2, dIsi, tyName, dYes, dgTup, dgCons, dgNil, retB, dBreak, dCont, ne_eq, not_false_eq_true, true_and, and_true, List.getElem?_cons_zero, List.getElem?_cons_succ, List.set_cons_zero, List.set_cons_succ, Option.map, List.length_cons, List.length_nil, dBestD, dParM, dmNil, dmD, dmL, setM, dLc_eq, dLc2_eq, dFor_eq, dSortSet, dSort, dListOf, dIsN, dNotN, isNo, dAug, dMulA, dgUnl, dCatT, dSlT, onT, titems, dEnum, dZip, dZipM, seqs, dRetL, dPar3, dRevT, dLstRg, dTupRg, dRg1, dRg2, dChainLe, List.nil_append, List.cons_append, if_true, if_false, dFrz, dLcO, dMin2D, dAppX, dParL, dParLL, dRepL, fMax3, dNewDic, dDicPut, dDicGet, dSortDic, onDic, onKey, dLcW, dZipX, dParR, dDead, dSortD, dSortDT, fNeS, fEqS, dgSet, dDGet, onDict_eq, onKeyD_int, onKeyD_str, dDIn, dSortDK, onDict1_eq, dDictL, dDictEn, dDictZip, onSq1_eq, onSq2_eq, onSq_t, onSq_l, onSq_o, dNewD, dDicI, dNewDik, dDikPut, onDik, dFrzD, dNew4, dIndexD, onLst_eq, dIfL, dOrT, dAndT, onTru_int, onTru_bool, onTru_none, onTru_tuple, onTru_list, dTupA, tupA, dTupZip, dTupZipK, dZip3, dZip2, dSortKS, dSortKF, dLetSet, dLetSetK, dLetSetN, dEnumZip, dDicV, fLenD, dFgt, fEqA, fNeA, fStrI, dReprW, dLenSet, dLenSetL, dDikGet, dDikIn, dDisp1_i, dDisp1_s, fEqN, fNeN, dDef, datsF, dCallA, dCallV, fIsB, fNotB, fInA_l, fInA_t, fNotInA_l, fNotInA_t, List.map_cons, List.map_nil, fw0, fw1, fw2, fw3, fw4, fw5, fw6, fw7, fw8, fw9, fw10, fw11, fw12, fw13, fw14, fw15, dWhile]
    refine ⟨fun ρ : Rho => ∃ (fr : List Int) (fd : Nat), RowsI (lxs ls) sp i rows fr fd many ∧ HeapL fr ∧ ρ = [some (.d (eP ls)), some (.d (.int sp)), some (.own (rows.map .int)), some (.own (fr.map .int)), some (.d (.int fd)), some (.d (.int many)), some (.d (eLm l))], fun ρ : Rho => match ρ[4]? with | some (some (Ent.d (PyData.int k))) => (i - k).toNat | _ => 0, ⟨free, freed, hI, hH, rfl⟩, ?_⟩
    rintro ρ ⟨fr, fd, hI2, hH2, rfl⟩
    simp only [dSeq, dAsg, dCB, dCons, dNil, dVar, onVs, vals, val, slot, setR, fGcd, dIfS, dTV, dOp, dBin, onV2, fLt, fLe, fGt, fGe, fAdd, fSub, fMul, fDiv, fMod, fI0, dC, dUn, onV, fNeg, dNext, dRet, dTup, onD, dats, fDivZ, fI, fPow, Few, retP, fAbs, fInt, fMax, fMin, fLen, fSqrt, fEq, fNe, dNot, dAnd, dOr, dAndV, dOrV, dNotV, dIfE, dDrop, dRetN, dPar, noO, dSetL, dLst, dOfL, dOwnM, onOwn, onDat, kAppend, kInsert, dSetItem, dAddItem, dIx, onItems, items, onInt, dNoPart, dPart, dSlice, onL, litems, dSlL, dCat, onM, mitems, dTupOf, dSeqI, dRng1, dRng2, dCallP, dCallB, dCallF, noSelf, onArgs, dats2, dIsi, tyName, dYes, dgTup, dgCons, dgNil, retB, dBreak, dCont, ne_eq, not_false_eq_true, true_and, and_true, List.getElem?_cons_zero, List.getElem?_cons_succ, List.set_cons_zero, List.set_cons_succ, Option.map, List.length_cons, List.length_nil, dBestD, dParM, dmNil, dmD, dmL, setM, dLc_eq, dLc2_eq, dFor_eq, dSortSet, dSort, dListOf, dIsN, dNotN, isNo, dAug, dMulA, dgUnl, dCatT, dSlT, onT, titems, dEnum, dZip, dZipM, seqs, dRetL, dPar3, dRevT, dLstRg, dTupRg, dRg1, dRg2, dChainLe, List.nil_append, List.cons_append, if_true, if_false, dFrz, dLcO, dMin2D, dAppX, dParL, dParLL, dRepL, fMax3, dNewDic, dDicPut, dDicGet, dSortDic, onDic, onKey, dLcW, dZipX, dParR, dDead, dSortD, dSortDT, fNeS, fEqS, dgSet, dDGet, onDict_eq, onKeyD_int, onKeyD_str, dDIn, dSortDK, onDict1_eq, dDictL, dDictEn, dDictZip, onSq1_eq, onSq2_eq, onSq_t, onSq_l, onSq_o, dNewD, dDicI, dNewDik, dDikPut, onDik, dFrzD, dNew4, dIndexD, onLst_eq, dIfL, dOrT, dAndT, onTru_int, onTru_bool, onTru_none, onTru_tuple, onTru_list, dTupA, tupA, dTupZip, dTupZipK, dZip3, dZip2, dSortKS, dSortKF, dLetSet, dLetSetK, dLetSetN, dEnumZip, dDicV, fLenD, dFgt, fEqA, fNeA, fStrI, dReprW, dLenSet, dLenSetL, dDikGet, dDikIn, dDisp1_i, dDisp1_s, fEqN, fNeN, dDef, datsF, dCallA, dCallV, fIsB, fNotB, fInA_l, fInA_t, fNotInA_l, fNotInA_t, List.map_cons, List.map_nil, fw0, fw1, fw2, fw3, fw4, fw5, fw6, fw7, fw8, fw9, fw10, fw11, fw12, fw13, fw14, fw15, dHPush, dHPop, eP, List.length_map]
    refine ite_b (c := (fd : Int) < rows.length) (fun lt => ?_) fun ge => ?_
    · obtain ⟨lf, hlf⟩ : ∃ lf, ls[fd]? = some lf := ⟨_, List.getElem?_eq_getElem (by omega)⟩
      obtain ⟨rf, hrf⟩ : ∃ rf, rows[fd]? = some rf := ⟨_, List.getElem?_eq_getElem (by omega)⟩
      rw [on_map hlf rfl]
      simp only [dSeq, dAsg, dCB, dCons, dNil, dVar, onVs, vals, val, slot, setR, fGcd, dIfS, dTV, dOp, dBin, onV2, fLt, fLe, fGt, fGe, fAdd, fSub, fMul, fDiv, fMod, fI0, dC, dUn, onV, fNeg, dNext, dRet, dTup, onD, dats, fDivZ, fI, fPow, Few, retP, fAbs, fInt, fMax, fMin, fLen, fSqrt, fEq, fNe, dNot, dAnd, dOr, dAndV, dOrV, dNotV, dIfE, dDrop, dRetN, dPar, noO, dSetL, dLst, dOfL, dOwnM, onOwn, onDat, kAppend, kInsert, dSetItem, dAddItem, dIx, onItems, items, onInt, dNoPart, dPart, dSlice, onL, litems, dSlL, dCat, onM, mitems, dTupOf, dSeqI, dRng1, dRng2, dCallP, dCallB, dCallF, noSelf, onArgs, dats2, dIsi, tyName, dYes, dgTup, dgCons, dgNil, retB, dBreak, dCont, ne_eq, not_false_eq_true, true_and, and_true, List.getElem?_cons_zero, List.getElem?_cons_succ, List.set_cons_zero, List.set_cons_succ, Option.map, List.length_cons, List.length_nil, dBestD, dParM, dmNil, dmD, dmL, setM, dLc_eq, dLc2_eq, dFor_eq, dSortSet, dSort, dListOf, dIsN, dNotN, isNo, dAug, dMulA, dgUnl, dCatT, dSlT, onT, titems, dEnum, dZip, dZipM, seqs, dRetL, dPar3, dRevT, dLstRg, dTupRg, dRg1, dRg2, dChainLe, List.nil_append, List.cons_append, if_true, if_false, dFrz, dLcO, dMin2D, dAppX, dParL, dParLL, dRepL, fMax3, dNewDic, dDicPut, dDicGet, dSortDic, onDic, onKey, dLcW, dZipX, dParR, dDead, dSortD, dSortDT, fNeS, fEqS, dgSet, dDGet, onDict_eq, onKeyD_int, onKeyD_str, dDIn, dSortDK, onDict1_eq, dDictL, dDictEn, dDictZip, onSq1_eq, onSq2_eq, onSq_t, onSq_l, onSq_o, dNewD, dDicI, dNewDik, dDikPut, onDik, dFrzD, dNew4, dIndexD, onLst_eq, dIfL, dOrT, dAndT, onTru_int, onTru_bool, onTru_none, onTru_tuple, onTru_list, dTupA, tupA, dTupZip, dTupZipK, dZip3, dZip2, dSortKS, dSortKF, dLetSet, dLetSetK, dLetSetN, dEnumZip, dDicV, fLenD, dFgt, fEqA, fNeA, fStrI, dReprW, dLenSet, dLenSetL, dDikGet, dDikIn, dDisp1_i, dDisp1_s, fEqN, fNeN, dDef, datsF, dCallA, dCallV, fIsB, fNotB, fInA_l, fInA_t, fNotInA_l, fNotInA_t, List.map_cons, List.map_nil, fw0, fw1, fw2, fw3, fw4, fw5, fw6, fw7, fw8, fw9, fw10, fw11, fw12, fw13, fw14, fw15, eLm, on0]
      refine ite_b (c := lf.x + sp ≤ l.x) (fun le => ?_) fun nle => ?_
      · rw [on_map hrf rfl]
        walk_at "K14Z1"
        have := hI2.few
        have := lxs_len ls
        refine ⟨fr, asInts_map fr, few_le (by omega), hH2, fun ms hm hmH => ⟨⟨ms, fd + 1, hI2.free hrf (lxs_at hlf) hj le hm, hmH, rfl⟩, ?_⟩⟩
        omega
      · exact out fr fd hI2 hH2 fun a hfd ha => by
          rw [lxs_at hlf] at ha
          cases ha
          omega
    · simp only [Bool.false_eq_true, if_false]
      exact out fr fd hI2 hH2 fun a hfd _ => by omega
  · obtain ⟨rows, free, freed, many, a6⟩ := z
    obtain ⟨hI, _, hR⟩ := hz
    simp only
    rw [hk]
    clear hk
    walk_at "K14Z1"
    refine hQ _ ⟨rows, many, rfl, ?_, hI.has, hR⟩
    have := lxs_len ls
    simp only at hI
    rw [← this] at hI
    exact hI.col
set_option maxHeartbeats 4000000 in
theorem ok_rows_many {f : Addr} {fd : FuncData} (W : Fun K "rows_many" "rows_many" s_rows_many f fd) (T : Bi mg) :
    FnG P w K mg base CX0 1 f fd ["rows"] (spP K TT [.d] S_rows_many) := by
  refine fnP W sc_rows_many rfl fun cdv A out s H E Nn hr hgd => ⟨_, _, (dss_one (ds_ret (pd_add (pd_maxDf rfl hr.units rfl T.b_max (pda_cons (pdv 0) pda_nil) (pd_neg pd_int)) pd_int))), ?_⟩
  clear W T hr hgd
  rintro xs Q hl ⟨rs, rfl, h0, hQ⟩
  clear hl
  replace hQ : Q (.int (maxZ rs + 1)) := hQ
  have e : rhoP nm_rows_many.length [.d] [.tuple (rs.map .int)] = [some (.d (.tuple (rs.map .int)))] := rfl
  rw [e]
  clear e
  simp only [dSeq, dAsg, dCB, dCons, dNil, dVar, onVs, vals, val, slot, setR, fGcd, dIfS, dTV, dOp, dBin, onV2, fLt, fLe, fGt, fGe, fAdd, fSub, fMul, fDiv, fMod, fI0, dC, dUn, onV, fNeg, dNext, dRet, dTup, onD, dats, fDivZ, fI, fPow, Few, retP, fAbs, fInt, fMax, fMin, fLen, fSqrt, fEq, fNe, dNot, dAnd, dOr, dAndV, dOrV, dNotV, dIfE, dDrop, dRetN, dPar, noO, dSetL, dLst, dOfL, dOwnM, onOwn, onDat, kAppend, kInsert, dSetItem, dAddItem, dIx, onItems, items, onInt, dNoPart, dPart, dSlice, onL, litems, dSlL, dCat, onM, mitems, dTupOf, dSeqI, dRng1, dRng2, dCallP, dCallB, dCallF, noSelf, onArgs, dats2, dIsi, tyName, dYes, dgTup, dgCons, dgNil, retB, dBreak, dCont, ne_eq, not_false_eq_true, true_and, and_true, List.getElem?_cons_zero, List.getElem?_cons_succ, List.set_cons_zero, List.set_cons_succ, Option.map, List.length_cons, List.length_nil, dBestD, dParM, dmNil, dmD, dmL, setM, dLc_eq, dLc2_eq, dFor_eq, dSortSet, dSort, dListOf, dIsN, dNotN, isNo, dAug, dMulA, dgUnl, dCatT, dSlT, onT, titems, dEnum, dZip, dZipM, seqs, dRetL, dPar3, dRevT, dLstRg, dTupRg, dRg1, dRg2, dChainLe, List.nil_append, List.cons_append, if_true, if_false, dFrz, dLcO, dMin2D, dAppX, dParL, dParLL, dRepL, fMax3, dNewDic, dDicPut, dDicGet, dSortDic, onDic, onKey, dLcW, dZipX, dParR, dDead, dSortD, dSortDT, fNeS, fEqS, dgSet, dDGet, onDict_eq, onKeyD_int, onKeyD_str, dDIn, dSortDK, onDict1_eq, dDictL, dDictEn, dDictZip, onSq1_eq, onSq2_eq, onSq_t, onSq_l, onSq_o, dNewD, dDicI, dNewDik, dDikPut, onDik, dFrzD, dNew4, dIndexD, onLst_eq, dIfL, dOrT, dAndT, onTru_int, onTru_bool, onTru_none, onTru_tuple, onTru_list, dTupA, tupA, dTupZip, dTupZipK, dZip3, dZip2, dSortKS, dSortKF, dLetSet, dLetSetK, dLetSetN, dEnumZip, dDicV, fLenD, dFgt, fEqA, fNeA, fStrI, dReprW, dLenSet, dLenSetL, dDikGet, dDikIn, dDisp1_i, dDisp1_s, fEqN, fNeN, dDef, datsF, dCallA, dCallV, fIsB, fNotB, fInA_l, fInA_t, fNotInA_l, fNotInA_t, List.map_cons, List.map_nil, fw0, fw1, fw2, fw3, fw4, fw5, fw6, fw7, fw8, fw9, fw10, fw11, fw12, fw13, fw14, fw15, dMaxDf]
  refine ⟨rs, asInts_map rs, fun e => ?_, fun m hm hM => ?_⟩
  · rw [e] at hQ
    exact hQ
  · rw [maxZ_eq hm h0 hM] at hQ
    exact hQ
set_option maxHeartbeats 4000000 in
theorem ok_most_abreast {f : Addr} {fd : FuncData} (W : Fun K "most_abreast" "most_abreast" s_most_abreast f fd) (T : Bi mg) :
    FnG P w K mg base CX0 1 f fd ["picture", "spacing"] (spP K TT [.d, .d] S_most_abreast) := by
  refine fnP W sc_most_abreast rfl fun cdv A out s H E Nn hr hgd => ⟨_, _, (dss_cons (ds_set (i := 2) sc_most_abreast.nd (pd_tup (pda_cons pd_int (pda_cons pd_non pda_nil))) fixP)
      (dss_cons (ds_set (i := 3) sc_most_abreast.nd pd_int fixP)
      (dss_cons (ds_for PassesOwn.never rfl (pdi_enum rfl T.b_enumerate (pda_cons (pdv 0) pda_nil)) (pgd_tup (n := 2) rfl (pgds_cons (pgd_name (i := 4) sc_most_abreast.nd) (pgds_cons (pgd_name (i := 5) sc_most_abreast.nd) pgds_nil))) (dss_cons (ds_while PassesOwn.never (pt_w (pwd_and (pt_lt (pdv 3) (pd_callB call_len_seq sc_len rfl T.b_len (by decide +kernel) (pda_cons (pdv 0) pda_nil))) (pwd_and1 (pt_lt (pd_ix (pd_ix (pdv 0) (pdv 3) (fun _ _ => rfl)) pd_int (fun _ _ => rfl)) (pd_add (pd_ix (pdv 5) pd_int (fun _ _ => rfl)) (pdv 1)))))) (dss_one (ds_aug (i := 3) sc_most_abreast.nd pd_int ip_add fixP)))
      (dss_one (ds_if (pt_gt (pd_sub (pdv 3) (pdv 4)) (pd_ix (pdv 2) pd_int (fun _ _ => rfl))) (dss_one (ds_set (i := 2) sc_most_abreast.nd (pd_tup (pda_cons (pd_sub (pdv 3) (pdv 4)) (pda_cons (pd_ix (pdv 5) pd_int (fun _ _ => rfl)) pda_nil))) fixP)) dss_nil))) nofixP)
      (dss_one (ds_ret (pdv 2)))))), ?_⟩
  clear W T hr hgd
  rintro xs Q hl ⟨⟨ls, sp⟩, rfl, ⟨h0, h1, h2⟩, hQ⟩
  clear hl
  replace hQ : ∀ z, (∃ (m : Nat) (y : PyData), z = .tuple [.int m, y] ∧ HasC (lxs ls) sp m ∧ (∀ n, HasC (lxs ls) sp n → n ≤ m) ∧ AbrY (lxs ls) sp m y) → Q z   := hQ
  have e : rhoP nm_most_abreast.length [.d, .d] [eP ls, .int sp] = [some (.d (eP ls)), some (.d (.int sp)), none, none, none, none] := rfl
  rw [e]
  clear e
  refine seqI fun kk hk => ?_
  walk_at "K14Z1"
  rw [hk]
  clear hk
  refine seqI fun kk hk => ?_
  walk_at "K14Z1"
  rw [hk]
  clear hk
  refine seqI fun kk hk => ?_
  simp only [dSeq, dAsg, dCB, dCons, dNil, dVar, onVs, vals, val, slot, setR, fGcd, dIfS, dTV, dOp, dBin, onV2, fLt, fLe, fGt, fGe, fAdd, fSub, fMul, fDiv, fMod, fI0, dC, dUn, onV, fNeg, dNext, dRet, dTup, onD, dats, fDivZ, fI, fPow, Few, retP, fAbs, fInt, fMax, fMin, fLen, fSqrt, fEq, fNe, dNot, dAnd, dOr, dAndV, dOrV, dNotV, dIfE, dDrop, dRetN, dPar, noO, dSetL, dLst, dOfL, dOwnM, onOwn, onDat, kAppend, kInsert, dSetItem, dAddItem, dIx, onItems, items, onInt, dNoPart, dPart, dSlice, onL, litems, dSlL, dCat, onM, mitems, dTupOf, dSeqI, dRng1, dRng2, dCallP, dCallB, dCallF, noSelf, onArgs, dats2, dIsi, tyName, dYes, dgTup, dgCons, dgNil, retB, dBreak, dCont, ne_eq, not_false_eq_true, true_and, and_true, List.getElem?_cons_zero, List.getElem?_cons_succ, List.set_cons_zero, List.set_cons_succ, Option.map, List.length_cons, List.length_nil, dBestD, dParM, dmNil, dmD, dmL, setM, dLc_eq, dLc2_eq, dFor_eq, dSortSet, dSort, dListOf, dIsN, dNotN, isNo, dAug, dMulA, dgUnl, dCatT, dSlT, onT, titems, dEnum, dZip, dZipM, seqs, dRetL, dPar3, dRevT, dLstRg, dTupRg, dRg1, dRg2, dChainLe, List.nil_append, List.cons_append, if_true, if_false, dFrz, dLcO, dMin2D, dAppX, dParL, dParLL, dRepL, fMax3, dNewDic, dDicPut, dDicGet, dSortDic, onDic, onKey, dLcW, dZipX, dParR, dDead, dSortD, dSortDT, fNeS, fEqS, dgSet, dDGet, onDict_eq, onKeyD_int, onKeyD_str, dDIn, dSortDK, onDict1_eq, dDictL, dDictEn, dDictZip, onSq1_eq, onSq2_eq, onSq_t, onSq_l, onSq_o, dNewD, dDicI, dNewDik, dDikPut, onDik, dFrzD, dNew4, dIndexD, onLst_eq, dIfL, dOrT, dAndT, onTru_int, onTru_bool, onTru_none, onTru_tuple, onTru_list, dTupA, tupA, dTupZip, dTupZipK, dZip3, dZip2, dSortKS, dSortKF, dLetSet, dLetSetK, dLetSetN, dEnumZip, dDicV, fLenD, dFgt, fEqA, fNeA, fStrI, dReprW, dLenSet, dLenSetL, dDikGet, dDikIn, dDisp1_i, dDisp1_s, fEqN, fNeN, dDef, datsF, dCallA, dCallV, fIsB, fNotB, fInA_l, fInA_t, fNotInA_l, fNotInA_t, List.map_cons, List.map_nil, fw0, fw1, fw2, fw3, fw4, fw5, fw6, fw7, fw8, fw9, fw10, fw11, fw12, fw13, fw14, fw15, eP]
  refine for_en ls eLm (fun z : Nat × PyData × Nat × Option Ent × Option Ent => [some (.d (eP ls)), some (.d (.int sp)), some (.d (.tuple [.int z.1, z.2.1])), some (.d (.int z.2.2.1)), z.2.2.2.1, z.2.2.2.2]) (fun i z => Abr (lxs ls) sp i z.1 z.2.2.1 ∧ AbrZ (lxs ls) sp i z.1 z.2.1) (0, .none, 0, none, none) rfl ⟨.start _ _, .inl ⟨rfl, rfl⟩⟩ (fun i l z hl hI C hC => ?_) fun z hz => ?_
  · obtain ⟨m, y, last, a4, a5⟩ := z
    obtain ⟨hI, hZ⟩ := hI
    simp only at hI hZ
    have ha := lxs_at hl
    have il := (List.getElem?_eq_some_iff.mp hl).1
    have ll := lxs_len ls
    have hC2 : ∀ (m2 : Nat) (y2 : PyData) (l2 : Nat) (a4 a5 : Option Ent), Abr (lxs ls) sp (i + 1) m2 l2 → AbrZ (lxs ls) sp (i + 1) m2 y2 → C [some (.d (eP ls)), some (.d (.int sp)), some (.d (.tuple [.int m2, y2])), some (.d (.int l2)), a4, a5] := fun m2 y2 l2 a4 a5 h h2 => hC (m2, y2, l2, a4, a5) ⟨h, h2⟩
    clear hC
    simp only [dgTup, dgCons, dgNil, setR, List.set_cons_succ, List.set_cons_zero]
    refine ⟨rfl, seqI fun k2 hk2 => ?_⟩
    have out : ∀ l2 : Nat, last ≤ l2 → l2 ≤ ls.length → (∀ k c, k < l2 → (lxs ls)[k]? = some c → c < l.x + sp) → (∀ c, (lxs ls)[l2]? = some c → l.x + sp ≤ c) → k2 [some (.d (eP ls)), some (.d (.int sp)), some (.d (.tuple [.int m, y])), some (.d (.int l2)), some (.d (.int i)), some (.d (eLm l))] := fun l2 q1 q2 q3 q4 => by
      rw [hk2]
      clear hk2
      have tn := hI.turn h0 h1 ha q1 (by omega) q3 q4 rfl
      have lo := tn.lo
      simp only [dSeq, dAsg, dCB, dCons, dNil, dVar, onVs, vals, val, slot, setR, fGcd, dIfS, dTV, dOp, dBin, onV2, fLt, fLe, fGt, fGe, fAdd, fSub, fMul, fDiv, fMod, fI0, dC, dUn, onV, fNeg, dNext, dRet, dTup, onD, dats, fDivZ, fI, fPow, Few, retP, fAbs, fInt, fMax, fMin, fLen, fSqrt, fEq, fNe, dNot, dAnd, dOr, dAndV, dOrV, dNotV, dIfE, dDrop, dRetN, dPar, noO, dSetL, dLst, dOfL, dOwnM, onOwn, onDat, kAppend, kInsert, dSetItem, dAddItem, dIx, onItems, items, onInt, dNoPart, dPart, dSlice, onL, litems, dSlL, dCat, onM, mitems, dTupOf, dSeqI, dRng1, dRng2, dCallP, dCallB, dCallF, noSelf, onArgs, dats2, dIsi, tyName, dYes, dgTup, dgCons, dgNil, retB, dBreak, dCont, ne_eq, not_false_eq_true, true_and, and_true, List.getElem?_cons_zero, List.getElem?_cons_succ, List.set_cons_zero, List.set_cons_succ, Option.map, List.length_cons, List.length_nil, dBestD, dParM, dmNil, dmD, dmL, setM, dLc_eq, dLc2_eq, dFor_eq, dSortSet, dSort, dListOf, dIsN, dNotN, isNo, dAug, dMulA, dgUnl, dCatT, dSlT, onT, titems, dEnum, dZip, dZipM, seqs, dRetL, dPar3, dRevT, dLstRg, dTupRg, dRg1, dRg2, dChainLe, List.nil_append, List.cons_append, if_true, if_false, dFrz, dLcO, dMin2D, dAppX, dParL, dParLL, dRepL, fMax3, dNewDic, dDicPut, dDicGet, dSortDic, onDic, onKey, dLcW, dZipX, dParR, dDead, dSortD, dSortDT, fNeS, fEqS, dgSet, dDGet, onDict_eq, onKeyD_int, onKeyD_str, dDIn, dSortDK, onDict1_eq, dDictL, dDictEn, dDictZip, onSq1_eq, onSq2_eq, onSq_t, onSq_l, onSq_o, dNewD, dDicI, dNewDik, dDikPut, onDik, dFrzD, dNew4, dIndexD, onLst_eq, dIfL, dOrT, dAndT, onTru_int, onTru_bool, onTru_none, onTru_tuple, onTru_list, dTupA, tupA, dTupZip, dTupZipK, dZip3, dZip2, dSortKS, dSortKF, dLetSet, dLetSetK, dLetSetN, dEnumZip, dDicV, fLenD, dFgt, fEqA, fNeA, fStrI, dReprW, dLenSet, dLenSetL, dDikGet, dDikIn, dDisp1_i, dDisp1_s, fEqN, fNeN, dDef, datsF, dCallA, dCallV, fIsB, fNotB, fInA_l, fInA_t, fNotInA_l, fNotInA_t, List.map_cons, List.map_nil, fw0, fw1, fw2, fw3, fw4, fw5, fw6, fw7, fw8, fw9, fw10, fw11, fw12, fw13, fw14, fw15, on0, eLm]
      refine ite_b (c := (l2 : Int) - i > m) (fun gt => ?_) fun ngt => ?_
      · have e : max m (l2 - i) = l2 - i := Nat.max_eq_right (by omega)
        rw [e] at tn
        rw [show (l2 : Int) - i = ((l2 - i : Nat) : Int) by omega]
        exact hC2 _ _ _ _ _ tn (AbrZ.new (y := y) h1 hI h0 ha (by have := hI.lo; omega) (by omega) q3 (by omega))
      · have e : max m (l2 - i) = m := Nat.max_eq_left (by omega)
        rw [e] at tn
        exact hC2 _ _ _ _ _ tn hZ.up
    simp only [dSeq, dAsg, dCB, dCons, dNil, dVar, onVs, vals, val, slot, setR, fGcd, dIfS, dTV, dOp, dBin, onV2, fLt, fLe, fGt, fGe, fAdd, fSub, fMul, fDiv, fMod, fI0, dC, dUn, onV, fNeg, dNext, dRet, dTup, onD, dats, fDivZ, fI, fPow, Few, retP, fAbs, fInt, fMax, fMin, fLen, fSqrt, fEq, fNe, dNot, dAnd, dOr, dAndV, dOrV, dNotV, dIfE, dDrop, dRetN, dPar, noO, dSetL, dLst, dOfL, dOwnM, onOwn, onDat, kAppend, kInsert, dSetItem, dAddItem, dIx, onItems, items, onInt, dNoPart, dPart, dSlice, onL, litems, dSlL, dCat, onM, mitems, dTupOf, dSeqI, dRng1, dRng2, dCallP, dCallB, dCallF, noSelf, onArgs, dats2, dIsi, tyName, dYes, dgTup, dgCons, dgNil, retB, dBreak, dCont, ne_eq, not_false_eq_true, true_and, and_true, List.getElem?_cons_zero, List.getElem?_cons_succ, List.set_cons_zero, List.set_cons_succ, Option.map, List.length_cons, List.length_nil, dBestD, dParM, dmNil, dmD, dmL, setM, dLc_eq, dLc2_eq, dFor_eq, dSortSet, dSort, dListOf, dIsN, dNotN, isNo, dAug, dMulA, dgUnl, dCatT, dSlT, onT, titems, dEnum, dZip, dZipM, seqs, dRetL, dPar3, dRevT, dLstRg, dTupRg, dRg1, dRg2, dChainLe, List.nil_append, List.cons_append, if_true, if_false, dFrz, dLcO, dMin2D, dAppX, dParL, dParLL, dRepL, fMax3, dNewDic, dDicPut, dDicGet, dSortDic, onDic, onKey, dLcW, dZipX, dParR, dDead, dSortD, dSortDT, fNeS, fEqS, dgSet, dDGet, onDict_eq, onKeyD_int, onKeyD_str, dDIn, dSortDK, onDict1_eq, dDictL, dDictEn, dDictZip, onSq1_eq, onSq2_eq, onSq_t, onSq_l, onSq_o, dNewD, dDicI, dNewDik, dDikPut, onDik, dFrzD, dNew4, dIndexD, onLst_eq, dIfL, dOrT, dAndT, onTru_int, onTru_bool, onTru_none, onTru_tuple, onTru_list, dTupA, tupA, dTupZip, dTupZipK, dZip3, dZip2, dSortKS, dSortKF, dLetSet, dLetSetK, dLetSetN, dEnumZip, dDicV, fLenD, dFgt, fEqA, fNeA, fStrI, dReprW, dLenSet, dLenSetL, dDikGet, dDikIn, dDisp1_i, dDisp1_s, fEqN, fNeN, dDef, datsF, dCallA, dCallV, fIsB, fNotB, fInA_l, fInA_t, fNotInA_l, fNotInA_t, List.map_cons, List.map_nil, fw0, fw1, fw2, fw3, fw4, fw5, fw6, fw7, fw8, fw9, fw10, fw11, fw12, fw13, fw14, fw15, dWhile]
    refine ⟨fun ρ : Rho => ∃ l2 : Nat, last ≤ l2 ∧ l2 ≤ ls.length ∧ (∀ k c, k < l2 → (lxs ls)[k]? = some c → c < l.x + sp) ∧ ρ = [some (.d (eP ls)), some (.d (.int sp)), some (.d (.tuple [.int m, y])), some (.d (.int l2)), some (.d (.int i)), some (.d (eLm l))], fun ρ : Rho => match ρ[3]? with | some (some (Ent.d (PyData.int k))) => (ls.length - k).toNat | _ => 0, ⟨last, Nat.le_refl _, by have := hI.le; omega, fun k c hk hc => hI.low2 h0 h1 ha k c hk hc, rfl⟩, ?_⟩
    rintro ρ ⟨l2, q1, q2, q3, rfl⟩
    simp only [dSeq, dAsg, dCB, dCons, dNil, dVar, onVs, vals, val, slot, setR, fGcd, dIfS, dTV, dOp, dBin, onV2, fLt, fLe, fGt, fGe, fAdd, fSub, fMul, fDiv, fMod, fI0, dC, dUn, onV, fNeg, dNext, dRet, dTup, onD, dats, fDivZ, fI, fPow, Few, retP, fAbs, fInt, fMax, fMin, fLen, fSqrt, fEq, fNe, dNot, dAnd, dOr, dAndV, dOrV, dNotV, dIfE, dDrop, dRetN, dPar, noO, dSetL, dLst, dOfL, dOwnM, onOwn, onDat, kAppend, kInsert, dSetItem, dAddItem, dIx, onItems, items, onInt, dNoPart, dPart, dSlice, onL, litems, dSlL, dCat, onM, mitems, dTupOf, dSeqI, dRng1, dRng2, dCallP, dCallB, dCallF, noSelf, onArgs, dats2, dIsi, tyName, dYes, dgTup, dgCons, dgNil, retB, dBreak, dCont, ne_eq, not_false_eq_true, true_and, and_true, List.getElem?_cons_zero, List.getElem?_cons_succ, List.set_cons_zero, List.set_cons_succ, Option.map, List.length_cons, List.length_nil, dBestD, dParM, dmNil, dmD, dmL, setM, dLc_eq, dLc2_eq, dFor_eq, dSortSet, dSort, dListOf, dIsN, dNotN, isNo, dAug, dMulA, dgUnl, dCatT, dSlT, onT, titems, dEnum, dZip, dZipM, seqs, dRetL, dPar3, dRevT, dLstRg, dTupRg, dRg1, dRg2, dChainLe, List.nil_append, List.cons_append, if_true, if_false, dFrz, dLcO, dMin2D, dAppX, dParL, dParLL, dRepL, fMax3, dNewDic, dDicPut, dDicGet, dSortDic, onDic, onKey, dLcW, dZipX, dParR, dDead, dSortD, dSortDT, fNeS, fEqS, dgSet, dDGet, onDict_eq, onKeyD_int, onKeyD_str, dDIn, dSortDK, onDict1_eq, dDictL, dDictEn, dDictZip, onSq1_eq, onSq2_eq, onSq_t, onSq_l, onSq_o, dNewD, dDicI, dNewDik, dDikPut, onDik, dFrzD, dNew4, dIndexD, onLst_eq, dIfL, dOrT, dAndT, onTru_int, onTru_bool, onTru_none, onTru_tuple, onTru_list, dTupA, tupA, dTupZip, dTupZipK, dZip3, dZip2, dSortKS, dSortKF, dLetSet, dLetSetK, dLetSetN, dEnumZip, dDicV, fLenD, dFgt, fEqA, fNeA, fStrI, dReprW, dLenSet, dLenSetL, dDikGet, dDikIn, dDisp1_i, dDisp1_s, fEqN, fNeN, dDef, datsF, dCallA, dCallV, fIsB, fNotB, fInA_l, fInA_t, fNotInA_l, fNotInA_t, List.map_cons, List.map_nil, fw0, fw1, fw2, fw3, fw4, fw5, fw6, fw7, fw8, fw9, fw10, fw11, fw12, fw13, fw14, fw15, eP, List.length_map]
    refine ite_b (c := (l2 : Int) < ls.length) (fun lt => ?_) fun ge => ?_
    · obtain ⟨lf, hlf⟩ : ∃ lf, ls[l2]? = some lf := ⟨_, List.getElem?_eq_getElem (by omega)⟩
      rw [on_map hlf rfl]
      simp only [dSeq, dAsg, dCB, dCons, dNil, dVar, onVs, vals, val, slot, setR, fGcd, dIfS, dTV, dOp, dBin, onV2, fLt, fLe, fGt, fGe, fAdd, fSub, fMul, fDiv, fMod, fI0, dC, dUn, onV, fNeg, dNext, dRet, dTup, onD, dats, fDivZ, fI, fPow, Few, retP, fAbs, fInt, fMax, fMin, fLen, fSqrt, fEq, fNe, dNot, dAnd, dOr, dAndV, dOrV, dNotV, dIfE, dDrop, dRetN, dPar, noO, dSetL, dLst, dOfL, dOwnM, onOwn, onDat, kAppend, kInsert, dSetItem, dAddItem, dIx, onItems, items, onInt, dNoPart, dPart, dSlice, onL, litems, dSlL, dCat, onM, mitems, dTupOf, dSeqI, dRng1, dRng2, dCallP, dCallB, dCallF, noSelf, onArgs, dats2, dIsi, tyName, dYes, dgTup, dgCons, dgNil, retB, dBreak, dCont, ne_eq, not_false_eq_true, true_and, and_true, List.getElem?_cons_zero, List.getElem?_cons_succ, List.set_cons_zero, List.set_cons_succ, Option.map, List.length_cons, List.length_nil, dBestD, dParM, dmNil, dmD, dmL, setM, dLc_eq, dLc2_eq, dFor_eq, dSortSet, dSort, dListOf, dIsN, dNotN, isNo, dAug, dMulA, dgUnl, dCatT, dSlT, onT, titems, dEnum, dZip, dZipM, seqs, dRetL, dPar3, dRevT, dLstRg, dTupRg, dRg1, dRg2, dChainLe, List.nil_append, List.cons_append, if_true, if_false, dFrz, dLcO, dMin2D, dAppX, dParL, dParLL, dRepL, fMax3, dNewDic, dDicPut, dDicGet, dSortDic, onDic, onKey, dLcW, dZipX, dParR, dDead, dSortD, dSortDT, fNeS, fEqS, dgSet, dDGet, onDict_eq, onKeyD_int, onKeyD_str, dDIn, dSortDK, onDict1_eq, dDictL, dDictEn, dDictZip, onSq1_eq, onSq2_eq, onSq_t, onSq_l, onSq_o, dNewD, dDicI, dNewDik, dDikPut, onDik, dFrzD, dNew4, dIndexD, onLst_eq, dIfL, dOrT, dAndT, onTru_int, onTru_bool, onTru_none, onTru_tuple, onTru_list, dTupA, tupA, dTupZip, dTupZipK, dZip3, dZip2, dSortKS, dSortKF, dLetSet, dLetSetK, dLetSetN, dEnumZip, dDicV, fLenD, dFgt, fEqA, fNeA, fStrI, dReprW, dLenSet, dLenSetL, dDikGet, dDikIn, dDisp1_i, dDisp1_s, fEqN, fNeN, dDef, datsF, dCallA, dCallV, fIsB, fNotB, fInA_l, fInA_t, fNotInA_l, fNotInA_t, List.map_cons, List.map_nil, fw0, fw1, fw2, fw3, fw4, fw5, fw6, fw7, fw8, fw9, fw10, fw11, fw12, fw13, fw14, fw15, eLm, on0]
      refine ite_b (c := lf.x < l.x + sp) (fun le => ?_) fun nle => ?_
      · refine ⟨⟨l2 + 1, by omega, by omega, fun k c hk hc => ?_, rfl⟩, by omega⟩
        by_cases z : k = l2
        · subst z
          rw [lxs_at hlf] at hc
          cases hc
          exact le
        · exact q3 k c (by omega) hc
      · exact out l2 q1 q2 q3 fun c hc => by
          rw [lxs_at hlf] at hc
          cases hc
          omega
    · simp only [Bool.false_eq_true, if_false]
      exact out l2 q1 q2 q3 fun c hc => by
        have := (List.getElem?_eq_some_iff.mp hc).1
        omega
  · obtain ⟨m, y, last, a4, a5⟩ := z
    obtain ⟨hz, hY⟩ := hz
    simp only at hz hY ⊢
    rw [hk]
    clear hk
    walk_at "K14Z1"
    have := lxs_len ls
    rw [← this] at hz hY
    exact hQ _ ⟨m, y, rfl, hz.has, fun n hn => hz.most h0 hn, hY.end_ h0⟩
set_option maxHeartbeats 4000000 in
theorem ok__law_bag {f : Addr} {fd : FuncData} (W : Fun K "_law_bag" "_law_bag" s__law_bag f fd) (T : Bi mg) :
    FnG P w K mg base CX0 1 f fd ["_law_script"] (spF K TT [.ro] S__law_bag) := by
  refine fnF W sc__law_bag rfl rfl fun cdv A out s H E Nn hr hgd => ⟨_, _, (pl_lst (pda_cons pd_int (pda_cons pd_int (pda_cons pd_int (pda_cons (pd_l (pl_lc (own := [("_law_cell", 1)]) rfl sc__law_bag.nd (pdi_seq (pd_l (pl_slice (pdv 0) pdo_none (pdo_some pd_int)))) (blkOk_by (own := [("_law_cell", 1)]) (N := nm__law_bag) (sc := defScope s__law_bag) (by decide +kernel)) (fun _ _ _ _ _ => (pgd_name (i := 1) sc__law_bag.nd)) (fun _ _ _ _ _ => dts_nil) (fun _ _ _ _ _ => (pd_callB call_abs sc_abs rfl T.b_abs (by decide +kernel) (pda_cons (pdv 1) pda_nil))))) pda_nil))))), ?_⟩
  exact fun xs Q hl hS => rd_bag hS
set_option maxHeartbeats 4000000 in
theorem ok__law_take {f : Addr} {fd : FuncData} (W : Fun K "_law_take" "_law_take" s__law_take f fd) (T : Bi mg) :
    FnG P w K mg base CX0 1 f fd ["_law_bag_here", "_law_many"] (spB K TT [.d] S__law_take) := by
  refine fnB W sc__law_take rfl fun cdv A out s H E Nn B hr hgd => ⟨_, _, (dss_cons (ds_if (pt_eq hr.units rfl (pd_ix (pdv 0) pd_int (fun _ _ => rfl)) pd_int) (dss_cons (ds_set (i := 2) sc__law_take.nd (pd_ix (pd_l (pl_cat (pd_l (pl_slice (pd_ix (pdv 0) pd_int (fun _ _ => rfl)) (pdo_some (pd_ix (pdv 0) pd_int (fun _ _ => rfl))) pdo_none)) (pd_l (pl_lst (pda_cons pd_int pda_nil))))) pd_int (fun _ _ => rfl)) (fixB (by decide)))
      (dss_cons (ds_addItem (i := 0) pd_int pd_int (ps_augS (pv 0) pe_int get_list pe_int ip_add set_list))
      (dss_cons (ds_if (pt_ge (pdv 2) (pd_pow pd_int pd_int)) (dss_one (ds_setItem (i := 0) (pdv 2) pd_int (pg_sub (pv 0) pe_int set_list))) dss_nil)
      (dss_cons (ds_set (i := 3) sc__law_take.nd (pd_add (pd_add (pd_mul (pd_ix (pdv 0) pd_int (fun _ _ => rfl)) pd_int) (pd_mod (pd_callTy call_int1 sc_int rfl T.b_int (by decide +kernel) (pda_cons (pdv 2) pda_nil)) pd_int)) (pd_mul pd_int (pd_ix (pdv 0) pd_int (fun _ _ => rfl)))) (fixB (by decide)))
      (dss_one (ds_setItem (i := 0) (pd_mod (pd_callTy call_int1 sc_int rfl T.b_int (by decide +kernel) (pda_cons (pdv 3) pda_nil)) pd_int) pd_int (pg_sub (pv 0) pe_int set_list))))))) dss_nil)
      (dss_cons (ds_if (pt_gt (pd_ix (pdv 0) pd_int (fun _ _ => rfl)) pd_int) (dss_cons (ds_set (i := 4) sc__law_take.nd (pd_mod (pd_callTy call_int1 sc_int rfl T.b_int (by decide +kernel) (pda_cons (pd_ix (pdv 0) pd_int (fun _ _ => rfl)) pda_nil)) (pdv 1)) (fixB (by decide)))
      (dss_cons (ds_setItem (i := 0) (pd_div (pd_callTy call_int1 sc_int rfl T.b_int (by decide +kernel) (pda_cons (pd_ix (pdv 0) pd_int (fun _ _ => rfl)) pda_nil)) (pdv 1)) pd_int (pg_sub (pv 0) pe_int set_list))
      (dss_one (ds_ret (pdv 4))))) dss_nil)
      (dss_cons (ds_set (i := 5) sc__law_take.nd (pd_mod (pd_callTy call_int1 sc_int rfl T.b_int (by decide +kernel) (pda_cons (pd_mul (pd_add (pd_ix (pdv 0) pd_int (fun _ _ => rfl)) pd_int) pd_int) pda_nil)) pd_int) (fixB (by decide)))
      (dss_cons (ds_set (i := 6) sc__law_take.nd (pd_mod (pd_callTy call_int1 sc_int rfl T.b_int (by decide +kernel) (pda_cons (pd_mul (pd_mod (pd_callTy call_int1 sc_int rfl T.b_int (by decide +kernel) (pda_cons (pd_mul (pdv 5) (pdv 5)) pda_nil)) pd_int) pd_int) pda_nil)) pd_int) (fixB (by decide)))
      (dss_one (ds_ret (pd_mod (pd_callTy call_int1 sc_int rfl T.b_int (by decide +kernel) (pda_cons (pd_div (pdv 6) pd_int) pda_nil)) (pdv 1)))))))), ?_⟩
  exact fun bag xs Q hl hS => rd_take hS
set_option maxHeartbeats 4000000 in
theorem ok__law_alike {f : Addr} {fd : FuncData} (W : Fun K "_law_alike" "_law_alike" s__law_alike f fd) (T : Bi mg) :
    FnG P w K mg base CX0 1 f fd ["_law_found", "_law_due"] (spP K TT [.ro, .ro] S__law_alike) := by
  refine fnP W sc__law_alike rfl fun cdv A out s H E Nn hr hgd => ⟨_, _, (dss_one (ds_ret (pd_and (pd_eq hr.units rfl (pdv 0) (pdv 1)) (pdn_one (pd_eqS (pd_callB (call_repr hgd hr.units) sc_repr rfl T.b_repr (by decide +kernel) (pda_cons (pdv 0) pda_nil)) (pd_callB (call_repr hgd hr.units) sc_repr rfl T.b_repr (by decide +kernel) (pda_cons (pdv 1) pda_nil))))))), ?_⟩
  exact fun xs Q hl hS => rd_alike hS
set_option maxHeartbeats 4000000 in
theorem ok__law_is_int {f : Addr} {fd : FuncData} (W : Fun K "_law_is_int" "_law_is_int" s__law_is_int f fd) (T : Bi mg) :
    FnG P w K mg base CX0 1 f fd ["_law_thing"] (spP K TT [.d] S__law_is_int) := by
  refine fnP W sc__law_is_int rfl fun cdv A out s H E Nn hr hgd => ⟨_, _, (dss_one (ds_ret (pd_and (pd_isinst (n := "int") (pdv 0) rfl T.b_isinstance rfl T.b_int (by decide +kernel)) (pdn_one (pd_not (pd_isinst (n := "bool") (pdv 0) rfl T.b_isinstance rfl T.b_bool (by decide +kernel))))))), ?_⟩
  clear W T hr hgd
  rintro xs Q hl ⟨d, rfl, _, hQ⟩
  clear hl
  replace hQ : Q (.bool (isI d)) := hQ
  have e : rhoP nm__law_is_int.length [.d] [d] = [some (.d (d))] := rfl
  rw [e]
  clear e
  cases d <;> (simp only [dSeq, dAsg, dCB, dCons, dNil, dVar, onVs, vals, val, slot, setR, fGcd, dIfS, dTV, onV2, fLt, fLe, fGt, fGe, fAdd, fSub, fMul, fDiv, fMod, fI0, dC, dUn, onV, fNeg, dNext, dRet, dTup, onD, dats, fDivZ, fI, fPow, Few, retP, fAbs, fInt, fMax, fMin, fLen, fSqrt, fEq, fNe, dNot, dAnd, dOr, dAndV, dOrV, dNotV, dIfE, dDrop, dRetN, dPar, noO, dSetL, dLst, dOfL, dOwnM, onOwn, onDat, kAppend, kInsert, dSetItem, dAddItem, onItems, onInt, dNoPart, dPart, dSlice, onL, litems, dSlL, dCat, onM, mitems, dRng1, dRng2, dCallP, dCallB, dCallF, noSelf, onArgs, dats2, dIsi, tyName, dYes, dgCons, dgNil, retB, dBreak, dCont, ne_eq, not_false_eq_true, true_and, and_true, List.getElem?_cons_zero, List.getElem?_cons_succ, List.set_cons_zero, List.set_cons_succ, Option.map, List.length_cons, List.length_nil, dBestD, dParM, dmNil, dmD, dmL, setM, dLc_eq, dLc2_eq, dFor_eq, dSortSet, dSort, dListOf, dIsN, dNotN, isNo, dAug, dMulA, dgUnl, dSlT, onT, dEnum, dZip, dZipM, dRetL, dPar3, dRevT, dLstRg, dTupRg, dRg1, dRg2, dChainLe, List.nil_append, List.cons_append, if_true, if_false, dFrz, dLcO, dMin2D, dAppX, dParL, dParLL, dRepL, fMax3, dNewDic, dDicPut, dDicGet, dSortDic, onDic, onKey, dLcW, dZipX, dParR, dDead, dSortD, dSortDT, fNeS, fEqS, dgSet, dDGet, onDict_eq, onKeyD_int, onKeyD_str, dDIn, dSortDK, onDict1_eq, dDictL, dDictEn, dDictZip, onSq1_eq, onSq2_eq, onSq_t, onSq_l, onSq_o, dNewD, dDicI, dNewDik, dDikPut, onDik, dFrzD, dNew4, dIndexD, onLst_eq, dIfL, dOrT, dAndT, onTru_int, onTru_bool, onTru_none, onTru_tuple, onTru_list, dTupZip, dTupZipK, dZip3, dZip2, dSortKS, dSortKF, dLetSet, dLetSetK, dLetSetN, dEnumZip, dDicV, fLenD, dFgt, fEqA, fNeA, fStrI, dReprW, dLenSet, dLenSetL, dDikGet, dDikIn, dDisp1_i, dDisp1_s, fEqN, fNeN, dDef, datsF, dCallA, dCallV, fIsB, fNotB, fInA_l, fInA_t, fNotInA_l, fNotInA_t, List.map_cons, List.map_nil, fw0, fw1, fw2, fw3, fw4, fw5, fw6, fw7, fw8, fw9, fw10, fw11, fw12, fw13, fw14, fw15, dExtend, dExtendT, dLstDn, dMaxDf, dOp_ap, dIx_ap, dCatT_ap, dRepT_ap, items_l, items_t, items_o, ti_t, dgT_t, seqs_l, seqs_t, seqs_o, dSeqI_eq, wk_l, wk_t, wk_eP, wk_o, dTupOf_eq, tu_t, tu_l, tu_o, tu_eP, dTupA_eq, ta_t, ta_l, ta_o, ta_eP, items_eW, items_eB, items_eSc, items_eLm, items_eP, items_eL, items_pr, items_enc2, items_eTm, ti_eB, ti_eW, ti_eLm, ti_eP, dgT_eSc, dgT_eLm, dgT_eL, dgT_pr, dgT_enc2, dgT_eW, dgT_eTm, seqs_eP, on0, on1, on2, on3, on4, on5, on6, on7, on8, kw_NoneType_int, kw_NoneType_bool, kw_NoneType_str, kw_NoneType_tuple, kw_NoneType_dict, kw_NoneType_list, kw_bool_int, kw_bool_bool, kw_bool_str, kw_bool_tuple, kw_bool_dict, kw_bool_list, kw_int_int, kw_int_bool, kw_int_str, kw_int_tuple, kw_int_dict, kw_int_list, kw_str_int, kw_str_bool, kw_str_str, kw_str_tuple, kw_str_dict, kw_str_list, kw_list_int, kw_list_bool, kw_list_str, kw_list_tuple, kw_list_dict, kw_list_list, kw_tuple_int, kw_tuple_bool, kw_tuple_str, kw_tuple_tuple, kw_tuple_dict, kw_tuple_list, kw_dict_int, kw_dict_bool, kw_dict_str, kw_dict_tuple, kw_dict_dict, kw_dict_list, Bool.not_false, Bool.not_true, if_true, if_false, Bool.false_eq_true]; exact hQ)
set_option maxHeartbeats 4000000 in
theorem ok__law_shape {f : Addr} {fd : FuncData} (W : Fun K "_law_shape" "_law_shape" s__law_shape f fd) (T : Bi mg) :
    FnG P w K mg base CX0 1 f fd ["_law_points"] (spP K TT [.d] S__law_shape) := by
  refine fnP W sc__law_shape rfl fun cdv A out s H E Nn hr hgd => ⟨_, _, (dss_one (ds_ret (pd_tupleA rfl T.b_tuple (pda_cons (pd_l (pl_sortSet rfl hr.units rfl T.b_sorted rfl T.b_set (pda_cons (pdv 0) pda_nil))) pda_nil)))), ?_⟩
  clear W T hr hgd
  rintro xs Q hl ⟨ps, rfl, h0, hQ⟩
  clear hl
  replace hQ : ∀ z, (∃ qs, SortdS ps qs ∧ z = .tuple (qs.map encP)) → Q z   := hQ
  have e : rhoP nm__law_shape.length [.d] [.list (ps.map encP)] = [some (.d (.list (ps.map encP)))] := rfl
  rw [e]
  clear e
  walk_at "K14Z1"
  exact ⟨ps, asPairs_enc ps, h0, fun qs hqs => hQ _ ⟨qs, hqs, rfl⟩⟩
set_option maxHeartbeats 4000000 in
theorem ok__law_rows {f : Addr} {fd : FuncData} (W : Fun K "_law_rows" "_law_rows" s__law_rows f fd) (T : Bi mg) :
    FnG P w K mg base CX0 1 f fd ["_law_picture", "_law_spacing"] (spP K TT [.d, .d] S__law_rows) := by
  refine fnP W sc__law_rows rfl fun cdv A out s H E Nn hr hgd => ⟨_, _, (dss_cons (ds_setL (i := 2) sc__law_rows.nd (pl_lst pda_nil) fixP)
      (dss_cons (ds_for PassesOwn.never rfl (pdi_enum rfl T.b_enumerate (pda_cons (pdv 0) pda_nil)) (pgd_tup (n := 2) rfl (pgds_cons (pgd_name (i := 3) sc__law_rows.nd) (pgds_cons (pgd_name (i := 4) sc__law_rows.nd) pgds_nil))) (dss_cons (ds_fgt (i := 6) (ds_set (i := 5) sc__law_rows.nd (pd_l (pl_lc (own := [("_law_k", 6)]) rfl sc__law_rows.nd (pdi_range1 rfl T.b_range (pda_cons (pdv 3) pda_nil)) (blkOk_by (own := [("_law_k", 6)]) (N := nm__law_rows) (sc := defScope s__law_rows) (by decide +kernel)) (fun _ _ _ _ _ => (pgd_name (i := 6) sc__law_rows.nd)) (fun _ _ _ _ _ => (dts_one (pt_lt (pd_sub (pd_ix (pdv 4) pd_int (fun _ _ => rfl)) (pd_ix (pd_ix (pdv 0) (pdv 6) (fun _ _ => rfl)) pd_int (fun _ _ => rfl))) (pdv 1)))) (fun _ _ _ _ _ => (pd_ix (pdv 2) (pdv 6) (fun _ _ => rfl))))) fixP) fixP)
      (dss_one (ds_fgt (i := 7) (ds_expr (pd_append (i := 2) (pda_cons (pd_ix (pd_l (pl_lc (own := [("_law_row", 7)]) rfl sc__law_rows.nd (pdi_range1 rfl T.b_range (pda_cons (pd_add (pdv 3) pd_int) pda_nil)) (blkOk_by (own := [("_law_row", 7)]) (N := nm__law_rows) (sc := defScope s__law_rows) (by decide +kernel)) (fun _ _ _ _ _ => (pgd_name (i := 7) sc__law_rows.nd)) (fun _ _ _ _ _ => (dts_one (pt_notinA (units65 hr) rfl (pdv 7) (pdv 5)))) (fun _ _ _ _ _ => (pdv 7)))) pd_int (fun _ _ => rfl)) pda_nil))) fixP))) nofixP)
      (dss_one (ds_ret (pd_tupleA rfl T.b_tuple (pda_cons (pdv 2) pda_nil)))))), ?_⟩
  clear W T hr hgd
  rintro xs Q hl ⟨⟨ls, sp⟩, rfl, ⟨h0, h1, h2, h3⟩, hQ⟩
  clear hl
  replace hQ : ∀ z, (∃ rs : List Int, LeastR (lxs ls) sp rs ∧ rs.length = ls.length ∧ (∀ r ∈ rs, 0 ≤ r ∧ r ≤ 1000) ∧ z = .tuple (rs.map .int)) → Q z   := hQ
  have e : rhoP nm__law_rows.length [.d, .d] [eP ls, .int sp] = [some (.d (eP ls)), some (.d (.int sp)), none, none, none, none, none, none] := rfl
  rw [e]
  clear e
  refine seqI fun kk hk => ?_
  walk_at "K14Z5"
  rw [hk]
  clear hk
  refine seqI fun kk hk => ?_
  walk_at "K14Z0"
  refine for_en (S := List Int × (Nat → Option Ent)) ls eLm (fun s => [some (.d (.tuple (ls.map eLm))), some (.d (.int sp)), some (.own (s.1.map .int)), s.2 3, s.2 4, s.2 5, s.2 6, s.2 7]) (fun i s => s.1.length = i ∧ LeastR (lxs ls) sp s.1 ∧ ∀ r ∈ s.1, 0 ≤ r ∧ r ≤ 1000) ([], fun _ => none) rfl ⟨rfl, .nil, fun r hr => nomatch hr⟩ (fun i l s hl hI C hC => ?_) fun s hs => ?_
  · obtain ⟨rs, sl⟩ := s
    obtain ⟨lr, lst, rg⟩ := hI
    dsimp only at lr lst rg
    have il := (List.getElem?_eq_some_iff.mp hl).1
    have hC2 : ∀ (rs : List Int) (a3 a4 a5 a6 a7 : Option Ent), rs.length = i + 1 → LeastR (lxs ls) sp rs → (∀ r ∈ rs, 0 ≤ r ∧ r ≤ 1000) → C [some (.d (.tuple (ls.map eLm))), some (.d (.int sp)), some (.own (rs.map .int)), a3, a4, a5, a6, a7] := fun rs a3 a4 a5 a6 a7 a b c => hC (rs, fun n => ([none, none, none, a3, a4, a5, a6, a7] : List (Option Ent)).getD n none) ⟨a, b, c⟩
    clear hC
    simp only [dgTup, dgCons, dgNil, setR, List.set_cons_succ, List.set_cons_zero]
    refine ⟨rfl, ?_⟩
    refine seqI fun kk2 hk2 => ?_
    try walk_at "K14Z0"
    refine ⟨⟨by omega, by omega⟩, ?_⟩
    rw [show ((i : Int)).toNat = i by omega, rng_map]
    refine lc_fm (List.range i) _ (fun k : Nat => if l.x - lxAt ls k < sp then some (.int (rs[k]?.getD 0)) else none) (hv1 rfl) (by rw [List.length_range]; omega) (fun j k hk1 C1 C2 n hn c1 c2 => ?_) ?_
    · have ki : k < i := List.mem_range.mp (List.mem_of_getElem? hk1)
      have kl := List.getElem?_eq_getElem (show k < ls.length by omega)
      have kr := List.getElem?_eq_getElem (show k < rs.length by omega)
      generalize ls[k]'(by omega) = lk at kl
      generalize rs[k]'(by omega) = rk at kr
      try simp only [dSeq, dAsg, dCB, dCons, dNil, dVar, onVs, vals, val, slot, setR, fGcd, dIfS, dTV, onV2, fLt, fLe, fGt, fGe, fAdd, fSub, fMul, fDiv, fMod, fI0, dC, dUn, onV, fNeg, dNext, dRet, dTup, onD, dats, fDivZ, fI, fPow, Few, retP, fAbs, fInt, fMax, fMin, fLen, fSqrt, fEq, fNe, dNot, dAnd, dOr, dAndV, dOrV, dNotV, dIfE, dDrop, dRetN, dPar, noO, dSetL, dLst, dOfL, dOwnM, onOwn, onDat, kAppend, kInsert, dSetItem, dAddItem, onItems, onInt, dNoPart, dPart, dSlice, onL, litems, dSlL, dCat, onM, mitems, dRng1, dRng2, dCallP, dCallB, dCallF, noSelf, onArgs, dats2, dIsi, tyName, dYes, dgCons, dgNil, retB, dBreak, dCont, ne_eq, not_false_eq_true, true_and, and_true, List.getElem?_cons_zero, List.getElem?_cons_succ, List.set_cons_zero, List.set_cons_succ, Option.map, List.length_cons, List.length_nil, dBestD, dParM, dmNil, dmD, dmL, setM, dLc_eq, dLc2_eq, dFor_eq, dSortSet, dSort, dListOf, dIsN, dNotN, isNo, dAug, dMulA, dgUnl, dSlT, onT, dEnum, dZip, dZipM, dRetL, dPar3, dRevT, dLstRg, dTupRg, dRg1, dRg2, dChainLe, List.nil_append, List.cons_append, if_true, if_false, dFrz, dLcO, dMin2D, dAppX, dParL, dParLL, dRepL, fMax3, dNewDic, dDicPut, dDicGet, dSortDic, onDic, onKey, dLcW, dZipX, dParR, dDead, dSortD, dSortDT, fNeS, fEqS, dgSet, dDGet, onDict_eq, onKeyD_int, onKeyD_str, dDIn, dSortDK, onDict1_eq, dDictL, dDictEn, dDictZip, onSq1_eq, onSq2_eq, onSq_t, onSq_l, onSq_o, dNewD, dDicI, dNewDik, dDikPut, onDik, dFrzD, dNew4, dIndexD, onLst_eq, dIfL, dOrT, dAndT, onTru_int, onTru_bool, onTru_none, onTru_tuple, onTru_list, dTupZip, dTupZipK, dZip3, dZip2, dSortKS, dSortKF, dLetSet, dLetSetK, dLetSetN, dEnumZip, dDicV, fLenD, dFgt, fEqA, fNeA, fStrI, dReprW, dLenSet, dLenSetL, dDikGet, dDikIn, dDisp1_i, dDisp1_s, fEqN, fNeN, dDef, datsF, dCallA, dCallV, fIsB, fNotB, fInA_l, fInA_t, fNotInA_l, fNotInA_t, List.map_cons, List.map_nil, fw0, fw1, fw2, fw3, fw4, fw5, fw6, fw7, fw8, fw9, fw10, fw11, fw12, fw13, fw14, fw15, dExtend, dExtendT, dLstDn, dMaxDf, dOp_ap, dIx_ap, dCatT_ap, dRepT_ap, items_l, items_t, items_o, ti_t, dgT_t, seqs_l, seqs_t, seqs_o, dSeqI_eq, wk_l, wk_t, wk_eP, wk_o, dTupOf_eq, tu_t, tu_l, tu_o, tu_eP, dTupA_eq, ta_t, ta_l, ta_o, ta_eP, items_eW, items_eB, items_eSc, items_eLm, items_eP, items_eL, items_pr, items_enc2, items_eTm, ti_eB, ti_eW, ti_eLm, ti_eP, dgT_eSc, dgT_eLm, dgT_eL, dgT_pr, dgT_enc2, dgT_eW, dgT_eTm, seqs_eP, on0, on1, on2, on3, on4, on5, on6, on7, on8, setR, List.set_cons_succ, List.set_cons_zero, Int.zero_add]
      rw [on_map kl rfl]
      try walk_at "K14Z2"
      have e1 : lxAt ls k = lk.x := by unfold lxAt; rw [kl]; rfl
      rw [e1, kr] at c1 c2
      refine ite_b (c := l.x - lk.x < sp) (fun y => ?_) fun y => c2 (if_neg y)
      rw [on_map kr rfl]
      exact ⟨hn, c1 _ (if_pos y)⟩
    have eb : (List.range i).filterMap (fun k : Nat => if l.x - lxAt ls k < sp then some (PyData.int (rs[k]?.getD 0)) else none) = (takenL ls rs l.x sp).map .int := by
      rw [← lr, ← barred_eq (ls := ls) (rs := rs) (x := l.x) (sp := sp) (by omega) (fun k lk hk hk2 => UpL.at h0 (i := k) (k := i) (by omega) (lxs_at hk2) (lxs_at hl)), List.map_filterMap]
      refine congrArg (fun f => List.filterMap f _) (funext fun k => ?_)
      split <;> rfl
    rw [eb]
    simp only [wipeR, List.set_cons_succ, List.set_cons_zero]
    rw [hk2]
    clear hk2
    try walk_at "K14Z0"
    refine ⟨⟨by omega, by omega⟩, ?_⟩
    rw [show ((i : Int) + 1).toNat = i + 1 by omega, rng_map]
    refine lc_fm (List.range (i + 1)) _ (fun r : Nat => if decide (¬ (r : Int) ∈ takenL ls rs l.x sp) = true then some (PyData.int (r : Int)) else none) (hv1 rfl) (by rw [List.length_range]; omega) (fun j r hr C1 C2 n hn c1 c2 => ?_) ?_
    · simp only [dSeq, dAsg, dCB, dCons, dNil, dVar, onVs, vals, val, slot, setR, fGcd, dIfS, dTV, dOp, dBin, onV2, fLt, fLe, fGt, fGe, fAdd, fSub, fMul, fDiv, fMod, fI0, dC, dUn, onV, fNeg, dNext, dRet, dTup, onD, dats, fDivZ, fI, fPow, Few, retP, fAbs, fInt, fMax, fMin, fLen, fSqrt, fEq, fNe, dNot, dAnd, dOr, dAndV, dOrV, dNotV, dIfE, dDrop, dRetN, dPar, noO, dSetL, dLst, dOfL, dOwnM, onOwn, onDat, kAppend, kInsert, dSetItem, dAddItem, dIx, onItems, items, onInt, dNoPart, dPart, dSlice, onL, litems, dSlL, dCat, onM, mitems, dTupOf, dSeqI, dRng1, dRng2, dCallP, dCallB, dCallF, noSelf, onArgs, dats2, dIsi, tyName, dYes, dgTup, dgCons, dgNil, retB, dBreak, dCont, ne_eq, not_false_eq_true, true_and, and_true, List.getElem?_cons_zero, List.getElem?_cons_succ, List.set_cons_zero, List.set_cons_succ, Option.map, List.length_cons, List.length_nil, dBestD, dParM, dmNil, dmD, dmL, setM, dLc_eq, dLc2_eq, dFor_eq, dSortSet, dSort, dListOf, dIsN, dNotN, isNo, dAug, dMulA, dgUnl, dCatT, dSlT, onT, titems, dEnum, dZip, dZipM, seqs, dRetL, dPar3, dRevT, dLstRg, dTupRg, dRg1, dRg2, dChainLe, List.nil_append, List.cons_append, if_true, if_false, dFrz, dLcO, dMin2D, dAppX, dParL, dParLL, dRepL, fMax3, dNewDic, dDicPut, dDicGet, dSortDic, onDic, onKey, dLcW, dZipX, dParR, dDead, dSortD, dSortDT, fNeS, fEqS, dgSet, dDGet, onDict_eq, onKeyD_int, onKeyD_str, dDIn, dSortDK, onDict1_eq, dDictL, dDictEn, dDictZip, onSq1_eq, onSq2_eq, onSq_t, onSq_l, onSq_o, dNewD, dDicI, dNewDik, dDikPut, onDik, dFrzD, dNew4, dIndexD, onLst_eq, dIfL, dOrT, dAndT, onTru_int, onTru_bool, onTru_none, onTru_tuple, onTru_list, dTupA, tupA, dTupZip, dTupZipK, dZip3, dZip2, dSortKS, dSortKF, dLetSet, dLetSetK, dLetSetN, dEnumZip, dDicV, fLenD, dFgt, fEqA, fNeA, fStrI, dReprW, dLenSet, dLenSetL, dDikGet, dDikIn, dDisp1_i, dDisp1_s, fEqN, fNeN, dDef, datsF, dCallA, dCallV, fIsB, fNotB, fInA_l, fInA_t, fNotInA_l, fNotInA_t, List.map_cons, List.map_nil, fw0, fw1, fw2, fw3, fw4, fw5, fw6, fw7, fw8, fw9, fw10, fw11, fw12, fw13, fw14, fw15, setR, List.set_cons_succ, List.set_cons_zero, Int.zero_add, fNotInD, sh_int, sh_intsL, any_int, wipeR]
      refine ite_nb (c := (r : Int) ∈ takenL ls rs l.x sp) (fun h => ⟨hn, c1 _ (by rw [decide_eq_true h, if_pos rfl])⟩) fun h => c2 (by rw [decide_eq_false (fun z => z h)]; rfl)
    rw [filterMap_if (fun r : Nat => decide (¬ (r : Int) ∈ takenL ls rs l.x sp)) (fun r : Nat => PyData.int (r : Int))]
    have tl : (takenL ls rs l.x sp).length ≤ i := by
      unfold takenL
      have := List.length_filterMap_le (fun p : Lmp × Int => if ((p.1.x - l.x).natAbs : Int) < sp then some p.2 else none) (List.zip ls rs)
      rw [List.length_zip] at this
      omega
    obtain ⟨q, hq1, hq2⟩ := some_free (takenL ls rs l.x sp) i (by omega)
    obtain ⟨r, rest, e, hp, hlt, hmin⟩ := fm_first (fun r : Nat => decide (¬ (r : Int) ∈ takenL ls rs l.x sp)) (i + 1) ⟨q, hq1, decide_eq_true hq2⟩
    rw [e]
    simp only [dSeq, dAsg, dCB, dCons, dNil, dVar, onVs, vals, val, slot, setR, fGcd, dIfS, dTV, dOp, dBin, onV2, fLt, fLe, fGt, fGe, fAdd, fSub, fMul, fDiv, fMod, fI0, dC, dUn, onV, fNeg, dNext, dRet, dTup, onD, dats, fDivZ, fI, fPow, Few, retP, fAbs, fInt, fMax, fMin, fLen, fSqrt, fEq, fNe, dNot, dAnd, dOr, dAndV, dOrV, dNotV, dIfE, dDrop, dRetN, dPar, noO, dSetL, dLst, dOfL, dOwnM, onOwn, onDat, kAppend, kInsert, dSetItem, dAddItem, dIx, onItems, items, onInt, dNoPart, dPart, dSlice, onL, litems, dSlL, dCat, onM, mitems, dTupOf, dSeqI, dRng1, dRng2, dCallP, dCallB, dCallF, noSelf, onArgs, dats2, dIsi, tyName, dYes, dgTup, dgCons, dgNil, retB, dBreak, dCont, ne_eq, not_false_eq_true, true_and, and_true, List.getElem?_cons_zero, List.getElem?_cons_succ, List.set_cons_zero, List.set_cons_succ, Option.map, List.length_cons, List.length_nil, dBestD, dParM, dmNil, dmD, dmL, setM, dLc_eq, dLc2_eq, dFor_eq, dSortSet, dSort, dListOf, dIsN, dNotN, isNo, dAug, dMulA, dgUnl, dCatT, dSlT, onT, titems, dEnum, dZip, dZipM, seqs, dRetL, dPar3, dRevT, dLstRg, dTupRg, dRg1, dRg2, dChainLe, List.nil_append, List.cons_append, if_true, if_false, dFrz, dLcO, dMin2D, dAppX, dParL, dParLL, dRepL, fMax3, dNewDic, dDicPut, dDicGet, dSortDic, onDic, onKey, dLcW, dZipX, dParR, dDead, dSortD, dSortDT, fNeS, fEqS, dgSet, dDGet, onDict_eq, onKeyD_int, onKeyD_str, dDIn, dSortDK, onDict1_eq, dDictL, dDictEn, dDictZip, onSq1_eq, onSq2_eq, onSq_t, onSq_l, onSq_o, dNewD, dDicI, dNewDik, dDikPut, onDik, dFrzD, dNew4, dIndexD, onLst_eq, dIfL, dOrT, dAndT, onTru_int, onTru_bool, onTru_none, onTru_tuple, onTru_list, dTupA, tupA, dTupZip, dTupZipK, dZip3, dZip2, dSortKS, dSortKF, dLetSet, dLetSetK, dLetSetN, dEnumZip, dDicV, fLenD, dFgt, fEqA, fNeA, fStrI, dReprW, dLenSet, dLenSetL, dDikGet, dDikIn, dDisp1_i, dDisp1_s, fEqN, fNeN, dDef, datsF, dCallA, dCallV, fIsB, fNotB, fInA_l, fInA_t, fNotInA_l, fNotInA_t, List.map_cons, List.map_nil, fw0, fw1, fw2, fw3, fw4, fw5, fw6, fw7, fw8, fw9, fw10, fw11, fw12, fw13, fw14, fw15, on0, wipeR]
    refine ⟨few_le (by rw [List.length_map]; omega), ?_⟩
    rw [show rs.map PyData.int ++ [PyData.int (r : Int)] = (rs ++ [(r : Int)]).map .int by rw [List.map_append]; rfl]
    have hl2 : ls[rs.length]? = some l := by rw [lr]; exact hl
    refine hC2 (rs ++ [(r : Int)]) _ _ _ _ _ (by rw [List.length_append, lr]; rfl) (lst.next h0 hl2 (of_decide_eq_true hp) fun t ht => Classical.byContradiction fun z => ?_) fun y hy => ?_
    · have := hmin t ht
      rw [decide_eq_true z] at this
      cases this
    · rcases List.mem_append.mp hy with hy | hy
      · exact rg y hy
      · rw [List.mem_singleton.mp hy]; omega
  · obtain ⟨rs, sl⟩ := s
    obtain ⟨lr, lst, rg⟩ := hs
    dsimp only at lr lst rg
    show kk _
    rw [hk]
    clear hk
    walk_at "K14Z0"
    exact hQ _ ⟨rs, lst, lr, rg, rfl⟩
set_option maxHeartbeats 4000000 in
theorem ok__law_abreast {f : Addr} {fd : FuncData} (W : Fun K "_law_abreast" "_law_abreast" s__law_abreast f fd) (T : Bi mg) :
    FnG P w K mg base CX0 1 f fd ["_law_picture", "_law_spacing"] (spP K TT [.d, .d] S__law_abreast) := by
  refine fnP W sc__law_abreast rfl fun cdv A out s H E Nn hr hgd => ⟨_, _, (dss_cons (ds_setL (i := 2) sc__law_abreast.nd (pl_lst (pda_cons (pd_tup (pda_cons pd_int (pda_cons pd_int (pda_cons pd_non pda_nil)))) pda_nil)) fixP)
      (dss_cons (ds_for PassesOwn.never rfl (pdi_seq (pdv 0)) (pgd_name (i := 3) sc__law_abreast.nd) (dss_cons (ds_fgt (i := 5) (ds_set (i := 4) sc__law_abreast.nd (pd_callB call_len_seq sc_len rfl T.b_len (by decide +kernel) (pda_cons (pd_l (pl_lc (own := [("_law_one", 5)]) rfl sc__law_abreast.nd (pdi_seq (pdv 0)) (blkOk_by (own := [("_law_one", 5)]) (N := nm__law_abreast) (sc := defScope s__law_abreast) (by decide +kernel)) (fun _ _ _ _ _ => (pgd_name (i := 5) sc__law_abreast.nd)) (fun _ _ _ _ _ => (dts_one (pt_chain op_le op_lt (pd_ix (pdv 3) pd_int (fun _ _ => rfl)) (pd_ix (pdv 5) pd_int (fun _ _ => rfl)) (pd_add (pd_ix (pdv 3) pd_int (fun _ _ => rfl)) (pdv 1))))) (fun _ _ _ _ _ => pd_int))) pda_nil)) fixP) fixP)
      (dss_one (ds_expr (pd_append (i := 2) (pda_cons (pd_tup (pda_cons (pd_sub pd_int (pdv 4)) (pda_cons (pd_ix (pdv 3) pd_int (fun _ _ => rfl)) (pda_cons (pd_ix (pdv 3) pd_int (fun _ _ => rfl)) pda_nil)))) pda_nil))))) nofixP)
      (dss_cons (ds_fgt (i := 5) (ds_set (i := 6) sc__law_abreast.nd (pd_minDL rfl hr.units rfl T.b_min (pda_cons (pd_l (pl_lcO (own := [("_law_one", 5)]) (k := 2) rfl sc__law_abreast.nd (blkOk_by (own := [("_law_one", 5)]) (N := nm__law_abreast) (sc := defScope s__law_abreast) (by decide +kernel)) (fun _ _ _ _ _ => (pgd_name (i := 5) sc__law_abreast.nd)) (fun _ _ _ _ _ => dts_nil) (fun _ _ _ _ _ => (pd_sliceT (pdv 5) pdo_none (pdo_some pd_int))))) pda_nil)) fixP) fixP)
      (dss_one (ds_ret (pd_tup (pda_cons (pd_sub pd_int (pd_ix (pdv 6) pd_int (fun _ _ => rfl))) (pda_cons (pd_ifExp (pt_lt (pd_ix (pdv 6) pd_int (fun _ _ => rfl)) pd_int) (pd_ix (pdv 6) pd_int (fun _ _ => rfl)) pd_non) pda_nil)))))))), ?_⟩
  clear W T hr hgd
  rintro xs Q hl ⟨⟨ls, sp⟩, rfl, ⟨h0, h1, h2⟩, hQ⟩
  clear hl
  replace hQ : ∀ z, (∃ (m : Nat) (y : PyData), z = .tuple [.int m, y] ∧ HasC (lxs ls) sp m ∧ (∀ n, HasC (lxs ls) sp n → n ≤ m) ∧ AbrY (lxs ls) sp m y) → Q z   := hQ
  have e : rhoP nm__law_abreast.length [.d, .d] [eP ls, .int sp] = [some (.d (eP ls)), some (.d (.int sp)), none, none, none, none, none] := rfl
  rw [e]
  clear e
  refine seqI fun kk hk => ?_
  try walk_at "K14Z0"
  rw [hk]
  clear hk
  refine seqI fun kk hk => ?_
  try walk_at "K14Z5"
  refine for_st (S := List (Int × Int) × Option Ent × Option Ent) ls eLm (fun s => [some (.d (.tuple (ls.map eLm))), some (.d (.int sp)), some (.own (.tuple [.int 0, .int 0, .none] :: s.1.map fun p => .tuple [.int p.1, .int p.2, .int p.2])), s.2.1, s.2.2, none, none]) (fun i s => s.1 = (ls.take i).map fun l => (0 - ((win (lxs ls) sp l.x).length : Int), l.x)) ([], none, none) rfl rfl (fun i l s hl hI C hC => ?_) fun s hs => ?_
  · simp only [setR, List.set_cons_succ, List.set_cons_zero]
    refine seqI fun kk3 hk3 => ?_
    try simp only [dSeq, dAsg, dCB, dCons, dNil, dVar, onVs, vals, val, slot, setR, fGcd, dIfS, dTV, onV2, fLt, fLe, fGt, fGe, fAdd, fSub, fMul, fDiv, fMod, fI0, dC, dUn, onV, fNeg, dNext, dRet, dTup, onD, dats, fDivZ, fI, fPow, Few, retP, fAbs, fInt, fMax, fMin, fLen, fSqrt, fEq, fNe, dNot, dAnd, dOr, dAndV, dOrV, dNotV, dIfE, dDrop, dRetN, dPar, noO, dSetL, dLst, dOfL, dOwnM, onOwn, onDat, kAppend, kInsert, dSetItem, dAddItem, onItems, onInt, dNoPart, dPart, dSlice, onL, litems, dSlL, dCat, onM, mitems, dRng1, dRng2, dCallP, dCallB, dCallF, noSelf, onArgs, dats2, dIsi, tyName, dYes, dgCons, dgNil, retB, dBreak, dCont, ne_eq, not_false_eq_true, true_and, and_true, List.getElem?_cons_zero, List.getElem?_cons_succ, List.set_cons_zero, List.set_cons_succ, Option.map, List.length_cons, List.length_nil, dBestD, dParM, dmNil, dmD, dmL, setM, dLc_eq, dLc2_eq, dFor_eq, dSortSet, dSort, dListOf, dIsN, dNotN, isNo, dAug, dMulA, dgUnl, dSlT, onT, dEnum, dZip, dZipM, dRetL, dPar3, dRevT, dLstRg, dTupRg, dRg1, dRg2, dChainLe, List.nil_append, List.cons_append, if_true, if_false, dFrz, dLcO, dMin2D, dAppX, dParL, dParLL, dRepL, fMax3, dNewDic, dDicPut, dDicGet, dSortDic, onDic, onKey, dLcW, dZipX, dParR, dDead, dSortD, dSortDT, fNeS, fEqS, dgSet, dDGet, onDict_eq, onKeyD_int, onKeyD_str, dDIn, dSortDK, onDict1_eq, dDictL, dDictEn, dDictZip, onSq1_eq, onSq2_eq, onSq_t, onSq_l, onSq_o, dNewD, dDicI, dNewDik, dDikPut, onDik, dFrzD, dNew4, dIndexD, onLst_eq, dIfL, dOrT, dAndT, onTru_int, onTru_bool, onTru_none, onTru_tuple, onTru_list, dTupZip, dTupZipK, dZip3, dZip2, dSortKS, dSortKF, dLetSet, dLetSetK, dLetSetN, dEnumZip, dDicV, fLenD, dFgt, fEqA, fNeA, fStrI, dReprW, dLenSet, dLenSetL, dDikGet, dDikIn, dDisp1_i, dDisp1_s, fEqN, fNeN, dDef, datsF, dCallA, dCallV, fIsB, fNotB, fInA_l, fInA_t, fNotInA_l, fNotInA_t, List.map_cons, List.map_nil, fw0, fw1, fw2, fw3, fw4, fw5, fw6, fw7, fw8, fw9, fw10, fw11, fw12, fw13, fw14, fw15, dExtend, dExtendT, dLstDn, dMaxDf, dOp_ap, dIx_ap, dCatT_ap, dRepT_ap, items_l, items_t, items_o, ti_t, dgT_t, seqs_l, seqs_t, seqs_o, dSeqI_eq, wk_l, wk_t, wk_eP, wk_o, dTupOf_eq, tu_t, tu_l, tu_o, tu_eP, dTupA_eq, ta_t, ta_l, ta_o, ta_eP, items_eW, items_eB, items_eSc, items_eLm, items_eP, items_eL, items_pr, items_enc2, items_eTm, ti_eB, ti_eW, ti_eLm, ti_eP, dgT_eSc, dgT_eLm, dgT_eL, dgT_pr, dgT_enc2, dgT_eW, dgT_eTm, seqs_eP, on0, on1, on2, on3, on4, on5, on6, on7, on8, dFgt]
    refine lc_fm ls eLm (fun q => if l.x ≤ q.x ∧ q.x < l.x + sp then some (.int 1) else none) (hv1 rfl) (by omega) (fun j q hq C1 C2 n hn c1 c2 => ?_) ?_
    · simp only [dSeq, dAsg, dCB, dCons, dNil, dVar, onVs, vals, val, slot, setR, fGcd, dIfS, dTV, onV2, fLt, fLe, fGt, fGe, fAdd, fSub, fMul, fDiv, fMod, fI0, dC, dUn, onV, fNeg, dNext, dRet, dTup, onD, dats, fDivZ, fI, fPow, Few, retP, fAbs, fInt, fMax, fMin, fLen, fSqrt, fEq, fNe, dNot, dAnd, dOr, dAndV, dOrV, dNotV, dIfE, dDrop, dRetN, dPar, noO, dSetL, dLst, dOfL, dOwnM, onOwn, onDat, kAppend, kInsert, dSetItem, dAddItem, onItems, onInt, dNoPart, dPart, dSlice, onL, litems, dSlL, dCat, onM, mitems, dRng1, dRng2, dCallP, dCallB, dCallF, noSelf, onArgs, dats2, dIsi, tyName, dYes, dgCons, dgNil, retB, dBreak, dCont, ne_eq, not_false_eq_true, true_and, and_true, List.getElem?_cons_zero, List.getElem?_cons_succ, List.set_cons_zero, List.set_cons_succ, Option.map, List.length_cons, List.length_nil, dBestD, dParM, dmNil, dmD, dmL, setM, dLc_eq, dLc2_eq, dFor_eq, dSortSet, dSort, dListOf, dIsN, dNotN, isNo, dAug, dMulA, dgUnl, dSlT, onT, dEnum, dZip, dZipM, dRetL, dPar3, dRevT, dLstRg, dTupRg, dRg1, dRg2, dChainLe, List.nil_append, List.cons_append, if_true, if_false, dFrz, dLcO, dMin2D, dAppX, dParL, dParLL, dRepL, fMax3, dNewDic, dDicPut, dDicGet, dSortDic, onDic, onKey, dLcW, dZipX, dParR, dDead, dSortD, dSortDT, fNeS, fEqS, dgSet, dDGet, onDict_eq, onKeyD_int, onKeyD_str, dDIn, dSortDK, onDict1_eq, dDictL, dDictEn, dDictZip, onSq1_eq, onSq2_eq, onSq_t, onSq_l, onSq_o, dNewD, dDicI, dNewDik, dDikPut, onDik, dFrzD, dNew4, dIndexD, onLst_eq, dIfL, dOrT, dAndT, onTru_int, onTru_bool, onTru_none, onTru_tuple, onTru_list, dTupZip, dTupZipK, dZip3, dZip2, dSortKS, dSortKF, dLetSet, dLetSetK, dLetSetN, dEnumZip, dDicV, fLenD, dFgt, fEqA, fNeA, fStrI, dReprW, dLenSet, dLenSetL, dDikGet, dDikIn, dDisp1_i, dDisp1_s, fEqN, fNeN, dDef, datsF, dCallA, dCallV, fIsB, fNotB, fInA_l, fInA_t, fNotInA_l, fNotInA_t, List.map_cons, List.map_nil, fw0, fw1, fw2, fw3, fw4, fw5, fw6, fw7, fw8, fw9, fw10, fw11, fw12, fw13, fw14, fw15, dExtend, dExtendT, dLstDn, dMaxDf, dOp_ap, dIx_ap, dCatT_ap, dRepT_ap, items_l, items_t, items_o, ti_t, dgT_t, seqs_l, seqs_t, seqs_o, dSeqI_eq, wk_l, wk_t, wk_eP, wk_o, dTupOf_eq, tu_t, tu_l, tu_o, tu_eP, dTupA_eq, ta_t, ta_l, ta_o, ta_eP, items_eW, items_eB, items_eSc, items_eLm, items_eP, items_eL, items_pr, items_enc2, items_eTm, ti_eB, ti_eW, ti_eLm, ti_eP, dgT_eSc, dgT_eLm, dgT_eL, dgT_pr, dgT_enc2, dgT_eW, dgT_eTm, seqs_eP, on0, on1, on2, on3, on4, on5, on6, on7, on8, eLm, on0, wipeR]
      exact ite_b (c := l.x ≤ q.x) (fun a => ite_b (c := q.x < l.x + sp) (fun b => ⟨hn, c1 _ (if_pos ⟨a, b⟩)⟩) fun b => c2 (if_neg fun z => b z.2)) fun a => by
        rw [if_neg (by decide)]
        exact c2 (if_neg fun z => a z.1)
    rw [show (ls.filterMap fun q => if l.x ≤ q.x ∧ q.x < l.x + sp then some (PyData.int 1) else none).length = (win (lxs ls) sp l.x).length by
      unfold win lxs
      rw [List.filter_map, List.length_map, ← List.filterMap_eq_filter, List.length_filterMap_eq_countP, List.length_filterMap_eq_countP]
      refine List.countP_congr fun q _ => ?_
      by_cases z : l.x ≤ q.x ∧ q.x < l.x + sp
      · simp [z]
      · simp [z]]
    simp only [wipeR, List.set_cons_succ, List.set_cons_zero]
    rw [hk3]
    clear hk3
    try walk_at "K14Z0"
    have il := (List.getElem?_eq_some_iff.mp hl).1
    have s1 : s.1.length = i := by rw [hI, List.length_map, List.length_take]; omega
    refine ⟨few_le (by simp only [List.length_cons, List.length_map]; omega), ?_⟩
    have := hC (s.1 ++ [(0 - ((win (lxs ls) sp l.x).length : Int), l.x)], some (.d (eLm l)), some (.d (.int (win (lxs ls) sp l.x).length))) (by rw [hI, take_succ_some hl, List.map_append]; rfl)
    rw [List.map_append] at this
    exact this
  · obtain ⟨zs, a3, a4⟩ := s
    dsimp only at hs ⊢
    rw [List.take_length] at hs
    show kk [_, _, _, _, _, _, _]
    rw [hk]
    clear hk
    refine seqI fun kk hk => ?_
    have zl : zs.length = ls.length := by rw [hs, List.length_map]
    try simp only [dSeq, dAsg, dCB, dCons, dNil, dVar, onVs, vals, val, slot, setR, fGcd, dIfS, dTV, onV2, fLt, fLe, fGt, fGe, fAdd, fSub, fMul, fDiv, fMod, fI0, dC, dUn, onV, fNeg, dNext, dRet, dTup, onD, dats, fDivZ, fI, fPow, Few, retP, fAbs, fInt, fMax, fMin, fLen, fSqrt, fEq, fNe, dNot, dAnd, dOr, dAndV, dOrV, dNotV, dIfE, dDrop, dRetN, dPar, noO, dSetL, dLst, dOfL, dOwnM, onOwn, onDat, kAppend, kInsert, dSetItem, dAddItem, onItems, onInt, dNoPart, dPart, dSlice, onL, litems, dSlL, dCat, onM, mitems, dRng1, dRng2, dCallP, dCallB, dCallF, noSelf, onArgs, dats2, dIsi, tyName, dYes, dgCons, dgNil, retB, dBreak, dCont, ne_eq, not_false_eq_true, true_and, and_true, List.getElem?_cons_zero, List.getElem?_cons_succ, List.set_cons_zero, List.set_cons_succ, Option.map, List.length_cons, List.length_nil, dBestD, dParM, dmNil, dmD, dmL, setM, dLc_eq, dLc2_eq, dFor_eq, dSortSet, dSort, dListOf, dIsN, dNotN, isNo, dAug, dMulA, dgUnl, dSlT, onT, dEnum, dZip, dZipM, dRetL, dPar3, dRevT, dLstRg, dTupRg, dRg1, dRg2, dChainLe, List.nil_append, List.cons_append, if_true, if_false, dFrz, dLcO, dMin2D, dAppX, dParL, dParLL, dRepL, fMax3, dNewDic, dDicPut, dDicGet, dSortDic, onDic, onKey, dLcW, dZipX, dParR, dDead, dSortD, dSortDT, fNeS, fEqS, dgSet, dDGet, onDict_eq, onKeyD_int, onKeyD_str, dDIn, dSortDK, onDict1_eq, dDictL, dDictEn, dDictZip, onSq1_eq, onSq2_eq, onSq_t, onSq_l, onSq_o, dNewD, dDicI, dNewDik, dDikPut, onDik, dFrzD, dNew4, dIndexD, onLst_eq, dIfL, dOrT, dAndT, onTru_int, onTru_bool, onTru_none, onTru_tuple, onTru_list, dTupZip, dTupZipK, dZip3, dZip2, dSortKS, dSortKF, dLetSet, dLetSetK, dLetSetN, dEnumZip, dDicV, fLenD, dFgt, fEqA, fNeA, fStrI, dReprW, dLenSet, dLenSetL, dDikGet, dDikIn, dDisp1_i, dDisp1_s, fEqN, fNeN, dDef, datsF, dCallA, dCallV, fIsB, fNotB, fInA_l, fInA_t, fNotInA_l, fNotInA_t, List.map_cons, List.map_nil, fw0, fw1, fw2, fw3, fw4, fw5, fw6, fw7, fw8, fw9, fw10, fw11, fw12, fw13, fw14, fw15, dExtend, dExtendT, dLstDn, dMaxDf, dOp_ap, dIx_ap, dCatT_ap, dRepT_ap, items_l, items_t, items_o, ti_t, dgT_t, seqs_l, seqs_t, seqs_o, dSeqI_eq, wk_l, wk_t, wk_eP, wk_o, dTupOf_eq, tu_t, tu_l, tu_o, tu_eP, dTupA_eq, ta_t, ta_l, ta_o, ta_eP, items_eW, items_eB, items_eSc, items_eLm, items_eP, items_eL, items_pr, items_enc2, items_eTm, ti_eB, ti_eW, ti_eLm, ti_eP, dgT_eSc, dgT_eLm, dgT_eL, dgT_pr, dgT_enc2, dgT_eW, dgT_eTm, seqs_eP, on0, on1, on2, on3, on4, on5, on6, on7, on8, dFgt]
    rw [show (PyData.tuple [.int 0, .int 0, .none] :: zs.map fun p => PyData.tuple [.int p.1, .int p.2, .int p.2]) = (none :: zs.map some).map encQ by
      rw [List.map_cons, List.map_map]; rfl]
    refine lcO_map (none :: zs.map some) encQ (fun o => enc2 (prQ o)) (hv1 rfl) (by decide) rfl (by rw [List.length_cons, List.length_map]; omega) (fun j o ho C1 C2 n hn c1 => ?_) ?_
    · cases o with
      | none =>
        simp only [dSeq, dAsg, dCB, dCons, dNil, dVar, onVs, vals, val, slot, setR, fGcd, dIfS, dTV, onV2, fLt, fLe, fGt, fGe, fAdd, fSub, fMul, fDiv, fMod, fI0, dC, dUn, onV, fNeg, dNext, dRet, dTup, onD, dats, fDivZ, fI, fPow, Few, retP, fAbs, fInt, fMax, fMin, fLen, fSqrt, fEq, fNe, dNot, dAnd, dOr, dAndV, dOrV, dNotV, dIfE, dDrop, dRetN, dPar, noO, dSetL, dLst, dOfL, dOwnM, onOwn, onDat, kAppend, kInsert, dSetItem, dAddItem, onItems, onInt, dNoPart, dPart, dSlice, onL, litems, dSlL, dCat, onM, mitems, dRng1, dRng2, dCallP, dCallB, dCallF, noSelf, onArgs, dats2, dIsi, tyName, dYes, dgCons, dgNil, retB, dBreak, dCont, ne_eq, not_false_eq_true, true_and, and_true, List.getElem?_cons_zero, List.getElem?_cons_succ, List.set_cons_zero, List.set_cons_succ, Option.map, List.length_cons, List.length_nil, dBestD, dParM, dmNil, dmD, dmL, setM, dLc_eq, dLc2_eq, dFor_eq, dSortSet, dSort, dListOf, dIsN, dNotN, isNo, dAug, dMulA, dgUnl, dSlT, onT, dEnum, dZip, dZipM, dRetL, dPar3, dRevT, dLstRg, dTupRg, dRg1, dRg2, dChainLe, List.nil_append, List.cons_append, if_true, if_false, dFrz, dLcO, dMin2D, dAppX, dParL, dParLL, dRepL, fMax3, dNewDic, dDicPut, dDicGet, dSortDic, onDic, onKey, dLcW, dZipX, dParR, dDead, dSortD, dSortDT, fNeS, fEqS, dgSet, dDGet, onDict_eq, onKeyD_int, onKeyD_str, dDIn, dSortDK, onDict1_eq, dDictL, dDictEn, dDictZip, onSq1_eq, onSq2_eq, onSq_t, onSq_l, onSq_o, dNewD, dDicI, dNewDik, dDikPut, onDik, dFrzD, dNew4, dIndexD, onLst_eq, dIfL, dOrT, dAndT, onTru_int, onTru_bool, onTru_none, onTru_tuple, onTru_list, dTupZip, dTupZipK, dZip3, dZip2, dSortKS, dSortKF, dLetSet, dLetSetK, dLetSetN, dEnumZip, dDicV, fLenD, dFgt, fEqA, fNeA, fStrI, dReprW, dLenSet, dLenSetL, dDikGet, dDikIn, dDisp1_i, dDisp1_s, fEqN, fNeN, dDef, datsF, dCallA, dCallV, fIsB, fNotB, fInA_l, fInA_t, fNotInA_l, fNotInA_t, List.map_cons, List.map_nil, fw0, fw1, fw2, fw3, fw4, fw5, fw6, fw7, fw8, fw9, fw10, fw11, fw12, fw13, fw14, fw15, dExtend, dExtendT, dLstDn, dMaxDf, dOp_ap, dIx_ap, dCatT_ap, dRepT_ap, items_l, items_t, items_o, ti_t, dgT_t, seqs_l, seqs_t, seqs_o, dSeqI_eq, wk_l, wk_t, wk_eP, wk_o, dTupOf_eq, tu_t, tu_l, tu_o, tu_eP, dTupA_eq, ta_t, ta_l, ta_o, ta_eP, items_eW, items_eB, items_eSc, items_eLm, items_eP, items_eL, items_pr, items_enc2, items_eTm, ti_eB, ti_eW, ti_eLm, ti_eP, dgT_eSc, dgT_eLm, dgT_eL, dgT_pr, dgT_enc2, dgT_eW, dgT_eTm, seqs_eP, on0, on1, on2, on3, on4, on5, on6, on7, on8, encQ]
        rw [show ∀ xs, DV.cutD xs none (some 2) = xs.take 2 from fun xs => cut_take (by decide)]
        exact ⟨hn, c1⟩
      | some p =>
        simp only [dSeq, dAsg, dCB, dCons, dNil, dVar, onVs, vals, val, slot, setR, fGcd, dIfS, dTV, onV2, fLt, fLe, fGt, fGe, fAdd, fSub, fMul, fDiv, fMod, fI0, dC, dUn, onV, fNeg, dNext, dRet, dTup, onD, dats, fDivZ, fI, fPow, Few, retP, fAbs, fInt, fMax, fMin, fLen, fSqrt, fEq, fNe, dNot, dAnd, dOr, dAndV, dOrV, dNotV, dIfE, dDrop, dRetN, dPar, noO, dSetL, dLst, dOfL, dOwnM, onOwn, onDat, kAppend, kInsert, dSetItem, dAddItem, onItems, onInt, dNoPart, dPart, dSlice, onL, litems, dSlL, dCat, onM, mitems, dRng1, dRng2, dCallP, dCallB, dCallF, noSelf, onArgs, dats2, dIsi, tyName, dYes, dgCons, dgNil, retB, dBreak, dCont, ne_eq, not_false_eq_true, true_and, and_true, List.getElem?_cons_zero, List.getElem?_cons_succ, List.set_cons_zero, List.set_cons_succ, Option.map, List.length_cons, List.length_nil, dBestD, dParM, dmNil, dmD, dmL, setM, dLc_eq, dLc2_eq, dFor_eq, dSortSet, dSort, dListOf, dIsN, dNotN, isNo, dAug, dMulA, dgUnl, dSlT, onT, dEnum, dZip, dZipM, dRetL, dPar3, dRevT, dLstRg, dTupRg, dRg1, dRg2, dChainLe, List.nil_append, List.cons_append, if_true, if_false, dFrz, dLcO, dMin2D, dAppX, dParL, dParLL, dRepL, fMax3, dNewDic, dDicPut, dDicGet, dSortDic, onDic, onKey, dLcW, dZipX, dParR, dDead, dSortD, dSortDT, fNeS, fEqS, dgSet, dDGet, onDict_eq, onKeyD_int, onKeyD_str, dDIn, dSortDK, onDict1_eq, dDictL, dDictEn, dDictZip, onSq1_eq, onSq2_eq, onSq_t, onSq_l, onSq_o, dNewD, dDicI, dNewDik, dDikPut, onDik, dFrzD, dNew4, dIndexD, onLst_eq, dIfL, dOrT, dAndT, onTru_int, onTru_bool, onTru_none, onTru_tuple, onTru_list, dTupZip, dTupZipK, dZip3, dZip2, dSortKS, dSortKF, dLetSet, dLetSetK, dLetSetN, dEnumZip, dDicV, fLenD, dFgt, fEqA, fNeA, fStrI, dReprW, dLenSet, dLenSetL, dDikGet, dDikIn, dDisp1_i, dDisp1_s, fEqN, fNeN, dDef, datsF, dCallA, dCallV, fIsB, fNotB, fInA_l, fInA_t, fNotInA_l, fNotInA_t, List.map_cons, List.map_nil, fw0, fw1, fw2, fw3, fw4, fw5, fw6, fw7, fw8, fw9, fw10, fw11, fw12, fw13, fw14, fw15, dExtend, dExtendT, dLstDn, dMaxDf, dOp_ap, dIx_ap, dCatT_ap, dRepT_ap, items_l, items_t, items_o, ti_t, dgT_t, seqs_l, seqs_t, seqs_o, dSeqI_eq, wk_l, wk_t, wk_eP, wk_o, dTupOf_eq, tu_t, tu_l, tu_o, tu_eP, dTupA_eq, ta_t, ta_l, ta_o, ta_eP, items_eW, items_eB, items_eSc, items_eLm, items_eP, items_eL, items_pr, items_enc2, items_eTm, ti_eB, ti_eW, ti_eLm, ti_eP, dgT_eSc, dgT_eLm, dgT_eL, dgT_pr, dgT_enc2, dgT_eW, dgT_eTm, seqs_eP, on0, on1, on2, on3, on4, on5, on6, on7, on8, encQ]
        rw [show ∀ xs, DV.cutD xs none (some 2) = xs.take 2 from fun xs => cut_take (by decide)]
        exact ⟨hn, c1⟩
    rw [show ((none :: zs.map some).map fun o => enc2 (prQ o)) = enc2 (0, 0) :: zs.map enc2 by
      rw [List.map_cons, List.map_map]; rfl]
    refine ⟨alike_prs ((0, 0) :: zs), depth_prs zs (0, 0), ?_⟩
    rw [minD_map enc2 (fun p q => decide (p.1 < q.1 ∨ (p.1 = q.1 ∧ p.2 < q.2))) (fun p q => dataLt_pr)]
    obtain ⟨b1, b2⟩ := fold_least (fun p q : P2 => p.1 < q.1 ∨ (p.1 = q.1 ∧ p.2 ≤ q.2)) (fun p q => decide (p.1 < q.1 ∨ (p.1 = q.1 ∧ p.2 < q.2))) (fun a => .inr ⟨rfl, Int.le_refl _⟩) (fun a b c x y => by omega) (fun a b x => by rw [decide_eq_true_eq] at x; omega) (fun a b x => by rw [decide_eq_false_iff_not] at x; omega) zs (0, 0)
    generalize zs.foldl (fun a y => if decide (y.1 < a.1 ∨ (y.1 = a.1 ∧ y.2 < a.2)) = true then y else a) (0, 0) = best at b1 b2
    obtain ⟨p, x⟩ := best
    simp only [dSeq, dAsg, dCB, dCons, dNil, dVar, onVs, vals, val, slot, setR, fGcd, dIfS, dTV, onV2, fLt, fLe, fGt, fGe, fAdd, fSub, fMul, fDiv, fMod, fI0, dC, dUn, onV, fNeg, dNext, dRet, dTup, onD, dats, fDivZ, fI, fPow, Few, retP, fAbs, fInt, fMax, fMin, fLen, fSqrt, fEq, fNe, dNot, dAnd, dOr, dAndV, dOrV, dNotV, dIfE, dDrop, dRetN, dPar, noO, dSetL, dLst, dOfL, dOwnM, onOwn, onDat, kAppend, kInsert, dSetItem, dAddItem, onItems, onInt, dNoPart, dPart, dSlice, onL, litems, dSlL, dCat, onM, mitems, dRng1, dRng2, dCallP, dCallB, dCallF, noSelf, onArgs, dats2, dIsi, tyName, dYes, dgCons, dgNil, retB, dBreak, dCont, ne_eq, not_false_eq_true, true_and, and_true, List.getElem?_cons_zero, List.getElem?_cons_succ, List.set_cons_zero, List.set_cons_succ, Option.map, List.length_cons, List.length_nil, dBestD, dParM, dmNil, dmD, dmL, setM, dLc_eq, dLc2_eq, dFor_eq, dSortSet, dSort, dListOf, dIsN, dNotN, isNo, dAug, dMulA, dgUnl, dSlT, onT, dEnum, dZip, dZipM, dRetL, dPar3, dRevT, dLstRg, dTupRg, dRg1, dRg2, dChainLe, List.nil_append, List.cons_append, if_true, if_false, dFrz, dLcO, dMin2D, dAppX, dParL, dParLL, dRepL, fMax3, dNewDic, dDicPut, dDicGet, dSortDic, onDic, onKey, dLcW, dZipX, dParR, dDead, dSortD, dSortDT, fNeS, fEqS, dgSet, dDGet, onDict_eq, onKeyD_int, onKeyD_str, dDIn, dSortDK, onDict1_eq, dDictL, dDictEn, dDictZip, onSq1_eq, onSq2_eq, onSq_t, onSq_l, onSq_o, dNewD, dDicI, dNewDik, dDikPut, onDik, dFrzD, dNew4, dIndexD, onLst_eq, dIfL, dOrT, dAndT, onTru_int, onTru_bool, onTru_none, onTru_tuple, onTru_list, dTupZip, dTupZipK, dZip3, dZip2, dSortKS, dSortKF, dLetSet, dLetSetK, dLetSetN, dEnumZip, dDicV, fLenD, dFgt, fEqA, fNeA, fStrI, dReprW, dLenSet, dLenSetL, dDikGet, dDikIn, dDisp1_i, dDisp1_s, fEqN, fNeN, dDef, datsF, dCallA, dCallV, fIsB, fNotB, fInA_l, fInA_t, fNotInA_l, fNotInA_t, List.map_cons, List.map_nil, fw0, fw1, fw2, fw3, fw4, fw5, fw6, fw7, fw8, fw9, fw10, fw11, fw12, fw13, fw14, fw15, dExtend, dExtendT, dLstDn, dMaxDf, dOp_ap, dIx_ap, dCatT_ap, dRepT_ap, items_l, items_t, items_o, ti_t, dgT_t, seqs_l, seqs_t, seqs_o, dSeqI_eq, wk_l, wk_t, wk_eP, wk_o, dTupOf_eq, tu_t, tu_l, tu_o, tu_eP, dTupA_eq, ta_t, ta_l, ta_o, ta_eP, items_eW, items_eB, items_eSc, items_eLm, items_eP, items_eL, items_pr, items_enc2, items_eTm, ti_eB, ti_eW, ti_eLm, ti_eP, dgT_eSc, dgT_eLm, dgT_eL, dgT_pr, dgT_enc2, dgT_eW, dgT_eTm, seqs_eP, on0, on1, on2, on3, on4, on5, on6, on7, on8, wipeR, List.set_cons_succ, List.set_cons_zero]
    rw [hk]
    clear hk
    simp only [dSeq, dAsg, dCB, dCons, dNil, dVar, onVs, vals, val, slot, setR, fGcd, dIfS, dTV, onV2, fLt, fLe, fGt, fGe, fAdd, fSub, fMul, fDiv, fMod, fI0, dC, dUn, onV, fNeg, dNext, dRet, dTup, onD, dats, fDivZ, fI, fPow, Few, retP, fAbs, fInt, fMax, fMin, fLen, fSqrt, fEq, fNe, dNot, dAnd, dOr, dAndV, dOrV, dNotV, dIfE, dDrop, dRetN, dPar, noO, dSetL, dLst, dOfL, dOwnM, onOwn, onDat, kAppend, kInsert, dSetItem, dAddItem, onItems, onInt, dNoPart, dPart, dSlice, onL, litems, dSlL, dCat, onM, mitems, dRng1, dRng2, dCallP, dCallB, dCallF, noSelf, onArgs, dats2, dIsi, tyName, dYes, dgCons, dgNil, retB, dBreak, dCont, ne_eq, not_false_eq_true, true_and, and_true, List.getElem?_cons_zero, List.getElem?_cons_succ, List.set_cons_zero, List.set_cons_succ, Option.map, List.length_cons, List.length_nil, dBestD, dParM, dmNil, dmD, dmL, setM, dLc_eq, dLc2_eq, dFor_eq, dSortSet, dSort, dListOf, dIsN, dNotN, isNo, dAug, dMulA, dgUnl, dSlT, onT, dEnum, dZip, dZipM, dRetL, dPar3, dRevT, dLstRg, dTupRg, dRg1, dRg2, dChainLe, List.nil_append, List.cons_append, if_true, if_false, dFrz, dLcO, dMin2D, dAppX, dParL, dParLL, dRepL, fMax3, dNewDic, dDicPut, dDicGet, dSortDic, onDic, onKey, dLcW, dZipX, dParR, dDead, dSortD, dSortDT, fNeS, fEqS, dgSet, dDGet, onDict_eq, onKeyD_int, onKeyD_str, dDIn, dSortDK, onDict1_eq, dDictL, dDictEn, dDictZip, onSq1_eq, onSq2_eq, onSq_t, onSq_l, onSq_o, dNewD, dDicI, dNewDik, dDikPut, onDik, dFrzD, dNew4, dIndexD, onLst_eq, dIfL, dOrT, dAndT, onTru_int, onTru_bool, onTru_none, onTru_tuple, onTru_list, dTupZip, dTupZipK, dZip3, dZip2, dSortKS, dSortKF, dLetSet, dLetSetK, dLetSetN, dEnumZip, dDicV, fLenD, dFgt, fEqA, fNeA, fStrI, dReprW, dLenSet, dLenSetL, dDikGet, dDikIn, dDisp1_i, dDisp1_s, fEqN, fNeN, dDef, datsF, dCallA, dCallV, fIsB, fNotB, fInA_l, fInA_t, fNotInA_l, fNotInA_t, List.map_cons, List.map_nil, fw0, fw1, fw2, fw3, fw4, fw5, fw6, fw7, fw8, fw9, fw10, fw11, fw12, fw13, fw14, fw15, dExtend, dExtendT, dLstDn, dMaxDf, dOp_ap, dIx_ap, dCatT_ap, dRepT_ap, items_l, items_t, items_o, ti_t, dgT_t, seqs_l, seqs_t, seqs_o, dSeqI_eq, wk_l, wk_t, wk_eP, wk_o, dTupOf_eq, tu_t, tu_l, tu_o, tu_eP, dTupA_eq, ta_t, ta_l, ta_o, ta_eP, items_eW, items_eB, items_eSc, items_eLm, items_eP, items_eL, items_pr, items_enc2, items_eTm, ti_eB, ti_eW, ti_eLm, ti_eP, dgT_eSc, dgT_eLm, dgT_eL, dgT_pr, dgT_enc2, dgT_eW, dgT_eTm, seqs_eP, on0, on1, on2, on3, on4, on5, on6, on7, on8, enc2, pr, on0, on1]
    have mem : ∀ a ∈ lxs ls, ((0 - ((win (lxs ls) sp a).length : Int), a) : P2) ∈ zs := fun a ha => by
      obtain ⟨l, hl, rfl⟩ := List.mem_map.mp ha
      rw [hs]
      exact List.mem_map.mpr ⟨l, hl, rfl⟩
    have up1 : ∀ a ∈ lxs ls, 1 ≤ (win (lxs ls) sp a).length := fun a ha => List.length_pos_of_mem (List.mem_filter.mpr ⟨ha, by rw [decide_eq_true_eq]; omega⟩)
    rcases List.mem_cons.mp b1 with e | e
    · injection e with e1 e2
      subst e1 e2
      rw [if_neg (by decide)]
      refine hQ _ ⟨0, .none, rfl, .zero, fun n hn => ?_, .inl ⟨rfl, rfl⟩⟩
      rcases Nat.eq_zero_or_pos n with z | z
      · omega
      obtain ⟨a, ha, hw⟩ := has_at h0 z hn
      have := b2 _ (List.mem_cons_of_mem _ (mem a ha))
      dsimp only at this
      omega
    · rw [hs] at e
      obtain ⟨l, hl, e⟩ := List.mem_map.mp e
      injection e with e1 e2
      subst e1 e2
      have ax : l.x ∈ lxs ls := List.mem_map.mpr ⟨l, hl, rfl⟩
      have a1 := up1 _ ax
      refine ite_t (c := (0 : Int) - ((win (lxs ls) sp l.x).length : Int) < 0) (by omega) ?_
      refine hQ _ ⟨(win (lxs ls) sp l.x).length, .int l.x, ?_, ⟨l.x, Nat.le_refl _⟩, fun n hn => ?_, .inr ⟨l.x, rfl, a1, ax, Nat.le_refl _, fun b hb lt => ?_⟩⟩
      · rw [show (0 : Int) - (0 - ((win (lxs ls) sp l.x).length : Int)) = ((win (lxs ls) sp l.x).length : Int) by omega]
      · rcases Nat.eq_zero_or_pos n with z | z
        · omega
        obtain ⟨a, ha, hw⟩ := has_at h0 z hn
        have := b2 _ (List.mem_cons_of_mem _ (mem a ha))
        dsimp only at this
        omega
      · have := b2 _ (List.mem_cons_of_mem _ (mem b hb))
        dsimp only at this
        omega
set_option maxHeartbeats 4000000 in
theorem ok__law_are_rows {f : Addr} {fd : FuncData} (W : Fun K "_law_are_rows" "_law_are_rows" s__law_are_rows f fd) (T : Bi mg) :
    FnG P w K mg base CX0 1 f fd ["_law_picture", "_law_spacing", "_law_rows_here"] (spP K TT [.d, .d, .d] S__law_are_rows) := by
  refine fnP W sc__law_are_rows rfl fun cdv A out s H E Nn hr hgd => ⟨_, _, (dss_cons (ds_for PassesOwn.never rfl (pdi_enum rfl T.b_enumerate (pda_cons (pdv 0) pda_nil)) (pgd_tup (n := 2) rfl (pgds_cons (pgd_name (i := 3) sc__law_are_rows.nd) (pgds_cons (pgd_name (i := 4) sc__law_are_rows.nd) pgds_nil))) (dss_one (ds_fgt (i := 5) (ds_if (pt_ne hr.units rfl (pd_l (pl_lc (own := [("_law_k", 5)]) rfl sc__law_are_rows.nd (pdi_range1 rfl T.b_range (pda_cons (pdv 3) pda_nil)) (blkOk_by (own := [("_law_k", 5)]) (N := nm__law_are_rows) (sc := defScope s__law_are_rows) (by decide +kernel)) (fun _ _ _ _ _ => (pgd_name (i := 5) sc__law_are_rows.nd)) (fun _ _ _ _ _ => (dts_one (pt_w (pwd_and (pt_eq hr.units rfl (pd_ix (pdv 2) (pdv 5) (fun _ _ => rfl)) (pd_ix (pdv 2) (pdv 3) (fun _ _ => rfl))) (pwd_and1 (pt_lt (pd_sub (pd_ix (pdv 4) pd_int (fun _ _ => rfl)) (pd_ix (pd_ix (pdv 0) (pdv 5) (fun _ _ => rfl)) pd_int (fun _ _ => rfl))) (pdv 1))))))) (fun _ _ _ _ _ => (pdv 5)))) (pd_l (pl_lst pda_nil))) (dss_one (ds_ret pd_bl)) dss_nil) fixP)) nofixP)
      (dss_one (ds_ret pd_bl))), ?_⟩
  clear W T hr hgd
  rintro xs Q hl ⟨⟨ls, sp, rs⟩, rfl, ⟨h0, h1⟩, hQ⟩
  clear hl
  replace hQ : ∀ z, (∃ b : Bool, z = .bool b ∧ (b = true ↔ rowsOk (lxs ls) sp rs)) → Q z   := hQ
  have e : rhoP nm__law_are_rows.length [.d, .d, .d] [eP ls, .int sp, .tuple (rs.map .int)] = [some (.d (eP ls)), some (.d (.int sp)), some (.d (.tuple (rs.map .int))), none, none, none] := rfl
  rw [e]
  clear e
  walk_at "K14Z5"
  refine for_en (S := Option Ent × Option Ent) ls eLm (fun s => [some (.d (.tuple (ls.map eLm))), some (.d (.int sp)), some (.d (.tuple (rs.map .int))), s.1, s.2, none]) (fun i s => ∀ p q a b r, q < i → p < q → (lxs ls)[p]? = some a → (lxs ls)[q]? = some b → rs[p]? = some r → rs[q]? = some r → sp ≤ b - a) (none, none) rfl (fun p q a b r h => absurd h (Nat.not_lt_zero _)) (fun i l s hl hI C hC => ?_) fun s hs => ?_
  · have il := (List.getElem?_eq_some_iff.mp hl).1
    have rl := List.getElem?_eq_getElem (show i < rs.length by omega)
    generalize rs[i]'(by omega) = ri at rl
    have xl : (lxs ls)[i]? = some l.x := lxs_at hl
    simp only [dgTup, dgCons, dgNil, setR, List.set_cons_succ, List.set_cons_zero]
    refine ⟨rfl, ?_⟩
    try simp only [dSeq, dAsg, dCB, dCons, dNil, dVar, onVs, vals, val, slot, setR, fGcd, dIfS, dTV, onV2, fLt, fLe, fGt, fGe, fAdd, fSub, fMul, fDiv, fMod, fI0, dC, dUn, onV, fNeg, dNext, dRet, dTup, onD, dats, fDivZ, fI, fPow, Few, retP, fAbs, fInt, fMax, fMin, fLen, fSqrt, fEq, fNe, dNot, dAnd, dOr, dAndV, dOrV, dNotV, dIfE, dDrop, dRetN, dPar, noO, dSetL, dLst, dOfL, dOwnM, onOwn, onDat, kAppend, kInsert, dSetItem, dAddItem, onItems, onInt, dNoPart, dPart, dSlice, onL, litems, dSlL, dCat, onM, mitems, dRng1, dRng2, dCallP, dCallB, dCallF, noSelf, onArgs, dats2, dIsi, tyName, dYes, dgCons, dgNil, retB, dBreak, dCont, ne_eq, not_false_eq_true, true_and, and_true, List.getElem?_cons_zero, List.getElem?_cons_succ, List.set_cons_zero, List.set_cons_succ, Option.map, List.length_cons, List.length_nil, dBestD, dParM, dmNil, dmD, dmL, setM, dLc_eq, dLc2_eq, dFor_eq, dSortSet, dSort, dListOf, dIsN, dNotN, isNo, dAug, dMulA, dgUnl, dSlT, onT, dEnum, dZip, dZipM, dRetL, dPar3, dRevT, dLstRg, dTupRg, dRg1, dRg2, dChainLe, List.nil_append, List.cons_append, if_true, if_false, dFrz, dLcO, dMin2D, dAppX, dParL, dParLL, dRepL, fMax3, dNewDic, dDicPut, dDicGet, dSortDic, onDic, onKey, dLcW, dZipX, dParR, dDead, dSortD, dSortDT, fNeS, fEqS, dgSet, dDGet, onDict_eq, onKeyD_int, onKeyD_str, dDIn, dSortDK, onDict1_eq, dDictL, dDictEn, dDictZip, onSq1_eq, onSq2_eq, onSq_t, onSq_l, onSq_o, dNewD, dDicI, dNewDik, dDikPut, onDik, dFrzD, dNew4, dIndexD, onLst_eq, dIfL, dOrT, dAndT, onTru_int, onTru_bool, onTru_none, onTru_tuple, onTru_list, dTupZip, dTupZipK, dZip3, dZip2, dSortKS, dSortKF, dLetSet, dLetSetK, dLetSetN, dEnumZip, dDicV, fLenD, dFgt, fEqA, fNeA, fStrI, dReprW, dLenSet, dLenSetL, dDikGet, dDikIn, dDisp1_i, dDisp1_s, fEqN, fNeN, dDef, datsF, dCallA, dCallV, fIsB, fNotB, fInA_l, fInA_t, fNotInA_l, fNotInA_t, List.map_cons, List.map_nil, fw0, fw1, fw2, fw3, fw4, fw5, fw6, fw7, fw8, fw9, fw10, fw11, fw12, fw13, fw14, fw15, dExtend, dExtendT, dLstDn, dMaxDf, dOp_ap, dIx_ap, dCatT_ap, dRepT_ap, items_l, items_t, items_o, ti_t, dgT_t, seqs_l, seqs_t, seqs_o, dSeqI_eq, wk_l, wk_t, wk_eP, wk_o, dTupOf_eq, tu_t, tu_l, tu_o, tu_eP, dTupA_eq, ta_t, ta_l, ta_o, ta_eP, items_eW, items_eB, items_eSc, items_eLm, items_eP, items_eL, items_pr, items_enc2, items_eTm, ti_eB, ti_eW, ti_eLm, ti_eP, dgT_eSc, dgT_eLm, dgT_eL, dgT_pr, dgT_enc2, dgT_eW, dgT_eTm, seqs_eP, on0, on1, on2, on3, on4, on5, on6, on7, on8, dFgt, List.set_cons_succ, List.set_cons_zero]
    refine ⟨⟨by omega, by omega⟩, ?_⟩
    rw [show ((i : Int)).toNat = i by omega, rng_map]
    refine lc_fm (List.range i) _ (fun k : Nat => (if rs[k]? = some ri ∧ l.x - lxAt ls k < sp then some (k : Int) else none : Option Int).map .int) (hv1 rfl) (by rw [List.length_range]; omega) (fun j k hk1 C1 C2 n hn c1 c2 => ?_) ?_
    · have ki : k < i := List.mem_range.mp (List.mem_of_getElem? hk1)
      have kl := List.getElem?_eq_getElem (show k < ls.length by omega)
      have kr := List.getElem?_eq_getElem (show k < rs.length by omega)
      generalize ls[k]'(by omega) = lk at kl
      generalize rs[k]'(by omega) = rk at kr
      try simp only [dSeq, dAsg, dCB, dCons, dNil, dVar, onVs, vals, val, slot, setR, fGcd, dIfS, dTV, onV2, fLt, fLe, fGt, fGe, fAdd, fSub, fMul, fDiv, fMod, fI0, dC, dUn, onV, fNeg, dNext, dRet, dTup, onD, dats, fDivZ, fI, fPow, Few, retP, fAbs, fInt, fMax, fMin, fLen, fSqrt, fEq, fNe, dNot, dAnd, dOr, dAndV, dOrV, dNotV, dIfE, dDrop, dRetN, dPar, noO, dSetL, dLst, dOfL, dOwnM, onOwn, onDat, kAppend, kInsert, dSetItem, dAddItem, onItems, onInt, dNoPart, dPart, dSlice, onL, litems, dSlL, dCat, onM, mitems, dRng1, dRng2, dCallP, dCallB, dCallF, noSelf, onArgs, dats2, dIsi, tyName, dYes, dgCons, dgNil, retB, dBreak, dCont, ne_eq, not_false_eq_true, true_and, and_true, List.getElem?_cons_zero, List.getElem?_cons_succ, List.set_cons_zero, List.set_cons_succ, Option.map, List.length_cons, List.length_nil, dBestD, dParM, dmNil, dmD, dmL, setM, dLc_eq, dLc2_eq, dFor_eq, dSortSet, dSort, dListOf, dIsN, dNotN, isNo, dAug, dMulA, dgUnl, dSlT, onT, dEnum, dZip, dZipM, dRetL, dPar3, dRevT, dLstRg, dTupRg, dRg1, dRg2, dChainLe, List.nil_append, List.cons_append, if_true, if_false, dFrz, dLcO, dMin2D, dAppX, dParL, dParLL, dRepL, fMax3, dNewDic, dDicPut, dDicGet, dSortDic, onDic, onKey, dLcW, dZipX, dParR, dDead, dSortD, dSortDT, fNeS, fEqS, dgSet, dDGet, onDict_eq, onKeyD_int, onKeyD_str, dDIn, dSortDK, onDict1_eq, dDictL, dDictEn, dDictZip, onSq1_eq, onSq2_eq, onSq_t, onSq_l, onSq_o, dNewD, dDicI, dNewDik, dDikPut, onDik, dFrzD, dNew4, dIndexD, onLst_eq, dIfL, dOrT, dAndT, onTru_int, onTru_bool, onTru_none, onTru_tuple, onTru_list, dTupZip, dTupZipK, dZip3, dZip2, dSortKS, dSortKF, dLetSet, dLetSetK, dLetSetN, dEnumZip, dDicV, fLenD, dFgt, fEqA, fNeA, fStrI, dReprW, dLenSet, dLenSetL, dDikGet, dDikIn, dDisp1_i, dDisp1_s, fEqN, fNeN, dDef, datsF, dCallA, dCallV, fIsB, fNotB, fInA_l, fInA_t, fNotInA_l, fNotInA_t, List.map_cons, List.map_nil, fw0, fw1, fw2, fw3, fw4, fw5, fw6, fw7, fw8, fw9, fw10, fw11, fw12, fw13, fw14, fw15, dExtend, dExtendT, dLstDn, dMaxDf, dOp_ap, dIx_ap, dCatT_ap, dRepT_ap, items_l, items_t, items_o, ti_t, dgT_t, seqs_l, seqs_t, seqs_o, dSeqI_eq, wk_l, wk_t, wk_eP, wk_o, dTupOf_eq, tu_t, tu_l, tu_o, tu_eP, dTupA_eq, ta_t, ta_l, ta_o, ta_eP, items_eW, items_eB, items_eSc, items_eLm, items_eP, items_eL, items_pr, items_enc2, items_eTm, ti_eB, ti_eW, ti_eLm, ti_eP, dgT_eSc, dgT_eLm, dgT_eL, dgT_pr, dgT_enc2, dgT_eW, dgT_eTm, seqs_eP, on0, on1, on2, on3, on4, on5, on6, on7, on8, setR, List.set_cons_succ, List.set_cons_zero, Int.zero_add]
      rw [on_map kr rfl]
      try walk_at "K14Z0"
      rw [on_map rl rfl]
      try walk_at "K14Z0"
      have e1 : lxAt ls k = lk.x := by unfold lxAt; rw [kl]; rfl
      rw [e1, kr] at c1 c2
      refine ⟨sh_int, sh_int, ?_⟩
      refine ite_i (fun h => ?_) fun h => ?_
      · subst h
        rw [on_map kl rfl]
        walk_at "K14Z2"
        refine ite_b (c := l.x - lk.x < sp) (fun y => ⟨hn, c1 _ (by rw [if_pos ⟨rfl, y⟩]; rfl)⟩) fun y => c2 (by rw [if_neg fun z => y z.2]; rfl)
      · simp only [dSeq, dAsg, dCB, dCons, dNil, dVar, onVs, vals, val, slot, setR, fGcd, dIfS, dTV, onV2, fLt, fLe, fGt, fGe, fAdd, fSub, fMul, fDiv, fMod, fI0, dC, dUn, onV, fNeg, dNext, dRet, dTup, onD, dats, fDivZ, fI, fPow, Few, retP, fAbs, fInt, fMax, fMin, fLen, fSqrt, fEq, fNe, dNot, dAnd, dOr, dAndV, dOrV, dNotV, dIfE, dDrop, dRetN, dPar, noO, dSetL, dLst, dOfL, dOwnM, onOwn, onDat, kAppend, kInsert, dSetItem, dAddItem, onItems, onInt, dNoPart, dPart, dSlice, onL, litems, dSlL, dCat, onM, mitems, dRng1, dRng2, dCallP, dCallB, dCallF, noSelf, onArgs, dats2, dIsi, tyName, dYes, dgCons, dgNil, retB, dBreak, dCont, ne_eq, not_false_eq_true, true_and, and_true, List.getElem?_cons_zero, List.getElem?_cons_succ, List.set_cons_zero, List.set_cons_succ, Option.map, List.length_cons, List.length_nil, dBestD, dParM, dmNil, dmD, dmL, setM, dLc_eq, dLc2_eq, dFor_eq, dSortSet, dSort, dListOf, dIsN, dNotN, isNo, dAug, dMulA, dgUnl, dSlT, onT, dEnum, dZip, dZipM, dRetL, dPar3, dRevT, dLstRg, dTupRg, dRg1, dRg2, dChainLe, List.nil_append, List.cons_append, if_true, if_false, dFrz, dLcO, dMin2D, dAppX, dParL, dParLL, dRepL, fMax3, dNewDic, dDicPut, dDicGet, dSortDic, onDic, onKey, dLcW, dZipX, dParR, dDead, dSortD, dSortDT, fNeS, fEqS, dgSet, dDGet, onDict_eq, onKeyD_int, onKeyD_str, dDIn, dSortDK, onDict1_eq, dDictL, dDictEn, dDictZip, onSq1_eq, onSq2_eq, onSq_t, onSq_l, onSq_o, dNewD, dDicI, dNewDik, dDikPut, onDik, dFrzD, dNew4, dIndexD, onLst_eq, dIfL, dOrT, dAndT, onTru_int, onTru_bool, onTru_none, onTru_tuple, onTru_list, dTupZip, dTupZipK, dZip3, dZip2, dSortKS, dSortKF, dLetSet, dLetSetK, dLetSetN, dEnumZip, dDicV, fLenD, dFgt, fEqA, fNeA, fStrI, dReprW, dLenSet, dLenSetL, dDikGet, dDikIn, dDisp1_i, dDisp1_s, fEqN, fNeN, dDef, datsF, dCallA, dCallV, fIsB, fNotB, fInA_l, fInA_t, fNotInA_l, fNotInA_t, List.map_cons, List.map_nil, fw0, fw1, fw2, fw3, fw4, fw5, fw6, fw7, fw8, fw9, fw10, fw11, fw12, fw13, fw14, fw15, dExtend, dExtendT, dLstDn, dMaxDf, dOp_ap, dIx_ap, dCatT_ap, dRepT_ap, items_l, items_t, items_o, ti_t, dgT_t, seqs_l, seqs_t, seqs_o, dSeqI_eq, wk_l, wk_t, wk_eP, wk_o, dTupOf_eq, tu_t, tu_l, tu_o, tu_eP, dTupA_eq, ta_t, ta_l, ta_o, ta_eP, items_eW, items_eB, items_eSc, items_eLm, items_eP, items_eL, items_pr, items_enc2, items_eTm, ti_eB, ti_eW, ti_eLm, ti_eP, dgT_eSc, dgT_eLm, dgT_eL, dgT_pr, dgT_enc2, dgT_eW, dgT_eTm, seqs_eP, on0, on1, on2, on3, on4, on5, on6, on7, on8, wipeR, Bool.false_eq_true, if_false]
        exact c2 (by rw [if_neg fun z => h (by injection z.1)]; rfl)
    · rw [← List.map_filterMap]
      refine ⟨sh_ints, sh_ints (xs := []), ?_⟩
      rw [eqv_nilL]
      refine ite_nb (c := ((List.range i).filterMap fun k : Nat => if rs[k]? = some ri ∧ l.x - lxAt ls k < sp then some (k : Int) else none) = []) (fun h => ?_) fun h => ?_
      · refine hQ _ ⟨false, rfl, fun z => absurd z Bool.false_ne_true, fun ok => absurd ?_ h⟩
        rw [List.filterMap_eq_nil_iff]
        intro k hk
        have ki : k < i := List.mem_range.mp hk
        have kl := List.getElem?_eq_getElem (show k < ls.length by omega)
        generalize ls[k]'(by omega) = lk at kl
        refine if_neg fun z => ?_
        have := ok k i lk.x l.x ri ki (lxs_at kl) xl z.1 rl
        have e1 : lxAt ls k = lk.x := by unfold lxAt; rw [kl]; rfl
        rw [e1] at z
        omega
      · simp only [wipeR, List.set_cons_succ, List.set_cons_zero]
        refine hC (_, _) fun p q a b r hq hp ha hb h1 h2 => ?_
        rcases Nat.lt_or_ge q i with hq2 | hq2
        · exact hI p q a b r hq2 hp ha hb h1 h2
        · obtain rfl : q = i := by omega
          rw [List.filterMap_eq_nil_iff] at h
          have hz := h p (List.mem_range.mpr hp)
          rw [rl] at h2
          cases h2
          rw [xl] at hb
          cases hb
          have kl := List.getElem?_eq_getElem (show p < ls.length by omega)
          generalize ls[p]'(by omega) = lk at kl
          rw [lxs_at kl] at ha
          cases ha
          have e1 : lxAt ls p = lk.x := by unfold lxAt; rw [kl]; rfl
          rw [e1] at hz
          refine Classical.byContradiction fun z => ?_
          rw [if_pos ⟨h1, by omega⟩] at hz
          cases hz
  · refine hQ _ ⟨true, rfl, fun _ p q a b r hp ha hb h1 h2 => hs p q a b r ?_ hp ha hb h1 h2, fun _ => rfl⟩
    have := (List.getElem?_eq_some_iff.mp h2).1
    omega
set_option maxHeartbeats 4000000 in
theorem ok_is_natural {f : Addr} {fd : FuncData} (W : Fun K "is_natural" "is_natural" s_is_natural f fd) (T : Bi mg)
    {f_is_integer : Addr} {fd_is_integer : FuncData} (G_is_integer : FnG P w K mg base CX0 1 f_is_integer fd_is_integer ["thing"] (spP K TT [.d] S_is_integer)) (g_is_integer : mg "is_integer" = some (.ref f_is_integer)) (k_is_integer : PySem.W.keepIn K (.ref f_is_integer) = true) (b_is_integer : Binds K fd_is_integer ["thing"] []) :
    FnG P w K mg base CX0 2 f fd ["thing"] (spP K TT [.d] S_is_natural) := by
  refine fnP W sc_is_natural rfl fun cdv A out s H E Nn hr hgd => ⟨_, _, (dss_one (ds_ret (pd_and (pd_callP G_is_integer m_is_integer (hr.mono (by decide)) hgd rfl g_is_integer k_is_integer b_is_integer (pda_cons (pdv 0) pda_nil)) (pdn_one (pd_ge (pdv 0) pd_int))))), ?_⟩
  clear W T hr hgd G_is_integer g_is_integer k_is_integer b_is_integer f_is_integer fd_is_integer
  rintro xs Q hl ⟨d, rfl, _, hQ⟩
  clear hl
  replace hQ : Q (.bool (isN d)) := hQ
  have e : rhoP nm_is_natural.length [.d] [d] = [some (.d (d))] := rfl
  rw [e]
  clear e
  try walk_at "K14Z0"
  refine u_is_integer ?_
  cases d with
  | int i =>
    simp only [dSeq, dAsg, dCB, dCons, dNil, dVar, onVs, vals, val, slot, setR, fGcd, dIfS, dTV, onV2, fLt, fLe, fGt, fGe, fAdd, fSub, fMul, fDiv, fMod, fI0, dC, dUn, onV, fNeg, dNext, dRet, dTup, onD, dats, fDivZ, fI, fPow, Few, retP, fAbs, fInt, fMax, fMin, fLen, fSqrt, fEq, fNe, dNot, dAnd, dOr, dAndV, dOrV, dNotV, dIfE, dDrop, dRetN, dPar, noO, dSetL, dLst, dOfL, dOwnM, onOwn, onDat, kAppend, kInsert, dSetItem, dAddItem, onItems, onInt, dNoPart, dPart, dSlice, onL, litems, dSlL, dCat, onM, mitems, dRng1, dRng2, dCallP, dCallB, dCallF, noSelf, onArgs, dats2, dIsi, tyName, dYes, dgCons, dgNil, retB, dBreak, dCont, ne_eq, not_false_eq_true, true_and, and_true, List.getElem?_cons_zero, List.getElem?_cons_succ, List.set_cons_zero, List.set_cons_succ, Option.map, List.length_cons, List.length_nil, dBestD, dParM, dmNil, dmD, dmL, setM, dLc_eq, dLc2_eq, dFor_eq, dSortSet, dSort, dListOf, dIsN, dNotN, isNo, dAug, dMulA, dgUnl, dSlT, onT, dEnum, dZip, dZipM, dRetL, dPar3, dRevT, dLstRg, dTupRg, dRg1, dRg2, dChainLe, List.nil_append, List.cons_append, if_true, if_false, dFrz, dLcO, dMin2D, dAppX, dParL, dParLL, dRepL, fMax3, dNewDic, dDicPut, dDicGet, dSortDic, onDic, onKey, dLcW, dZipX, dParR, dDead, dSortD, dSortDT, fNeS, fEqS, dgSet, dDGet, onDict_eq, onKeyD_int, onKeyD_str, dDIn, dSortDK, onDict1_eq, dDictL, dDictEn, dDictZip, onSq1_eq, onSq2_eq, onSq_t, onSq_l, onSq_o, dNewD, dDicI, dNewDik, dDikPut, onDik, dFrzD, dNew4, dIndexD, onLst_eq, dIfL, dOrT, dAndT, onTru_int, onTru_bool, onTru_none, onTru_tuple, onTru_list, dTupZip, dTupZipK, dZip3, dZip2, dSortKS, dSortKF, dLetSet, dLetSetK, dLetSetN, dEnumZip, dDicV, fLenD, dFgt, fEqA, fNeA, fStrI, dReprW, dLenSet, dLenSetL, dDikGet, dDikIn, dDisp1_i, dDisp1_s, fEqN, fNeN, dDef, datsF, dCallA, dCallV, fIsB, fNotB, fInA_l, fInA_t, fNotInA_l, fNotInA_t, List.map_cons, List.map_nil, fw0, fw1, fw2, fw3, fw4, fw5, fw6, fw7, fw8, fw9, fw10, fw11, fw12, fw13, fw14, fw15, dExtend, dExtendT, dLstDn, dMaxDf, dOp_ap, dIx_ap, dCatT_ap, dRepT_ap, items_l, items_t, items_o, ti_t, dgT_t, seqs_l, seqs_t, seqs_o, dSeqI_eq, wk_l, wk_t, wk_eP, wk_o, dTupOf_eq, tu_t, tu_l, tu_o, tu_eP, dTupA_eq, ta_t, ta_l, ta_o, ta_eP, items_eW, items_eB, items_eSc, items_eLm, items_eP, items_eL, items_pr, items_enc2, items_eTm, ti_eB, ti_eW, ti_eLm, ti_eP, dgT_eSc, dgT_eLm, dgT_eL, dgT_pr, dgT_enc2, dgT_eW, dgT_eTm, seqs_eP, on0, on1, on2, on3, on4, on5, on6, on7, on8, isI, if_true]
    exact hQ
  | _ =>
    simp only [dSeq, dAsg, dCB, dCons, dNil, dVar, onVs, vals, val, slot, setR, fGcd, dIfS, dTV, onV2, fLt, fLe, fGt, fGe, fAdd, fSub, fMul, fDiv, fMod, fI0, dC, dUn, onV, fNeg, dNext, dRet, dTup, onD, dats, fDivZ, fI, fPow, Few, retP, fAbs, fInt, fMax, fMin, fLen, fSqrt, fEq, fNe, dNot, dAnd, dOr, dAndV, dOrV, dNotV, dIfE, dDrop, dRetN, dPar, noO, dSetL, dLst, dOfL, dOwnM, onOwn, onDat, kAppend, kInsert, dSetItem, dAddItem, onItems, onInt, dNoPart, dPart, dSlice, onL, litems, dSlL, dCat, onM, mitems, dRng1, dRng2, dCallP, dCallB, dCallF, noSelf, onArgs, dats2, dIsi, tyName, dYes, dgCons, dgNil, retB, dBreak, dCont, ne_eq, not_false_eq_true, true_and, and_true, List.getElem?_cons_zero, List.getElem?_cons_succ, List.set_cons_zero, List.set_cons_succ, Option.map, List.length_cons, List.length_nil, dBestD, dParM, dmNil, dmD, dmL, setM, dLc_eq, dLc2_eq, dFor_eq, dSortSet, dSort, dListOf, dIsN, dNotN, isNo, dAug, dMulA, dgUnl, dSlT, onT, dEnum, dZip, dZipM, dRetL, dPar3, dRevT, dLstRg, dTupRg, dRg1, dRg2, dChainLe, List.nil_append, List.cons_append, if_true, if_false, dFrz, dLcO, dMin2D, dAppX, dParL, dParLL, dRepL, fMax3, dNewDic, dDicPut, dDicGet, dSortDic, onDic, onKey, dLcW, dZipX, dParR, dDead, dSortD, dSortDT, fNeS, fEqS, dgSet, dDGet, onDict_eq, onKeyD_int, onKeyD_str, dDIn, dSortDK, onDict1_eq, dDictL, dDictEn, dDictZip, onSq1_eq, onSq2_eq, onSq_t, onSq_l, onSq_o, dNewD, dDicI, dNewDik, dDikPut, onDik, dFrzD, dNew4, dIndexD, onLst_eq, dIfL, dOrT, dAndT, onTru_int, onTru_bool, onTru_none, onTru_tuple, onTru_list, dTupZip, dTupZipK, dZip3, dZip2, dSortKS, dSortKF, dLetSet, dLetSetK, dLetSetN, dEnumZip, dDicV, fLenD, dFgt, fEqA, fNeA, fStrI, dReprW, dLenSet, dLenSetL, dDikGet, dDikIn, dDisp1_i, dDisp1_s, fEqN, fNeN, dDef, datsF, dCallA, dCallV, fIsB, fNotB, fInA_l, fInA_t, fNotInA_l, fNotInA_t, List.map_cons, List.map_nil, fw0, fw1, fw2, fw3, fw4, fw5, fw6, fw7, fw8, fw9, fw10, fw11, fw12, fw13, fw14, fw15, dExtend, dExtendT, dLstDn, dMaxDf, dOp_ap, dIx_ap, dCatT_ap, dRepT_ap, items_l, items_t, items_o, ti_t, dgT_t, seqs_l, seqs_t, seqs_o, dSeqI_eq, wk_l, wk_t, wk_eP, wk_o, dTupOf_eq, tu_t, tu_l, tu_o, tu_eP, dTupA_eq, ta_t, ta_l, ta_o, ta_eP, items_eW, items_eB, items_eSc, items_eLm, items_eP, items_eL, items_pr, items_enc2, items_eTm, ti_eB, ti_eW, ti_eLm, ti_eP, dgT_eSc, dgT_eLm, dgT_eL, dgT_pr, dgT_enc2, dgT_eW, dgT_eTm, seqs_eP, on0, on1, on2, on3, on4, on5, on6, on7, on8, isI, Bool.false_eq_true, if_false]
    exact hQ
set_option maxHeartbeats 4000000 in
theorem ok__law_some {f : Addr} {fd : FuncData} (W : Fun K "_law_some" "_law_some" s__law_some f fd) (T : Bi mg)
    {f__law_take : Addr} {fd__law_take : FuncData} (G__law_take : FnG P w K mg base CX0 1 f__law_take fd__law_take ["_law_bag_here", "_law_many"] (spB K TT [.d] S__law_take)) (g__law_take : mg "_law_take" = some (.ref f__law_take)) (k__law_take : PySem.W.keepIn K (.ref f__law_take) = true) (b__law_take : Binds K fd__law_take ["_law_bag_here", "_law_many"] []) :
    FnG P w K mg base CX0 2 f fd ["_law_bag_here", "_law_things"] (spB K TT [.ro] S__law_some) := by
  refine fnB W sc__law_some rfl fun cdv A out s H E Nn B hr hgd => ⟨_, _, (dss_one (ds_ret (pd_ix (pdv 1) (pd_callBag G__law_take m__law_take (hr.mono (by decide)) hgd rfl g__law_take k__law_take b__law_take (pda_cons (pdv 0) (pda_cons (pd_callB call_len_seq sc_len rfl T.b_len (by decide +kernel) (pda_cons (pdv 1) pda_nil)) pda_nil))) (fun _ _ => rfl)))), ?_⟩
  exact fun bag xs Q hl hS => rd_some_r hS
set_option maxHeartbeats 4000000 in
theorem ok__law_are {f : Addr} {fd : FuncData} (W : Fun K "_law_are" "_law_are" s__law_are f fd) (T : Bi mg)
    {f__law_is_int : Addr} {fd__law_is_int : FuncData} (G__law_is_int : FnG P w K mg base CX0 1 f__law_is_int fd__law_is_int ["_law_thing"] (spP K TT [.d] S__law_is_int)) (g__law_is_int : mg "_law_is_int" = some (.ref f__law_is_int)) (k__law_is_int : PySem.W.keepIn K (.ref f__law_is_int) = true) (b__law_is_int : Binds K fd__law_is_int ["_law_thing"] []) :
    FnG P w K mg base CX0 2 f fd ["_law_thing", "_law_least", "_law_is_one"] (spA K TT 2 f__law_is_int S__law_are) := by
  refine fnA W sc__law_are rfl fun cdv A out s H E Nn hr hgd => ⟨_, _, (dss_one (ds_fgt (i := 3) (ds_ret (pd_and (pd_isinst (n := "tuple") (pdv 0) rfl T.b_isinstance rfl T.b_tuple (by decide +kernel)) (pd_and (pd_ge (pd_callB call_len_seq sc_len rfl T.b_len (by decide +kernel) (pda_cons (pdv 0) pda_nil)) (pdv 1)) (pdn_one (pd_eqN hr.units rfl (pd_l (pl_lc (own := [("_law_one", 3)]) rfl sc__law_are.nd (pdi_seq (pdv 0)) (blkOk_by (own := [("_law_one", 3)]) (N := nm__law_are) (sc := defScope s__law_are) (by decide +kernel)) (fun _ _ _ _ _ => (pgd_name (i := 3) sc__law_are.nd)) (fun _ _ _ _ _ => (dts_one (pt_no (pt_v (pd_callV (i := 2) G__law_is_int m__law_is_int (hr.mono (by decide)) hgd k__law_is_int b__law_is_int (pda_cons (pdv 3) pda_nil)))))) (fun _ _ _ _ _ => (pdv 3)))) (pd_l (pl_lst pda_nil))))))) fixP)), ?_⟩
  clear W T hr hgd G__law_is_int g__law_is_int k__law_is_int b__law_is_int fd__law_is_int
  rintro xs Q hl ⟨⟨d, b, k, c, n⟩, rfl, ⟨h0, h1⟩, hQ⟩
  clear hl
  replace hQ : Q (.bool (areN n d)) := hQ
  have e : rowA nm__law_are.length [d, .int (n : Int)] f__law_is_int = [some (.d (d)), some (.d (.int (n : Int))), some (.raw (.ref f__law_is_int)), none] := rfl
  rw [e]
  clear e
  cases d with
  | tuple xs =>
    simp only [dSeq, dAsg, dCB, dCons, dNil, dVar, onVs, vals, val, slot, setR, fGcd, dIfS, dTV, onV2, fLt, fLe, fGt, fGe, fAdd, fSub, fMul, fDiv, fMod, fI0, dC, dUn, onV, fNeg, dNext, dRet, dTup, onD, dats, fDivZ, fI, fPow, Few, retP, fAbs, fInt, fMax, fMin, fLen, fSqrt, fEq, fNe, dNot, dAnd, dOr, dAndV, dOrV, dNotV, dIfE, dDrop, dRetN, dPar, noO, dSetL, dLst, dOfL, dOwnM, onOwn, onDat, kAppend, kInsert, dSetItem, dAddItem, onItems, onInt, dNoPart, dPart, dSlice, onL, litems, dSlL, dCat, onM, mitems, dRng1, dRng2, dCallP, dCallB, dCallF, noSelf, onArgs, dats2, dIsi, tyName, dYes, dgCons, dgNil, retB, dBreak, dCont, ne_eq, not_false_eq_true, true_and, and_true, List.getElem?_cons_zero, List.getElem?_cons_succ, List.set_cons_zero, List.set_cons_succ, Option.map, List.length_cons, List.length_nil, dBestD, dParM, dmNil, dmD, dmL, setM, dLc_eq, dLc2_eq, dFor_eq, dSortSet, dSort, dListOf, dIsN, dNotN, isNo, dAug, dMulA, dgUnl, dSlT, onT, dEnum, dZip, dZipM, dRetL, dPar3, dRevT, dLstRg, dTupRg, dRg1, dRg2, dChainLe, List.nil_append, List.cons_append, if_true, if_false, dFrz, dLcO, dMin2D, dAppX, dParL, dParLL, dRepL, fMax3, dNewDic, dDicPut, dDicGet, dSortDic, onDic, onKey, dLcW, dZipX, dParR, dDead, dSortD, dSortDT, fNeS, fEqS, dgSet, dDGet, onDict_eq, onKeyD_int, onKeyD_str, dDIn, dSortDK, onDict1_eq, dDictL, dDictEn, dDictZip, onSq1_eq, onSq2_eq, onSq_t, onSq_l, onSq_o, dNewD, dDicI, dNewDik, dDikPut, onDik, dFrzD, dNew4, dIndexD, onLst_eq, dIfL, dOrT, dAndT, onTru_int, onTru_bool, onTru_none, onTru_tuple, onTru_list, dTupZip, dTupZipK, dZip3, dZip2, dSortKS, dSortKF, dLetSet, dLetSetK, dLetSetN, dEnumZip, dDicV, fLenD, dFgt, fEqA, fNeA, fStrI, dReprW, dLenSet, dLenSetL, dDikGet, dDikIn, dDisp1_i, dDisp1_s, fEqN, fNeN, dDef, datsF, dCallA, dCallV, fIsB, fNotB, fInA_l, fInA_t, fNotInA_l, fNotInA_t, List.map_cons, List.map_nil, fw0, fw1, fw2, fw3, fw4, fw5, fw6, fw7, fw8, fw9, fw10, fw11, fw12, fw13, fw14, fw15, dExtend, dExtendT, dLstDn, dMaxDf, dOp_ap, dIx_ap, dCatT_ap, dRepT_ap, items_l, items_t, items_o, ti_t, dgT_t, seqs_l, seqs_t, seqs_o, dSeqI_eq, wk_l, wk_t, wk_eP, wk_o, dTupOf_eq, tu_t, tu_l, tu_o, tu_eP, dTupA_eq, ta_t, ta_l, ta_o, ta_eP, items_eW, items_eB, items_eSc, items_eLm, items_eP, items_eL, items_pr, items_enc2, items_eTm, ti_eB, ti_eW, ti_eLm, ti_eP, dgT_eSc, dgT_eLm, dgT_eL, dgT_pr, dgT_enc2, dgT_eW, dgT_eTm, seqs_eP, on0, on1, on2, on3, on4, on5, on6, on7, on8, kw_NoneType_int, kw_NoneType_bool, kw_NoneType_str, kw_NoneType_tuple, kw_NoneType_dict, kw_NoneType_list, kw_bool_int, kw_bool_bool, kw_bool_str, kw_bool_tuple, kw_bool_dict, kw_bool_list, kw_int_int, kw_int_bool, kw_int_str, kw_int_tuple, kw_int_dict, kw_int_list, kw_str_int, kw_str_bool, kw_str_str, kw_str_tuple, kw_str_dict, kw_str_list, kw_list_int, kw_list_bool, kw_list_str, kw_list_tuple, kw_list_dict, kw_list_list, kw_tuple_int, kw_tuple_bool, kw_tuple_str, kw_tuple_tuple, kw_tuple_dict, kw_tuple_list, kw_dict_int, kw_dict_bool, kw_dict_str, kw_dict_tuple, kw_dict_dict, kw_dict_list, if_true]
    have hl : xs.length ≤ 100000 := by
      obtain ⟨_, hw⟩ := h0.items
      have := wVs_len xs
      omega
    refine ite_b (c := ((n : Nat) : Int) ≤ ((xs.length : Nat) : Int)) (fun h => ?_) fun h => ?_
    · rw [← map_id' (xs := xs)]
      refine lc_fm xs (fun x => x) (fun x => if isI x = true then none else some x) (hv1 (i := 3) rfl) hl (fun i x hx C1 C2 n hn c1 c2 => ?_) ?_
      · walk_at "K14Z0"
        refine u__law_is_int ?_
        walk_at "K14Z0"
        cases hi : isI x with
        | true =>
          rw [hi] at c2
          exact c2 rfl
        | false =>
          rw [hi] at c1
          exact ⟨hn, c1 _ rfl⟩
      · rw [show decide ((xs.filterMap fun x => if isI x = true then none else some x) = []) = areN n (.tuple xs) by
          show _ = (decide (n ≤ xs.length) && xs.all isI)
          rw [decide_eq_true (by omega : n ≤ xs.length), Bool.true_and, Bool.eq_iff_iff, decide_eq_true_eq]
          exact fm_isI xs]
        exact hQ
    · rw [show areN n (.tuple xs) = false by
        show (decide (n ≤ xs.length) && xs.all isI) = false
        rw [decide_eq_false (by omega), Bool.false_and]] at hQ
      exact hQ
  | _ => (simp only [dSeq, dAsg, dCB, dCons, dNil, dVar, onVs, vals, val, slot, setR, fGcd, dIfS, dTV, onV2, fLt, fLe, fGt, fGe, fAdd, fSub, fMul, fDiv, fMod, fI0, dC, dUn, onV, fNeg, dNext, dRet, dTup, onD, dats, fDivZ, fI, fPow, Few, retP, fAbs, fInt, fMax, fMin, fLen, fSqrt, fEq, fNe, dNot, dAnd, dOr, dAndV, dOrV, dNotV, dIfE, dDrop, dRetN, dPar, noO, dSetL, dLst, dOfL, dOwnM, onOwn, onDat, kAppend, kInsert, dSetItem, dAddItem, onItems, onInt, dNoPart, dPart, dSlice, onL, litems, dSlL, dCat, onM, mitems, dRng1, dRng2, dCallP, dCallB, dCallF, noSelf, onArgs, dats2, dIsi, tyName, dYes, dgCons, dgNil, retB, dBreak, dCont, ne_eq, not_false_eq_true, true_and, and_true, List.getElem?_cons_zero, List.getElem?_cons_succ, List.set_cons_zero, List.set_cons_succ, Option.map, List.length_cons, List.length_nil, dBestD, dParM, dmNil, dmD, dmL, setM, dLc_eq, dLc2_eq, dFor_eq, dSortSet, dSort, dListOf, dIsN, dNotN, isNo, dAug, dMulA, dgUnl, dSlT, onT, dEnum, dZip, dZipM, dRetL, dPar3, dRevT, dLstRg, dTupRg, dRg1, dRg2, dChainLe, List.nil_append, List.cons_append, if_true, if_false, dFrz, dLcO, dMin2D, dAppX, dParL, dParLL, dRepL, fMax3, dNewDic, dDicPut, dDicGet, dSortDic, onDic, onKey, dLcW, dZipX, dParR, dDead, dSortD, dSortDT, fNeS, fEqS, dgSet, dDGet, onDict_eq, onKeyD_int, onKeyD_str, dDIn, dSortDK, onDict1_eq, dDictL, dDictEn, dDictZip, onSq1_eq, onSq2_eq, onSq_t, onSq_l, onSq_o, dNewD, dDicI, dNewDik, dDikPut, onDik, dFrzD, dNew4, dIndexD, onLst_eq, dIfL, dOrT, dAndT, onTru_int, onTru_bool, onTru_none, onTru_tuple, onTru_list, dTupZip, dTupZipK, dZip3, dZip2, dSortKS, dSortKF, dLetSet, dLetSetK, dLetSetN, dEnumZip, dDicV, fLenD, dFgt, fEqA, fNeA, fStrI, dReprW, dLenSet, dLenSetL, dDikGet, dDikIn, dDisp1_i, dDisp1_s, fEqN, fNeN, dDef, datsF, dCallA, dCallV, fIsB, fNotB, fInA_l, fInA_t, fNotInA_l, fNotInA_t, List.map_cons, List.map_nil, fw0, fw1, fw2, fw3, fw4, fw5, fw6, fw7, fw8, fw9, fw10, fw11, fw12, fw13, fw14, fw15, dExtend, dExtendT, dLstDn, dMaxDf, dOp_ap, dIx_ap, dCatT_ap, dRepT_ap, items_l, items_t, items_o, ti_t, dgT_t, seqs_l, seqs_t, seqs_o, dSeqI_eq, wk_l, wk_t, wk_eP, wk_o, dTupOf_eq, tu_t, tu_l, tu_o, tu_eP, dTupA_eq, ta_t, ta_l, ta_o, ta_eP, items_eW, items_eB, items_eSc, items_eLm, items_eP, items_eL, items_pr, items_enc2, items_eTm, ti_eB, ti_eW, ti_eLm, ti_eP, dgT_eSc, dgT_eLm, dgT_eL, dgT_pr, dgT_enc2, dgT_eW, dgT_eTm, seqs_eP, on0, on1, on2, on3, on4, on5, on6, on7, on8, kw_NoneType_int, kw_NoneType_bool, kw_NoneType_str, kw_NoneType_tuple, kw_NoneType_dict, kw_NoneType_list, kw_bool_int, kw_bool_bool, kw_bool_str, kw_bool_tuple, kw_bool_dict, kw_bool_list, kw_int_int, kw_int_bool, kw_int_str, kw_int_tuple, kw_int_dict, kw_int_list, kw_str_int, kw_str_bool, kw_str_str, kw_str_tuple, kw_str_dict, kw_str_list, kw_list_int, kw_list_bool, kw_list_str, kw_list_tuple, kw_list_dict, kw_list_list, kw_tuple_int, kw_tuple_bool, kw_tuple_str, kw_tuple_tuple, kw_tuple_dict, kw_tuple_list, kw_dict_int, kw_dict_bool, kw_dict_str, kw_dict_tuple, kw_dict_dict, kw_dict_list, Bool.not_false, Bool.not_true, if_true, if_false, Bool.false_eq_true]; exact hQ)
set_option maxHeartbeats 4000000 in
theorem ok_is_rows {f : Addr} {fd : FuncData} (W : Fun K "is_rows" "is_rows" s_is_rows f fd) (T : Bi mg)
    {f_is_natural : Addr} {fd_is_natural : FuncData} (G_is_natural : FnG P w K mg base CX0 2 f_is_natural fd_is_natural ["thing"] (spP K TT [.d] S_is_natural)) (g_is_natural : mg "is_natural" = some (.ref f_is_natural)) (k_is_natural : PySem.W.keepIn K (.ref f_is_natural) = true) (b_is_natural : Binds K fd_is_natural ["thing"] []) :
    FnG P w K mg base CX0 3 f fd ["picture", "spacing", "thing"] (spP K TT [.d, .d, .d] S_is_rows) := by
  refine fnP W sc_is_rows rfl fun cdv A out s H E Nn hr hgd => ⟨_, _, (dss_cons (ds_fgt (i := 3) (ds_if (pt_w (pwd_or (pt_no (pt_v (pd_isinst (n := "tuple") (pdv 2) rfl T.b_isinstance rfl T.b_tuple (by decide +kernel)))) (pwd_or (pt_ne hr.units rfl (pd_callB call_len_seq sc_len rfl T.b_len (by decide +kernel) (pda_cons (pdv 2) pda_nil)) (pd_callB call_len_seq sc_len rfl T.b_len (by decide +kernel) (pda_cons (pdv 0) pda_nil))) (pwd_or1 (pt_no (pt_v (pd_callB (cr_all rfl) sc_all rfl T.b_all (by decide +kernel) (pda_cons (pd_l (pl_lc (own := [("row", 3)]) rfl sc_is_rows.nd (pdi_seq (pdv 2)) (blkOk_by (own := [("row", 3)]) (N := nm_is_rows) (sc := defScope s_is_rows) (by decide +kernel)) (fun _ _ _ _ _ => (pgd_name (i := 3) sc_is_rows.nd)) (fun _ _ _ _ _ => dts_nil) (fun _ _ _ _ _ => (pd_callP G_is_natural m_is_natural (hr.mono (by decide)) hgd rfl g_is_natural k_is_natural b_is_natural (pda_cons (pdv 3) pda_nil))))) pda_nil)))))))) (dss_one (ds_ret pd_bl)) dss_nil) fixP)
      (dss_cons (ds_newDik (i := 4) sc_is_rows.nd fixP)
      (dss_cons (ds_for PassesOwn.never rfl (pdi_zip rfl T.b_zip (pda_cons (pdv 0) (pda_cons (pdv 2) pda_nil))) (pgd_tup (n := 2) rfl (pgds_cons (pgd_name (i := 5) sc_is_rows.nd) (pgds_cons (pgd_name (i := 3) sc_is_rows.nd) pgds_nil))) (dss_cons (ds_if (pt_w (pwd_and (pt_dikIn (i := 4) (units1 hr.units) (pdv 3)) (pwd_and1 (pt_lt (pd_sub (pd_ix (pdv 5) pd_int (fun _ _ => rfl)) (pd_dikGet (i := 4) (units1 hr.units) (pdv 3) (fun _ _ => rfl))) (pdv 1))))) (dss_one (ds_ret pd_bl)) dss_nil)
      (dss_one (ds_dikPut (i := 4) (units1 hr.units) (pdv 3) (pd_ix (pdv 5) pd_int (fun _ _ => rfl))))) nofixP)
      (dss_one (ds_ret pd_bl))))), ?_⟩
  clear W T hr hgd G_is_natural g_is_natural k_is_natural b_is_natural f_is_natural fd_is_natural
  rintro xs Q hl ⟨⟨ls, sp, d, b, k, c⟩, rfl, ⟨h0, h1, h2, h3, h4, h5⟩, hQ⟩
  clear hl
  replace hQ : Q (.bool (rowsC ls sp d)) := hQ
  have e : rhoP nm_is_rows.length [.d, .d, .d] [eP ls, .int sp, d] = [some (.d (eP ls)), some (.d (.int sp)), some (.d (d)), none, none, none] := rfl
  rw [e]
  clear e
  cases d with
  | tuple xs =>
    have nl : xs.length ≤ 100000 := by
      obtain ⟨_, hw⟩ := h4.items
      have := wVs_len xs
      omega
    simp only [dSeq, dAsg, dCB, dCons, dNil, dVar, onVs, vals, val, slot, setR, fGcd, dIfS, dTV, onV2, fLt, fLe, fGt, fGe, fAdd, fSub, fMul, fDiv, fMod, fI0, dC, dUn, onV, fNeg, dNext, dRet, dTup, onD, dats, fDivZ, fI, fPow, Few, retP, fAbs, fInt, fMax, fMin, fLen, fSqrt, fEq, fNe, dNot, dAnd, dOr, dAndV, dOrV, dNotV, dIfE, dDrop, dRetN, dPar, noO, dSetL, dLst, dOfL, dOwnM, onOwn, onDat, kAppend, kInsert, dSetItem, dAddItem, onItems, onInt, dNoPart, dPart, dSlice, onL, litems, dSlL, dCat, onM, mitems, dRng1, dRng2, dCallP, dCallB, dCallF, noSelf, onArgs, dats2, dIsi, tyName, dYes, dgCons, dgNil, retB, dBreak, dCont, ne_eq, not_false_eq_true, true_and, and_true, List.getElem?_cons_zero, List.getElem?_cons_succ, List.set_cons_zero, List.set_cons_succ, Option.map, List.length_cons, List.length_nil, dBestD, dParM, dmNil, dmD, dmL, setM, dLc_eq, dLc2_eq, dFor_eq, dSortSet, dSort, dListOf, dIsN, dNotN, isNo, dAug, dMulA, dgUnl, dSlT, onT, dEnum, dZip, dZipM, dRetL, dPar3, dRevT, dLstRg, dTupRg, dRg1, dRg2, dChainLe, List.nil_append, List.cons_append, if_true, if_false, dFrz, dLcO, dMin2D, dAppX, dParL, dParLL, dRepL, fMax3, dNewDic, dDicPut, dDicGet, dSortDic, onDic, onKey, dLcW, dZipX, dParR, dDead, dSortD, dSortDT, fNeS, fEqS, dgSet, dDGet, onDict_eq, onKeyD_int, onKeyD_str, dDIn, dSortDK, onDict1_eq, dDictL, dDictEn, dDictZip, onSq1_eq, onSq2_eq, onSq_t, onSq_l, onSq_o, dNewD, dDicI, dNewDik, dDikPut, onDik, dFrzD, dNew4, dIndexD, onLst_eq, dIfL, dOrT, dAndT, onTru_int, onTru_bool, onTru_none, onTru_tuple, onTru_list, dTupZip, dTupZipK, dZip3, dZip2, dSortKS, dSortKF, dLetSet, dLetSetK, dLetSetN, dEnumZip, dDicV, fLenD, dFgt, fEqA, fNeA, fStrI, dReprW, dLenSet, dLenSetL, dDikGet, dDikIn, dDisp1_i, dDisp1_s, fEqN, fNeN, dDef, datsF, dCallA, dCallV, fIsB, fNotB, fInA_l, fInA_t, fNotInA_l, fNotInA_t, List.map_cons, List.map_nil, fw0, fw1, fw2, fw3, fw4, fw5, fw6, fw7, fw8, fw9, fw10, fw11, fw12, fw13, fw14, fw15, dExtend, dExtendT, dLstDn, dMaxDf, dOp_ap, dIx_ap, dCatT_ap, dRepT_ap, items_l, items_t, items_o, ti_t, dgT_t, seqs_l, seqs_t, seqs_o, dSeqI_eq, wk_l, wk_t, wk_eP, wk_o, dTupOf_eq, tu_t, tu_l, tu_o, tu_eP, dTupA_eq, ta_t, ta_l, ta_o, ta_eP, items_eW, items_eB, items_eSc, items_eLm, items_eP, items_eL, items_pr, items_enc2, items_eTm, ti_eB, ti_eW, ti_eLm, ti_eP, dgT_eSc, dgT_eLm, dgT_eL, dgT_pr, dgT_enc2, dgT_eW, dgT_eTm, seqs_eP, on0, on1, on2, on3, on4, on5, on6, on7, on8, kw_NoneType_int, kw_NoneType_bool, kw_NoneType_str, kw_NoneType_tuple, kw_NoneType_dict, kw_NoneType_list, kw_bool_int, kw_bool_bool, kw_bool_str, kw_bool_tuple, kw_bool_dict, kw_bool_list, kw_int_int, kw_int_bool, kw_int_str, kw_int_tuple, kw_int_dict, kw_int_list, kw_str_int, kw_str_bool, kw_str_str, kw_str_tuple, kw_str_dict, kw_str_list, kw_list_int, kw_list_bool, kw_list_str, kw_list_tuple, kw_list_dict, kw_list_list, kw_tuple_int, kw_tuple_bool, kw_tuple_str, kw_tuple_tuple, kw_tuple_dict, kw_tuple_list, kw_dict_int, kw_dict_bool, kw_dict_str, kw_dict_tuple, kw_dict_dict, kw_dict_list, Bool.not_true, Bool.false_eq_true, if_false, eP, List.length_map]
    refine ⟨sh_int, sh_int, ?_⟩
    rw [eqv_int]
    refine ite_nb (c := ((xs.length : Nat) : Int) = ((ls.length : Nat) : Int)) (fun h => ?_) fun h => ?_
    · rw [rowsC_not fun qs e a _ => by
        injection e with e
        subst e
        rw [List.length_map] at h
        exact absurd (by omega) h] at hQ
      exact hQ
    rw [← map_id' (xs := xs)]
    refine lc_map xs (fun x => x) (fun x => .bool (isN x)) (hv1 (i := 3) rfl) nl (fun i a ha C1 C2 n hn hc => ?_) ?_
    · walk_at "K14Z0"
      exact u_is_natural ⟨hn, hc⟩
    rw [show (xs.map fun x => PyData.bool (isN x)) = (xs.map isN).map .bool by rw [List.map_map]; rfl]
    refine f_all ?_
    rw [List.all_map, map_id']
    cases ha : xs.all isN with
    | false =>
      rw [rowsC_not fun qs e _ b => by
        injection e with e
        subst e
        rw [List.all_eq_true.mpr fun x hx => by
          obtain ⟨r, hr, rfl⟩ := List.mem_map.mp hx
          exact decide_eq_true (b r hr)] at ha
        cases ha] at hQ
      rw [show (xs.all (id ∘ isN)) = false from ha]
      simp only [dSeq, dAsg, dCB, dCons, dNil, dVar, onVs, vals, val, slot, setR, fGcd, dIfS, dTV, onV2, fLt, fLe, fGt, fGe, fAdd, fSub, fMul, fDiv, fMod, fI0, dC, dUn, onV, fNeg, dNext, dRet, dTup, onD, dats, fDivZ, fI, fPow, Few, retP, fAbs, fInt, fMax, fMin, fLen, fSqrt, fEq, fNe, dNot, dAnd, dOr, dAndV, dOrV, dNotV, dIfE, dDrop, dRetN, dPar, noO, dSetL, dLst, dOfL, dOwnM, onOwn, onDat, kAppend, kInsert, dSetItem, dAddItem, onItems, onInt, dNoPart, dPart, dSlice, onL, litems, dSlL, dCat, onM, mitems, dRng1, dRng2, dCallP, dCallB, dCallF, noSelf, onArgs, dats2, dIsi, tyName, dYes, dgCons, dgNil, retB, dBreak, dCont, ne_eq, not_false_eq_true, true_and, and_true, List.getElem?_cons_zero, List.getElem?_cons_succ, List.set_cons_zero, List.set_cons_succ, Option.map, List.length_cons, List.length_nil, dBestD, dParM, dmNil, dmD, dmL, setM, dLc_eq, dLc2_eq, dFor_eq, dSortSet, dSort, dListOf, dIsN, dNotN, isNo, dAug, dMulA, dgUnl, dSlT, onT, dEnum, dZip, dZipM, dRetL, dPar3, dRevT, dLstRg, dTupRg, dRg1, dRg2, dChainLe, List.nil_append, List.cons_append, if_true, if_false, dFrz, dLcO, dMin2D, dAppX, dParL, dParLL, dRepL, fMax3, dNewDic, dDicPut, dDicGet, dSortDic, onDic, onKey, dLcW, dZipX, dParR, dDead, dSortD, dSortDT, fNeS, fEqS, dgSet, dDGet, onDict_eq, onKeyD_int, onKeyD_str, dDIn, dSortDK, onDict1_eq, dDictL, dDictEn, dDictZip, onSq1_eq, onSq2_eq, onSq_t, onSq_l, onSq_o, dNewD, dDicI, dNewDik, dDikPut, onDik, dFrzD, dNew4, dIndexD, onLst_eq, dIfL, dOrT, dAndT, onTru_int, onTru_bool, onTru_none, onTru_tuple, onTru_list, dTupZip, dTupZipK, dZip3, dZip2, dSortKS, dSortKF, dLetSet, dLetSetK, dLetSetN, dEnumZip, dDicV, fLenD, dFgt, fEqA, fNeA, fStrI, dReprW, dLenSet, dLenSetL, dDikGet, dDikIn, dDisp1_i, dDisp1_s, fEqN, fNeN, dDef, datsF, dCallA, dCallV, fIsB, fNotB, fInA_l, fInA_t, fNotInA_l, fNotInA_t, List.map_cons, List.map_nil, fw0, fw1, fw2, fw3, fw4, fw5, fw6, fw7, fw8, fw9, fw10, fw11, fw12, fw13, fw14, fw15, dExtend, dExtendT, dLstDn, dMaxDf, dOp_ap, dIx_ap, dCatT_ap, dRepT_ap, items_l, items_t, items_o, ti_t, dgT_t, seqs_l, seqs_t, seqs_o, dSeqI_eq, wk_l, wk_t, wk_eP, wk_o, dTupOf_eq, tu_t, tu_l, tu_o, tu_eP, dTupA_eq, ta_t, ta_l, ta_o, ta_eP, items_eW, items_eB, items_eSc, items_eLm, items_eP, items_eL, items_pr, items_enc2, items_eTm, ti_eB, ti_eW, ti_eLm, ti_eP, dgT_eSc, dgT_eLm, dgT_eL, dgT_pr, dgT_enc2, dgT_eW, dgT_eTm, seqs_eP, on0, on1, on2, on3, on4, on5, on6, on7, on8, Bool.not_false, if_true]
      exact hQ
    | true =>
      rw [show (xs.all (id ∘ isN)) = true from ha]
      obtain ⟨rs, rfl, hr⟩ := nats_all ha
      rw [List.length_map] at h
      have le : rs.length = ls.length := by omega
      simp only [dSeq, dAsg, dCB, dCons, dNil, dVar, onVs, vals, val, slot, setR, fGcd, dIfS, dTV, onV2, fLt, fLe, fGt, fGe, fAdd, fSub, fMul, fDiv, fMod, fI0, dC, dUn, onV, fNeg, dNext, dRet, dTup, onD, dats, fDivZ, fI, fPow, Few, retP, fAbs, fInt, fMax, fMin, fLen, fSqrt, fEq, fNe, dNot, dAnd, dOr, dAndV, dOrV, dNotV, dIfE, dDrop, dRetN, dPar, noO, dSetL, dLst, dOfL, dOwnM, onOwn, onDat, kAppend, kInsert, dSetItem, dAddItem, onItems, onInt, dNoPart, dPart, dSlice, onL, litems, dSlL, dCat, onM, mitems, dRng1, dRng2, dCallP, dCallB, dCallF, noSelf, onArgs, dats2, dIsi, tyName, dYes, dgCons, dgNil, retB, dBreak, dCont, ne_eq, not_false_eq_true, true_and, and_true, List.getElem?_cons_zero, List.getElem?_cons_succ, List.set_cons_zero, List.set_cons_succ, Option.map, List.length_cons, List.length_nil, dBestD, dParM, dmNil, dmD, dmL, setM, dLc_eq, dLc2_eq, dFor_eq, dSortSet, dSort, dListOf, dIsN, dNotN, isNo, dAug, dMulA, dgUnl, dSlT, onT, dEnum, dZip, dZipM, dRetL, dPar3, dRevT, dLstRg, dTupRg, dRg1, dRg2, dChainLe, List.nil_append, List.cons_append, if_true, if_false, dFrz, dLcO, dMin2D, dAppX, dParL, dParLL, dRepL, fMax3, dNewDic, dDicPut, dDicGet, dSortDic, onDic, onKey, dLcW, dZipX, dParR, dDead, dSortD, dSortDT, fNeS, fEqS, dgSet, dDGet, onDict_eq, onKeyD_int, onKeyD_str, dDIn, dSortDK, onDict1_eq, dDictL, dDictEn, dDictZip, onSq1_eq, onSq2_eq, onSq_t, onSq_l, onSq_o, dNewD, dDicI, dNewDik, dDikPut, onDik, dFrzD, dNew4, dIndexD, onLst_eq, dIfL, dOrT, dAndT, onTru_int, onTru_bool, onTru_none, onTru_tuple, onTru_list, dTupZip, dTupZipK, dZip3, dZip2, dSortKS, dSortKF, dLetSet, dLetSetK, dLetSetN, dEnumZip, dDicV, fLenD, dFgt, fEqA, fNeA, fStrI, dReprW, dLenSet, dLenSetL, dDikGet, dDikIn, dDisp1_i, dDisp1_s, fEqN, fNeN, dDef, datsF, dCallA, dCallV, fIsB, fNotB, fInA_l, fInA_t, fNotInA_l, fNotInA_t, List.map_cons, List.map_nil, fw0, fw1, fw2, fw3, fw4, fw5, fw6, fw7, fw8, fw9, fw10, fw11, fw12, fw13, fw14, fw15, dExtend, dExtendT, dLstDn, dMaxDf, dOp_ap, dIx_ap, dCatT_ap, dRepT_ap, items_l, items_t, items_o, ti_t, dgT_t, seqs_l, seqs_t, seqs_o, dSeqI_eq, wk_l, wk_t, wk_eP, wk_o, dTupOf_eq, tu_t, tu_l, tu_o, tu_eP, dTupA_eq, ta_t, ta_l, ta_o, ta_eP, items_eW, items_eB, items_eSc, items_eLm, items_eP, items_eL, items_pr, items_enc2, items_eTm, ti_eB, ti_eW, ti_eLm, ti_eP, dgT_eSc, dgT_eLm, dgT_eL, dgT_pr, dgT_enc2, dgT_eW, dgT_eTm, seqs_eP, on0, on1, on2, on3, on4, on5, on6, on7, on8, Bool.not_true, Bool.false_eq_true, if_false, wipeR]
      rw [zipD_map]
      refine for_st (S := List (L2.Key × PyData) × Option Ent × Option Ent) (List.zip ls rs) (fun p => .tuple [eLm p.1, .int p.2]) (fun s => [some (Ent.d (PyData.tuple (List.map eLm ls))), some (Ent.d (PyData.int sp)), some (Ent.d (PyData.tuple (List.map PyData.int rs))), s.2.1, some (Ent.dik s.1), s.2.2]) (fun i s => s.1.length ≤ i ∧ (∀ r, findD (kvD s.1) (.inl r) = (lastX (lxs ls) rs i r).map .int) ∧ rowsTo (lxs ls) sp rs i) ([], none, none) rfl ⟨Nat.le_refl _, fun r => rfl, fun p q a b r h => absurd h (Nat.not_lt_zero _)⟩ (fun i p s hp hI C hC => ?_) fun s hs => ?_
      · obtain ⟨l, r⟩ := p
        obtain ⟨kvs, s3, s5⟩ := s
        obtain ⟨il, inv, ok⟩ := hI
        dsimp only at il inv ok
        have hl : ls[i]? = some l := by
          have := congrArg (Option.map Prod.fst) hp
          rw [← List.getElem?_map, zip_fst le] at this
          exact this
        have hri : rs[i]? = some r := by
          have := congrArg (Option.map Prod.snd) hp
          rw [← List.getElem?_map, List.map_snd_zip (by omega)] at this
          exact this
        have ii := (List.getElem?_eq_some_iff.mp hl).1
        have xl : (lxs ls)[i]? = some l.x := lxs_at hl
        have lx : (lxs ls).length = ls.length := lxs_len ls
        simp only [dgTup, dgCons, dgNil, setR, List.set_cons_succ, List.set_cons_zero]
        refine ⟨rfl, ?_⟩
        have go : rowsTo (lxs ls) sp rs (i + 1) → ∀ t3 t5 : Option Ent, C [some (Ent.d (PyData.tuple (List.map eLm ls))), some (Ent.d (PyData.int sp)), some (Ent.d (PyData.tuple (List.map PyData.int rs))), t3, some (Ent.dik (putI kvs (.inl r) (.int l.x))), t5] := fun h t3 t5 => hC (_, t3, t5) ⟨?_, fun q => ?_, h⟩
        rotate_left 1
        · have : (putI kvs (.inl r) (.int l.x)).length ≤ kvs.length + 1 := by
            unfold putI
            split
            · rw [List.length_map]; omega
            · rw [List.length_append]; exact Nat.le_refl _
          show (putI kvs (.inl r) (.int l.x)).length ≤ i + 1
          omega
        · show findD (kvD (putI kvs (.inl r) (.int l.x))) (.inl q) = _
          rw [findD_put]
          show _ = (if rs[i]? = some q then (lxs ls)[i]? else lastX (lxs ls) rs i q).map PyData.int
          rw [hri, xl]
          by_cases e : q = r
          · subst e
            rw [if_pos rfl, if_pos rfl]
            rfl
          · rw [if_neg fun z => e (by injection z), if_neg fun z => e (by injection z with z; exact z.symm)]
            exact inv q
        refine seqI fun kk hk => ?_
        walk_at "K14Z0"
        rw [inv]
        have fin : rowsTo (lxs ls) sp rs (i + 1) → kk [some (Ent.d (PyData.tuple (List.map eLm ls))), some (Ent.d (PyData.int sp)), some (Ent.d (PyData.tuple (List.map PyData.int rs))), some (Ent.d (PyData.int r)), some (Ent.dik kvs), some (Ent.d (eLm l))] := fun hok => by
          rw [hk]
          walk_at "K14Z0"
          exact ⟨by omega, go hok _ _⟩
        have step : (∀ p a, p < i → (lxs ls)[p]? = some a → rs[p]? = some r → sp ≤ l.x - a) → rowsTo (lxs ls) sp rs (i + 1) := fun k p q a b r' hq hpq ha' hb h1' h2' => by
          rcases Nat.lt_or_ge q i with hq2 | hq2
          · exact ok p q a b r' hq2 hpq ha' hb h1' h2'
          · have e : q = i := by omega
            rw [e] at h2' hb hpq
            rw [hri] at h2'
            cases h2'
            rw [xl] at hb
            cases hb
            exact k p a hpq ha' h1'
        cases hx : lastX (lxs ls) rs i r with
        | none =>
          simp only [Option.map, Option.isSome, Bool.false_eq_true, if_false]
          exact fin (step fun p a hp _ h1 => absurd h1 (lastX_none (by omega) hx p hp))
        | some x =>
          obtain ⟨p, pi, rp, xp, later⟩ := lastX_some hx
          simp only [Option.map, Option.isSome, if_true]
          refine ite_b (c := l.x - x < sp) (fun hlt => ?_) fun hge => fin (step fun p' a hp' ha' h1 => ?_)
          · rw [rowsC_not fun qs e _ _ k => by
              injection e with e
              rw [← ints_inj e] at k
              have := k p i x l.x r pi xp xl rp hri
              omega] at hQ
            exact hQ
          · rcases Nat.lt_trichotomy p' p with z | z | z
            · have := UpL.at h0 (i := p') (k := p) (Nat.le_of_lt z) ha' xp
              omega
            · subst z
              rw [xp] at ha'
              cases ha'
              omega
            · exact absurd h1 (later p' z hp')
      · obtain ⟨_, _, ok⟩ := hs
        have zl : (List.zip ls rs).length = ls.length := by rw [List.length_zip]; omega
        rw [zl] at ok
        rw [rowsC_yes le hr fun p q a b r hp ha hb h1 h2 => ok p q a b r (by have := (List.getElem?_eq_some_iff.mp hb).1; rw [lxs_len] at this; exact this) hp ha hb h1 h2] at hQ
        exact hQ
  | _ =>
    rw [rowsC_not (by intro qs e; cases e)] at hQ
    simp only [dSeq, dAsg, dCB, dCons, dNil, dVar, onVs, vals, val, slot, setR, fGcd, dIfS, dTV, onV2, fLt, fLe, fGt, fGe, fAdd, fSub, fMul, fDiv, fMod, fI0, dC, dUn, onV, fNeg, dNext, dRet, dTup, onD, dats, fDivZ, fI, fPow, Few, retP, fAbs, fInt, fMax, fMin, fLen, fSqrt, fEq, fNe, dNot, dAnd, dOr, dAndV, dOrV, dNotV, dIfE, dDrop, dRetN, dPar, noO, dSetL, dLst, dOfL, dOwnM, onOwn, onDat, kAppend, kInsert, dSetItem, dAddItem, onItems, onInt, dNoPart, dPart, dSlice, onL, litems, dSlL, dCat, onM, mitems, dRng1, dRng2, dCallP, dCallB, dCallF, noSelf, onArgs, dats2, dIsi, tyName, dYes, dgCons, dgNil, retB, dBreak, dCont, ne_eq, not_false_eq_true, true_and, and_true, List.getElem?_cons_zero, List.getElem?_cons_succ, List.set_cons_zero, List.set_cons_succ, Option.map, List.length_cons, List.length_nil, dBestD, dParM, dmNil, dmD, dmL, setM, dLc_eq, dLc2_eq, dFor_eq, dSortSet, dSort, dListOf, dIsN, dNotN, isNo, dAug, dMulA, dgUnl, dSlT, onT, dEnum, dZip, dZipM, dRetL, dPar3, dRevT, dLstRg, dTupRg, dRg1, dRg2, dChainLe, List.nil_append, List.cons_append, if_true, if_false, dFrz, dLcO, dMin2D, dAppX, dParL, dParLL, dRepL, fMax3, dNewDic, dDicPut, dDicGet, dSortDic, onDic, onKey, dLcW, dZipX, dParR, dDead, dSortD, dSortDT, fNeS, fEqS, dgSet, dDGet, onDict_eq, onKeyD_int, onKeyD_str, dDIn, dSortDK, onDict1_eq, dDictL, dDictEn, dDictZip, onSq1_eq, onSq2_eq, onSq_t, onSq_l, onSq_o, dNewD, dDicI, dNewDik, dDikPut, onDik, dFrzD, dNew4, dIndexD, onLst_eq, dIfL, dOrT, dAndT, onTru_int, onTru_bool, onTru_none, onTru_tuple, onTru_list, dTupZip, dTupZipK, dZip3, dZip2, dSortKS, dSortKF, dLetSet, dLetSetK, dLetSetN, dEnumZip, dDicV, fLenD, dFgt, fEqA, fNeA, fStrI, dReprW, dLenSet, dLenSetL, dDikGet, dDikIn, dDisp1_i, dDisp1_s, fEqN, fNeN, dDef, datsF, dCallA, dCallV, fIsB, fNotB, fInA_l, fInA_t, fNotInA_l, fNotInA_t, List.map_cons, List.map_nil, fw0, fw1, fw2, fw3, fw4, fw5, fw6, fw7, fw8, fw9, fw10, fw11, fw12, fw13, fw14, fw15, dExtend, dExtendT, dLstDn, dMaxDf, dOp_ap, dIx_ap, dCatT_ap, dRepT_ap, items_l, items_t, items_o, ti_t, dgT_t, seqs_l, seqs_t, seqs_o, dSeqI_eq, wk_l, wk_t, wk_eP, wk_o, dTupOf_eq, tu_t, tu_l, tu_o, tu_eP, dTupA_eq, ta_t, ta_l, ta_o, ta_eP, items_eW, items_eB, items_eSc, items_eLm, items_eP, items_eL, items_pr, items_enc2, items_eTm, ti_eB, ti_eW, ti_eLm, ti_eP, dgT_eSc, dgT_eLm, dgT_eL, dgT_pr, dgT_enc2, dgT_eW, dgT_eTm, seqs_eP, on0, on1, on2, on3, on4, on5, on6, on7, on8, kw_NoneType_int, kw_NoneType_bool, kw_NoneType_str, kw_NoneType_tuple, kw_NoneType_dict, kw_NoneType_list, kw_bool_int, kw_bool_bool, kw_bool_str, kw_bool_tuple, kw_bool_dict, kw_bool_list, kw_int_int, kw_int_bool, kw_int_str, kw_int_tuple, kw_int_dict, kw_int_list, kw_str_int, kw_str_bool, kw_str_str, kw_str_tuple, kw_str_dict, kw_str_list, kw_list_int, kw_list_bool, kw_list_str, kw_list_tuple, kw_list_dict, kw_list_list, kw_tuple_int, kw_tuple_bool, kw_tuple_str, kw_tuple_tuple, kw_tuple_dict, kw_tuple_list, kw_dict_int, kw_dict_bool, kw_dict_str, kw_dict_tuple, kw_dict_dict, kw_dict_list, Bool.not_false, if_true]
    exact hQ
set_option maxHeartbeats 4000000 in
theorem ok__law_odd {f : Addr} {fd : FuncData} (W : Fun K "_law_odd" "_law_odd" s__law_odd f fd) (T : Bi mg)
    {f__law_some : Addr} {fd__law_some : FuncData} (G__law_some : FnG P w K mg base CX0 2 f__law_some fd__law_some ["_law_bag_here", "_law_things"] (spB K TT [.ro] S__law_some)) (g__law_some : mg "_law_some" = some (.ref f__law_some)) (k__law_some : PySem.W.keepIn K (.ref f__law_some) = true) (b__law_some : Binds K fd__law_some ["_law_bag_here", "_law_things"] []) :
    FnG P w K mg base CX0 3 f fd ["_law_bag_here"] (spB K TT [] S__law_odd) := by
  refine fnB W sc__law_odd rfl fun cdv A out s H E Nn B hr hgd => ⟨_, _, (dss_cons (ds_set (i := 1) sc__law_odd.nd (pd_l (pl_lst (pda_cons pd_non (pda_cons pd_bl (pda_cons pd_bl (pda_cons pd_int (pda_cons pd_int (pda_cons (pd_neg pd_int) (pda_cons pd_int (pda_cons (pd_pow pd_int pd_int) (pda_cons pd_str (pda_cons pd_str (pda_cons pd_str (pda_cons (pd_tup pda_nil) (pda_cons (pd_l (pl_lst pda_nil)) (pda_cons pd_newD (pda_cons (pd_tup (pda_cons pd_int (pda_cons pd_int pda_nil))) (pda_cons (pd_tup (pda_cons pd_int (pda_cons pd_int pda_nil))) (pda_cons (pd_tup (pda_cons pd_int (pda_cons pd_int pda_nil))) (pda_cons pd_str pda_nil)))))))))))))))))))) (fixB (by decide)))
      (dss_cons (ds_set (i := 1) sc__law_odd.nd (pd_l (pl_cat (pdv 1) (pd_l (pl_lst (pda_cons (pd_l (pl_lst (pda_cons pd_str pda_nil))) (pda_cons (pd_disp1 (k := .inr _) pe_str pe_int (ce_c .int)) (pda_cons (pd_disp1 (k := .inl (0)) pe_int (pe_tup (pa_cons (pe_tup (pa_cons pe_int (pa_cons pe_int pa_nil))) (pa_cons (pe_tup (pa_cons pe_int (pa_cons pe_int pa_nil))) pa_nil))) (ce_tup (ca_cons (ce_tup (ca_cons (ce_c .int) (ca_cons (ce_c .int) ca_nil)) (by decide)) (ca_cons (ce_tup (ca_cons (ce_c .int) (ca_cons (ce_c .int) ca_nil)) (by decide)) ca_nil)) (by decide))) (pda_cons (pd_tup (pda_cons (pd_tup (pda_cons pd_int (pda_cons pd_int pda_nil))) (pda_cons (pd_tup (pda_cons pd_int (pda_cons pd_int pda_nil))) pda_nil))) (pda_cons pd_str (pda_cons pd_str (pda_cons (pd_tup (pda_cons pd_int (pda_cons pd_int (pda_cons (pd_tup (pda_cons pd_str pda_nil)) (pda_cons pd_int pda_nil))))) pda_nil))))))))))) (fixB (by decide)))
      (dss_one (ds_ret (pd_callBag G__law_some m__law_some (hr.mono (by decide)) hgd rfl g__law_some k__law_some b__law_some (pda_cons (pdv 0) (pda_cons (pd_l (pl_cat (pdv 1) (pd_l (pl_lst (pda_cons (pd_tup (pda_cons pd_int (pda_cons pd_bl pda_nil))) pda_nil))))) pda_nil))))))), ?_⟩
  clear W T hr hgd G__law_some g__law_some k__law_some b__law_some f__law_some fd__law_some
  rintro bag xs Q hl ⟨_, m, hb, hm, rfl, _, hQ⟩
  clear hl
  replace hQ : ∀ z bag', (Vl 700 4 6000 z) → Bag (m + 1) bag' → Q z bag'   := hQ
  have hm : m + 1 < 2 ^ 60 := hm
  have e : (some (.own bag) :: rhoP (nm__law_odd.length - 1) [] [] : Rho) = [some (.own bag), none] := rfl
  rw [e]
  clear e
  refine seqI fun kk hk => ?_
  walk_at "K14Z0"
  have all1 := vl_all (b := 700) (k := 4) (c := 6000) (xs := [.none, .bool true, .bool false, .int 0, .int 1, .int (-1), .int 7, .int (10 ^ Int.toNat 39), .str (Str.ofString ""), .str (Str.ofString "a"), .str (Str.ofString "red"), .tuple [], .list [], .dict [], .tuple [.int 0, .int 1], .tuple [.int 1, .int 0], .tuple [.int 2, .int 4], .str (Str.ofString "red/blue")]) (by decide +kernel)
  have all2 := vl_all (b := 700) (k := 4) (c := 6000) (xs := [.list [.str (Str.ofString "a")], .dict [(.str (Str.ofString "a"), .int 1)], .dict [(.int 0, .tuple [.tuple [.int 0, .int 0], .tuple [.int 1, .int 1]])], .tuple [.tuple [.int 0, .int 0], .tuple [.int 1, .int 1]], .str (Str.ofString "X"), .str (Str.ofString "a b"), .tuple [.int 0, .int 0, .tuple [.str (Str.ofString "red")], .int 1]]) (by decide +kernel)
  have all3 := vl_all (b := 700) (k := 4) (c := 6000) (xs := [.tuple [.int 3, .bool true]]) (by decide +kernel)
  generalize hL : ([.none, .bool true, .bool false, .int 0, .int 1, .int (-1), .int 7, .int (10 ^ Int.toNat 39), .str (Str.ofString ""), .str (Str.ofString "a"), .str (Str.ofString "red"), .tuple [], .list [], .dict [], .tuple [.int 0, .int 1], .tuple [.int 1, .int 0], .tuple [.int 2, .int 4], .str (Str.ofString "red/blue")] : List PyData) = menu at all1 ⊢
  have hl : menu.length = 18 := by rw [← hL]; rfl
  clear hL
  refine ⟨⟨by decide, by decide⟩, few_le (by decide), ?_⟩
  rw [hk]
  clear hk
  refine seqI fun kk hk => ?_
  dsimp only [dSeq, dAsg, dCB, dCons, dNil, dVar, onVs, vals, val, slot, setR, fGcd, dIfS, dTV, onV2, fLt, fLe, fGt, fGe, fAdd, fSub, fMul, fDiv, fMod, fI0, dC, dUn, onV, fNeg, dNext, dRet, dTup, onD, dats, fDivZ, fI, fPow, Few, retP, fAbs, fInt, fMax, fMin, fLen, fSqrt, fEq, fNe, dNot, dAnd, dOr, dAndV, dOrV, dNotV, dIfE, dDrop, dRetN, dPar, noO, dSetL, dLst, dOfL, dOwnM, onOwn, onDat, kAppend, kInsert, dSetItem, dAddItem, onItems, onInt, dNoPart, dPart, dSlice, onL, litems, dSlL, dCat, onM, mitems, dRng1, dRng2, dCallP, dCallB, dCallF, noSelf, onArgs, dats2, dIsi, tyName, dYes, dgCons, dgNil, retB, dBreak, dCont, ne_eq, not_false_eq_true, true_and, and_true, List.getElem?_cons_zero, List.getElem?_cons_succ, List.set_cons_zero, List.set_cons_succ, Option.map, List.length_cons, List.length_nil, dBestD, dParM, dmNil, dmD, dmL, setM, dLc_eq, dLc2_eq, dFor_eq, dSortSet, dSort, dListOf, dIsN, dNotN, isNo, dAug, dMulA, dgUnl, dSlT, onT, dEnum, dZip, dZipM, dRetL, dPar3, dRevT, dLstRg, dTupRg, dRg1, dRg2, dChainLe, List.nil_append, List.cons_append, if_true, if_false, dFrz, dLcO, dMin2D, dAppX, dParL, dParLL, dRepL, fMax3, dNewDic, dDicPut, dDicGet, dSortDic, onDic, onKey, dLcW, dZipX, dParR, dDead, dSortD, dSortDT, fNeS, fEqS, dgSet, dDGet, onDict_eq, onKeyD_int, onKeyD_str, dDIn, dSortDK, onDict1_eq, dDictL, dDictEn, dDictZip, onSq1_eq, onSq2_eq, onSq_t, onSq_l, onSq_o, dNewD, dDicI, dNewDik, dDikPut, onDik, dFrzD, dNew4, dIndexD, onLst_eq, dIfL, dOrT, dAndT, onTru_int, onTru_bool, onTru_none, onTru_tuple, onTru_list, dTupZip, dTupZipK, dZip3, dZip2, dSortKS, dSortKF, dLetSet, dLetSetK, dLetSetN, dEnumZip, dDicV, fLenD, dFgt, fEqA, fNeA, fStrI, dReprW, dLenSet, dLenSetL, dDikGet, dDikIn, dDisp1_i, dDisp1_s, fEqN, fNeN, dDef, datsF, dCallA, dCallV, fIsB, fNotB, fInA_l, fInA_t, fNotInA_l, fNotInA_t, List.map_cons, List.map_nil, fw0, fw1, fw2, fw3, fw4, fw5, fw6, fw7, fw8, fw9, fw10, fw11, fw12, fw13, fw14, fw15, dExtend, dExtendT, dLstDn, dMaxDf, dOp_ap, dIx_ap, dCatT_ap, dRepT_ap, items_l, items_t, items_o, ti_t, dgT_t, seqs_l, seqs_t, seqs_o, dSeqI_eq, wk_l, wk_t, wk_eP, wk_o, dTupOf_eq, tu_t, tu_l, tu_o, tu_eP, dTupA_eq, ta_t, ta_l, ta_o, ta_eP, items_eW, items_eB, items_eSc, items_eLm, items_eP, items_eL, items_pr, items_enc2, items_eTm, ti_eB, ti_eW, ti_eLm, ti_eP, dgT_eSc, dgT_eLm, dgT_eL, dgT_pr, dgT_enc2, dgT_eW, dgT_eTm, seqs_eP, on0, on1, on2, on3, on4, on5, on6, on7, on8]
  generalize hL : ([.list [.str (Str.ofString "a")], .dict [(.str (Str.ofString "a"), .int 1)], .dict [(.int 0, .tuple [.tuple [.int 0, .int 0], .tuple [.int 1, .int 1]])], .tuple [.tuple [.int 0, .int 0], .tuple [.int 1, .int 1]], .str (Str.ofString "X"), .str (Str.ofString "a b"), .tuple [.int 0, .int 0, .tuple [.str (Str.ofString "red")], .int 1]] : List PyData) = menu2 at all2 ⊢
  have hl2 : menu2.length = 7 := by rw [← hL]; rfl
  clear hL
  have w : ∀ n, n ≤ 100000 → n ≤ sizeLine := fun n h => few_le h
  refine ⟨w _ (by decide), w _ (by decide), w _ (by decide), w _ (by decide), w _ (by decide), w _ (by decide), w _ (by decide), w _ (by omega), ?_⟩
  rw [hk]
  clear hk
  dsimp only [dSeq, dAsg, dCB, dCons, dNil, dVar, onVs, vals, val, slot, setR, fGcd, dIfS, dTV, onV2, fLt, fLe, fGt, fGe, fAdd, fSub, fMul, fDiv, fMod, fI0, dC, dUn, onV, fNeg, dNext, dRet, dTup, onD, dats, fDivZ, fI, fPow, Few, retP, fAbs, fInt, fMax, fMin, fLen, fSqrt, fEq, fNe, dNot, dAnd, dOr, dAndV, dOrV, dNotV, dIfE, dDrop, dRetN, dPar, noO, dSetL, dLst, dOfL, dOwnM, onOwn, onDat, kAppend, kInsert, dSetItem, dAddItem, onItems, onInt, dNoPart, dPart, dSlice, onL, litems, dSlL, dCat, onM, mitems, dRng1, dRng2, dCallP, dCallB, dCallF, noSelf, onArgs, dats2, dIsi, tyName, dYes, dgCons, dgNil, retB, dBreak, dCont, ne_eq, not_false_eq_true, true_and, and_true, List.getElem?_cons_zero, List.getElem?_cons_succ, List.set_cons_zero, List.set_cons_succ, Option.map, List.length_cons, List.length_nil, dBestD, dParM, dmNil, dmD, dmL, setM, dLc_eq, dLc2_eq, dFor_eq, dSortSet, dSort, dListOf, dIsN, dNotN, isNo, dAug, dMulA, dgUnl, dSlT, onT, dEnum, dZip, dZipM, dRetL, dPar3, dRevT, dLstRg, dTupRg, dRg1, dRg2, dChainLe, List.nil_append, List.cons_append, if_true, if_false, dFrz, dLcO, dMin2D, dAppX, dParL, dParLL, dRepL, fMax3, dNewDic, dDicPut, dDicGet, dSortDic, onDic, onKey, dLcW, dZipX, dParR, dDead, dSortD, dSortDT, fNeS, fEqS, dgSet, dDGet, onDict_eq, onKeyD_int, onKeyD_str, dDIn, dSortDK, onDict1_eq, dDictL, dDictEn, dDictZip, onSq1_eq, onSq2_eq, onSq_t, onSq_l, onSq_o, dNewD, dDicI, dNewDik, dDikPut, onDik, dFrzD, dNew4, dIndexD, onLst_eq, dIfL, dOrT, dAndT, onTru_int, onTru_bool, onTru_none, onTru_tuple, onTru_list, dTupZip, dTupZipK, dZip3, dZip2, dSortKS, dSortKF, dLetSet, dLetSetK, dLetSetN, dEnumZip, dDicV, fLenD, dFgt, fEqA, fNeA, fStrI, dReprW, dLenSet, dLenSetL, dDikGet, dDikIn, dDisp1_i, dDisp1_s, fEqN, fNeN, dDef, datsF, dCallA, dCallV, fIsB, fNotB, fInA_l, fInA_t, fNotInA_l, fNotInA_t, List.map_cons, List.map_nil, fw0, fw1, fw2, fw3, fw4, fw5, fw6, fw7, fw8, fw9, fw10, fw11, fw12, fw13, fw14, fw15, dExtend, dExtendT, dLstDn, dMaxDf, dOp_ap, dIx_ap, dCatT_ap, dRepT_ap, items_l, items_t, items_o, ti_t, dgT_t, seqs_l, seqs_t, seqs_o, dSeqI_eq, wk_l, wk_t, wk_eP, wk_o, dTupOf_eq, tu_t, tu_l, tu_o, tu_eP, dTupA_eq, ta_t, ta_l, ta_o, ta_eP, items_eW, items_eB, items_eSc, items_eLm, items_eP, items_eL, items_pr, items_enc2, items_eTm, ti_eB, ti_eW, ti_eLm, ti_eP, dgT_eSc, dgT_eLm, dgT_eL, dgT_pr, dgT_enc2, dgT_eW, dgT_eTm, seqs_eP, on0, on1, on2, on3, on4, on5, on6, on7, on8]
  generalize hL : ([.tuple [.int 3, .bool true]] : List PyData) = menu3 at all3 ⊢
  have hl3 : menu3.length = 1 := by rw [← hL]; rfl
  clear hL
  have all : ∀ y ∈ menu ++ menu2 ++ menu3, Vl 700 4 6000 y := fun y hy => (List.mem_append.mp hy).elim (fun hy => (List.mem_append.mp hy).elim (all1 y) (all2 y)) (all3 y)
  have hla : (menu ++ menu2 ++ menu3).length = 26 := by rw [List.length_append, List.length_append]; omega
  refine ⟨w _ (by decide), w _ (by decide), w _ (by rw [List.length_append]; omega), trivial, ?_⟩
  refine u_some (ys := menu ++ menu2 ++ menu3) hb (by omega) (by omega) (by omega) fun y hy bag1 hb1 => ?_
  exact hQ _ _ (all y hy) hb1
set_option maxHeartbeats 4000000 in
theorem ok__law_shades {f : Addr} {fd : FuncData} (W : Fun K "_law_shades" "_law_shades" s__law_shades f fd) (T : Bi mg)
    {f__law_some : Addr} {fd__law_some : FuncData} (G__law_some : FnG P w K mg base CX0 2 f__law_some fd__law_some ["_law_bag_here", "_law_things"] (spB K TT [.ro] S__law_some)) (g__law_some : mg "_law_some" = some (.ref f__law_some)) (k__law_some : PySem.W.keepIn K (.ref f__law_some) = true) (b__law_some : Binds K fd__law_some ["_law_bag_here", "_law_things"] []) :
    FnG P w K mg base CX0 3 f fd ["_law_bag_here"] (spB K TT [] S__law_shades) := by
  refine fnB W sc__law_shades rfl fun cdv A out s H E Nn B hr hgd => ⟨_, _, (dss_cons (ds_set (i := 1) sc__law_shades.nd (pd_l (pl_lst (pda_cons pd_str (pda_cons pd_str (pda_cons pd_str (pda_cons pd_str (pda_cons (pd_repS pd_str pd_int) (pda_cons pd_str pda_nil)))))))) (fixB (by decide)))
      (dss_cons (ds_fgt (i := 3) (ds_set (i := 2) sc__law_shades.nd (pd_tupleA rfl T.b_tuple (pda_cons (pd_l (pl_lc (own := [("_law_turn", 3)]) rfl sc__law_shades.nd (pdi_range1 rfl T.b_range (pda_cons (pd_callBag G__law_some m__law_some (hr.mono (by decide)) hgd rfl g__law_some k__law_some b__law_some (pda_cons (pdv 0) (pda_cons (pd_l (pl_lst (pda_cons pd_int (pda_cons pd_int (pda_cons pd_int (pda_cons pd_int (pda_cons pd_int pda_nil))))))) pda_nil))) pda_nil)) (blkOk_by (own := [("_law_turn", 3)]) (N := nm__law_shades) (sc := defScope s__law_shades) (by decide +kernel)) (fun _ _ _ _ _ => (pgd_name (i := 3) sc__law_shades.nd)) (fun _ _ _ _ _ => dts_nil) (fun _ _ _ _ _ => (pd_callBag G__law_some m__law_some (hr.mono (by decide)) hgd rfl g__law_some k__law_some b__law_some (pda_cons (pdv 0) (pda_cons (pdv 1) pda_nil)))))) pda_nil)) (fixB (by decide))) (fixB (by decide)))
      (dss_one (ds_ret (pd_repT (pdv 2) (pd_callBag G__law_some m__law_some (hr.mono (by decide)) hgd rfl g__law_some k__law_some b__law_some (pda_cons (pdv 0) (pda_cons (pd_l (pl_lst (pda_cons pd_int (pda_cons pd_int (pda_cons pd_int (pda_cons pd_int pda_nil)))))) pda_nil)))))))), ?_⟩
  clear W T hr hgd G__law_some g__law_some k__law_some b__law_some f__law_some fd__law_some
  rintro bag xs Q hl ⟨_, m, hb, hm, rfl, _, hQ⟩
  clear hl
  replace hQ : ∀ z bag', (∃ ss : List Str, z = .tuple (ss.map .str) ∧ ss ≠ [] ∧ ss.length ≤ 12 ∧ ∀ t ∈ ss, okd (.str t) = true ∧ t.length ≤ 12) → Bag (m + 10) bag' → Q z bag'   := hQ
  have hm : m + 10 < 2 ^ 60 := hm
  have e : (some (.own bag) :: rhoP (nm__law_shades.length - 1) [] [] : Rho) = [some (.own bag), none, none, none] := rfl
  rw [e]
  clear e
  refine seqI fun kk hk => ?_
  simp only [dSeq, dAsg, dCB, dCons, dNil, dVar, onVs, vals, val, slot, setR, fGcd, dIfS, dTV, dOp, dBin, onV2, fLt, fLe, fGt, fGe, fAdd, fSub, fMul, fDiv, fMod, fI0, dC, dUn, onV, fNeg, dNext, dRet, dTup, onD, dats, fDivZ, fI, fPow, Few, retP, fAbs, fInt, fMax, fMin, fLen, fSqrt, fEq, fNe, dNot, dAnd, dOr, dAndV, dOrV, dNotV, dIfE, dDrop, dRetN, dPar, noO, dSetL, dLst, dOfL, dOwnM, onOwn, onDat, kAppend, kInsert, dSetItem, dAddItem, dIx, onItems, items, onInt, dNoPart, dPart, dSlice, onL, litems, dSlL, dCat, onM, mitems, dTupOf, dSeqI, dRng1, dRng2, dCallP, dCallB, dCallF, noSelf, onArgs, dats2, dIsi, tyName, dYes, dgTup, dgCons, dgNil, retB, dBreak, dCont, ne_eq, not_false_eq_true, true_and, and_true, List.getElem?_cons_zero, List.getElem?_cons_succ, List.set_cons_zero, List.set_cons_succ, Option.map, List.length_cons, List.length_nil, dBestD, dParM, dmNil, dmD, dmL, setM, dLc_eq, dLc2_eq, dFor_eq, dSortSet, dSort, dListOf, dIsN, dNotN, isNo, dAug, dMulA, dgUnl, dCatT, dSlT, onT, titems, dEnum, dZip, dZipM, seqs, dRetL, dPar3, dRevT, dLstRg, dTupRg, dRg1, dRg2, dChainLe, List.nil_append, List.cons_append, if_true, if_false, dFrz, dLcO, dMin2D, dAppX, dParL, dParLL, dRepL, fMax3, dNewDic, dDicPut, dDicGet, dSortDic, onDic, onKey, dLcW, dZipX, dParR, dDead, dSortD, dSortDT, fNeS, fEqS, dgSet, dDGet, onDict_eq, onKeyD_int, onKeyD_str, dDIn, dSortDK, onDict1_eq, dDictL, dDictEn, dDictZip, onSq1_eq, onSq2_eq, onSq_t, onSq_l, onSq_o, dNewD, dDicI, dNewDik, dDikPut, onDik, dFrzD, dNew4, dIndexD, onLst_eq, dIfL, dOrT, dAndT, onTru_int, onTru_bool, onTru_none, onTru_tuple, onTru_list, dTupA, tupA, dTupZip, dTupZipK, dZip3, dZip2, dSortKS, dSortKF, dLetSet, dLetSetK, dLetSetN, dEnumZip, dDicV, fLenD, dFgt, fEqA, fNeA, fStrI, dReprW, dLenSet, dLenSetL, dDikGet, dDikIn, dDisp1_i, dDisp1_s, fEqN, fNeN, dDef, datsF, dCallA, dCallV, fIsB, fNotB, fInA_l, fInA_t, fNotInA_l, fNotInA_t, List.map_cons, List.map_nil, fw0, fw1, fw2, fw3, fw4, fw5, fw6, fw7, fw8, fw9, fw10, fw11, fw12, fw13, fw14, fw15, fRepS]
  refine ⟨mul_n, ?_⟩
  have hn1 : okd (.str (Txt.mul (Str.ofString "n") 12)) = true := by decide +kernel
  have hn2 : (Txt.mul (Str.ofString "n") 12).length ≤ 12 := by decide +kernel
  generalize hnn : Txt.mul (Str.ofString "n") 12 = nn at hn1 hn2
  clear hnn
  rw [hk]
  clear hk
  refine seqI fun kk hk => ?_
  walk_at "K14Z1"
  refine u_some hb (by omega) (by decide) (by decide) fun y hy bag1 hb1 => ?_
  obtain ⟨c, rfl, c0, c1⟩ := of_all (lo := 1) (hi := 4) (by decide) y hy
  walk_at "K14Z1"
  refine ⟨⟨by omega, by omega⟩, ?_⟩
  have rl : (rng 0 c.toNat).length = c.toNat := rng_len
  refine lc_draw (n := 1) (rng 0 c.toNat) (fun b => [some (.own b), some (.d (.list [.str (Str.ofString "red"), .str (Str.ofString "blue"), .str (Str.ofString "dark"), .str (Str.ofString "gold"), .str nn, .str (Str.ofString "w")])), none, none]) (fun y => ∃ s : Str, y = .str s ∧ okd (.str s) = true ∧ s.length ≤ 12) bag1 (m + 1) hb1 rfl (fun _ => hv1 rfl) (by omega) (fun i x hx m' bag2 h1 h2 hb2 C1 C2 k fk hc => ?_) fun zs bag2 hzl hzs hb2 => ?_
  · walk_at "K14Z1"
    refine u_some hb2 (by omega) (by simp) (by simp) fun y hy bag3 hb3 => ?_
    have : ∃ s : Str, y = .str s ∧ okd (.str s) = true ∧ s.length ≤ 12 := by
      simp only [List.mem_cons, List.not_mem_nil, or_false] at hy
      rcases hy with rfl | rfl | rfl | rfl | rfl | rfl
      · exact ⟨_, rfl, by decide +kernel, by decide +kernel⟩
      · exact ⟨_, rfl, by decide +kernel, by decide +kernel⟩
      · exact ⟨_, rfl, by decide +kernel, by decide +kernel⟩
      · exact ⟨_, rfl, by decide +kernel, by decide +kernel⟩
      · exact ⟨_, rfl, hn1, hn2⟩
      · exact ⟨_, rfl, by decide +kernel, by decide +kernel⟩
    try walk_at "K14Z3"
    exact ⟨fk, hc _ _ this hb3⟩
  · obtain ⟨ss, rfl, hss⟩ := as_enc PyData.str (fun _ s => okd (.str s) = true ∧ s.length ≤ 12) zs fun i z hz => by
      obtain ⟨s, e, h⟩ := hzs z (List.mem_of_getElem? hz)
      exact ⟨s, e, h⟩
    rw [List.length_map] at hzl
    rw [hk]
    clear hk
    simp only [dSeq, dAsg, dCB, dCons, dNil, dVar, onVs, vals, val, slot, setR, fGcd, dIfS, dTV, dOp, dBin, onV2, fLt, fLe, fGt, fGe, fAdd, fSub, fMul, fDiv, fMod, fI0, dC, dUn, onV, fNeg, dNext, dRet, dTup, onD, dats, fDivZ, fI, fPow, Few, retP, fAbs, fInt, fMax, fMin, fLen, fSqrt, fEq, fNe, dNot, dAnd, dOr, dAndV, dOrV, dNotV, dIfE, dDrop, dRetN, dPar, noO, dSetL, dLst, dOfL, dOwnM, onOwn, onDat, kAppend, kInsert, dSetItem, dAddItem, dIx, onItems, items, onInt, dNoPart, dPart, dSlice, onL, litems, dSlL, dCat, onM, mitems, dTupOf, dSeqI, dRng1, dRng2, dCallP, dCallB, dCallF, noSelf, onArgs, dats2, dIsi, tyName, dYes, dgTup, dgCons, dgNil, retB, dBreak, dCont, ne_eq, not_false_eq_true, true_and, and_true, List.getElem?_cons_zero, List.getElem?_cons_succ, List.set_cons_zero, List.set_cons_succ, Option.map, List.length_cons, List.length_nil, dBestD, dParM, dmNil, dmD, dmL, setM, dLc_eq, dLc2_eq, dFor_eq, dSortSet, dSort, dListOf, dIsN, dNotN, isNo, dAug, dMulA, dgUnl, dCatT, dSlT, onT, titems, dEnum, dZip, dZipM, seqs, dRetL, dPar3, dRevT, dLstRg, dTupRg, dRg1, dRg2, dChainLe, List.nil_append, List.cons_append, if_true, if_false, dFrz, dLcO, dMin2D, dAppX, dParL, dParLL, dRepL, fMax3, dNewDic, dDicPut, dDicGet, dSortDic, onDic, onKey, dLcW, dZipX, dParR, dDead, dSortD, dSortDT, fNeS, fEqS, dgSet, dDGet, onDict_eq, onKeyD_int, onKeyD_str, dDIn, dSortDK, onDict1_eq, dDictL, dDictEn, dDictZip, onSq1_eq, onSq2_eq, onSq_t, onSq_l, onSq_o, dNewD, dDicI, dNewDik, dDikPut, onDik, dFrzD, dNew4, dIndexD, onLst_eq, dIfL, dOrT, dAndT, onTru_int, onTru_bool, onTru_none, onTru_tuple, onTru_list, dTupA, tupA, dTupZip, dTupZipK, dZip3, dZip2, dSortKS, dSortKF, dLetSet, dLetSetK, dLetSetN, dEnumZip, dDicV, fLenD, dFgt, fEqA, fNeA, fStrI, dReprW, dLenSet, dLenSetL, dDikGet, dDikIn, dDisp1_i, dDisp1_s, fEqN, fNeN, dDef, datsF, dCallA, dCallV, fIsB, fNotB, fInA_l, fInA_t, fNotInA_l, fNotInA_t, List.map_cons, List.map_nil, fw0, fw1, fw2, fw3, fw4, fw5, fw6, fw7, fw8, fw9, fw10, fw11, fw12, fw13, fw14, fw15, wipeR, dRepT]
    refine u_some hb2 (by omega) (by decide) (by decide) fun y hy bag3 hb3 => ?_
    obtain ⟨d, rfl, d0, d1⟩ := of_all (lo := 1) (hi := 3) (by decide) y hy
    walk_at "K14Z1"
    have fl : (List.replicate d.toNat ss).flatten.length = d.toNat * ss.length := by rw [List.length_flatten, List.map_replicate, List.sum_replicate_nat]
    have l4 : ss.length ≤ 4 := by omega
    have l1 : 1 ≤ ss.length := by omega
    have d3 : d.toNat ≤ 3 := by omega
    have d1' : 1 ≤ d.toNat := by omega
    have up := Nat.mul_le_mul d3 l4
    have dn := Nat.mul_le_mul d1' l1
    refine ⟨⟨fun e => ?_, by omega, by omega, by rw [List.length_map]; omega⟩, hQ _ _ ⟨(List.replicate d.toNat ss).flatten, ?_, fun e => ?_, by omega, fun t ht => ?_⟩ (hb3.up (by omega))⟩
    · have := List.map_eq_nil_iff.mp e
      rw [this] at hzl
      simp at hzl
      omega
    · unfold repD
      rw [List.map_flatten, List.map_replicate]
    · rw [e] at fl
      simp at fl
      rw [← fl] at dn
      simp at dn
    · obtain ⟨s2, h1, h2⟩ := List.mem_flatten.mp ht
      rw [List.eq_of_mem_replicate h1] at h2
      obtain ⟨i, hi⟩ := List.mem_iff_getElem?.mp h2
      exact hss i t hi
set_option maxHeartbeats 4000000 in
theorem ok__law_is_rows {f : Addr} {fd : FuncData} (W : Fun K "_law_is_rows" "_law_is_rows" s__law_is_rows f fd) (T : Bi mg)
    {f__law_is_int : Addr} {fd__law_is_int : FuncData} (G__law_is_int : FnG P w K mg base CX0 1 f__law_is_int fd__law_is_int ["_law_thing"] (spP K TT [.d] S__law_is_int)) (g__law_is_int : mg "_law_is_int" = some (.ref f__law_is_int)) (k__law_is_int : PySem.W.keepIn K (.ref f__law_is_int) = true) (b__law_is_int : Binds K fd__law_is_int ["_law_thing"] [])
    {f__law_are_rows : Addr} {fd__law_are_rows : FuncData} (G__law_are_rows : FnG P w K mg base CX0 1 f__law_are_rows fd__law_are_rows ["_law_picture", "_law_spacing", "_law_rows_here"] (spP K TT [.d, .d, .d] S__law_are_rows)) (g__law_are_rows : mg "_law_are_rows" = some (.ref f__law_are_rows)) (k__law_are_rows : PySem.W.keepIn K (.ref f__law_are_rows) = true) (b__law_are_rows : Binds K fd__law_are_rows ["_law_picture", "_law_spacing", "_law_rows_here"] [])
    {f__law_are : Addr} {fd__law_are : FuncData} (G__law_are : FnG P w K mg base CX0 2 f__law_are fd__law_are ["_law_thing", "_law_least", "_law_is_one"] (spA K TT 2 f__law_is_int S__law_are)) (g__law_are : mg "_law_are" = some (.ref f__law_are)) (k__law_are : PySem.W.keepIn K (.ref f__law_are) = true) (b__law_are : Binds K fd__law_are ["_law_thing", "_law_least", "_law_is_one"] []) :
    FnG P w K mg base CX0 3 f fd ["_law_picture", "_law_spacing", "_law_thing"] (spP K TT [.d, .d, .d] S__law_is_rows) := by
  refine fnP W sc__law_is_rows rfl fun cdv A out s H E Nn hr hgd => ⟨_, _, (dss_cons (ds_fgt (i := 3) (ds_if (pt_w (pwd_or (pt_no (pt_v (pd_callA G__law_are m__law_are n__law_are (hr.mono (by decide)) hgd rfl g__law_are k__law_are b__law_are (pda_cons (pdv 2) (pda_cons pd_int (pda_cons (pd_def rfl g__law_is_int ) pda_nil)))))) (pwd_or (pt_ne hr.units rfl (pd_callB call_len_seq sc_len rfl T.b_len (by decide +kernel) (pda_cons (pdv 2) pda_nil)) (pd_callB call_len_seq sc_len rfl T.b_len (by decide +kernel) (pda_cons (pdv 0) pda_nil))) (pwd_or1 (pt_ne hr.units rfl (pd_l (pl_lc (own := [("_law_row", 3)]) rfl sc__law_is_rows.nd (pdi_seq (pdv 2)) (blkOk_by (own := [("_law_row", 3)]) (N := nm__law_is_rows) (sc := defScope s__law_is_rows) (by decide +kernel)) (fun _ _ _ _ _ => (pgd_name (i := 3) sc__law_is_rows.nd)) (fun _ _ _ _ _ => (dts_one (pt_lt (pdv 3) pd_int))) (fun _ _ _ _ _ => (pdv 3)))) (pd_l (pl_lst pda_nil))))))) (dss_one (ds_ret pd_bl)) dss_nil) fixP)
      (dss_one (ds_ret (pd_callP G__law_are_rows m__law_are_rows (hr.mono (by decide)) hgd rfl g__law_are_rows k__law_are_rows b__law_are_rows (pda_cons (pdv 0) (pda_cons (pdv 1) (pda_cons (pdv 2) pda_nil))))))), ?_⟩
  clear W T hr hgd G__law_is_int g__law_is_int k__law_is_int b__law_is_int fd__law_is_int G__law_are_rows g__law_are_rows k__law_are_rows b__law_are_rows f__law_are_rows fd__law_are_rows G__law_are g__law_are k__law_are b__law_are f__law_are fd__law_are
  rintro xs Q hl ⟨⟨ls, sp, d, b, k, c⟩, rfl, ⟨h0, h1, h2, h3, h4, h5⟩, hQ⟩
  clear hl
  replace hQ : Q (.bool (rowsC ls sp d)) := hQ
  have e : rhoP nm__law_is_rows.length [.d, .d, .d] [eP ls, .int sp, d] = [some (.d (eP ls)), some (.d (.int sp)), some (.d (d)), none] := rfl
  rw [e]
  clear e
  walk_at "K14Z0"
  refine ⟨_, rfl, u__law_are (n := 0) h4 h5 ?_⟩
  cases ha : areN 0 d with
  | false =>
    rw [rowsC_not fun rs e _ _ => by
      subst e
      have : areN 0 (.tuple (rs.map .int)) = true := by
        show (decide (0 ≤ (rs.map PyData.int).length) && (rs.map PyData.int).all isI) = true
        rw [decide_eq_true (Nat.zero_le _), Bool.true_and]
        exact List.all_eq_true.mpr fun x hx => by
          obtain ⟨r, _, rfl⟩ := List.mem_map.mp hx
          rfl
      rw [this] at ha
      cases ha] at hQ
    simp only [dSeq, dAsg, dCB, dCons, dNil, dVar, onVs, vals, val, slot, setR, fGcd, dIfS, dTV, onV2, fLt, fLe, fGt, fGe, fAdd, fSub, fMul, fDiv, fMod, fI0, dC, dUn, onV, fNeg, dNext, dRet, dTup, onD, dats, fDivZ, fI, fPow, Few, retP, fAbs, fInt, fMax, fMin, fLen, fSqrt, fEq, fNe, dNot, dAnd, dOr, dAndV, dOrV, dNotV, dIfE, dDrop, dRetN, dPar, noO, dSetL, dLst, dOfL, dOwnM, onOwn, onDat, kAppend, kInsert, dSetItem, dAddItem, onItems, onInt, dNoPart, dPart, dSlice, onL, litems, dSlL, dCat, onM, mitems, dRng1, dRng2, dCallP, dCallB, dCallF, noSelf, onArgs, dats2, dIsi, tyName, dYes, dgCons, dgNil, retB, dBreak, dCont, ne_eq, not_false_eq_true, true_and, and_true, List.getElem?_cons_zero, List.getElem?_cons_succ, List.set_cons_zero, List.set_cons_succ, Option.map, List.length_cons, List.length_nil, dBestD, dParM, dmNil, dmD, dmL, setM, dLc_eq, dLc2_eq, dFor_eq, dSortSet, dSort, dListOf, dIsN, dNotN, isNo, dAug, dMulA, dgUnl, dSlT, onT, dEnum, dZip, dZipM, dRetL, dPar3, dRevT, dLstRg, dTupRg, dRg1, dRg2, dChainLe, List.nil_append, List.cons_append, if_true, if_false, dFrz, dLcO, dMin2D, dAppX, dParL, dParLL, dRepL, fMax3, dNewDic, dDicPut, dDicGet, dSortDic, onDic, onKey, dLcW, dZipX, dParR, dDead, dSortD, dSortDT, fNeS, fEqS, dgSet, dDGet, onDict_eq, onKeyD_int, onKeyD_str, dDIn, dSortDK, onDict1_eq, dDictL, dDictEn, dDictZip, onSq1_eq, onSq2_eq, onSq_t, onSq_l, onSq_o, dNewD, dDicI, dNewDik, dDikPut, onDik, dFrzD, dNew4, dIndexD, onLst_eq, dIfL, dOrT, dAndT, onTru_int, onTru_bool, onTru_none, onTru_tuple, onTru_list, dTupZip, dTupZipK, dZip3, dZip2, dSortKS, dSortKF, dLetSet, dLetSetK, dLetSetN, dEnumZip, dDicV, fLenD, dFgt, fEqA, fNeA, fStrI, dReprW, dLenSet, dLenSetL, dDikGet, dDikIn, dDisp1_i, dDisp1_s, fEqN, fNeN, dDef, datsF, dCallA, dCallV, fIsB, fNotB, fInA_l, fInA_t, fNotInA_l, fNotInA_t, List.map_cons, List.map_nil, fw0, fw1, fw2, fw3, fw4, fw5, fw6, fw7, fw8, fw9, fw10, fw11, fw12, fw13, fw14, fw15, dExtend, dExtendT, dLstDn, dMaxDf, dOp_ap, dIx_ap, dCatT_ap, dRepT_ap, items_l, items_t, items_o, ti_t, dgT_t, seqs_l, seqs_t, seqs_o, dSeqI_eq, wk_l, wk_t, wk_eP, wk_o, dTupOf_eq, tu_t, tu_l, tu_o, tu_eP, dTupA_eq, ta_t, ta_l, ta_o, ta_eP, items_eW, items_eB, items_eSc, items_eLm, items_eP, items_eL, items_pr, items_enc2, items_eTm, ti_eB, ti_eW, ti_eLm, ti_eP, dgT_eSc, dgT_eLm, dgT_eL, dgT_pr, dgT_enc2, dgT_eW, dgT_eTm, seqs_eP, on0, on1, on2, on3, on4, on5, on6, on7, on8, Bool.not_false, if_true]
    exact hQ
  | true =>
    obtain ⟨rs, rfl⟩ : ∃ rs : List Int, d = .tuple (rs.map .int) := by
      unfold areN at ha
      split at ha
      · rw [Bool.and_eq_true] at ha
        obtain ⟨rs, e⟩ := ints_all ha.2
        exact ⟨rs, by rw [e]⟩
      · cases ha
    have nl : rs.length ≤ 100000 := by
      obtain ⟨_, hw⟩ := h4.items
      have := wVs_len (rs.map PyData.int)
      rw [List.length_map] at this
      omega
    simp only [dSeq, dAsg, dCB, dCons, dNil, dVar, onVs, vals, val, slot, setR, fGcd, dIfS, dTV, onV2, fLt, fLe, fGt, fGe, fAdd, fSub, fMul, fDiv, fMod, fI0, dC, dUn, onV, fNeg, dNext, dRet, dTup, onD, dats, fDivZ, fI, fPow, Few, retP, fAbs, fInt, fMax, fMin, fLen, fSqrt, fEq, fNe, dNot, dAnd, dOr, dAndV, dOrV, dNotV, dIfE, dDrop, dRetN, dPar, noO, dSetL, dLst, dOfL, dOwnM, onOwn, onDat, kAppend, kInsert, dSetItem, dAddItem, onItems, onInt, dNoPart, dPart, dSlice, onL, litems, dSlL, dCat, onM, mitems, dRng1, dRng2, dCallP, dCallB, dCallF, noSelf, onArgs, dats2, dIsi, tyName, dYes, dgCons, dgNil, retB, dBreak, dCont, ne_eq, not_false_eq_true, true_and, and_true, List.getElem?_cons_zero, List.getElem?_cons_succ, List.set_cons_zero, List.set_cons_succ, Option.map, List.length_cons, List.length_nil, dBestD, dParM, dmNil, dmD, dmL, setM, dLc_eq, dLc2_eq, dFor_eq, dSortSet, dSort, dListOf, dIsN, dNotN, isNo, dAug, dMulA, dgUnl, dSlT, onT, dEnum, dZip, dZipM, dRetL, dPar3, dRevT, dLstRg, dTupRg, dRg1, dRg2, dChainLe, List.nil_append, List.cons_append, if_true, if_false, dFrz, dLcO, dMin2D, dAppX, dParL, dParLL, dRepL, fMax3, dNewDic, dDicPut, dDicGet, dSortDic, onDic, onKey, dLcW, dZipX, dParR, dDead, dSortD, dSortDT, fNeS, fEqS, dgSet, dDGet, onDict_eq, onKeyD_int, onKeyD_str, dDIn, dSortDK, onDict1_eq, dDictL, dDictEn, dDictZip, onSq1_eq, onSq2_eq, onSq_t, onSq_l, onSq_o, dNewD, dDicI, dNewDik, dDikPut, onDik, dFrzD, dNew4, dIndexD, onLst_eq, dIfL, dOrT, dAndT, onTru_int, onTru_bool, onTru_none, onTru_tuple, onTru_list, dTupZip, dTupZipK, dZip3, dZip2, dSortKS, dSortKF, dLetSet, dLetSetK, dLetSetN, dEnumZip, dDicV, fLenD, dFgt, fEqA, fNeA, fStrI, dReprW, dLenSet, dLenSetL, dDikGet, dDikIn, dDisp1_i, dDisp1_s, fEqN, fNeN, dDef, datsF, dCallA, dCallV, fIsB, fNotB, fInA_l, fInA_t, fNotInA_l, fNotInA_t, List.map_cons, List.map_nil, fw0, fw1, fw2, fw3, fw4, fw5, fw6, fw7, fw8, fw9, fw10, fw11, fw12, fw13, fw14, fw15, dExtend, dExtendT, dLstDn, dMaxDf, dOp_ap, dIx_ap, dCatT_ap, dRepT_ap, items_l, items_t, items_o, ti_t, dgT_t, seqs_l, seqs_t, seqs_o, dSeqI_eq, wk_l, wk_t, wk_eP, wk_o, dTupOf_eq, tu_t, tu_l, tu_o, tu_eP, dTupA_eq, ta_t, ta_l, ta_o, ta_eP, items_eW, items_eB, items_eSc, items_eLm, items_eP, items_eL, items_pr, items_enc2, items_eTm, ti_eB, ti_eW, ti_eLm, ti_eP, dgT_eSc, dgT_eLm, dgT_eL, dgT_pr, dgT_enc2, dgT_eW, dgT_eTm, seqs_eP, on0, on1, on2, on3, on4, on5, on6, on7, on8, Bool.not_true, Bool.false_eq_true, if_false, eP, List.length_map]
    refine ⟨sh_int, sh_int, ?_⟩
    rw [eqv_int]
    refine ite_nb (c := ((rs.length : Nat) : Int) = ((ls.length : Nat) : Int)) (fun h => ?_) fun h => ?_
    · rw [rowsC_not fun qs e a _ => by
        injection e with e
        rw [ints_inj e] at h
        exact absurd (by omega) h] at hQ
      exact hQ
    refine lc_fm rs .int (fun r => (if r < 0 then some r else none : Option Int).map .int) (hv1 rfl) nl (fun i r hr C1 C2 n hn c1 c2 => ?_) ?_
    · walk_at "K14Z0"
      refine ite_b (c := r < 0) (fun h => ?_) fun h => ?_
      · rw [if_pos h] at c1
        exact ⟨hn, c1 _ rfl⟩
      · rw [if_neg h] at c2
        exact c2 rfl
    rw [show (rs.filterMap fun r => (if r < 0 then some r else none : Option Int).map PyData.int) = (rs.filter fun r => decide (r < 0)).map .int from fm_neg rs]
    refine ⟨sh_ints, sh_ints (xs := []), ?_⟩
    rw [eqv_nilL]
    refine ite_nb (c := (rs.filter fun r => decide (r < 0)) = []) (fun h => ?_) fun h => ?_
    · rw [rowsC_not fun qs e _ b => by
        injection e with e
        rw [← ints_inj e] at b
        refine absurd ?_ h
        rw [List.filter_eq_nil_iff]
        intro r hr
        rw [decide_eq_true_eq]
        have := b r hr
        omega] at hQ
      exact hQ
    have nn : ∀ r ∈ rs, 0 ≤ r := fun r hr => by
      rw [List.filter_eq_nil_iff] at h
      have := h r hr
      rw [decide_eq_true_eq] at this
      omega
    have le : rs.length = ls.length := by omega
    simp only [wipeR, dSeq, dAsg, dCB, dCons, dNil, dVar, onVs, vals, val, slot, setR, fGcd, dIfS, dTV, onV2, fLt, fLe, fGt, fGe, fAdd, fSub, fMul, fDiv, fMod, fI0, dC, dUn, onV, fNeg, dNext, dRet, dTup, onD, dats, fDivZ, fI, fPow, Few, retP, fAbs, fInt, fMax, fMin, fLen, fSqrt, fEq, fNe, dNot, dAnd, dOr, dAndV, dOrV, dNotV, dIfE, dDrop, dRetN, dPar, noO, dSetL, dLst, dOfL, dOwnM, onOwn, onDat, kAppend, kInsert, dSetItem, dAddItem, onItems, onInt, dNoPart, dPart, dSlice, onL, litems, dSlL, dCat, onM, mitems, dRng1, dRng2, dCallP, dCallB, dCallF, noSelf, onArgs, dats2, dIsi, tyName, dYes, dgCons, dgNil, retB, dBreak, dCont, ne_eq, not_false_eq_true, true_and, and_true, List.getElem?_cons_zero, List.getElem?_cons_succ, List.set_cons_zero, List.set_cons_succ, Option.map, List.length_cons, List.length_nil, dBestD, dParM, dmNil, dmD, dmL, setM, dLc_eq, dLc2_eq, dFor_eq, dSortSet, dSort, dListOf, dIsN, dNotN, isNo, dAug, dMulA, dgUnl, dSlT, onT, dEnum, dZip, dZipM, dRetL, dPar3, dRevT, dLstRg, dTupRg, dRg1, dRg2, dChainLe, List.nil_append, List.cons_append, if_true, if_false, dFrz, dLcO, dMin2D, dAppX, dParL, dParLL, dRepL, fMax3, dNewDic, dDicPut, dDicGet, dSortDic, onDic, onKey, dLcW, dZipX, dParR, dDead, dSortD, dSortDT, fNeS, fEqS, dgSet, dDGet, onDict_eq, onKeyD_int, onKeyD_str, dDIn, dSortDK, onDict1_eq, dDictL, dDictEn, dDictZip, onSq1_eq, onSq2_eq, onSq_t, onSq_l, onSq_o, dNewD, dDicI, dNewDik, dDikPut, onDik, dFrzD, dNew4, dIndexD, onLst_eq, dIfL, dOrT, dAndT, onTru_int, onTru_bool, onTru_none, onTru_tuple, onTru_list, dTupZip, dTupZipK, dZip3, dZip2, dSortKS, dSortKF, dLetSet, dLetSetK, dLetSetN, dEnumZip, dDicV, fLenD, dFgt, fEqA, fNeA, fStrI, dReprW, dLenSet, dLenSetL, dDikGet, dDikIn, dDisp1_i, dDisp1_s, fEqN, fNeN, dDef, datsF, dCallA, dCallV, fIsB, fNotB, fInA_l, fInA_t, fNotInA_l, fNotInA_t, List.map_cons, List.map_nil, fw0, fw1, fw2, fw3, fw4, fw5, fw6, fw7, fw8, fw9, fw10, fw11, fw12, fw13, fw14, fw15, dExtend, dExtendT, dLstDn, dMaxDf, dOp_ap, dIx_ap, dCatT_ap, dRepT_ap, items_l, items_t, items_o, ti_t, dgT_t, seqs_l, seqs_t, seqs_o, dSeqI_eq, wk_l, wk_t, wk_eP, wk_o, dTupOf_eq, tu_t, tu_l, tu_o, tu_eP, dTupA_eq, ta_t, ta_l, ta_o, ta_eP, items_eW, items_eB, items_eSc, items_eLm, items_eP, items_eL, items_pr, items_enc2, items_eTm, ti_eB, ti_eW, ti_eLm, ti_eP, dgT_eSc, dgT_eLm, dgT_eL, dgT_pr, dgT_enc2, dgT_eW, dgT_eTm, seqs_eP, on0, on1, on2, on3, on4, on5, on6, on7, on8]
    refine u__law_are_rows (ls := ls) h3 le fun z hz => ?_
    obtain ⟨bb, rfl, hb⟩ := hz
    rw [show bb = rowsC ls sp (.tuple (rs.map .int)) by
      cases bb with
      | true => rw [rowsC_yes le nn (hb.mp rfl)]
      | false => rw [rowsC_not fun qs e _ _ k => by
          injection e with e
          rw [← ints_inj e] at k
          exact absurd (hb.mpr k) Bool.false_ne_true]]
    exact hQ
set_option maxHeartbeats 4000000 in
theorem ok__law_close_picture {f : Addr} {fd : FuncData} (W : Fun K "_law_close_picture" "_law_close_picture" s__law_close_picture f fd) (T : Bi mg)
    {f__law_some : Addr} {fd__law_some : FuncData} (G__law_some : FnG P w K mg base CX0 2 f__law_some fd__law_some ["_law_bag_here", "_law_things"] (spB K TT [.ro] S__law_some)) (g__law_some : mg "_law_some" = some (.ref f__law_some)) (k__law_some : PySem.W.keepIn K (.ref f__law_some) = true) (b__law_some : Binds K fd__law_some ["_law_bag_here", "_law_things"] [])
    {f__law_take : Addr} {fd__law_take : FuncData} (G__law_take : FnG P w K mg base CX0 1 f__law_take fd__law_take ["_law_bag_here", "_law_many"] (spB K TT [.d] S__law_take)) (g__law_take : mg "_law_take" = some (.ref f__law_take)) (k__law_take : PySem.W.keepIn K (.ref f__law_take) = true) (b__law_take : Binds K fd__law_take ["_law_bag_here", "_law_many"] [])
    {f__law_shades : Addr} {fd__law_shades : FuncData} (G__law_shades : FnG P w K mg base CX0 3 f__law_shades fd__law_shades ["_law_bag_here"] (spB K TT [] S__law_shades)) (g__law_shades : mg "_law_shades" = some (.ref f__law_shades)) (k__law_shades : PySem.W.keepIn K (.ref f__law_shades) = true) (b__law_shades : Binds K fd__law_shades ["_law_bag_here"] [])
    {f__law_shape : Addr} {fd__law_shape : FuncData} (G__law_shape : FnG P w K mg base CX0 1 f__law_shape fd__law_shape ["_law_points"] (spP K TT [.d] S__law_shape)) (g__law_shape : mg "_law_shape" = some (.ref f__law_shape)) (k__law_shape : PySem.W.keepIn K (.ref f__law_shape) = true) (b__law_shape : Binds K fd__law_shape ["_law_points"] []) :
    FnG P w K mg base CX0 4 f fd ["_law_bag_here"] (spB K TT [] S__law_close_picture) := by
  refine fnB W sc__law_close_picture rfl fun cdv A out s H E Nn B hr hgd => ⟨_, _, (dss_cons (ds_set (i := 1) sc__law_close_picture.nd (pd_callBag G__law_some m__law_some (hr.mono (by decide)) hgd rfl g__law_some k__law_some b__law_some (pda_cons (pdv 0) (pda_cons (pd_l (pl_lst (pda_cons pd_int (pda_cons pd_int (pda_cons pd_int (pda_cons pd_int pda_nil)))))) pda_nil))) (fixB (by decide)))
      (dss_cons (ds_fgt (i := 3) (ds_setLc (i := 2) (own := [("_law_turn", 3)]) rfl sc__law_close_picture.nd (pdi_range1 rfl T.b_range (pda_cons (pd_callBag G__law_some m__law_some (hr.mono (by decide)) hgd rfl g__law_some k__law_some b__law_some (pda_cons (pdv 0) (pda_cons (pd_l (pl_lst (pda_cons pd_int (pda_cons pd_int (pda_cons pd_int (pda_cons pd_int (pda_cons pd_int pda_nil))))))) pda_nil))) pda_nil)) (blkOk_by (own := [("_law_turn", 3)]) (N := nm__law_close_picture) (sc := defScope s__law_close_picture) (by decide +kernel)) (fun _ _ _ _ _ => (pgd_name (i := 3) sc__law_close_picture.nd)) (fun _ _ _ _ _ => dts_nil) (fun _ _ _ _ _ => (pd_tup (pda_cons (pd_callBag G__law_take m__law_take (hr.mono (by decide)) hgd rfl g__law_take k__law_take b__law_take (pda_cons (pdv 0) (pda_cons (pdv 1) pda_nil))) (pda_cons (pd_callBag G__law_take m__law_take (hr.mono (by decide)) hgd rfl g__law_take k__law_take b__law_take (pda_cons (pdv 0) (pda_cons pd_int pda_nil))) pda_nil)))) (fixB (by decide))) (fixB (by decide)))
      (dss_cons (ds_fgt (i := 6) (ds_fgt (i := 5) (ds_setLc (i := 4) (own := [("_law_x", 5), ("_law_z", 6)]) rfl sc__law_close_picture.nd (pdi_seq (pd_callP G__law_shape m__law_shape (hr.mono (by decide)) hgd rfl g__law_shape k__law_shape b__law_shape (pda_cons (pdv 2) pda_nil))) (blkOk_by (own := [("_law_x", 5), ("_law_z", 6)]) (N := nm__law_close_picture) (sc := defScope s__law_close_picture) (by decide +kernel)) (fun _ _ _ _ _ => (pgd_tup (n := 2) rfl (pgds_cons (pgd_name (i := 5) sc__law_close_picture.nd) (pgds_cons (pgd_name (i := 6) sc__law_close_picture.nd) pgds_nil)))) (fun _ _ _ _ _ => dts_nil) (fun _ _ _ _ _ => (pd_tup (pda_cons (pd_sub (pdv 5) (pd_div (pdv 1) pd_int)) (pda_cons (pdv 6) (pda_cons (pd_callBag G__law_shades m__law_shades (hr.mono (by decide)) hgd rfl g__law_shades k__law_shades b__law_shades (pda_cons (pdv 0) pda_nil)) (pda_cons (pd_callBag G__law_some m__law_some (hr.mono (by decide)) hgd rfl g__law_some k__law_some b__law_some (pda_cons (pdv 0) (pda_cons (pd_l (pl_lst (pda_cons pd_int (pda_cons pd_int (pda_cons pd_int (pda_cons pd_int (pda_cons pd_int pda_nil))))))) pda_nil))) pda_nil)))))) (fixB (by decide))) (fixB (by decide))) (fixB (by decide)))
      (dss_one (ds_ret (pd_tupleA rfl T.b_tuple (pda_cons (pdv 4) pda_nil))))))), ?_⟩
  clear W T hr hgd G__law_some g__law_some k__law_some b__law_some f__law_some fd__law_some G__law_take g__law_take k__law_take b__law_take f__law_take fd__law_take G__law_shades g__law_shades k__law_shades b__law_shades f__law_shades fd__law_shades G__law_shape g__law_shape k__law_shape b__law_shape f__law_shape fd__law_shape
  rintro bag xs Q hl ⟨_, m, hb, hm, rfl, _, hQ⟩
  clear hl
  replace hQ : ∀ z bag', (∃ ls : List Lmp, z = eP ls ∧ PicC ls) → Bag (m + 200) bag' → Q z bag'   := hQ
  have hm : m + 200 < 2 ^ 60 := hm
  have e : (some (.own bag) :: rhoP (nm__law_close_picture.length - 1) [] [] : Rho) = [some (.own bag), none, none, none, none, none, none] := rfl
  rw [e]
  clear e
  refine seqI fun kk hk => ?_
  walk_at "K14Z1"
  refine u_some hb (by omega) (by decide) (by decide) fun y hy bag1 hb1 => ?_
  obtain ⟨wd, rfl, wd0, wd1⟩ := of_all (lo := 3) (hi := 40) (by decide) y hy
  rw [hk]
  clear hk
  refine seqI fun kk hk => ?_
  walk_at "K14Z1"
  refine u_some hb1 (by omega) (by decide) (by decide) fun y hy bag2 hb2 => ?_
  obtain ⟨c, rfl, c0, c1⟩ := of_all (lo := 0) (hi := 14) (by decide) y hy
  walk_at "K14Z1"
  refine ⟨⟨by omega, by omega⟩, ?_⟩
  have rl : (rng 0 c.toNat).length = c.toNat := rng_len
  refine lc_draw (n := 2) (rng 0 c.toNat) (fun b => [some (.own b), some (.d (.int wd)), none, none, none, none, none]) (fun y => ∃ p : Pr, y = encP p ∧ 0 ≤ p.1 ∧ p.1 < wd ∧ 0 ≤ p.2 ∧ p.2 < 9) bag2 (m + 1 + 1) hb2 rfl (fun _ => hv1 rfl) (by omega) (fun i x hx m' bag2 h1 h2 hb2 C1 C2 k fk hc => ?_) fun zs bag3 hzl hzs hb3 => ?_
  · walk_at "K14Z1"
    refine u_take hb2 (by omega) (by omega) (by omega) fun v bag3 v0 v1 hb3 => ?_
    try walk_at "K14Z1"
    refine u_take hb3 (by omega) (by omega) (by omega) fun u bag4 u0 u1 hb4 => ?_
    try walk_at "K14Z3"
    exact ⟨fk, hc _ _ ⟨(v, u), rfl, v0, v1, u0, u1⟩ hb4⟩
  · obtain ⟨ps, rfl, hps⟩ := as_enc encP (fun _ p => 0 ≤ p.1 ∧ p.1 < wd ∧ 0 ≤ p.2 ∧ p.2 < 9) zs fun i z hz => hzs z (List.mem_of_getElem? hz)
    rw [List.length_map] at hzl
    rw [hk]
    clear hk
    refine seqI fun kk hk => ?_
    walk_at "K14Z3"
    refine u__law_shape (ps := ps) (by omega) fun z hz => ?_
    obtain ⟨qs, hqs, rfl⟩ := hz
    walk_at "K14Z1"
    have lq : qs.length ≤ 14 := by
      have : qs.length ≤ ps.length := nodup_le hqs.1 fun p hp => (hqs.2.2 p).mp hp
      omega
    have inq : ∀ p ∈ qs, 0 ≤ p.1 ∧ p.1 < wd ∧ 0 ≤ p.2 ∧ p.2 < 9 := fun p hp => by
      obtain ⟨i, hi⟩ := List.mem_iff_getElem?.mp ((hqs.2.2 p).mp hp)
      exact hps i p hi
    refine lc_drawI (n := 11) (qs.map encP) (fun b => [some (.own b), some (.d (.int wd)), some (.d (.list (ps.map encP))), none, none, none, none]) (fun i z => ∃ l : Lmp, z = eLm l ∧ ∃ p, qs[i]? = some p ∧ l.x = p.1 - wd / 2 ∧ l.z = p.2 ∧ LmC l) bag3 _ hb3 rfl (fun _ => hv2 rfl rfl) (by rw [List.length_map]; omega) (fun i x hx m' bag2 h1 h2 hb2 C1 C2 k fk hc => ?_) fun zs bag3 hzl hzs hb3 => ?_
    · rw [List.getElem?_map] at hx
      cases hq : qs[i]? with
      | none => rw [hq] at hx; cases hx
      | some p =>
        rw [hq] at hx
        cases hx
        have hlen : (qs.map encP).length ≤ 14 := by rw [List.length_map]; exact lq
        simp only [dSeq, dAsg, dCB, dCons, dNil, dVar, onVs, vals, val, slot, setR, fGcd, dIfS, dTV, dOp, dBin, onV2, fLt, fLe, fGt, fGe, fAdd, fSub, fMul, fDiv, fMod, fI0, dC, dUn, onV, fNeg, dNext, dRet, dTup, onD, dats, fDivZ, fI, fPow, Few, retP, fAbs, fInt, fMax, fMin, fLen, fSqrt, fEq, fNe, dNot, dAnd, dOr, dAndV, dOrV, dNotV, dIfE, dDrop, dRetN, dPar, noO, dSetL, dLst, dOfL, dOwnM, onOwn, onDat, kAppend, kInsert, dSetItem, dAddItem, dIx, onItems, items, onInt, dNoPart, dPart, dSlice, onL, litems, dSlL, dCat, onM, mitems, dTupOf, dSeqI, dRng1, dRng2, dCallP, dCallB, dCallF, noSelf, onArgs, dats2, dIsi, tyName, dYes, dgTup, dgCons, dgNil, retB, dBreak, dCont, ne_eq, not_false_eq_true, true_and, and_true, List.getElem?_cons_zero, List.getElem?_cons_succ, List.set_cons_zero, List.set_cons_succ, Option.map, List.length_cons, List.length_nil, dBestD, dParM, dmNil, dmD, dmL, setM, dLc_eq, dLc2_eq, dFor_eq, dSortSet, dSort, dListOf, dIsN, dNotN, isNo, dAug, dMulA, dgUnl, dCatT, dSlT, onT, titems, dEnum, dZip, dZipM, seqs, dRetL, dPar3, dRevT, dLstRg, dTupRg, dRg1, dRg2, dChainLe, List.nil_append, List.cons_append, if_true, if_false, dFrz, dLcO, dMin2D, dAppX, dParL, dParLL, dRepL, fMax3, dNewDic, dDicPut, dDicGet, dSortDic, onDic, onKey, dLcW, dZipX, dParR, dDead, dSortD, dSortDT, fNeS, fEqS, dgSet, dDGet, onDict_eq, onKeyD_int, onKeyD_str, dDIn, dSortDK, onDict1_eq, dDictL, dDictEn, dDictZip, onSq1_eq, onSq2_eq, onSq_t, onSq_l, onSq_o, dNewD, dDicI, dNewDik, dDikPut, onDik, dFrzD, dNew4, dIndexD, onLst_eq, dIfL, dOrT, dAndT, onTru_int, onTru_bool, onTru_none, onTru_tuple, onTru_list, dTupA, tupA, dTupZip, dTupZipK, dZip3, dZip2, dSortKS, dSortKF, dLetSet, dLetSetK, dLetSetN, dEnumZip, dDicV, fLenD, dFgt, fEqA, fNeA, fStrI, dReprW, dLenSet, dLenSetL, dDikGet, dDikIn, dDisp1_i, dDisp1_s, fEqN, fNeN, dDef, datsF, dCallA, dCallV, fIsB, fNotB, fInA_l, fInA_t, fNotInA_l, fNotInA_t, List.map_cons, List.map_nil, fw0, fw1, fw2, fw3, fw4, fw5, fw6, fw7, fw8, fw9, fw10, fw11, fw12, fw13, fw14, fw15, encP]
        refine ⟨cdw (b := 2) (by decide) (by decide), ?_⟩
        refine u__law_shades hb2 (by omega) fun z bag4 hz hb4 => ?_
        obtain ⟨ss, rfl, ss0, ss1, ss2⟩ := hz
        have iq := inq p (List.mem_of_getElem? hq)
        refine u_some hb4 (by omega) (by decide) (by decide) fun y hy bag5 hb5 => ?_
        obtain ⟨w, rfl, w0, w1⟩ := of_all (lo := 0) (hi := 3) (by decide) y hy
        walk_at "K14Z3"
        exact ⟨fk, hc _ _ ⟨⟨p.1 - wd / 2, p.2, ss, w⟩, rfl, p, hq, rfl, rfl, ⟨by dsimp only; omega, by dsimp only; omega, by dsimp only; omega, by dsimp only; omega, w0, w1, ss0, ss1, ss2⟩⟩ hb5⟩
    · obtain ⟨ls, rfl, hls⟩ := as_enc eLm (fun i l => ∃ p, qs[i]? = some p ∧ l.x = p.1 - wd / 2 ∧ l.z = p.2 ∧ LmC l) zs hzs
      rw [List.length_map, List.length_map] at hzl
      simp only [wipeR, List.set_cons_succ, List.set_cons_zero]
      rw [hk]
      clear hk
      walk_at "K14Z1"
      refine hQ _ _ ⟨ls, rfl, ⟨by omega, ?_, fun l hl => ?_⟩⟩ (hb3.up ?_)
      · unfold PicL
        rw [List.pairwise_iff_getElem]
        intro i j hi hj hij
        obtain ⟨p, hp, ep, ez, _⟩ := hls i _ (List.getElem?_eq_getElem hi)
        obtain ⟨r, hr, er, fz, _⟩ := hls j _ (List.getElem?_eq_getElem hj)
        obtain ⟨hi1, e1⟩ := List.getElem?_eq_some_iff.mp hp
        obtain ⟨hj1, e2⟩ := List.getElem?_eq_some_iff.mp hr
        have h1 := List.pairwise_iff_getElem.mp hqs.2.1 i j hi1 hj1 hij
        have h2 := List.pairwise_iff_getElem.mp hqs.1 i j hi1 hj1 hij
        rw [e1, e2] at h1 h2
        unfold lle at h1
        have h3 : ¬ (p.1 = r.1 ∧ p.2 = r.2) := fun z => h2 (Prod.ext z.1 z.2)
        unfold lt2 lp
        dsimp only
        rw [ep, er, ez, fz]
        omega
      · obtain ⟨i, hi⟩ := List.mem_iff_getElem?.mp hl
        obtain ⟨_, _, _, _, h⟩ := hls i l hi
        exact h
      · rw [List.length_map]
        omega
set_option maxHeartbeats 4000000 in
theorem okr__law_bent {f : Addr} {fd : FuncData} (W : Fun K "_law_bent" "_law_bent" s__law_bent f fd) (T : Bi mg)
    {f__law_odd : Addr} {fd__law_odd : FuncData} (G__law_odd : FnG P w K mg base CX0 3 f__law_odd fd__law_odd ["_law_bag_here"] (spB K TT [] S__law_odd)) (g__law_odd : mg "_law_odd" = some (.ref f__law_odd)) (k__law_odd : PySem.W.keepIn K (.ref f__law_odd) = true) (b__law_odd : Binds K fd__law_odd ["_law_bag_here"] [])
    {f__law_take : Addr} {fd__law_take : FuncData} (G__law_take : FnG P w K mg base CX0 1 f__law_take fd__law_take ["_law_bag_here", "_law_many"] (spB K TT [.d] S__law_take)) (g__law_take : mg "_law_take" = some (.ref f__law_take)) (k__law_take : PySem.W.keepIn K (.ref f__law_take) = true) (b__law_take : Binds K fd__law_take ["_law_bag_here", "_law_many"] [])
    {f__law_some : Addr} {fd__law_some : FuncData} (G__law_some : FnG P w K mg base CX0 2 f__law_some fd__law_some ["_law_bag_here", "_law_things"] (spB K TT [.ro] S__law_some)) (g__law_some : mg "_law_some" = some (.ref f__law_some)) (k__law_some : PySem.W.keepIn K (.ref f__law_some) = true) (b__law_some : Binds K fd__law_some ["_law_bag_here", "_law_things"] [])
    {f__law_is_int : Addr} {fd__law_is_int : FuncData} (G__law_is_int : FnG P w K mg base CX0 1 f__law_is_int fd__law_is_int ["_law_thing"] (spP K TT [.d] S__law_is_int)) (g__law_is_int : mg "_law_is_int" = some (.ref f__law_is_int)) (k__law_is_int : PySem.W.keepIn K (.ref f__law_is_int) = true) (b__law_is_int : Binds K fd__law_is_int ["_law_thing"] []) (gS__law_bent : mg "_law_bent" = some (.ref f)) (kS__law_bent : PySem.W.keepIn K (.ref f) = true) (bS__law_bent : Binds K fd ["_law_bag_here", "_law_thing", "_law_deep"] []) {nn : Nat} (IH : FnG P w K mg base CX0 (4 + nn) f fd ["_law_bag_here", "_law_thing", "_law_deep"] (spB K TT [.d, .d] (Sr__law_bent nn))) :
    FnG P w K mg base CX0 (4 + nn + 1) f fd ["_law_bag_here", "_law_thing", "_law_deep"] (spB K TT [.d, .d] (Sr__law_bent (nn + 1))) := by
  refine fnB (k := 4 + nn) W sc__law_bent rfl fun cdv A out s H E Nn B hr hgd => ⟨_, _, (dss_cons (ds_if (pt_w (pwd_or (pt_no (pt_v (pd_isinst (n := "tuple") (pdv 1) rfl T.b_isinstance rfl T.b_tuple (by decide +kernel)))) (pwd_or (pt_eq hr.units rfl (pdv 1) (pd_tup pda_nil)) (pwd_or1 (pt_eq hr.units rfl (pdv 2) pd_int))))) (dss_cons (ds_if (pt_w (pwd_and (pt_v (pd_isinst (n := "str") (pdv 1) rfl T.b_isinstance rfl T.b_str (by decide +kernel))) (pwd_and1 (pt_gt (pd_callBag G__law_take m__law_take (hr.mono (by omega)) hgd rfl g__law_take k__law_take b__law_take (pda_cons (pdv 0) (pda_cons pd_int pda_nil))) pd_int)))) (dss_cons ds_dead
      (dss_one (ds_ret (pd_callBag G__law_some m__law_some (hr.mono (by omega)) hgd rfl g__law_some k__law_some b__law_some (pda_cons (pdv 0) (pda_cons (pdv 3) pda_nil)))))) dss_nil)
      (dss_cons (ds_if (pt_w (pwd_and (pt_v (pd_callP G__law_is_int m__law_is_int (hr.mono (by omega)) hgd rfl g__law_is_int k__law_is_int b__law_is_int (pda_cons (pdv 1) pda_nil))) (pwd_and1 (pt_gt (pd_callBag G__law_take m__law_take (hr.mono (by omega)) hgd rfl g__law_take k__law_take b__law_take (pda_cons (pdv 0) (pda_cons pd_int pda_nil))) pd_int)))) (dss_one (ds_ret (pd_callBag G__law_some m__law_some (hr.mono (by omega)) hgd rfl g__law_some k__law_some b__law_some (pda_cons (pdv 0) (pda_cons (pd_l (pl_lst (pda_cons (pd_add (pdv 1) pd_int) (pda_cons (pd_sub (pdv 1) pd_int) (pda_cons (pd_sub pd_int (pdv 1)) (pda_cons (pd_eq hr.units rfl (pdv 1) pd_int) (pda_cons (pd_callTy call_str_int sc_strI rfl T.b_str (by decide +kernel) (pda_cons (pdv 1) pda_nil)) (pda_cons pd_int (pda_cons (pd_neg pd_int) (pda_cons pd_int pda_nil)))))))))) pda_nil))))) dss_nil)
      (dss_one (ds_ret (pd_callBag G__law_odd m__law_odd (hr.mono (by omega)) hgd rfl g__law_odd k__law_odd b__law_odd (pda_cons (pdv 0) pda_nil)))))) dss_nil)
      (dss_cons (ds_par (i := 4) (j := 5) rfl sc__law_bent.nd (pda_cons (pd_callBag G__law_take m__law_take (hr.mono (by omega)) hgd rfl g__law_take k__law_take b__law_take (pda_cons (pdv 0) (pda_cons pd_int pda_nil))) (pda_cons (pd_callBag G__law_take m__law_take (hr.mono (by omega)) hgd rfl g__law_take k__law_take b__law_take (pda_cons (pdv 0) (pda_cons (pd_callB call_len_seq sc_len rfl T.b_len (by decide +kernel) (pda_cons (pdv 1) pda_nil)) pda_nil))) pda_nil)) (fixB (by decide)) (fixB (by decide)))
      (dss_cons (ds_if (pt_eq hr.units rfl (pdv 4) pd_int) (dss_one (ds_ret (pd_l (pl_listOf rfl T.b_list (pda_cons (pdv 1) pda_nil))))) dss_nil)
      (dss_cons (ds_if (pt_eq hr.units rfl (pdv 4) pd_int) (dss_one (ds_ret (pd_catT (pd_sliceT (pdv 1) pdo_none (pdo_some (pdv 5))) (pd_sliceT (pdv 1) (pdo_some (pd_add (pdv 5) pd_int)) pdo_none)))) dss_nil)
      (dss_cons (ds_if (pt_eq hr.units rfl (pdv 4) pd_int) (dss_one (ds_ret (pd_catT (pd_catT (pd_sliceT (pdv 1) pdo_none (pdo_some (pdv 5))) (pd_tup (pda_cons (pd_callBag G__law_odd m__law_odd (hr.mono (by omega)) hgd rfl g__law_odd k__law_odd b__law_odd (pda_cons (pdv 0) pda_nil)) pda_nil))) (pd_sliceT (pdv 1) (pdo_some (pdv 5)) pdo_none)))) dss_nil)
      (dss_cons (ds_if (pt_eq hr.units rfl (pdv 4) pd_int) (dss_one (ds_ret (pd_catT (pd_catT (pd_sliceT (pdv 1) pdo_none (pdo_some (pdv 5))) (pd_sliceT (pdv 1) (pdo_some (pdv 5)) (pdo_some (pd_add (pdv 5) pd_int)))) (pd_sliceT (pdv 1) (pdo_some (pdv 5)) pdo_none)))) dss_nil)
      (dss_cons (ds_if (pt_eq hr.units rfl (pdv 4) pd_int) (dss_one (ds_ret (pd_catT (pd_catT (pd_sliceT (pdv 1) pdo_none (pdo_some (pdv 5))) (pd_sliceT (pdv 1) (pdo_some (pd_add (pdv 5) pd_int)) pdo_none)) (pd_sliceT (pdv 1) (pdo_some (pdv 5)) (pdo_some (pd_add (pdv 5) pd_int)))))) dss_nil)
      (dss_one (ds_ret (pd_catT (pd_catT (pd_sliceT (pdv 1) pdo_none (pdo_some (pdv 5))) (pd_tup (pda_cons (pd_callBag IH mr__law_bent (hr.mono (by omega)) hgd rfl gS__law_bent kS__law_bent bS__law_bent (pda_cons (pdv 0) (pda_cons (pd_ix (pdv 1) (pdv 5) (fun _ _ => rfl)) (pda_cons (pd_sub (pdv 2) pd_int) pda_nil)))) pda_nil))) (pd_sliceT (pdv 1) (pdo_some (pd_add (pdv 5) pd_int)) pdo_none))))))))))), ?_⟩
  clear W T hr hgd IH gS__law_bent kS__law_bent bS__law_bent G__law_odd g__law_odd k__law_odd b__law_odd f__law_odd fd__law_odd G__law_take g__law_take k__law_take b__law_take f__law_take fd__law_take G__law_some g__law_some k__law_some b__law_some f__law_some fd__law_some G__law_is_int g__law_is_int k__law_is_int b__law_is_int fd__law_is_int
  rintro bag xs Q hl ⟨⟨d, n⟩, m, hb, hm, rfl, ⟨h0, h1⟩, hQ⟩
  clear hl
  replace hQ : ∀ z bag', (Vl 700 (4 + n) (6000 + 54000 * n) z) → Bag (m + (5 * (nn + 1))) bag' → Q z bag'   := hQ
  have hm : m + (5 * (nn + 1)) < 2 ^ 60 := hm
  have e : (some (.own bag) :: rhoP (nm__law_bent.length - 1) [.d, .d] [d, .int (n : Int)] : Rho) = [some (.own bag), some (.d (d)), some (.d (.int (n : Int))), none, none, none] := rfl
  rw [e]
  clear e
  rcases h1 with ⟨rfl, i, rfl, bi⟩ | ⟨rfl, rs, rfl, rl, rb⟩
  · refine seqI fun kk hk => ?_
    simp only [dSeq, dAsg, dCB, dCons, dNil, dVar, onVs, vals, val, slot, setR, fGcd, dIfS, dTV, onV2, fLt, fLe, fGt, fGe, fAdd, fSub, fMul, fDiv, fMod, fI0, dC, dUn, onV, fNeg, dNext, dRet, dTup, onD, dats, fDivZ, fI, fPow, Few, retP, fAbs, fInt, fMax, fMin, fLen, fSqrt, fEq, fNe, dNot, dAnd, dOr, dAndV, dOrV, dNotV, dIfE, dDrop, dRetN, dPar, noO, dSetL, dLst, dOfL, dOwnM, onOwn, onDat, kAppend, kInsert, dSetItem, dAddItem, onItems, onInt, dNoPart, dPart, dSlice, onL, litems, dSlL, dCat, onM, mitems, dRng1, dRng2, dCallP, dCallB, dCallF, noSelf, onArgs, dats2, dIsi, tyName, dYes, dgCons, dgNil, retB, dBreak, dCont, ne_eq, not_false_eq_true, true_and, and_true, List.getElem?_cons_zero, List.getElem?_cons_succ, List.set_cons_zero, List.set_cons_succ, Option.map, List.length_cons, List.length_nil, dBestD, dParM, dmNil, dmD, dmL, setM, dLc_eq, dLc2_eq, dFor_eq, dSortSet, dSort, dListOf, dIsN, dNotN, isNo, dAug, dMulA, dgUnl, dSlT, onT, dEnum, dZip, dZipM, dRetL, dPar3, dRevT, dLstRg, dTupRg, dRg1, dRg2, dChainLe, List.nil_append, List.cons_append, if_true, if_false, dFrz, dLcO, dMin2D, dAppX, dParL, dParLL, dRepL, fMax3, dNewDic, dDicPut, dDicGet, dSortDic, onDic, onKey, dLcW, dZipX, dParR, dDead, dSortD, dSortDT, fNeS, fEqS, dgSet, dDGet, onDict_eq, onKeyD_int, onKeyD_str, dDIn, dSortDK, onDict1_eq, dDictL, dDictEn, dDictZip, onSq1_eq, onSq2_eq, onSq_t, onSq_l, onSq_o, dNewD, dDicI, dNewDik, dDikPut, onDik, dFrzD, dNew4, dIndexD, onLst_eq, dIfL, dOrT, dAndT, onTru_int, onTru_bool, onTru_none, onTru_tuple, onTru_list, dTupZip, dTupZipK, dZip3, dZip2, dSortKS, dSortKF, dLetSet, dLetSetK, dLetSetN, dEnumZip, dDicV, fLenD, dFgt, fEqA, fNeA, fStrI, dReprW, dLenSet, dLenSetL, dDikGet, dDikIn, dDisp1_i, dDisp1_s, fEqN, fNeN, dDef, datsF, dCallA, dCallV, fIsB, fNotB, fInA_l, fInA_t, fNotInA_l, fNotInA_t, List.map_cons, List.map_nil, fw0, fw1, fw2, fw3, fw4, fw5, fw6, fw7, fw8, fw9, fw10, fw11, fw12, fw13, fw14, fw15, dExtend, dExtendT, dLstDn, dMaxDf, dOp_ap, dIx_ap, dCatT_ap, dRepT_ap, items_l, items_t, items_o, ti_t, dgT_t, seqs_l, seqs_t, seqs_o, dSeqI_eq, wk_l, wk_t, wk_eP, wk_o, dTupOf_eq, tu_t, tu_l, tu_o, tu_eP, dTupA_eq, ta_t, ta_l, ta_o, ta_eP, items_eW, items_eB, items_eSc, items_eLm, items_eP, items_eL, items_pr, items_enc2, items_eTm, ti_eB, ti_eW, ti_eLm, ti_eP, dgT_eSc, dgT_eLm, dgT_eL, dgT_pr, dgT_enc2, dgT_eW, dgT_eTm, seqs_eP, on0, on1, on2, on3, on4, on5, on6, on7, on8, kw_NoneType_int, kw_NoneType_bool, kw_NoneType_str, kw_NoneType_tuple, kw_NoneType_dict, kw_NoneType_list, kw_bool_int, kw_bool_bool, kw_bool_str, kw_bool_tuple, kw_bool_dict, kw_bool_list, kw_int_int, kw_int_bool, kw_int_str, kw_int_tuple, kw_int_dict, kw_int_list, kw_str_int, kw_str_bool, kw_str_str, kw_str_tuple, kw_str_dict, kw_str_list, kw_list_int, kw_list_bool, kw_list_str, kw_list_tuple, kw_list_dict, kw_list_list, kw_tuple_int, kw_tuple_bool, kw_tuple_str, kw_tuple_tuple, kw_tuple_dict, kw_tuple_list, kw_dict_int, kw_dict_bool, kw_dict_str, kw_dict_tuple, kw_dict_dict, kw_dict_list, Bool.not_false, if_true, Bool.false_eq_true, if_false]
    clear hk
    refine u__law_is_int ?_
    simp only [dSeq, dAsg, dCB, dCons, dNil, dVar, onVs, vals, val, slot, setR, fGcd, dIfS, dTV, onV2, fLt, fLe, fGt, fGe, fAdd, fSub, fMul, fDiv, fMod, fI0, dC, dUn, onV, fNeg, dNext, dRet, dTup, onD, dats, fDivZ, fI, fPow, Few, retP, fAbs, fInt, fMax, fMin, fLen, fSqrt, fEq, fNe, dNot, dAnd, dOr, dAndV, dOrV, dNotV, dIfE, dDrop, dRetN, dPar, noO, dSetL, dLst, dOfL, dOwnM, onOwn, onDat, kAppend, kInsert, dSetItem, dAddItem, onItems, onInt, dNoPart, dPart, dSlice, onL, litems, dSlL, dCat, onM, mitems, dRng1, dRng2, dCallP, dCallB, dCallF, noSelf, onArgs, dats2, dIsi, tyName, dYes, dgCons, dgNil, retB, dBreak, dCont, ne_eq, not_false_eq_true, true_and, and_true, List.getElem?_cons_zero, List.getElem?_cons_succ, List.set_cons_zero, List.set_cons_succ, Option.map, List.length_cons, List.length_nil, dBestD, dParM, dmNil, dmD, dmL, setM, dLc_eq, dLc2_eq, dFor_eq, dSortSet, dSort, dListOf, dIsN, dNotN, isNo, dAug, dMulA, dgUnl, dSlT, onT, dEnum, dZip, dZipM, dRetL, dPar3, dRevT, dLstRg, dTupRg, dRg1, dRg2, dChainLe, List.nil_append, List.cons_append, if_true, if_false, dFrz, dLcO, dMin2D, dAppX, dParL, dParLL, dRepL, fMax3, dNewDic, dDicPut, dDicGet, dSortDic, onDic, onKey, dLcW, dZipX, dParR, dDead, dSortD, dSortDT, fNeS, fEqS, dgSet, dDGet, onDict_eq, onKeyD_int, onKeyD_str, dDIn, dSortDK, onDict1_eq, dDictL, dDictEn, dDictZip, onSq1_eq, onSq2_eq, onSq_t, onSq_l, onSq_o, dNewD, dDicI, dNewDik, dDikPut, onDik, dFrzD, dNew4, dIndexD, onLst_eq, dIfL, dOrT, dAndT, onTru_int, onTru_bool, onTru_none, onTru_tuple, onTru_list, dTupZip, dTupZipK, dZip3, dZip2, dSortKS, dSortKF, dLetSet, dLetSetK, dLetSetN, dEnumZip, dDicV, fLenD, dFgt, fEqA, fNeA, fStrI, dReprW, dLenSet, dLenSetL, dDikGet, dDikIn, dDisp1_i, dDisp1_s, fEqN, fNeN, dDef, datsF, dCallA, dCallV, fIsB, fNotB, fInA_l, fInA_t, fNotInA_l, fNotInA_t, List.map_cons, List.map_nil, fw0, fw1, fw2, fw3, fw4, fw5, fw6, fw7, fw8, fw9, fw10, fw11, fw12, fw13, fw14, fw15, dExtend, dExtendT, dLstDn, dMaxDf, dOp_ap, dIx_ap, dCatT_ap, dRepT_ap, items_l, items_t, items_o, ti_t, dgT_t, seqs_l, seqs_t, seqs_o, dSeqI_eq, wk_l, wk_t, wk_eP, wk_o, dTupOf_eq, tu_t, tu_l, tu_o, tu_eP, dTupA_eq, ta_t, ta_l, ta_o, ta_eP, items_eW, items_eB, items_eSc, items_eLm, items_eP, items_eL, items_pr, items_enc2, items_eTm, ti_eB, ti_eW, ti_eLm, ti_eP, dgT_eSc, dgT_eLm, dgT_eL, dgT_pr, dgT_enc2, dgT_eW, dgT_eTm, seqs_eP, on0, on1, on2, on3, on4, on5, on6, on7, on8, isI, if_true]
    refine u_take hb (by omega) (by omega) (by omega) fun v bag1 v0 v1 hb1 => ?_
    walk_at "K14Z0"
    have fo : S__law_odd bag1 [] fun z bag' => Q z bag' := u__law_odd hb1 (by omega) fun z bag2 hz hb2 => hQ _ _ (hz.up (by decide) (by decide) (by decide)) (hb2.up (by omega))
    refine ite_b (c := 0 < v) (fun _ => ?_) fun _ => fo
    have lg : i.natAbs.log2 < 60 := by
      by_cases h0 : i.natAbs = 0
      · rw [h0]; decide
      · exact (Nat.log2_lt h0).mpr bi
    have k1 : Bd 60 1 := by unfold Bd; decide
    have k0 : Bd 60 0 := by unfold Bd; decide
    have vi : ∀ {j : Int}, Bd 62 j → Vl 700 (4 + 0) (6000 + 54000 * 0) (.int j) := fun h => (Vl.int (h.up (show 62 ≤ 700 by decide))).up (Nat.le_refl _) (Nat.zero_le _) (by decide)
    refine ⟨sh_int, sh_int, by omega, ?_⟩
    refine u_some hb1 (by omega) (by simp) (by simp) fun y hy bag2 hb2 => hQ _ _ ?_ (hb2.up (by omega))
    simp only [List.mem_cons, List.not_mem_nil, or_false] at hy
    rcases hy with rfl | rfl | rfl | rfl | rfl | rfl | rfl | rfl
    · exact vi ((bi.add1 k1).up (by decide))
    · exact vi ((bi.sub1 k1).up (by decide))
    · exact vi ((k0.sub1 bi).up (by decide))
    · exact Vl.bool.up (Nat.le_refl _) (Nat.zero_le _) (by decide)
    · have := int_text_length_le (k := 60) (by decide) lg
      refine (Vl.str (okd_ofString _)).up (Nat.le_refl _) (Nat.zero_le _) ?_
      rw [PySem.ofString_length]
      omega
    · exact vi (k0.up (by decide))
    · exact vi (by unfold Bd; decide)
    · exact vi (by unfold Bd; decide)
  · refine seqI fun kk hk => ?_
    simp only [dSeq, dAsg, dCB, dCons, dNil, dVar, onVs, vals, val, slot, setR, fGcd, dIfS, dTV, onV2, fLt, fLe, fGt, fGe, fAdd, fSub, fMul, fDiv, fMod, fI0, dC, dUn, onV, fNeg, dNext, dRet, dTup, onD, dats, fDivZ, fI, fPow, Few, retP, fAbs, fInt, fMax, fMin, fLen, fSqrt, fEq, fNe, dNot, dAnd, dOr, dAndV, dOrV, dNotV, dIfE, dDrop, dRetN, dPar, noO, dSetL, dLst, dOfL, dOwnM, onOwn, onDat, kAppend, kInsert, dSetItem, dAddItem, onItems, onInt, dNoPart, dPart, dSlice, onL, litems, dSlL, dCat, onM, mitems, dRng1, dRng2, dCallP, dCallB, dCallF, noSelf, onArgs, dats2, dIsi, tyName, dYes, dgCons, dgNil, retB, dBreak, dCont, ne_eq, not_false_eq_true, true_and, and_true, List.getElem?_cons_zero, List.getElem?_cons_succ, List.set_cons_zero, List.set_cons_succ, Option.map, List.length_cons, List.length_nil, dBestD, dParM, dmNil, dmD, dmL, setM, dLc_eq, dLc2_eq, dFor_eq, dSortSet, dSort, dListOf, dIsN, dNotN, isNo, dAug, dMulA, dgUnl, dSlT, onT, dEnum, dZip, dZipM, dRetL, dPar3, dRevT, dLstRg, dTupRg, dRg1, dRg2, dChainLe, List.nil_append, List.cons_append, if_true, if_false, dFrz, dLcO, dMin2D, dAppX, dParL, dParLL, dRepL, fMax3, dNewDic, dDicPut, dDicGet, dSortDic, onDic, onKey, dLcW, dZipX, dParR, dDead, dSortD, dSortDT, fNeS, fEqS, dgSet, dDGet, onDict_eq, onKeyD_int, onKeyD_str, dDIn, dSortDK, onDict1_eq, dDictL, dDictEn, dDictZip, onSq1_eq, onSq2_eq, onSq_t, onSq_l, onSq_o, dNewD, dDicI, dNewDik, dDikPut, onDik, dFrzD, dNew4, dIndexD, onLst_eq, dIfL, dOrT, dAndT, onTru_int, onTru_bool, onTru_none, onTru_tuple, onTru_list, dTupZip, dTupZipK, dZip3, dZip2, dSortKS, dSortKF, dLetSet, dLetSetK, dLetSetN, dEnumZip, dDicV, fLenD, dFgt, fEqA, fNeA, fStrI, dReprW, dLenSet, dLenSetL, dDikGet, dDikIn, dDisp1_i, dDisp1_s, fEqN, fNeN, dDef, datsF, dCallA, dCallV, fIsB, fNotB, fInA_l, fInA_t, fNotInA_l, fNotInA_t, List.map_cons, List.map_nil, fw0, fw1, fw2, fw3, fw4, fw5, fw6, fw7, fw8, fw9, fw10, fw11, fw12, fw13, fw14, fw15, dExtend, dExtendT, dLstDn, dMaxDf, dOp_ap, dIx_ap, dCatT_ap, dRepT_ap, items_l, items_t, items_o, ti_t, dgT_t, seqs_l, seqs_t, seqs_o, dSeqI_eq, wk_l, wk_t, wk_eP, wk_o, dTupOf_eq, tu_t, tu_l, tu_o, tu_eP, dTupA_eq, ta_t, ta_l, ta_o, ta_eP, items_eW, items_eB, items_eSc, items_eLm, items_eP, items_eL, items_pr, items_enc2, items_eTm, ti_eB, ti_eW, ti_eLm, ti_eP, dgT_eSc, dgT_eLm, dgT_eL, dgT_pr, dgT_enc2, dgT_eW, dgT_eTm, seqs_eP, on0, on1, on2, on3, on4, on5, on6, on7, on8, kw_NoneType_int, kw_NoneType_bool, kw_NoneType_str, kw_NoneType_tuple, kw_NoneType_dict, kw_NoneType_list, kw_bool_int, kw_bool_bool, kw_bool_str, kw_bool_tuple, kw_bool_dict, kw_bool_list, kw_int_int, kw_int_bool, kw_int_str, kw_int_tuple, kw_int_dict, kw_int_list, kw_str_int, kw_str_bool, kw_str_str, kw_str_tuple, kw_str_dict, kw_str_list, kw_list_int, kw_list_bool, kw_list_str, kw_list_tuple, kw_list_dict, kw_list_list, kw_tuple_int, kw_tuple_bool, kw_tuple_str, kw_tuple_tuple, kw_tuple_dict, kw_tuple_list, kw_dict_int, kw_dict_bool, kw_dict_str, kw_dict_tuple, kw_dict_dict, kw_dict_list, Bool.not_true, Bool.false_eq_true, if_false]
    have st : SeqAt.shaped (.tuple (rs.map PyData.int)) = true := (Shp.tuple (Shp.map fun c _ => Shp.int)).shaped
    refine ⟨st, by decide +kernel, ?_⟩
    rw [show PyData.eqv (.tuple (rs.map PyData.int)) (.tuple []) = decide (rs = []) by cases rs <;> simp [PyData.eqv, PyData.eqvAll]]
    refine ite_b (c := rs = []) (fun _ => ?_) fun hne => ?_
    · refine u__law_is_int ?_
      simp only [dSeq, dAsg, dCB, dCons, dNil, dVar, onVs, vals, val, slot, setR, fGcd, dIfS, dTV, onV2, fLt, fLe, fGt, fGe, fAdd, fSub, fMul, fDiv, fMod, fI0, dC, dUn, onV, fNeg, dNext, dRet, dTup, onD, dats, fDivZ, fI, fPow, Few, retP, fAbs, fInt, fMax, fMin, fLen, fSqrt, fEq, fNe, dNot, dAnd, dOr, dAndV, dOrV, dNotV, dIfE, dDrop, dRetN, dPar, noO, dSetL, dLst, dOfL, dOwnM, onOwn, onDat, kAppend, kInsert, dSetItem, dAddItem, onItems, onInt, dNoPart, dPart, dSlice, onL, litems, dSlL, dCat, onM, mitems, dRng1, dRng2, dCallP, dCallB, dCallF, noSelf, onArgs, dats2, dIsi, tyName, dYes, dgCons, dgNil, retB, dBreak, dCont, ne_eq, not_false_eq_true, true_and, and_true, List.getElem?_cons_zero, List.getElem?_cons_succ, List.set_cons_zero, List.set_cons_succ, Option.map, List.length_cons, List.length_nil, dBestD, dParM, dmNil, dmD, dmL, setM, dLc_eq, dLc2_eq, dFor_eq, dSortSet, dSort, dListOf, dIsN, dNotN, isNo, dAug, dMulA, dgUnl, dSlT, onT, dEnum, dZip, dZipM, dRetL, dPar3, dRevT, dLstRg, dTupRg, dRg1, dRg2, dChainLe, List.nil_append, List.cons_append, if_true, if_false, dFrz, dLcO, dMin2D, dAppX, dParL, dParLL, dRepL, fMax3, dNewDic, dDicPut, dDicGet, dSortDic, onDic, onKey, dLcW, dZipX, dParR, dDead, dSortD, dSortDT, fNeS, fEqS, dgSet, dDGet, onDict_eq, onKeyD_int, onKeyD_str, dDIn, dSortDK, onDict1_eq, dDictL, dDictEn, dDictZip, onSq1_eq, onSq2_eq, onSq_t, onSq_l, onSq_o, dNewD, dDicI, dNewDik, dDikPut, onDik, dFrzD, dNew4, dIndexD, onLst_eq, dIfL, dOrT, dAndT, onTru_int, onTru_bool, onTru_none, onTru_tuple, onTru_list, dTupZip, dTupZipK, dZip3, dZip2, dSortKS, dSortKF, dLetSet, dLetSetK, dLetSetN, dEnumZip, dDicV, fLenD, dFgt, fEqA, fNeA, fStrI, dReprW, dLenSet, dLenSetL, dDikGet, dDikIn, dDisp1_i, dDisp1_s, fEqN, fNeN, dDef, datsF, dCallA, dCallV, fIsB, fNotB, fInA_l, fInA_t, fNotInA_l, fNotInA_t, List.map_cons, List.map_nil, fw0, fw1, fw2, fw3, fw4, fw5, fw6, fw7, fw8, fw9, fw10, fw11, fw12, fw13, fw14, fw15, dExtend, dExtendT, dLstDn, dMaxDf, dOp_ap, dIx_ap, dCatT_ap, dRepT_ap, items_l, items_t, items_o, ti_t, dgT_t, seqs_l, seqs_t, seqs_o, dSeqI_eq, wk_l, wk_t, wk_eP, wk_o, dTupOf_eq, tu_t, tu_l, tu_o, tu_eP, dTupA_eq, ta_t, ta_l, ta_o, ta_eP, items_eW, items_eB, items_eSc, items_eLm, items_eP, items_eL, items_pr, items_enc2, items_eTm, ti_eB, ti_eW, ti_eLm, ti_eP, dgT_eSc, dgT_eLm, dgT_eL, dgT_pr, dgT_enc2, dgT_eW, dgT_eTm, seqs_eP, on0, on1, on2, on3, on4, on5, on6, on7, on8, isI, Bool.false_eq_true, if_false]
      exact u__law_odd hb (by omega) fun z bag2 hz hb2 => hQ _ _ (hz.up (by decide) (by decide) (by decide)) (hb2.up (by omega))
    refine ⟨sh_int, sh_int, ?_⟩
    rw [eqv_int]
    refine ite_f (by decide) ?_
    rw [hk]
    clear hk
    refine seqI fun kk hk => ?_
    walk_at "K14Z0"
    refine u_take hb (by omega) (by omega) (by omega) fun v bag1 v0 v1 hb1 => ?_
    have lp : 0 < rs.length := List.length_pos_iff.mpr hne
    rw [List.length_map]
    refine u_take hb1 (by omega) (by omega) (by omega) fun w bag2 w0 w1 hb2 => ?_
    obtain ⟨a, rfl⟩ : ∃ a : Nat, w = (a : Int) := ⟨w.toNat, by omega⟩
    have al : a < rs.length := by omega
    have wI : ∀ xs : List Int, wVs (xs.map .int) = 1003 * xs.length := fun xs => by
      induction xs with
      | nil => rfl
      | cons x xs ih => simp only [List.map_cons, wVs, wV, ih, List.length_cons]; omega
    have vI : ∀ r ∈ rs, okV 700 (.int r) = true ∧ (PyData.int r).depth ≤ 4 := fun r hr => ⟨by simp only [okV, decide_eq_true_eq]; exact (rb r hr).up (by decide), by simp [PyData.depth]⟩
    have tup : ∀ (xs ys : List Int) (z : List PyData), (∀ x ∈ xs, x ∈ rs) → (∀ x ∈ ys, x ∈ rs) → (∀ x ∈ z, okV 700 x = true ∧ x.depth ≤ 4) → xs.length + ys.length ≤ 45 → wVs z ≤ 7000 → Vl 700 (4 + 1) (6000 + 54000 * 1) (.tuple (xs.map .int ++ z ++ ys.map .int)) := fun xs ys z h1 h2 h3 h4 h5 => by
      refine Vl.tup (k := 4) (c := 60000) (fun x hx => ?_) (by rw [wVs_append, wVs_append, wI, wI]; omega)
      rcases List.mem_append.mp hx with hx | hx
      · rcases List.mem_append.mp hx with hx | hx
        · obtain ⟨r, hr, rfl⟩ := List.mem_map.mp hx
          exact vI r (h1 r hr)
        · exact h3 x hx
      · obtain ⟨r, hr, rfl⟩ := List.mem_map.mp hx
        exact vI r (h2 r hr)
    rw [hk]
    clear hk
    refine seqI fun kk hk => ?_
    walk_at "K14Z0"
    refine ⟨sh_int, sh_int, ?_⟩
    rw [eqv_int]
    refine ite_b (c := v = 0) (fun _ => ?_) fun _ => ?_
    · exact hQ _ _ (Vl.lst (k := 4) (c := 60000) (fun x hx => by
        obtain ⟨r, hr, rfl⟩ := List.mem_map.mp hx
        exact vI r hr) (by rw [wI]; omega)) (hb2.up (by omega))
    have e1 : ((a : Int) + 1) = ((a + 1 : Nat) : Int) := by omega
    have inT : ∀ {n : Nat}, ∀ x ∈ rs.take n, x ∈ rs := fun x h => List.mem_of_mem_take h
    have inD : ∀ {n : Nat}, ∀ x ∈ rs.drop n, x ∈ rs := fun x h => List.mem_of_mem_drop h
    have lT : ∀ n, (rs.take n).length ≤ 40 := fun n => by rw [List.length_take]; omega
    have lD : ∀ n, (rs.drop n).length ≤ 40 := fun n => by rw [List.length_drop]; omega
    have sL : ∀ n, n ≤ 200 → n ≤ sizeLine := fun n h => few_le (by omega)
    have cT : DV.cutD (rs.map PyData.int) none (some (a : Int)) = (rs.take a).map .int := by rw [cut_take (Int.natCast_nonneg _), Int.toNat_natCast, List.map_take]
    have cD : DV.cutD (rs.map PyData.int) (some (a : Int)) none = (rs.drop a).map .int := by rw [cut_drop (Int.natCast_nonneg _), Int.toNat_natCast, List.map_drop]
    have cD1 : DV.cutD (rs.map PyData.int) (some ((a : Int) + 1)) none = (rs.drop (a + 1)).map .int := by rw [e1, cut_drop (Int.natCast_nonneg _), Int.toNat_natCast, List.map_drop]
    have cM : DV.cutD (rs.map PyData.int) (some (a : Int)) (some ((a : Int) + 1)) = ((rs.take (a + 1)).drop a).map .int := by rw [e1, cut_mid (by omega) (by rw [List.length_map]; omega), List.map_drop, List.map_take]
    have lM : ((rs.take (a + 1)).drop a).length ≤ 1 := by rw [List.length_drop, List.length_take]; omega
    have inM : ∀ x ∈ (rs.take (a + 1)).drop a, x ∈ rs := fun x h => List.mem_of_mem_take (List.mem_of_mem_drop h)
    have ln : ∀ n, (rs.take n).length + (rs.drop n).length = rs.length := fun n => by rw [List.length_take, List.length_drop]; omega
    have lDs : (rs.drop (a + 1)).length ≤ (rs.drop a).length := by rw [List.length_drop, List.length_drop]; omega
    have lTa := ln a
    rw [hk]
    clear hk
    refine seqI fun kk hk => ?_
    walk_at "K14Z0"
    refine ⟨sh_int, sh_int, ?_⟩
    rw [eqv_int]
    refine ite_b (c := v = 1) (fun _ => ?_) fun _ => ?_
    · rw [cT, cD1]
      refine ⟨sL _ (by simp only [List.length_append, List.length_map]; omega), ?_⟩
      have := tup (rs.take a) (rs.drop (a + 1)) [] inT inD (by simp) (by omega) (by simp [wVs])
      rw [List.append_nil] at this
      exact hQ _ _ this (hb2.up (by omega))
    rw [hk]
    clear hk
    refine seqI fun kk hk => ?_
    walk_at "K14Z0"
    refine ⟨sh_int, sh_int, ?_⟩
    rw [eqv_int]
    refine ite_b (c := v = 2) (fun _ => ?_) fun _ => ?_
    · rw [cT, cD]
      refine u__law_odd hb2 (by omega) fun z bag3 hz hb3 => ?_
      refine ⟨sL _ (by simp only [List.length_append, List.length_map, List.length_cons, List.length_nil]; omega), sL _ (by simp only [List.length_append, List.length_map, List.length_cons, List.length_nil]; omega), ?_⟩
      exact hQ _ _ (tup (rs.take a) (rs.drop a) [z] inT inD (fun x hx => by rw [List.mem_singleton.mp hx]; exact ⟨hz.ok, hz.deep⟩) (by omega) (by have := hz.few; simp only [wVs]; omega)) (hb3.up (by omega))
    rw [hk]
    clear hk
    refine seqI fun kk hk => ?_
    walk_at "K14Z0"
    refine ⟨sh_int, sh_int, ?_⟩
    rw [eqv_int]
    refine ite_b (c := v = 3) (fun _ => ?_) fun _ => ?_
    · rw [cT, cD, cM]
      refine ⟨sL _ (by simp only [List.length_append, List.length_map, List.length_cons, List.length_nil]; omega), sL _ (by simp only [List.length_append, List.length_map]; omega), ?_⟩
      have := tup (rs.take a ++ (rs.take (a + 1)).drop a) (rs.drop a) [] (fun x hx => (List.mem_append.mp hx).elim (inT x) (inM x)) inD (by simp) (by rw [List.length_append]; omega) (by simp [wVs])
      rw [List.append_nil, List.map_append] at this
      exact hQ _ _ this (hb2.up (by omega))
    rw [hk]
    clear hk
    refine seqI fun kk hk => ?_
    simp (config := { maxSteps := 2000000 }) only [dSeq, dAsg, dCB, dCons, dNil, dVar, onVs, vals, val, slot, setR, fGcd, dIfS, dTV, onV2, fLt, fLe, fGt, fGe, fAdd, fSub, fMul, fDiv, fMod, fI0, dC, dUn, onV, fNeg, dNext, dRet, dTup, onD, dats, fDivZ, fI, fPow, Few, retP, fAbs, fInt, fMax, fMin, fLen, fSqrt, fEq, fNe, dNot, dAnd, dOr, dAndV, dOrV, dNotV, dIfE, dDrop, dRetN, dPar, noO, dSetL, dLst, dOfL, dOwnM, onOwn, onDat, kAppend, kInsert, dSetItem, dAddItem, onItems, onInt, dNoPart, dPart, dSlice, onL, litems, dSlL, dCat, onM, mitems, dRng1, dRng2, dCallP, dCallB, dCallF, noSelf, onArgs, dats2, dIsi, tyName, dYes, dgCons, dgNil, retB, dBreak, dCont, ne_eq, not_false_eq_true, true_and, and_true, List.getElem?_cons_zero, List.getElem?_cons_succ, List.set_cons_zero, List.set_cons_succ, Option.map, List.length_cons, List.length_nil, dBestD, dParM, dmNil, dmD, dmL, setM, dLc_eq, dLc2_eq, dFor_eq, dSortSet, dSort, dListOf, dIsN, dNotN, isNo, dAug, dMulA, dgUnl, dSlT, onT, dEnum, dZip, dZipM, dRetL, dPar3, dRevT, dLstRg, dTupRg, dRg1, dRg2, dChainLe, List.nil_append, List.cons_append, if_true, if_false, dFrz, dLcO, dMin2D, dAppX, dParL, dParLL, dRepL, fMax3, dNewDic, dDicPut, dDicGet, dSortDic, onDic, onKey, dLcW, dZipX, dParR, dDead, dSortD, dSortDT, fNeS, fEqS, dgSet, dDGet, onDict_eq, onKeyD_int, onKeyD_str, dDIn, dSortDK, onDict1_eq, dDictL, dDictEn, dDictZip, onSq1_eq, onSq2_eq, onSq_t, onSq_l, onSq_o, dNewD, dDicI, dNewDik, dDikPut, onDik, dFrzD, dNew4, dIndexD, onLst_eq, dIfL, dOrT, dAndT, onTru_int, onTru_bool, onTru_none, onTru_tuple, onTru_list, dTupZip, dTupZipK, dZip3, dZip2, dSortKS, dSortKF, dLetSet, dLetSetK, dLetSetN, dEnumZip, dDicV, fLenD, dFgt, fEqA, fNeA, fStrI, dReprW, dLenSet, dLenSetL, dDikGet, dDikIn, dDisp1_i, dDisp1_s, fEqN, fNeN, dDef, datsF, dCallA, dCallV, fIsB, fNotB, fInA_l, fInA_t, fNotInA_l, fNotInA_t, List.map_cons, List.map_nil, fw0, fw1, fw2, fw3, fw4, fw5, fw6, fw7, fw8, fw9, fw10, fw11, fw12, fw13, fw14, fw15, dExtend, dExtendT, dLstDn, dMaxDf, dOp_ap, dIx_ap, dCatT_ap, dRepT_ap, items_l, items_t, items_o, ti_t, dgT_t, seqs_l, seqs_t, seqs_o, dSeqI_eq, wk_l, wk_t, wk_eP, wk_o, dTupOf_eq, tu_t, tu_l, tu_o, tu_eP, dTupA_eq, ta_t, ta_l, ta_o, ta_eP, items_eW, items_eB, items_eSc, items_eLm, items_eP, items_eL, items_pr, items_enc2, items_eTm, ti_eB, ti_eW, ti_eLm, ti_eP, dgT_eSc, dgT_eLm, dgT_eL, dgT_pr, dgT_enc2, dgT_eW, dgT_eTm, seqs_eP, on0, on1, on2, on3, on4, on5, on6, on7, on8]
    refine ⟨sh_int, sh_int, ?_⟩
    rw [eqv_int]
    refine ite_b (c := v = 4) (fun _ => ?_) fun _ => ?_
    · rw [cT, cD1, cM]
      refine ⟨sL _ (by simp only [List.length_append, List.length_map, List.length_cons, List.length_nil]; omega), sL _ (by simp only [List.length_append, List.length_map]; omega), ?_⟩
      have := tup (rs.take a ++ rs.drop (a + 1)) ((rs.take (a + 1)).drop a) [] (fun x hx => (List.mem_append.mp hx).elim (inT x) (inD x)) inM (by simp) (by rw [List.length_append]; omega) (by simp [wVs])
      rw [List.append_nil, List.map_append] at this
      exact hQ _ _ this (hb2.up (by omega))
    rw [hk]
    clear hk
    try walk_at "K14Z0"
    have hr := List.getElem?_eq_getElem al
    have rm := List.getElem_mem al
    generalize rs[a] = r at hr rm
    rw [on_map hr rfl]
    try walk_at "K14Z0"
    refine ur__law_bent (n := 0) hb2 (by omega) (by omega) (.inl ⟨rfl, r, rfl, rb r rm⟩) fun z bag3 hz hb3 => ?_
    rw [cT]
    try walk_at "K14Z0"
    rw [cD1]
    refine ⟨sL _ (by simp only [List.length_append, List.length_map, List.length_cons, List.length_nil]; omega), sL _ (by simp only [List.length_append, List.length_map, List.length_cons, List.length_nil]; omega), ?_⟩
    exact hQ _ _ (tup (rs.take a) (rs.drop (a + 1)) [z] inT inD (fun x hx => by rw [List.mem_singleton.mp hx]; exact ⟨hz.ok, hz.deep⟩) (by omega) (by have := hz.few; simp only [wVs]; omega)) (hb3.up (by omega))
theorem ok__law_bent {f : Addr} {fd : FuncData} (W : Fun K "_law_bent" "_law_bent" s__law_bent f fd) (T : Bi mg)
    {f__law_odd : Addr} {fd__law_odd : FuncData} (G__law_odd : FnG P w K mg base CX0 3 f__law_odd fd__law_odd ["_law_bag_here"] (spB K TT [] S__law_odd)) (g__law_odd : mg "_law_odd" = some (.ref f__law_odd)) (k__law_odd : PySem.W.keepIn K (.ref f__law_odd) = true) (b__law_odd : Binds K fd__law_odd ["_law_bag_here"] [])
    {f__law_take : Addr} {fd__law_take : FuncData} (G__law_take : FnG P w K mg base CX0 1 f__law_take fd__law_take ["_law_bag_here", "_law_many"] (spB K TT [.d] S__law_take)) (g__law_take : mg "_law_take" = some (.ref f__law_take)) (k__law_take : PySem.W.keepIn K (.ref f__law_take) = true) (b__law_take : Binds K fd__law_take ["_law_bag_here", "_law_many"] [])
    {f__law_some : Addr} {fd__law_some : FuncData} (G__law_some : FnG P w K mg base CX0 2 f__law_some fd__law_some ["_law_bag_here", "_law_things"] (spB K TT [.ro] S__law_some)) (g__law_some : mg "_law_some" = some (.ref f__law_some)) (k__law_some : PySem.W.keepIn K (.ref f__law_some) = true) (b__law_some : Binds K fd__law_some ["_law_bag_here", "_law_things"] [])
    {f__law_is_int : Addr} {fd__law_is_int : FuncData} (G__law_is_int : FnG P w K mg base CX0 1 f__law_is_int fd__law_is_int ["_law_thing"] (spP K TT [.d] S__law_is_int)) (g__law_is_int : mg "_law_is_int" = some (.ref f__law_is_int)) (k__law_is_int : PySem.W.keepIn K (.ref f__law_is_int) = true) (b__law_is_int : Binds K fd__law_is_int ["_law_thing"] []) (gS__law_bent : mg "_law_bent" = some (.ref f)) (kS__law_bent : PySem.W.keepIn K (.ref f) = true) (bS__law_bent : Binds K fd ["_law_bag_here", "_law_thing", "_law_deep"] []) :
    FnG P w K mg base CX0 7 f fd ["_law_bag_here", "_law_thing", "_law_deep"] (spB K TT [.d, .d] S__law_bent) := by
  have h : ∀ n : Nat, FnG P w K mg base CX0 (4 + n) f fd ["_law_bag_here", "_law_thing", "_law_deep"] (spB K TT [.d, .d] (Sr__law_bent n)) := by
    intro n
    induction n with
    | zero => exact fg_void fun vs H Q E h => nope__law_bent h
    | succ n IH => exact okr__law_bent W T G__law_odd g__law_odd k__law_odd b__law_odd G__law_take g__law_take k__law_take b__law_take G__law_some g__law_some k__law_some b__law_some G__law_is_int g__law_is_int k__law_is_int b__law_is_int gS__law_bent kS__law_bent bS__law_bent IH
  exact h 3
set_option maxHeartbeats 4000000 in
theorem ok_law {f : Addr} {fd : FuncData} (W : Fun K "law" "law" s_law f fd) (T : Bi mg) (hsy : SysB base)
    {f__law_bag : Addr} {fd__law_bag : FuncData} (G__law_bag : FnG P w K mg base CX0 1 f__law_bag fd__law_bag ["_law_script"] (spF K TT [.ro] S__law_bag)) (g__law_bag : mg "_law_bag" = some (.ref f__law_bag)) (k__law_bag : PySem.W.keepIn K (.ref f__law_bag) = true) (b__law_bag : Binds K fd__law_bag ["_law_script"] [])
    {f__law_close_picture : Addr} {fd__law_close_picture : FuncData} (G__law_close_picture : FnG P w K mg base CX0 4 f__law_close_picture fd__law_close_picture ["_law_bag_here"] (spB K TT [] S__law_close_picture)) (g__law_close_picture : mg "_law_close_picture" = some (.ref f__law_close_picture)) (k__law_close_picture : PySem.W.keepIn K (.ref f__law_close_picture) = true) (b__law_close_picture : Binds K fd__law_close_picture ["_law_bag_here"] [])
    {f__law_some : Addr} {fd__law_some : FuncData} (G__law_some : FnG P w K mg base CX0 2 f__law_some fd__law_some ["_law_bag_here", "_law_things"] (spB K TT [.ro] S__law_some)) (g__law_some : mg "_law_some" = some (.ref f__law_some)) (k__law_some : PySem.W.keepIn K (.ref f__law_some) = true) (b__law_some : Binds K fd__law_some ["_law_bag_here", "_law_things"] [])
    {f__law_rows : Addr} {fd__law_rows : FuncData} (G__law_rows : FnG P w K mg base CX0 1 f__law_rows fd__law_rows ["_law_picture", "_law_spacing"] (spP K TT [.d, .d] S__law_rows)) (g__law_rows : mg "_law_rows" = some (.ref f__law_rows)) (k__law_rows : PySem.W.keepIn K (.ref f__law_rows) = true) (b__law_rows : Binds K fd__law_rows ["_law_picture", "_law_spacing"] [])
    {f__law_alike : Addr} {fd__law_alike : FuncData} (G__law_alike : FnG P w K mg base CX0 1 f__law_alike fd__law_alike ["_law_found", "_law_due"] (spP K TT [.ro, .ro] S__law_alike)) (g__law_alike : mg "_law_alike" = some (.ref f__law_alike)) (k__law_alike : PySem.W.keepIn K (.ref f__law_alike) = true) (b__law_alike : Binds K fd__law_alike ["_law_found", "_law_due"] [])
    {f_rows_many : Addr} {fd_rows_many : FuncData} (G_rows_many : FnG P w K mg base CX0 1 f_rows_many fd_rows_many ["rows"] (spP K TT [.d] S_rows_many)) (g_rows_many : mg "rows_many" = some (.ref f_rows_many)) (k_rows_many : PySem.W.keepIn K (.ref f_rows_many) = true) (b_rows_many : Binds K fd_rows_many ["rows"] [])
    {f__law_odd : Addr} {fd__law_odd : FuncData} (G__law_odd : FnG P w K mg base CX0 3 f__law_odd fd__law_odd ["_law_bag_here"] (spB K TT [] S__law_odd)) (g__law_odd : mg "_law_odd" = some (.ref f__law_odd)) (k__law_odd : PySem.W.keepIn K (.ref f__law_odd) = true) (b__law_odd : Binds K fd__law_odd ["_law_bag_here"] [])
    {f_most_abreast : Addr} {fd_most_abreast : FuncData} (G_most_abreast : FnG P w K mg base CX0 1 f_most_abreast fd_most_abreast ["picture", "spacing"] (spP K TT [.d, .d] S_most_abreast)) (g_most_abreast : mg "most_abreast" = some (.ref f_most_abreast)) (k_most_abreast : PySem.W.keepIn K (.ref f_most_abreast) = true) (b_most_abreast : Binds K fd_most_abreast ["picture", "spacing"] [])
    {f__law_abreast : Addr} {fd__law_abreast : FuncData} (G__law_abreast : FnG P w K mg base CX0 1 f__law_abreast fd__law_abreast ["_law_picture", "_law_spacing"] (spP K TT [.d, .d] S__law_abreast)) (g__law_abreast : mg "_law_abreast" = some (.ref f__law_abreast)) (k__law_abreast : PySem.W.keepIn K (.ref f__law_abreast) = true) (b__law_abreast : Binds K fd__law_abreast ["_law_picture", "_law_spacing"] [])
    {f_rows_of : Addr} {fd_rows_of : FuncData} (G_rows_of : FnG P w K mg base CX0 1 f_rows_of fd_rows_of ["picture", "spacing"] (spP K TT [.d, .d] S_rows_of)) (g_rows_of : mg "rows_of" = some (.ref f_rows_of)) (k_rows_of : PySem.W.keepIn K (.ref f_rows_of) = true) (b_rows_of : Binds K fd_rows_of ["picture", "spacing"] [])
    {f__law_take : Addr} {fd__law_take : FuncData} (G__law_take : FnG P w K mg base CX0 1 f__law_take fd__law_take ["_law_bag_here", "_law_many"] (spB K TT [.d] S__law_take)) (g__law_take : mg "_law_take" = some (.ref f__law_take)) (k__law_take : PySem.W.keepIn K (.ref f__law_take) = true) (b__law_take : Binds K fd__law_take ["_law_bag_here", "_law_many"] [])
    {f__law_bent : Addr} {fd__law_bent : FuncData} (G__law_bent : FnG P w K mg base CX0 7 f__law_bent fd__law_bent ["_law_bag_here", "_law_thing", "_law_deep"] (spB K TT [.d, .d] S__law_bent)) (g__law_bent : mg "_law_bent" = some (.ref f__law_bent)) (k__law_bent : PySem.W.keepIn K (.ref f__law_bent) = true) (b__law_bent : Binds K fd__law_bent ["_law_bag_here", "_law_thing", "_law_deep"] [])
    {f_is_rows : Addr} {fd_is_rows : FuncData} (G_is_rows : FnG P w K mg base CX0 3 f_is_rows fd_is_rows ["picture", "spacing", "thing"] (spP K TT [.d, .d, .d] S_is_rows)) (g_is_rows : mg "is_rows" = some (.ref f_is_rows)) (k_is_rows : PySem.W.keepIn K (.ref f_is_rows) = true) (b_is_rows : Binds K fd_is_rows ["picture", "spacing", "thing"] [])
    {f__law_is_rows : Addr} {fd__law_is_rows : FuncData} (G__law_is_rows : FnG P w K mg base CX0 3 f__law_is_rows fd__law_is_rows ["_law_picture", "_law_spacing", "_law_thing"] (spP K TT [.d, .d, .d] S__law_is_rows)) (g__law_is_rows : mg "_law_is_rows" = some (.ref f__law_is_rows)) (k__law_is_rows : PySem.W.keepIn K (.ref f__law_is_rows) = true) (b__law_is_rows : Binds K fd__law_is_rows ["_law_picture", "_law_spacing", "_law_thing"] []) :
    FnG P w K mg base CX0 8 f fd ["_law_script"] (spP K TT [.ro] S_law) := by
  refine fnP W sc_law rfl fun cdv A out s H E Nn hr hgd => ⟨_, _, (dss_cons (ds_setL (i := 1) sc_law.nd (pl_callF G__law_bag m__law_bag (hr.mono (by decide)) hgd rfl g__law_bag k__law_bag b__law_bag (pda_cons (pdv 0) pda_nil)) fixP)
      (dss_cons (ds_for PassesOwn.never rfl (pdi_range1 rfl T.b_range (pda_cons pd_int pda_nil)) (pgd_name (i := 2) sc_law.nd) (dss_cons (ds_par (i := 3) (j := 4) rfl sc_law.nd (pda_cons (pd_callBag G__law_close_picture m__law_close_picture (hr.mono (by decide)) hgd rfl g__law_close_picture k__law_close_picture b__law_close_picture (pda_cons (pdv 1) pda_nil)) (pda_cons (pd_callBag G__law_some m__law_some (hr.mono (by decide)) hgd rfl g__law_some k__law_some b__law_some (pda_cons (pdv 1) (pda_cons (pd_l (pl_lst (pda_cons pd_int (pda_cons pd_int (pda_cons pd_int (pda_cons pd_int (pda_cons pd_int pda_nil))))))) pda_nil))) pda_nil)) fixP fixP)
      (dss_cons (ds_asg (pd_tup (pda_cons (pd_reprW hsy hgd hr.units rfl T.b_repr (pda_cons (pdv 3) pda_nil)) (pda_cons (pd_callP G__law_rows m__law_rows (hr.mono (by decide)) hgd rfl g__law_rows k__law_rows b__law_rows (pda_cons (pdv 3) (pda_cons (pdv 4) pda_nil))) pda_nil))) (pgd_tup (n := 2) rfl (pgds_cons (pgd_name (i := 5) sc_law.nd) (pgds_cons (pgd_name (i := 6) sc_law.nd) pgds_nil))) nofixP)
      (dss_cons (ds_if (pt_no (pt_v (pd_callP G__law_alike m__law_alike (hr.mono (by decide)) hgd rfl g__law_alike k__law_alike b__law_alike (pda_cons (pd_l (pl_lst (pda_cons (pd_callP G_rows_of m_rows_of (hr.mono (by decide)) hgd rfl g_rows_of k_rows_of b_rows_of (pda_cons (pdv 3) (pda_cons (pdv 4) pda_nil))) (pda_cons (pd_callP G_rows_many m_rows_many (hr.mono (by decide)) hgd rfl g_rows_many k_rows_many b_rows_many (pda_cons (pdv 6) pda_nil)) pda_nil)))) (pda_cons (pd_l (pl_lst (pda_cons (pdv 6) (pda_cons (pd_add (pd_callB (cr_max rfl) sc_maxL rfl T.b_max (by decide +kernel) (pda_cons (pd_l (pl_cat (pd_l (pl_lst (pda_cons (pd_neg pd_int) pda_nil))) (pd_l (pl_listOf rfl T.b_list (pda_cons (pdv 6) pda_nil))))) pda_nil)) pd_int) pda_nil)))) pda_nil))))) (dss_one (ds_ret pd_bl)) dss_nil)
      (dss_cons (ds_if (pt_no (pt_v (pd_callP G__law_alike m__law_alike (hr.mono (by decide)) hgd rfl g__law_alike k__law_alike b__law_alike (pda_cons (pd_callP G_most_abreast m_most_abreast (hr.mono (by decide)) hgd rfl g_most_abreast k_most_abreast b_most_abreast (pda_cons (pdv 3) (pda_cons (pdv 4) pda_nil))) (pda_cons (pd_callP G__law_abreast m__law_abreast (hr.mono (by decide)) hgd rfl g__law_abreast k__law_abreast b__law_abreast (pda_cons (pdv 3) (pda_cons (pdv 4) pda_nil))) pda_nil))))) (dss_one (ds_ret pd_bl)) dss_nil)
      (dss_cons (ds_if (pt_ne hr.units rfl (pd_callP G_rows_many m_rows_many (hr.mono (by decide)) hgd rfl g_rows_many k_rows_many b_rows_many (pda_cons (pd_callP G_rows_of m_rows_of (hr.mono (by decide)) hgd rfl g_rows_of k_rows_of b_rows_of (pda_cons (pdv 3) (pda_cons (pdv 4) pda_nil))) pda_nil)) (pd_ix (pd_callP G_most_abreast m_most_abreast (hr.mono (by decide)) hgd rfl g_most_abreast k_most_abreast b_most_abreast (pda_cons (pdv 3) (pda_cons (pdv 4) pda_nil))) pd_int (fun _ _ => rfl))) (dss_one (ds_ret pd_bl)) dss_nil)
      (dss_cons (ds_fgt (i := 8) (ds_set (i := 7) sc_law.nd (pd_tupleA rfl T.b_tuple (pda_cons (pd_l (pl_lc (own := [("_law_lamp", 8)]) rfl sc_law.nd (pdi_range1 rfl T.b_range (pda_cons (pd_callBag G__law_take m__law_take (hr.mono (by decide)) hgd rfl g__law_take k__law_take b__law_take (pda_cons (pdv 1) (pda_cons pd_int pda_nil))) pda_nil)) (blkOk_by (own := [("_law_lamp", 8)]) (N := nm_law) (sc := defScope s_law) (by decide +kernel)) (fun _ _ _ _ _ => (pgd_name (i := 8) sc_law.nd)) (fun _ _ _ _ _ => dts_nil) (fun _ _ _ _ _ => (pd_callBag G__law_take m__law_take (hr.mono (by decide)) hgd rfl g__law_take k__law_take b__law_take (pda_cons (pdv 1) (pda_cons pd_int pda_nil)))))) pda_nil)) fixP) fixP)
      (dss_cons (ds_if (pt_no (pt_v (pd_callP G__law_alike m__law_alike (hr.mono (by decide)) hgd rfl g__law_alike k__law_alike b__law_alike (pda_cons (pd_callP G_rows_many m_rows_many (hr.mono (by decide)) hgd rfl g_rows_many k_rows_many b_rows_many (pda_cons (pdv 7) pda_nil)) (pda_cons (pd_add (pd_callB (cr_max rfl) sc_maxL rfl T.b_max (by decide +kernel) (pda_cons (pd_l (pl_cat (pd_l (pl_lst (pda_cons (pd_neg pd_int) pda_nil))) (pd_l (pl_listOf rfl T.b_list (pda_cons (pdv 7) pda_nil))))) pda_nil)) pd_int) pda_nil))))) (dss_one (ds_ret pd_bl)) dss_nil)
      (dss_cons (ds_fgt (i := 10) (ds_set (i := 9) sc_law.nd (pd_tupleA rfl T.b_tuple (pda_cons (pd_l (pl_lc (own := [("_law_row", 10)]) rfl sc_law.nd (pdi_seq (pdv 6)) (blkOk_by (own := [("_law_row", 10)]) (N := nm_law) (sc := defScope s_law) (by decide +kernel)) (fun _ _ _ _ _ => (pgd_name (i := 10) sc_law.nd)) (fun _ _ _ _ _ => dts_nil) (fun _ _ _ _ _ => (pd_mul (pdv 10) pd_int)))) pda_nil)) fixP) fixP)
      (dss_cons (ds_set (i := 11) sc_law.nd (pd_l (pl_lst (pda_cons (pdv 6) (pda_cons (pd_l (pl_listOf rfl T.b_list (pda_cons (pdv 6) pda_nil))) (pda_cons (pdv 9) (pda_cons (pd_revT (pdv 6)) (pda_cons (pd_catT (pdv 6) (pd_tup (pda_cons pd_int pda_nil))) (pda_cons (pd_callBag G__law_odd m__law_odd (hr.mono (by decide)) hgd rfl g__law_odd k__law_odd b__law_odd (pda_cons (pdv 1) pda_nil)) (pda_cons (pd_tupRg1 rfl rfl T.b_tuple rfl T.b_range (pd_callB call_len_seq sc_len rfl T.b_len (by decide +kernel) (pda_cons (pdv 3) pda_nil))) pda_nil))))))))) fixP)
      (dss_cons (ds_fgt (i := 10) (ds_fgt (i := 12) (ds_set (i := 11) sc_law.nd (pd_l (pl_cat (pd_l (pl_cat (pdv 11) (pd_l (pl_lc (own := [("_law_more", 12)]) rfl sc_law.nd (pdi_range1 rfl T.b_range (pda_cons pd_int pda_nil)) (blkOk_by (own := [("_law_more", 12)]) (N := nm_law) (sc := defScope s_law) (by decide +kernel)) (fun _ _ _ _ _ => (pgd_name (i := 12) sc_law.nd)) (fun _ _ _ _ _ => dts_nil) (fun _ _ _ _ _ => (pd_callBag G__law_bent m__law_bent (hr.mono (by decide)) hgd rfl g__law_bent k__law_bent b__law_bent (pda_cons (pdv 1) (pda_cons (pdv 6) (pda_cons pd_int pda_nil))))))))) (pd_l (pl_lst (pda_cons (pd_tupleA rfl T.b_tuple (pda_cons (pd_l (pl_lc (own := [("_law_row", 10)]) rfl sc_law.nd (pdi_seq (pdv 6)) (blkOk_by (own := [("_law_row", 10)]) (N := nm_law) (sc := defScope s_law) (by decide +kernel)) (fun _ _ _ _ _ => (pgd_name (i := 10) sc_law.nd)) (fun _ _ _ _ _ => dts_nil) (fun _ _ _ _ _ => (pd_eq hr.units rfl (pdv 10) pd_int)))) pda_nil)) pda_nil))))) fixP) fixP) fixP)
      (dss_one (ds_for PassesOwn.never rfl (pdi_seq (pdv 11)) (pgd_name (i := 13) sc_law.nd) (dss_cons (ds_set (i := 14) sc_law.nd (pd_reprW hsy hgd hr.units rfl T.b_repr (pda_cons (pdv 13) pda_nil)) fixP)
      (dss_cons (ds_if (pt_no (pt_v (pd_callP G__law_alike m__law_alike (hr.mono (by decide)) hgd rfl g__law_alike k__law_alike b__law_alike (pda_cons (pd_callP G_is_rows m_is_rows (hr.mono (by decide)) hgd rfl g_is_rows k_is_rows b_is_rows (pda_cons (pdv 3) (pda_cons (pdv 4) (pda_cons (pdv 13) pda_nil)))) (pda_cons (pd_callP G__law_is_rows m__law_is_rows (hr.mono (by decide)) hgd rfl g__law_is_rows k__law_is_rows b__law_is_rows (pda_cons (pdv 3) (pda_cons (pdv 4) (pda_cons (pdv 13) pda_nil)))) pda_nil))))) (dss_one (ds_ret pd_bl)) dss_nil)
      (dss_one (ds_if (pt_w (pwd_or (pt_neS (pd_reprW hsy hgd hr.units rfl T.b_repr (pda_cons (pdv 13) pda_nil)) (pdv 14)) (pwd_or1 (pt_neS (pd_reprW hsy hgd hr.units rfl T.b_repr (pda_cons (pdv 3) pda_nil)) (pdv 5))))) (dss_one (ds_ret pd_bl)) dss_nil)))) nofixP)))))))))))) nofixP)
      (dss_one (ds_ret pd_bl)))), ?_⟩
  clear W T hr hgd
  rintro xs Q hl ⟨ns, rfl, hQ⟩
  clear hl
  have e : rhoP nm_law.length [.ro] [.list (ns.map .int)] = [some (.ro (.list (ns.map .int))), none, none, none, none, none, none, none, none, none, none, none, none, none, none] := rfl
  rw [e]
  clear e
  refine seqI fun kk hk => ?_
  walk_at "K14Z1"
  refine ⟨ns, rfl, fun bag hb => ?_⟩
  rw [hk]
  refine seqI fun k2 hk2 => ?_
  walk_at "K14Z1"
  refine ⟨⟨by decide, by decide⟩, for_rng (S := List PyData × (Nat → Option Ent)) 0 _ (fun z => [some (.ro (.list (ns.map .int))), some (.own z.1), z.2 0, z.2 1, z.2 2, z.2 3, z.2 4, z.2 5, none, z.2 7, none, z.2 9, none, z.2 11, z.2 12]) (fun i z => Bag (3000 * i) z.1) (bag, fun _ => none) rfl hb (fun i z hi hI C hC => ?_) fun z hz => ?_⟩
  · have hC' : ∀ (b : List PyData) (a0 a1 a2 a3 a4 a5 a7 a9 a11 a12 : Option Ent), Bag (3000 * i + 3000) b → C [some (.ro (.list (ns.map .int))), some (.own b), a0, a1, a2, a3, a4, a5, none, a7, none, a9, none, a11, a12] := fun b a0 a1 a2 a3 a4 a5 a7 a9 a11 a12 h => hC (b, fun n => ([a0, a1, a2, a3, a4, a5, none, a7, none, a9, none, a11, a12] : List (Option Ent)).getD n none) (by rw [Nat.mul_succ]; exact h)
    clear hC
    have hi2 : i ≤ 1000 := by
      have : i < Int.toNat _ := hi
      exact Nat.le_trans (Nat.le_of_lt this) (by decide)
    simp only [setR, List.set_cons_succ, List.set_cons_zero]
    refine seqI fun kk3 hk3 => ?_
    try walk_at "K14Z0"
    refine u__law_close_picture hI (by omega) fun z bag1 hz hb1 => ?_
    obtain ⟨ls, rfl, pc⟩ := hz
    have up := pc.up.up
    have ip := pc.n
    have fpc := fn_pc pc
    refine u_some hb1 (by omega) (by decide) (by decide) fun y hy bag2 hb2 => ?_
    obtain ⟨sp, rfl, sp0, sp1⟩ := of_all (lo := 1) (hi := 50) (by decide) y hy
    try walk_at "K14Z0"
    rw [hk3]
    clear hk3
    refine seqI fun kk3 hk3 => ?_
    try walk_at "K14Z0"
    refine ⟨fineW fpc.fine, ?_⟩
    refine u__law_rows (ls := ls) (sp := sp) up sp0 (by omega) (by omega) fun z hz => ?_
    obtain ⟨rs, lst, lr, rg, rfl⟩ := hz
    try walk_at "K14Z0"
    rw [hk3]
    clear hk3
    refine seqI fun kk3 hk3 => ?_
    try walk_at "K14Z0"
    refine u_rows_of (ls := ls) (sp := sp) up sp0 (by omega) fun z hz => ?_
    obtain ⟨rs2, n, rfl, col, has, lst2⟩ := hz
    obtain rfl : rs2 = rs := lst2.unique lst (by rw [col.len]) (by rw [lr, lxs_len])
    have mz := maxZ_col col has
    refine u_rows_many (rs := rs2) (fun r h => by have := rg r h; omega) ?_
    try walk_at "K14Z0"
    simp only [dSeq, dAsg, dCB, dCons, dNil, dVar, onVs, vals, val, slot, setR, fGcd, dIfS, dTV, onV2, fLt, fLe, fGt, fGe, fAdd, fSub, fMul, fDiv, fMod, fI0, dC, dUn, onV, fNeg, dNext, dRet, dTup, onD, dats, fDivZ, fI, fPow, Few, retP, fAbs, fInt, fMax, fMin, fLen, fSqrt, fEq, fNe, dNot, dAnd, dOr, dAndV, dOrV, dNotV, dIfE, dDrop, dRetN, dPar, noO, dSetL, dLst, dOfL, dOwnM, onOwn, onDat, kAppend, kInsert, dSetItem, dAddItem, onItems, onInt, dNoPart, dPart, dSlice, onL, litems, dSlL, dCat, onM, mitems, dRng1, dRng2, dCallP, dCallB, dCallF, noSelf, onArgs, dats2, dIsi, tyName, dYes, dgCons, dgNil, retB, dBreak, dCont, ne_eq, not_false_eq_true, true_and, and_true, List.getElem?_cons_zero, List.getElem?_cons_succ, List.set_cons_zero, List.set_cons_succ, Option.map, List.length_cons, List.length_nil, dBestD, dParM, dmNil, dmD, dmL, setM, dLc_eq, dLc2_eq, dFor_eq, dSortSet, dSort, dListOf, dIsN, dNotN, isNo, dAug, dMulA, dgUnl, dSlT, onT, dEnum, dZip, dZipM, dRetL, dPar3, dRevT, dLstRg, dTupRg, dRg1, dRg2, dChainLe, List.nil_append, List.cons_append, if_true, if_false, dFrz, dLcO, dMin2D, dAppX, dParL, dParLL, dRepL, fMax3, dNewDic, dDicPut, dDicGet, dSortDic, onDic, onKey, dLcW, dZipX, dParR, dDead, dSortD, dSortDT, fNeS, fEqS, dgSet, dDGet, onDict_eq, onKeyD_int, onKeyD_str, dDIn, dSortDK, onDict1_eq, dDictL, dDictEn, dDictZip, onSq1_eq, onSq2_eq, onSq_t, onSq_l, onSq_o, dNewD, dDicI, dNewDik, dDikPut, onDik, dFrzD, dNew4, dIndexD, onLst_eq, dIfL, dOrT, dAndT, onTru_int, onTru_bool, onTru_none, onTru_tuple, onTru_list, dTupZip, dTupZipK, dZip3, dZip2, dSortKS, dSortKF, dLetSet, dLetSetK, dLetSetN, dEnumZip, dDicV, fLenD, dFgt, fEqA, fNeA, fStrI, dReprW, dLenSet, dLenSetL, dDikGet, dDikIn, dDisp1_i, dDisp1_s, fEqN, fNeN, dDef, datsF, dCallA, dCallV, fIsB, fNotB, fInA_l, fInA_t, fNotInA_l, fNotInA_t, List.map_cons, List.map_nil, fw0, fw1, fw2, fw3, fw4, fw5, fw6, fw7, fw8, fw9, fw10, fw11, fw12, fw13, fw14, fw15, dExtend, dExtendT, dLstDn, dMaxDf, dOp_ap, dIx_ap, dCatT_ap, dRepT_ap, items_l, items_t, items_o, ti_t, dgT_t, seqs_l, seqs_t, seqs_o, dSeqI_eq, wk_l, wk_t, wk_eP, wk_o, dTupOf_eq, tu_t, tu_l, tu_o, tu_eP, dTupA_eq, ta_t, ta_l, ta_o, ta_eP, items_eW, items_eB, items_eSc, items_eLm, items_eP, items_eL, items_pr, items_enc2, items_eTm, ti_eB, ti_eW, ti_eLm, ti_eP, dgT_eSc, dgT_eLm, dgT_eL, dgT_pr, dgT_enc2, dgT_eW, dgT_eTm, seqs_eP, on0, on1, on2, on3, on4, on5, on6, on7, on8, dBin]
    have l14 : rs2.length ≤ 14 := by omega
    refine ⟨few_le (by rw [List.length_map]; omega), ?_⟩
    refine f_maxL (ns := (-1) :: rs2) (by simp) fun m hm hM => ?_
    rw [← maxZ_all hm hM]
    clear hm hM m
    have bI : ∀ {i : Int}, 0 ≤ i → i ≤ 1000 → Bd 10 i := fun h k => bd_of 1000 (by omega) k
    have brs : ∀ r ∈ rs2, Bd 10 r := fun r hr => bI (rg r hr).1 (rg r hr).2
    have frs : Fn 1 110000 (.tuple (rs2.map .int)) := (Fn.tuple (k := 0) (c := 1001) (n := 14) (Fn.map fun r hr => Fn.int (brs r hr)) (by rw [List.length_map]; exact l14)).up (by decide) (by decide)
    have fi : ∀ {i : Int}, Bd 10 i → Fn 1 110000 (.int i) := fun h => (Fn.int h).up (by decide) (by decide)
    have n1000 : n ≤ 1000 := by have := has.size; rw [lxs_len] at this; omega
    refine u_alike (Fn.list (k := 1) (c := 110000) (n := 2) (all2 frs (fi (i := maxZ rs2 + 1) (by rw [mz]; exact bI (by omega) (by omega)))) (Nat.le_refl _)).fine ?_
    walk_at "K14Z4"
    rw [hk3]
    clear hk3
    refine seqI fun kk3 hk3 => ?_
    try walk_at "K14Z0"
    refine u_most_abreast (ls := ls) (sp := sp) up sp0 (by omega) fun z hz => ?_
    obtain ⟨m1, y1, rfl, ha1, hx1, ya1⟩ := hz
    refine u__law_abreast (ls := ls) (sp := sp) up sp0 (by omega) fun z hz => ?_
    obtain ⟨m2, y2, rfl, ha2, hx2, ya2⟩ := hz
    obtain rfl : m2 = m1 := Nat.le_antisymm (hx1 _ ha2) (hx2 _ ha1)
    obtain rfl : y2 = y1 := ya2.unique ya1
    have en : m2 = n := Nat.le_antisymm (col_has col ha2) (hx2 _ has)
    have fy : Fn 1 110000 y2 := by
      rcases ya2 with ⟨_, rfl⟩ | ⟨a, rfl, _, ax, _⟩
      · exact Fn.none.up (by decide) (by decide)
      · obtain ⟨l, hl, rfl⟩ := List.mem_map.mp ax
        obtain ⟨_, _, _, _, _, _, _, _, _⟩ := pc.l l hl
        exact fi (bd_of 1000 (by omega) (by omega))
    refine u_alike (Fn.tuple (k := 1) (c := 110000) (n := 2) (all2 (fi (bI (by omega) (by omega))) fy) (Nat.le_refl _)).fine ?_
    walk_at "K14Z4"
    rw [hk3]
    clear hk3
    refine seqI fun kk3 hk3 => ?_
    try walk_at "K14Z0"
    refine u_rows_of (ls := ls) (sp := sp) up sp0 (by omega) fun z hz => ?_
    obtain ⟨rs3, n3, rfl, col3, has3, lst3⟩ := hz
    obtain rfl : rs3 = rs2 := lst3.unique lst (by rw [col3.len]) (by rw [lr, lxs_len])
    try walk_at "K14Z0"
    refine u_rows_many (rs := rs3) (fun r h => by have := rg r h; omega) ?_
    try simp only [dSeq, dAsg, dCB, dCons, dNil, dVar, onVs, vals, val, slot, setR, fGcd, dIfS, dTV, onV2, fLt, fLe, fGt, fGe, fAdd, fSub, fMul, fDiv, fMod, fI0, dC, dUn, onV, fNeg, dNext, dRet, dTup, onD, dats, fDivZ, fI, fPow, Few, retP, fAbs, fInt, fMax, fMin, fLen, fSqrt, fEq, fNe, dNot, dAnd, dOr, dAndV, dOrV, dNotV, dIfE, dDrop, dRetN, dPar, noO, dSetL, dLst, dOfL, dOwnM, onOwn, onDat, kAppend, kInsert, dSetItem, dAddItem, onItems, onInt, dNoPart, dPart, dSlice, onL, litems, dSlL, dCat, onM, mitems, dRng1, dRng2, dCallP, dCallB, dCallF, noSelf, onArgs, dats2, dIsi, tyName, dYes, dgCons, dgNil, retB, dBreak, dCont, ne_eq, not_false_eq_true, true_and, and_true, List.getElem?_cons_zero, List.getElem?_cons_succ, List.set_cons_zero, List.set_cons_succ, Option.map, List.length_cons, List.length_nil, dBestD, dParM, dmNil, dmD, dmL, setM, dLc_eq, dLc2_eq, dFor_eq, dSortSet, dSort, dListOf, dIsN, dNotN, isNo, dAug, dMulA, dgUnl, dSlT, onT, dEnum, dZip, dZipM, dRetL, dPar3, dRevT, dLstRg, dTupRg, dRg1, dRg2, dChainLe, List.nil_append, List.cons_append, if_true, if_false, dFrz, dLcO, dMin2D, dAppX, dParL, dParLL, dRepL, fMax3, dNewDic, dDicPut, dDicGet, dSortDic, onDic, onKey, dLcW, dZipX, dParR, dDead, dSortD, dSortDT, fNeS, fEqS, dgSet, dDGet, onDict_eq, onKeyD_int, onKeyD_str, dDIn, dSortDK, onDict1_eq, dDictL, dDictEn, dDictZip, onSq1_eq, onSq2_eq, onSq_t, onSq_l, onSq_o, dNewD, dDicI, dNewDik, dDikPut, onDik, dFrzD, dNew4, dIndexD, onLst_eq, dIfL, dOrT, dAndT, onTru_int, onTru_bool, onTru_none, onTru_tuple, onTru_list, dTupZip, dTupZipK, dZip3, dZip2, dSortKS, dSortKF, dLetSet, dLetSetK, dLetSetN, dEnumZip, dDicV, fLenD, dFgt, fEqA, fNeA, fStrI, dReprW, dLenSet, dLenSetL, dDikGet, dDikIn, dDisp1_i, dDisp1_s, fEqN, fNeN, dDef, datsF, dCallA, dCallV, fIsB, fNotB, fInA_l, fInA_t, fNotInA_l, fNotInA_t, List.map_cons, List.map_nil, fw0, fw1, fw2, fw3, fw4, fw5, fw6, fw7, fw8, fw9, fw10, fw11, fw12, fw13, fw14, fw15, dExtend, dExtendT, dLstDn, dMaxDf, dOp_ap, dIx_ap, dCatT_ap, dRepT_ap, items_l, items_t, items_o, ti_t, dgT_t, seqs_l, seqs_t, seqs_o, dSeqI_eq, wk_l, wk_t, wk_eP, wk_o, dTupOf_eq, tu_t, tu_l, tu_o, tu_eP, dTupA_eq, ta_t, ta_l, ta_o, ta_eP, items_eW, items_eB, items_eSc, items_eLm, items_eP, items_eL, items_pr, items_enc2, items_eTm, ti_eB, ti_eW, ti_eLm, ti_eP, dgT_eSc, dgT_eLm, dgT_eL, dgT_pr, dgT_enc2, dgT_eW, dgT_eTm, seqs_eP, on0, on1, on2, on3, on4, on5, on6, on7, on8, dBin]
    refine u_most_abreast (ls := ls) (sp := sp) up sp0 (by omega) fun z hz => ?_
    obtain ⟨m3, y3, rfl, ha3, hx3, ya3⟩ := hz
    obtain rfl : m3 = m2 := Nat.le_antisymm (hx2 _ ha3) (hx3 _ ha2)
    simp only [dSeq, dAsg, dCB, dCons, dNil, dVar, onVs, vals, val, slot, setR, fGcd, dIfS, dTV, onV2, fLt, fLe, fGt, fGe, fAdd, fSub, fMul, fDiv, fMod, fI0, dC, dUn, onV, fNeg, dNext, dRet, dTup, onD, dats, fDivZ, fI, fPow, Few, retP, fAbs, fInt, fMax, fMin, fLen, fSqrt, fEq, fNe, dNot, dAnd, dOr, dAndV, dOrV, dNotV, dIfE, dDrop, dRetN, dPar, noO, dSetL, dLst, dOfL, dOwnM, onOwn, onDat, kAppend, kInsert, dSetItem, dAddItem, onItems, onInt, dNoPart, dPart, dSlice, onL, litems, dSlL, dCat, onM, mitems, dRng1, dRng2, dCallP, dCallB, dCallF, noSelf, onArgs, dats2, dIsi, tyName, dYes, dgCons, dgNil, retB, dBreak, dCont, ne_eq, not_false_eq_true, true_and, and_true, List.getElem?_cons_zero, List.getElem?_cons_succ, List.set_cons_zero, List.set_cons_succ, Option.map, List.length_cons, List.length_nil, dBestD, dParM, dmNil, dmD, dmL, setM, dLc_eq, dLc2_eq, dFor_eq, dSortSet, dSort, dListOf, dIsN, dNotN, isNo, dAug, dMulA, dgUnl, dSlT, onT, dEnum, dZip, dZipM, dRetL, dPar3, dRevT, dLstRg, dTupRg, dRg1, dRg2, dChainLe, List.nil_append, List.cons_append, if_true, if_false, dFrz, dLcO, dMin2D, dAppX, dParL, dParLL, dRepL, fMax3, dNewDic, dDicPut, dDicGet, dSortDic, onDic, onKey, dLcW, dZipX, dParR, dDead, dSortD, dSortDT, fNeS, fEqS, dgSet, dDGet, onDict_eq, onKeyD_int, onKeyD_str, dDIn, dSortDK, onDict1_eq, dDictL, dDictEn, dDictZip, onSq1_eq, onSq2_eq, onSq_t, onSq_l, onSq_o, dNewD, dDicI, dNewDik, dDikPut, onDik, dFrzD, dNew4, dIndexD, onLst_eq, dIfL, dOrT, dAndT, onTru_int, onTru_bool, onTru_none, onTru_tuple, onTru_list, dTupZip, dTupZipK, dZip3, dZip2, dSortKS, dSortKF, dLetSet, dLetSetK, dLetSetN, dEnumZip, dDicV, fLenD, dFgt, fEqA, fNeA, fStrI, dReprW, dLenSet, dLenSetL, dDikGet, dDikIn, dDisp1_i, dDisp1_s, fEqN, fNeN, dDef, datsF, dCallA, dCallV, fIsB, fNotB, fInA_l, fInA_t, fNotInA_l, fNotInA_t, List.map_cons, List.map_nil, fw0, fw1, fw2, fw3, fw4, fw5, fw6, fw7, fw8, fw9, fw10, fw11, fw12, fw13, fw14, fw15, dExtend, dExtendT, dLstDn, dMaxDf, dOp_ap, dIx_ap, dCatT_ap, dRepT_ap, items_l, items_t, items_o, ti_t, dgT_t, seqs_l, seqs_t, seqs_o, dSeqI_eq, wk_l, wk_t, wk_eP, wk_o, dTupOf_eq, tu_t, tu_l, tu_o, tu_eP, dTupA_eq, ta_t, ta_l, ta_o, ta_eP, items_eW, items_eB, items_eSc, items_eLm, items_eP, items_eL, items_pr, items_enc2, items_eTm, ti_eB, ti_eW, ti_eLm, ti_eP, dgT_eSc, dgT_eLm, dgT_eL, dgT_pr, dgT_enc2, dgT_eW, dgT_eTm, seqs_eP, on0, on1, on2, on3, on4, on5, on6, on7, on8, on0]
    refine ⟨sh_int, sh_int, ?_⟩
    rw [eqv_int, mz, ← en]
    refine ite_nf (c := ((m3 : Nat) : Int) = (m3 : Int)) rfl ?_
    rw [hk3]
    clear hk3
    refine seqI fun kk3 hk3 => ?_
    try walk_at "K14Z0"
    refine u_take hb2 (by omega) (by omega) (by omega) fun c bag3 c0 c1 hb3 => ?_
    walk_at "K14Z0"
    refine ⟨⟨by omega, by omega⟩, ?_⟩
    have rl : (rng 0 c.toNat).length = c.toNat := rng_len
    refine lc_draw (n := 1) (rng 0 c.toNat) (fun b => [some (Ent.ro (PyData.list (List.map PyData.int ns))), some (Ent.own b), some (Ent.d (PyData.int (0 + (i : Int)))), some (Ent.d (eP ls)), some (Ent.d (PyData.int sp)), some (Ent.d (PyData.str (eP ls).shown)), some (Ent.d (PyData.tuple (List.map PyData.int rs3))), z.snd 5, none, z.snd 7, none, z.snd 9, none, z.snd 11, z.snd 12]) (fun y => ∃ v : Int, y = .int v ∧ 0 ≤ v ∧ v < 9) bag3 _ hb3 rfl (fun _ => hv1 rfl) (by omega) (fun k x hx m' bag4 g1 g2 hb4 C1 C2 q fq hc => ?_) fun zs bag4 hzl hzs hb4 => ?_
    · walk_at "K14Z0"
      refine u_take hb4 (by omega) (by omega) (by omega) fun v bag5 v0 v1 hb5 => ?_
      try walk_at "K14Z2"
      exact ⟨fq, hc _ _ ⟨v, rfl, v0, v1⟩ hb5⟩
    obtain ⟨vs, rfl, hvs⟩ := as_enc PyData.int (fun _ v => 0 ≤ v ∧ v < 9) zs fun i z hz => hzs z (List.mem_of_getElem? hz)
    rw [List.length_map] at hzl
    have vl9 : vs.length ≤ 9 := by omega
    replace hvs : ∀ v ∈ vs, 0 ≤ v ∧ v < 9 := fun v hv => by
      obtain ⟨i, hi⟩ := List.mem_iff_getElem?.mp hv
      exact hvs i v hi
    simp only [wipeR, List.set_cons_succ, List.set_cons_zero]
    clear hzs
    replace hb4 := hb4.up (show _ ≤ 3000 * i + 300 by omega)
    rw [hk3]
    clear hk3
    refine seqI fun kk3 hk3 => ?_
    try walk_at "K14Z0"
    refine u_rows_many (rs := vs) (fun r h => by have := hvs r h; omega) ?_
    try simp only [dSeq, dAsg, dCB, dCons, dNil, dVar, onVs, vals, val, slot, setR, fGcd, dIfS, dTV, onV2, fLt, fLe, fGt, fGe, fAdd, fSub, fMul, fDiv, fMod, fI0, dC, dUn, onV, fNeg, dNext, dRet, dTup, onD, dats, fDivZ, fI, fPow, Few, retP, fAbs, fInt, fMax, fMin, fLen, fSqrt, fEq, fNe, dNot, dAnd, dOr, dAndV, dOrV, dNotV, dIfE, dDrop, dRetN, dPar, noO, dSetL, dLst, dOfL, dOwnM, onOwn, onDat, kAppend, kInsert, dSetItem, dAddItem, onItems, onInt, dNoPart, dPart, dSlice, onL, litems, dSlL, dCat, onM, mitems, dRng1, dRng2, dCallP, dCallB, dCallF, noSelf, onArgs, dats2, dIsi, tyName, dYes, dgCons, dgNil, retB, dBreak, dCont, ne_eq, not_false_eq_true, true_and, and_true, List.getElem?_cons_zero, List.getElem?_cons_succ, List.set_cons_zero, List.set_cons_succ, Option.map, List.length_cons, List.length_nil, dBestD, dParM, dmNil, dmD, dmL, setM, dLc_eq, dLc2_eq, dFor_eq, dSortSet, dSort, dListOf, dIsN, dNotN, isNo, dAug, dMulA, dgUnl, dSlT, onT, dEnum, dZip, dZipM, dRetL, dPar3, dRevT, dLstRg, dTupRg, dRg1, dRg2, dChainLe, List.nil_append, List.cons_append, if_true, if_false, dFrz, dLcO, dMin2D, dAppX, dParL, dParLL, dRepL, fMax3, dNewDic, dDicPut, dDicGet, dSortDic, onDic, onKey, dLcW, dZipX, dParR, dDead, dSortD, dSortDT, fNeS, fEqS, dgSet, dDGet, onDict_eq, onKeyD_int, onKeyD_str, dDIn, dSortDK, onDict1_eq, dDictL, dDictEn, dDictZip, onSq1_eq, onSq2_eq, onSq_t, onSq_l, onSq_o, dNewD, dDicI, dNewDik, dDikPut, onDik, dFrzD, dNew4, dIndexD, onLst_eq, dIfL, dOrT, dAndT, onTru_int, onTru_bool, onTru_none, onTru_tuple, onTru_list, dTupZip, dTupZipK, dZip3, dZip2, dSortKS, dSortKF, dLetSet, dLetSetK, dLetSetN, dEnumZip, dDicV, fLenD, dFgt, fEqA, fNeA, fStrI, dReprW, dLenSet, dLenSetL, dDikGet, dDikIn, dDisp1_i, dDisp1_s, fEqN, fNeN, dDef, datsF, dCallA, dCallV, fIsB, fNotB, fInA_l, fInA_t, fNotInA_l, fNotInA_t, List.map_cons, List.map_nil, fw0, fw1, fw2, fw3, fw4, fw5, fw6, fw7, fw8, fw9, fw10, fw11, fw12, fw13, fw14, fw15, dExtend, dExtendT, dLstDn, dMaxDf, dOp_ap, dIx_ap, dCatT_ap, dRepT_ap, items_l, items_t, items_o, ti_t, dgT_t, seqs_l, seqs_t, seqs_o, dSeqI_eq, wk_l, wk_t, wk_eP, wk_o, dTupOf_eq, tu_t, tu_l, tu_o, tu_eP, dTupA_eq, ta_t, ta_l, ta_o, ta_eP, items_eW, items_eB, items_eSc, items_eLm, items_eP, items_eL, items_pr, items_enc2, items_eTm, ti_eB, ti_eW, ti_eLm, ti_eP, dgT_eSc, dgT_eLm, dgT_eL, dgT_pr, dgT_enc2, dgT_eW, dgT_eTm, seqs_eP, on0, on1, on2, on3, on4, on5, on6, on7, on8, dBin]
    refine ⟨few_le (by rw [List.length_map]; omega), ?_⟩
    refine f_maxL (ns := (-1) :: vs) (by simp) fun m hm hM => ?_
    rw [← maxZ_all hm hM]
    have bm : -1 ≤ m ∧ m ≤ 9 := by
      have := hM (-1) (List.mem_cons_self ..)
      rcases List.mem_cons.mp hm with e | e
      · omega
      · have := hvs m e
        omega
    refine u_alike (x := .int (maxZ vs + 1)) (fi (i := maxZ vs + 1) (by rw [maxZ_all hm hM]; exact bI (by omega) (by omega))).fine ?_
    clear hm hM bm m
    walk_at "K14Z4"
    rw [hk3]
    clear hk3
    refine seqI fun kk3 hk3 => ?_
    try walk_at "K14Z0"
    refine lc_map rs3 .int (fun r => .int (r * 3)) (hv1 rfl) (by omega) (fun k r hr C1 C2 q fq hc => ?_) ?_
    · walk_at "K14Z0"
      have := brs r (List.mem_of_getElem? hr)
      exact ⟨cmb this (show Bd 2 3 by unfold Bd; decide), fq, hc⟩
    rw [show (rs3.map fun r => PyData.int (r * 3)) = (rs3.map fun r => r * 3).map .int by rw [List.map_map]; rfl]
    simp only [wipeR, List.set_cons_succ, List.set_cons_zero]
    rw [hk3]
    clear hk3
    refine seqI fun kk3 hk3 => ?_
    try walk_at "K14Z0"
    simp only [dSeq, dAsg, dCB, dCons, dNil, dVar, onVs, vals, val, slot, setR, fGcd, dIfS, dTV, onV2, fLt, fLe, fGt, fGe, fAdd, fSub, fMul, fDiv, fMod, fI0, dC, dUn, onV, fNeg, dNext, dRet, dTup, onD, dats, fDivZ, fI, fPow, Few, retP, fAbs, fInt, fMax, fMin, fLen, fSqrt, fEq, fNe, dNot, dAnd, dOr, dAndV, dOrV, dNotV, dIfE, dDrop, dRetN, dPar, noO, dSetL, dLst, dOfL, dOwnM, onOwn, onDat, kAppend, kInsert, dSetItem, dAddItem, onItems, onInt, dNoPart, dPart, dSlice, onL, litems, dSlL, dCat, onM, mitems, dRng1, dRng2, dCallP, dCallB, dCallF, noSelf, onArgs, dats2, dIsi, tyName, dYes, dgCons, dgNil, retB, dBreak, dCont, ne_eq, not_false_eq_true, true_and, and_true, List.getElem?_cons_zero, List.getElem?_cons_succ, List.set_cons_zero, List.set_cons_succ, Option.map, List.length_cons, List.length_nil, dBestD, dParM, dmNil, dmD, dmL, setM, dLc_eq, dLc2_eq, dFor_eq, dSortSet, dSort, dListOf, dIsN, dNotN, isNo, dAug, dMulA, dgUnl, dSlT, onT, dEnum, dZip, dZipM, dRetL, dPar3, dRevT, dLstRg, dTupRg, dRg1, dRg2, dChainLe, List.nil_append, List.cons_append, if_true, if_false, dFrz, dLcO, dMin2D, dAppX, dParL, dParLL, dRepL, fMax3, dNewDic, dDicPut, dDicGet, dSortDic, onDic, onKey, dLcW, dZipX, dParR, dDead, dSortD, dSortDT, fNeS, fEqS, dgSet, dDGet, onDict_eq, onKeyD_int, onKeyD_str, dDIn, dSortDK, onDict1_eq, dDictL, dDictEn, dDictZip, onSq1_eq, onSq2_eq, onSq_t, onSq_l, onSq_o, dNewD, dDicI, dNewDik, dDikPut, onDik, dFrzD, dNew4, dIndexD, onLst_eq, dIfL, dOrT, dAndT, onTru_int, onTru_bool, onTru_none, onTru_tuple, onTru_list, dTupZip, dTupZipK, dZip3, dZip2, dSortKS, dSortKF, dLetSet, dLetSetK, dLetSetN, dEnumZip, dDicV, fLenD, dFgt, fEqA, fNeA, fStrI, dReprW, dLenSet, dLenSetL, dDikGet, dDikIn, dDisp1_i, dDisp1_s, fEqN, fNeN, dDef, datsF, dCallA, dCallV, fIsB, fNotB, fInA_l, fInA_t, fNotInA_l, fNotInA_t, List.map_cons, List.map_nil, fw0, fw1, fw2, fw3, fw4, fw5, fw6, fw7, fw8, fw9, fw10, fw11, fw12, fw13, fw14, fw15, dExtend, dExtendT, dLstDn, dMaxDf, dOp_ap, dIx_ap, dCatT_ap, dRepT_ap, items_l, items_t, items_o, ti_t, dgT_t, seqs_l, seqs_t, seqs_o, dSeqI_eq, wk_l, wk_t, wk_eP, wk_o, dTupOf_eq, tu_t, tu_l, tu_o, tu_eP, dTupA_eq, ta_t, ta_l, ta_o, ta_eP, items_eW, items_eB, items_eSc, items_eLm, items_eP, items_eL, items_pr, items_enc2, items_eTm, ti_eB, ti_eW, ti_eLm, ti_eP, dgT_eSc, dgT_eLm, dgT_eL, dgT_pr, dgT_enc2, dgT_eW, dgT_eTm, seqs_eP, on0, on1, on2, on3, on4, on5, on6, on7, on8, dBin]
    refine ⟨few_le (by rw [List.length_map]; omega), ?_⟩
    refine u__law_odd hb4 (by omega) fun zo bag5 hzo hb5 => ?_
    show RgOk 0 (((ls.map eLm).length : Nat) : Int) ∧ _
    rw [List.length_map]
    refine ⟨⟨by omega, by omega⟩, ?_⟩
    rw [show ((ls.length : Int) - 0).toNat = ls.length by omega, rng_ints, ← List.map_reverse]
    have b70 : ∀ {i : Int}, Bd 60 i → Bd 700 i := fun h => h.up (by decide)
    have v1 := vl_ints (b := 60) (rs := rs3) (fun r hr => (brs r hr).up (by decide)) (by omega)
    have v2 := (vl_ints (b := 60) (rs := rs3.map fun r => r * 3) (fun r hr => by
      obtain ⟨q, hq, rfl⟩ := List.mem_map.mp hr
      have := rg q hq
      exact bd_of 4000 (by omega) (by omega)) (by rw [List.length_map]; omega)).1
    have v3 := (vl_ints (b := 60) (rs := rs3.reverse) (fun r hr => (brs r (List.mem_reverse.mp hr)).up (by decide)) (by rw [List.length_reverse]; omega)).1
    have v4 := (vl_ints (b := 60) (rs := rs3 ++ [0]) (fun r hr => (List.mem_append.mp hr).elim (fun h => (brs r h).up (by decide)) fun h => by rw [List.mem_singleton.mp h]; unfold Bd; decide) (by rw [List.length_append]; simp only [List.length_cons, List.length_nil]; omega)).1
    have v5 := (vl_ints (b := 60) (rs := (List.range ls.length).map fun i : Nat => 0 + (i : Int)) (fun r hr => by
      obtain ⟨q, hq, rfl⟩ := List.mem_map.mp hr
      have := List.mem_range.mp hq
      exact bd_of 100 (by omega) (by omega)) (by rw [List.length_map, List.length_range]; omega)).1
    rw [List.map_append] at v4
    obtain ⟨ts, ets, lts, vts⟩ : ∃ ts : List PyData, [PyData.tuple (List.map PyData.int rs3), PyData.list (List.map PyData.int rs3), PyData.tuple (List.map PyData.int (List.map (fun r => r * 3) rs3)), PyData.tuple (List.map PyData.int rs3.reverse), PyData.tuple (List.map PyData.int rs3 ++ [PyData.int 0]), zo, PyData.tuple (((List.range ls.length).map fun i : Nat => 0 + (i : Int)).map .int)] = ts ∧ ts.length = 7 ∧ ∀ y ∈ ts, Vl 700 5 60000 y := ⟨_, rfl, rfl, fun y hy => by
      simp only [List.mem_cons, List.not_mem_nil, or_false] at hy
      rcases hy with rfl | rfl | rfl | rfl | rfl | rfl | rfl
      · exact v1.1.up (by decide) (by decide) (by decide)
      · exact v1.2.up (by decide) (by decide) (by decide)
      · exact v2.up (by decide) (by decide) (by decide)
      · exact v3.up (by decide) (by decide) (by decide)
      · exact v4.up (by decide) (by decide) (by decide)
      · exact hzo.up (by decide) (by decide) (by decide)
      · exact v5.up (by decide) (by decide) (by decide)⟩
    rw [ets]
    clear ets v1 v2 v3 v4 v5
    rw [hk3]
    clear hk3
    refine seqI fun kk3 hk3 => ?_
    try walk_at "K14Z0"
    refine ⟨⟨by decide, by decide⟩, ?_⟩
    refine lc_draw (n := 15) (rng 0 (Int.toNat 8)) (fun b => [some (Ent.ro (PyData.list (List.map PyData.int ns))), some (Ent.own b), some (Ent.d (PyData.int (0 + (i : Int)))), some (Ent.d (eP ls)), some (Ent.d (PyData.int sp)), some (Ent.d (PyData.str (eP ls).shown)), some (Ent.d (PyData.tuple (List.map PyData.int rs3))), some (Ent.d (PyData.tuple (List.map PyData.int vs))), none, some (Ent.d (PyData.tuple (List.map PyData.int (List.map (fun r => r * 3) rs3)))), none, some (Ent.d (PyData.list ts)), none, z.snd 11, z.snd 12]) (fun y => Vl 700 5 60000 y) bag5 _ hb5 rfl (fun _ => hv1 rfl) (by decide) (fun k x hx m' bag6 g1 g2 hb6 C1 C2 q fq hc => ?_) fun zs bag6 hzl2 hzs hb6 => ?_
    · walk_at "K14Z0"
      refine u__law_bent (n := 1) hb6 (by rw [rng_len] at g2; simp at g2; omega) (by decide) (.inr ⟨rfl, rs3, rfl, by omega, fun r hr => (brs r hr).up (by decide)⟩) fun y bag7 hy hb7 => ?_
      try walk_at "K14Z2"
      exact ⟨fq, hc _ _ hy hb7⟩
    have r8 : (rng 0 (Int.toNat 8)).length = 8 := by rw [rng_len]; rfl
    rw [r8] at hzl2 hb6
    refine ⟨few_le (by omega), ?_⟩
    walk_at "K14Z2"
    refine lc_map rs3 .int (fun r => .bool (decide (r = 1))) (hv1 rfl) (by omega) (fun k r hr C1 C2 q fq hc => ?_) ?_
    · simp only [dSeq, dAsg, dCB, dCons, dNil, dVar, onVs, vals, val, slot, setR, fGcd, dIfS, dTV, onV2, fLt, fLe, fGt, fGe, fAdd, fSub, fMul, fDiv, fMod, fI0, dC, dUn, onV, fNeg, dNext, dRet, dTup, onD, dats, fDivZ, fI, fPow, Few, retP, fAbs, fInt, fMax, fMin, fLen, fSqrt, fEq, fNe, dNot, dAnd, dOr, dAndV, dOrV, dNotV, dIfE, dDrop, dRetN, dPar, noO, dSetL, dLst, dOfL, dOwnM, onOwn, onDat, kAppend, kInsert, dSetItem, dAddItem, onItems, onInt, dNoPart, dPart, dSlice, onL, litems, dSlL, dCat, onM, mitems, dRng1, dRng2, dCallP, dCallB, dCallF, noSelf, onArgs, dats2, dIsi, tyName, dYes, dgCons, dgNil, retB, dBreak, dCont, ne_eq, not_false_eq_true, true_and, and_true, List.getElem?_cons_zero, List.getElem?_cons_succ, List.set_cons_zero, List.set_cons_succ, Option.map, List.length_cons, List.length_nil, dBestD, dParM, dmNil, dmD, dmL, setM, dLc_eq, dLc2_eq, dFor_eq, dSortSet, dSort, dListOf, dIsN, dNotN, isNo, dAug, dMulA, dgUnl, dSlT, onT, dEnum, dZip, dZipM, dRetL, dPar3, dRevT, dLstRg, dTupRg, dRg1, dRg2, dChainLe, List.nil_append, List.cons_append, if_true, if_false, dFrz, dLcO, dMin2D, dAppX, dParL, dParLL, dRepL, fMax3, dNewDic, dDicPut, dDicGet, dSortDic, onDic, onKey, dLcW, dZipX, dParR, dDead, dSortD, dSortDT, fNeS, fEqS, dgSet, dDGet, onDict_eq, onKeyD_int, onKeyD_str, dDIn, dSortDK, onDict1_eq, dDictL, dDictEn, dDictZip, onSq1_eq, onSq2_eq, onSq_t, onSq_l, onSq_o, dNewD, dDicI, dNewDik, dDikPut, onDik, dFrzD, dNew4, dIndexD, onLst_eq, dIfL, dOrT, dAndT, onTru_int, onTru_bool, onTru_none, onTru_tuple, onTru_list, dTupZip, dTupZipK, dZip3, dZip2, dSortKS, dSortKF, dLetSet, dLetSetK, dLetSetN, dEnumZip, dDicV, fLenD, dFgt, fEqA, fNeA, fStrI, dReprW, dLenSet, dLenSetL, dDikGet, dDikIn, dDisp1_i, dDisp1_s, fEqN, fNeN, dDef, datsF, dCallA, dCallV, fIsB, fNotB, fInA_l, fInA_t, fNotInA_l, fNotInA_t, List.map_cons, List.map_nil, fw0, fw1, fw2, fw3, fw4, fw5, fw6, fw7, fw8, fw9, fw10, fw11, fw12, fw13, fw14, fw15, dExtend, dExtendT, dLstDn, dMaxDf, dOp_ap, dIx_ap, dCatT_ap, dRepT_ap, items_l, items_t, items_o, ti_t, dgT_t, seqs_l, seqs_t, seqs_o, dSeqI_eq, wk_l, wk_t, wk_eP, wk_o, dTupOf_eq, tu_t, tu_l, tu_o, tu_eP, dTupA_eq, ta_t, ta_l, ta_o, ta_eP, items_eW, items_eB, items_eSc, items_eLm, items_eP, items_eL, items_pr, items_enc2, items_eTm, ti_eB, ti_eW, ti_eLm, ti_eP, dgT_eSc, dgT_eLm, dgT_eL, dgT_pr, dgT_enc2, dgT_eW, dgT_eTm, seqs_eP, on0, on1, on2, on3, on4, on5, on6, on7, on8, dBin, wipeR]
      refine ⟨sh_int, sh_int, fq, ?_⟩
      rw [eqv_int]
      exact hc
    have vb : Vl 700 1 2000 (.tuple (rs3.map fun r => PyData.bool (decide (r = 1)))) := by
      refine Vl.tup (k := 0) (c := 2000) (fun x hx => ?_) ?_
      · obtain ⟨r, hr, rfl⟩ := List.mem_map.mp hx
        exact ⟨by simp [okV], by simp [PyData.depth]⟩
      · have : ∀ rs : List Int, wVs (rs.map fun r => PyData.bool (decide (r = 1))) = 7 * rs.length := fun rs => by
          induction rs with
          | nil => rfl
          | cons r rs ih => simp only [List.map_cons, wVs, wV, ih, List.length_cons]; omega
        rw [this]
        omega
    obtain ⟨ys, eys, vys⟩ : ∃ ys : List PyData, ts ++ zs ++ [PyData.tuple (rs3.map fun r => PyData.bool (decide (r = 1)))] = ys ∧ ∀ y ∈ ys, Vl 700 5 60000 y := ⟨_, rfl, fun y hy => by
      rcases List.mem_append.mp hy with hy | hy
      · rcases List.mem_append.mp hy with hy | hy
        · exact vts y hy
        · exact hzs y hy
      · rw [List.mem_singleton.mp hy]
        exact vb.up (by decide) (by decide) (by decide)⟩
    refine ⟨few_le (by rw [List.length_append]; omega), ?_⟩
    simp only [wipeR, List.set_cons_succ, List.set_cons_zero]
    rw [eys]
    clear eys vb
    rw [hk3]
    clear hk3
    generalize hbd : dSeq (dAsg (dReprW _) _) _ = body
    try walk_at "K14Z0"
    rw [show ys = ys.map fun y => y from (List.map_id' ys).symm]
    refine for_st (S := Option Ent × Option Ent) ys (fun y => y) (fun s => [some (Ent.ro (PyData.list (List.map PyData.int ns))), some (Ent.own bag6), some (Ent.d (PyData.int (0 + (i : Int)))), some (Ent.d (eP ls)), some (Ent.d (PyData.int sp)), some (Ent.d (PyData.str (eP ls).shown)), some (Ent.d (PyData.tuple (List.map PyData.int rs3))), some (Ent.d (PyData.tuple (List.map PyData.int vs))), none, some (Ent.d (PyData.tuple (List.map PyData.int (List.map (fun r => r * 3) rs3)))), none, some (Ent.d (PyData.list ys)), none, s.1, s.2]) (fun _ _ => True) (z.snd 11, z.snd 12) (by rw [List.map_id']) trivial (fun n d s hd _ C2 hC2 => ?_) fun s _ => ?_
    · have vd := vys d (List.mem_of_getElem? hd)
      have hC3 := fun a7 a8 => hC2 (a7, a8) trivial
      clear hC2
      rw [← hbd]
      clear hbd
      simp only [setR, List.set_cons_succ, List.set_cons_zero]
      refine seqI fun kk4 hk4 => ?_
      try walk_at "K14Z0"
      refine ⟨vd.plain, ?_⟩
      rw [hk4]
      clear hk4
      refine seqI fun kk4 hk4 => ?_
      try walk_at "K14Z0"
      refine u_is_rows (ls := ls) (sp := sp) up sp0 (by omega) (by omega) vd (by decide) ?_
      refine u__law_is_rows (ls := ls) (sp := sp) up sp0 (by omega) (by omega) vd (by decide) ?_
      refine u_alike Fn.bool.fine ?_
      try walk_at "K14Z4"
      rw [hk4]
      clear hk4
      try walk_at "K14Z0"
      refine ⟨vd.plain, ?_⟩
      try simp only [dSeq, dAsg, dCB, dCons, dNil, dVar, onVs, vals, val, slot, setR, fGcd, dIfS, dTV, onV2, fLt, fLe, fGt, fGe, fAdd, fSub, fMul, fDiv, fMod, fI0, dC, dUn, onV, fNeg, dNext, dRet, dTup, onD, dats, fDivZ, fI, fPow, Few, retP, fAbs, fInt, fMax, fMin, fLen, fSqrt, fEq, fNe, dNot, dAnd, dOr, dAndV, dOrV, dNotV, dIfE, dDrop, dRetN, dPar, noO, dSetL, dLst, dOfL, dOwnM, onOwn, onDat, kAppend, kInsert, dSetItem, dAddItem, onItems, onInt, dNoPart, dPart, dSlice, onL, litems, dSlL, dCat, onM, mitems, dRng1, dRng2, dCallP, dCallB, dCallF, noSelf, onArgs, dats2, dIsi, tyName, dYes, dgCons, dgNil, retB, dBreak, dCont, ne_eq, not_false_eq_true, true_and, and_true, List.getElem?_cons_zero, List.getElem?_cons_succ, List.set_cons_zero, List.set_cons_succ, Option.map, List.length_cons, List.length_nil, dBestD, dParM, dmNil, dmD, dmL, setM, dLc_eq, dLc2_eq, dFor_eq, dSortSet, dSort, dListOf, dIsN, dNotN, isNo, dAug, dMulA, dgUnl, dSlT, onT, dEnum, dZip, dZipM, dRetL, dPar3, dRevT, dLstRg, dTupRg, dRg1, dRg2, dChainLe, List.nil_append, List.cons_append, if_true, if_false, dFrz, dLcO, dMin2D, dAppX, dParL, dParLL, dRepL, fMax3, dNewDic, dDicPut, dDicGet, dSortDic, onDic, onKey, dLcW, dZipX, dParR, dDead, dSortD, dSortDT, fNeS, fEqS, dgSet, dDGet, onDict_eq, onKeyD_int, onKeyD_str, dDIn, dSortDK, onDict1_eq, dDictL, dDictEn, dDictZip, onSq1_eq, onSq2_eq, onSq_t, onSq_l, onSq_o, dNewD, dDicI, dNewDik, dDikPut, onDik, dFrzD, dNew4, dIndexD, onLst_eq, dIfL, dOrT, dAndT, onTru_int, onTru_bool, onTru_none, onTru_tuple, onTru_list, dTupZip, dTupZipK, dZip3, dZip2, dSortKS, dSortKF, dLetSet, dLetSetK, dLetSetN, dEnumZip, dDicV, fLenD, dFgt, fEqA, fNeA, fStrI, dReprW, dLenSet, dLenSetL, dDikGet, dDikIn, dDisp1_i, dDisp1_s, fEqN, fNeN, dDef, datsF, dCallA, dCallV, fIsB, fNotB, fInA_l, fInA_t, fNotInA_l, fNotInA_t, List.map_cons, List.map_nil, fw0, fw1, fw2, fw3, fw4, fw5, fw6, fw7, fw8, fw9, fw10, fw11, fw12, fw13, fw14, fw15, dExtend, dExtendT, dLstDn, dMaxDf, dOp_ap, dIx_ap, dCatT_ap, dRepT_ap, items_l, items_t, items_o, ti_t, dgT_t, seqs_l, seqs_t, seqs_o, dSeqI_eq, wk_l, wk_t, wk_eP, wk_o, dTupOf_eq, tu_t, tu_l, tu_o, tu_eP, dTupA_eq, ta_t, ta_l, ta_o, ta_eP, items_eW, items_eB, items_eSc, items_eLm, items_eP, items_eL, items_pr, items_enc2, items_eTm, ti_eB, ti_eW, ti_eLm, ti_eP, dgT_eSc, dgT_eLm, dgT_eL, dgT_pr, dgT_enc2, dgT_eW, dgT_eTm, seqs_eP, on0, on1, on2, on3, on4, on5, on6, on7, on8, decide_true, Bool.not_true, Bool.false_eq_true, if_false]
      refine ⟨fineW fpc.fine, ?_⟩
      try simp only [dSeq, dAsg, dCB, dCons, dNil, dVar, onVs, vals, val, slot, setR, fGcd, dIfS, dTV, onV2, fLt, fLe, fGt, fGe, fAdd, fSub, fMul, fDiv, fMod, fI0, dC, dUn, onV, fNeg, dNext, dRet, dTup, onD, dats, fDivZ, fI, fPow, Few, retP, fAbs, fInt, fMax, fMin, fLen, fSqrt, fEq, fNe, dNot, dAnd, dOr, dAndV, dOrV, dNotV, dIfE, dDrop, dRetN, dPar, noO, dSetL, dLst, dOfL, dOwnM, onOwn, onDat, kAppend, kInsert, dSetItem, dAddItem, onItems, onInt, dNoPart, dPart, dSlice, onL, litems, dSlL, dCat, onM, mitems, dRng1, dRng2, dCallP, dCallB, dCallF, noSelf, onArgs, dats2, dIsi, tyName, dYes, dgCons, dgNil, retB, dBreak, dCont, ne_eq, not_false_eq_true, true_and, and_true, List.getElem?_cons_zero, List.getElem?_cons_succ, List.set_cons_zero, List.set_cons_succ, Option.map, List.length_cons, List.length_nil, dBestD, dParM, dmNil, dmD, dmL, setM, dLc_eq, dLc2_eq, dFor_eq, dSortSet, dSort, dListOf, dIsN, dNotN, isNo, dAug, dMulA, dgUnl, dSlT, onT, dEnum, dZip, dZipM, dRetL, dPar3, dRevT, dLstRg, dTupRg, dRg1, dRg2, dChainLe, List.nil_append, List.cons_append, if_true, if_false, dFrz, dLcO, dMin2D, dAppX, dParL, dParLL, dRepL, fMax3, dNewDic, dDicPut, dDicGet, dSortDic, onDic, onKey, dLcW, dZipX, dParR, dDead, dSortD, dSortDT, fNeS, fEqS, dgSet, dDGet, onDict_eq, onKeyD_int, onKeyD_str, dDIn, dSortDK, onDict1_eq, dDictL, dDictEn, dDictZip, onSq1_eq, onSq2_eq, onSq_t, onSq_l, onSq_o, dNewD, dDicI, dNewDik, dDikPut, onDik, dFrzD, dNew4, dIndexD, onLst_eq, dIfL, dOrT, dAndT, onTru_int, onTru_bool, onTru_none, onTru_tuple, onTru_list, dTupZip, dTupZipK, dZip3, dZip2, dSortKS, dSortKF, dLetSet, dLetSetK, dLetSetN, dEnumZip, dDicV, fLenD, dFgt, fEqA, fNeA, fStrI, dReprW, dLenSet, dLenSetL, dDikGet, dDikIn, dDisp1_i, dDisp1_s, fEqN, fNeN, dDef, datsF, dCallA, dCallV, fIsB, fNotB, fInA_l, fInA_t, fNotInA_l, fNotInA_t, List.map_cons, List.map_nil, fw0, fw1, fw2, fw3, fw4, fw5, fw6, fw7, fw8, fw9, fw10, fw11, fw12, fw13, fw14, fw15, dExtend, dExtendT, dLstDn, dMaxDf, dOp_ap, dIx_ap, dCatT_ap, dRepT_ap, items_l, items_t, items_o, ti_t, dgT_t, seqs_l, seqs_t, seqs_o, dSeqI_eq, wk_l, wk_t, wk_eP, wk_o, dTupOf_eq, tu_t, tu_l, tu_o, tu_eP, dTupA_eq, ta_t, ta_l, ta_o, ta_eP, items_eW, items_eB, items_eSc, items_eLm, items_eP, items_eL, items_pr, items_enc2, items_eTm, ti_eB, ti_eW, ti_eLm, ti_eP, dgT_eSc, dgT_eLm, dgT_eL, dgT_pr, dgT_enc2, dgT_eW, dgT_eTm, seqs_eP, on0, on1, on2, on3, on4, on5, on6, on7, on8, decide_true, Bool.not_true, Bool.false_eq_true, if_false]
      exact hC3 _ _
    · clear hbd
      show C _
      apply hC'
      exact hb6.up (by show _ ≤ _; omega)
  · rw [hk2]
    walk_at "K14Z1"
    exact hQ
end
set_option maxHeartbeats 8000000 in
theorem all_mk {l : PySem.W.OpenLaw} {w : World} {K : PySem.W.Frag} {h : Heap} {mg : Str → Option Value} {fa : Addr} (X : K.In h) (G : h.Ns mainGlobals mg) (hfa : mg "law" = some (.ref fa))
    {od1 an1 : Option Addr} {sl1 : Array (Option Value)} {oc1 kV1 dc1 pm1 cd1 ct1 : Value} {f1 : Addr}
    (a1 : PySem.W.nsIn K mainGlobals "is_integer" = some (some (.ref f1))) (l1 : K.lookup f1 = some ⟨oc1, od1, .func (PySem.W.fnOf "is_integer" "is_integer" (defArgs s_is_integer) (defBody s_is_integer) (defScope s_is_integer) .none kV1 dc1 pm1 an1 cd1 ct1), sl1⟩) (c1 : PySem.W.codeIn K cd1 "is_integer" = true) (k1 : PySem.W.keepIn K (.ref f1) = true)
    {od2 an2 : Option Addr} {sl2 : Array (Option Value)} {oc2 kV2 dc2 pm2 cd2 ct2 : Value} {f2 : Addr}
    (a2 : PySem.W.nsIn K mainGlobals "is_natural" = some (some (.ref f2))) (l2 : K.lookup f2 = some ⟨oc2, od2, .func (PySem.W.fnOf "is_natural" "is_natural" (defArgs s_is_natural) (defBody s_is_natural) (defScope s_is_natural) .none kV2 dc2 pm2 an2 cd2 ct2), sl2⟩) (c2 : PySem.W.codeIn K cd2 "is_natural" = true) (k2 : PySem.W.keepIn K (.ref f2) = true)
    {od3 an3 : Option Addr} {sl3 : Array (Option Value)} {oc3 kV3 dc3 pm3 cd3 ct3 : Value} {f3 : Addr}
    (a3 : PySem.W.nsIn K mainGlobals "rows_of" = some (some (.ref f3))) (l3 : K.lookup f3 = some ⟨oc3, od3, .func (PySem.W.fnOf "rows_of" "rows_of" (defArgs s_rows_of) (defBody s_rows_of) (defScope s_rows_of) .none kV3 dc3 pm3 an3 cd3 ct3), sl3⟩) (c3 : PySem.W.codeIn K cd3 "rows_of" = true) (k3 : PySem.W.keepIn K (.ref f3) = true)
    {od4 an4 : Option Addr} {sl4 : Array (Option Value)} {oc4 kV4 dc4 pm4 cd4 ct4 : Value} {f4 : Addr}
    (a4 : PySem.W.nsIn K mainGlobals "rows_many" = some (some (.ref f4))) (l4 : K.lookup f4 = some ⟨oc4, od4, .func (PySem.W.fnOf "rows_many" "rows_many" (defArgs s_rows_many) (defBody s_rows_many) (defScope s_rows_many) .none kV4 dc4 pm4 an4 cd4 ct4), sl4⟩) (c4 : PySem.W.codeIn K cd4 "rows_many" = true) (k4 : PySem.W.keepIn K (.ref f4) = true)
    {od5 an5 : Option Addr} {sl5 : Array (Option Value)} {oc5 kV5 dc5 pm5 cd5 ct5 : Value} {f5 : Addr}
    (a5 : PySem.W.nsIn K mainGlobals "most_abreast" = some (some (.ref f5))) (l5 : K.lookup f5 = some ⟨oc5, od5, .func (PySem.W.fnOf "most_abreast" "most_abreast" (defArgs s_most_abreast) (defBody s_most_abreast) (defScope s_most_abreast) .none kV5 dc5 pm5 an5 cd5 ct5), sl5⟩) (c5 : PySem.W.codeIn K cd5 "most_abreast" = true) (k5 : PySem.W.keepIn K (.ref f5) = true)
    {od6 an6 : Option Addr} {sl6 : Array (Option Value)} {oc6 kV6 dc6 pm6 cd6 ct6 : Value} {f6 : Addr}
    (a6 : PySem.W.nsIn K mainGlobals "is_rows" = some (some (.ref f6))) (l6 : K.lookup f6 = some ⟨oc6, od6, .func (PySem.W.fnOf "is_rows" "is_rows" (defArgs s_is_rows) (defBody s_is_rows) (defScope s_is_rows) .none kV6 dc6 pm6 an6 cd6 ct6), sl6⟩) (c6 : PySem.W.codeIn K cd6 "is_rows" = true) (k6 : PySem.W.keepIn K (.ref f6) = true)
    {od7 an7 : Option Addr} {sl7 : Array (Option Value)} {oc7 kV7 dc7 pm7 cd7 ct7 : Value} {f7 : Addr}
    (a7 : PySem.W.nsIn K mainGlobals "_law_bag" = some (some (.ref f7))) (l7 : K.lookup f7 = some ⟨oc7, od7, .func (PySem.W.fnOf "_law_bag" "_law_bag" (defArgs s__law_bag) (defBody s__law_bag) (defScope s__law_bag) .none kV7 dc7 pm7 an7 cd7 ct7), sl7⟩) (c7 : PySem.W.codeIn K cd7 "_law_bag" = true) (k7 : PySem.W.keepIn K (.ref f7) = true)
    {od8 an8 : Option Addr} {sl8 : Array (Option Value)} {oc8 kV8 dc8 pm8 cd8 ct8 : Value} {f8 : Addr}
    (a8 : PySem.W.nsIn K mainGlobals "_law_take" = some (some (.ref f8))) (l8 : K.lookup f8 = some ⟨oc8, od8, .func (PySem.W.fnOf "_law_take" "_law_take" (defArgs s__law_take) (defBody s__law_take) (defScope s__law_take) .none kV8 dc8 pm8 an8 cd8 ct8), sl8⟩) (c8 : PySem.W.codeIn K cd8 "_law_take" = true) (k8 : PySem.W.keepIn K (.ref f8) = true)
    {od9 an9 : Option Addr} {sl9 : Array (Option Value)} {oc9 kV9 dc9 pm9 cd9 ct9 : Value} {f9 : Addr}
    (a9 : PySem.W.nsIn K mainGlobals "_law_some" = some (some (.ref f9))) (l9 : K.lookup f9 = some ⟨oc9, od9, .func (PySem.W.fnOf "_law_some" "_law_some" (defArgs s__law_some) (defBody s__law_some) (defScope s__law_some) .none kV9 dc9 pm9 an9 cd9 ct9), sl9⟩) (c9 : PySem.W.codeIn K cd9 "_law_some" = true) (k9 : PySem.W.keepIn K (.ref f9) = true)
    {od10 an10 : Option Addr} {sl10 : Array (Option Value)} {oc10 kV10 dc10 pm10 cd10 ct10 : Value} {f10 : Addr}
    (a10 : PySem.W.nsIn K mainGlobals "_law_alike" = some (some (.ref f10))) (l10 : K.lookup f10 = some ⟨oc10, od10, .func (PySem.W.fnOf "_law_alike" "_law_alike" (defArgs s__law_alike) (defBody s__law_alike) (defScope s__law_alike) .none kV10 dc10 pm10 an10 cd10 ct10), sl10⟩) (c10 : PySem.W.codeIn K cd10 "_law_alike" = true) (k10 : PySem.W.keepIn K (.ref f10) = true)
    {od11 an11 : Option Addr} {sl11 : Array (Option Value)} {oc11 kV11 dc11 pm11 cd11 ct11 : Value} {f11 : Addr}
    (a11 : PySem.W.nsIn K mainGlobals "_law_is_int" = some (some (.ref f11))) (l11 : K.lookup f11 = some ⟨oc11, od11, .func (PySem.W.fnOf "_law_is_int" "_law_is_int" (defArgs s__law_is_int) (defBody s__law_is_int) (defScope s__law_is_int) .none kV11 dc11 pm11 an11 cd11 ct11), sl11⟩) (c11 : PySem.W.codeIn K cd11 "_law_is_int" = true) (k11 : PySem.W.keepIn K (.ref f11) = true)
    {od12 an12 : Option Addr} {sl12 : Array (Option Value)} {oc12 kV12 dc12 pm12 cd12 ct12 : Value} {f12 : Addr}
    (a12 : PySem.W.nsIn K mainGlobals "_law_odd" = some (some (.ref f12))) (l12 : K.lookup f12 = some ⟨oc12, od12, .func (PySem.W.fnOf "_law_odd" "_law_odd" (defArgs s__law_odd) (defBody s__law_odd) (defScope s__law_odd) .none kV12 dc12 pm12 an12 cd12 ct12), sl12⟩) (c12 : PySem.W.codeIn K cd12 "_law_odd" = true) (k12 : PySem.W.keepIn K (.ref f12) = true)
    {od13 an13 : Option Addr} {sl13 : Array (Option Value)} {oc13 kV13 dc13 pm13 cd13 ct13 : Value} {f13 : Addr}
    (a13 : PySem.W.nsIn K mainGlobals "_law_bent" = some (some (.ref f13))) (l13 : K.lookup f13 = some ⟨oc13, od13, .func (PySem.W.fnOf "_law_bent" "_law_bent" (defArgs s__law_bent) (defBody s__law_bent) (defScope s__law_bent) .none kV13 dc13 pm13 an13 cd13 ct13), sl13⟩) (c13 : PySem.W.codeIn K cd13 "_law_bent" = true) (k13 : PySem.W.keepIn K (.ref f13) = true)
    {od14 an14 : Option Addr} {sl14 : Array (Option Value)} {oc14 kV14 dc14 pm14 cd14 ct14 : Value} {f14 : Addr}
    (a14 : PySem.W.nsIn K mainGlobals "_law_are" = some (some (.ref f14))) (l14 : K.lookup f14 = some ⟨oc14, od14, .func (PySem.W.fnOf "_law_are" "_law_are" (defArgs s__law_are) (defBody s__law_are) (defScope s__law_are) .none kV14 dc14 pm14 an14 cd14 ct14), sl14⟩) (c14 : PySem.W.codeIn K cd14 "_law_are" = true) (k14 : PySem.W.keepIn K (.ref f14) = true)
    {od15 an15 : Option Addr} {sl15 : Array (Option Value)} {oc15 kV15 dc15 pm15 cd15 ct15 : Value} {f15 : Addr}
    (a15 : PySem.W.nsIn K mainGlobals "_law_shades" = some (some (.ref f15))) (l15 : K.lookup f15 = some ⟨oc15, od15, .func (PySem.W.fnOf "_law_shades" "_law_shades" (defArgs s__law_shades) (defBody s__law_shades) (defScope s__law_shades) .none kV15 dc15 pm15 an15 cd15 ct15), sl15⟩) (c15 : PySem.W.codeIn K cd15 "_law_shades" = true) (k15 : PySem.W.keepIn K (.ref f15) = true)
    {od16 an16 : Option Addr} {sl16 : Array (Option Value)} {oc16 kV16 dc16 pm16 cd16 ct16 : Value} {f16 : Addr}
    (a16 : PySem.W.nsIn K mainGlobals "_law_shape" = some (some (.ref f16))) (l16 : K.lookup f16 = some ⟨oc16, od16, .func (PySem.W.fnOf "_law_shape" "_law_shape" (defArgs s__law_shape) (defBody s__law_shape) (defScope s__law_shape) .none kV16 dc16 pm16 an16 cd16 ct16), sl16⟩) (c16 : PySem.W.codeIn K cd16 "_law_shape" = true) (k16 : PySem.W.keepIn K (.ref f16) = true)
    {od17 an17 : Option Addr} {sl17 : Array (Option Value)} {oc17 kV17 dc17 pm17 cd17 ct17 : Value} {f17 : Addr}
    (a17 : PySem.W.nsIn K mainGlobals "_law_rows" = some (some (.ref f17))) (l17 : K.lookup f17 = some ⟨oc17, od17, .func (PySem.W.fnOf "_law_rows" "_law_rows" (defArgs s__law_rows) (defBody s__law_rows) (defScope s__law_rows) .none kV17 dc17 pm17 an17 cd17 ct17), sl17⟩) (c17 : PySem.W.codeIn K cd17 "_law_rows" = true) (k17 : PySem.W.keepIn K (.ref f17) = true)
    {od18 an18 : Option Addr} {sl18 : Array (Option Value)} {oc18 kV18 dc18 pm18 cd18 ct18 : Value} {f18 : Addr}
    (a18 : PySem.W.nsIn K mainGlobals "_law_abreast" = some (some (.ref f18))) (l18 : K.lookup f18 = some ⟨oc18, od18, .func (PySem.W.fnOf "_law_abreast" "_law_abreast" (defArgs s__law_abreast) (defBody s__law_abreast) (defScope s__law_abreast) .none kV18 dc18 pm18 an18 cd18 ct18), sl18⟩) (c18 : PySem.W.codeIn K cd18 "_law_abreast" = true) (k18 : PySem.W.keepIn K (.ref f18) = true)
    {od19 an19 : Option Addr} {sl19 : Array (Option Value)} {oc19 kV19 dc19 pm19 cd19 ct19 : Value} {f19 : Addr}
    (a19 : PySem.W.nsIn K mainGlobals "_law_are_rows" = some (some (.ref f19))) (l19 : K.lookup f19 = some ⟨oc19, od19, .func (PySem.W.fnOf "_law_are_rows" "_law_are_rows" (defArgs s__law_are_rows) (defBody s__law_are_rows) (defScope s__law_are_rows) .none kV19 dc19 pm19 an19 cd19 ct19), sl19⟩) (c19 : PySem.W.codeIn K cd19 "_law_are_rows" = true) (k19 : PySem.W.keepIn K (.ref f19) = true)
    {od20 an20 : Option Addr} {sl20 : Array (Option Value)} {oc20 kV20 dc20 pm20 cd20 ct20 : Value} {f20 : Addr}
    (a20 : PySem.W.nsIn K mainGlobals "_law_is_rows" = some (some (.ref f20))) (l20 : K.lookup f20 = some ⟨oc20, od20, .func (PySem.W.fnOf "_law_is_rows" "_law_is_rows" (defArgs s__law_is_rows) (defBody s__law_is_rows) (defScope s__law_is_rows) .none kV20 dc20 pm20 an20 cd20 ct20), sl20⟩) (c20 : PySem.W.codeIn K cd20 "_law_is_rows" = true) (k20 : PySem.W.keepIn K (.ref f20) = true)
    {od21 an21 : Option Addr} {sl21 : Array (Option Value)} {oc21 kV21 dc21 pm21 cd21 ct21 : Value} {f21 : Addr}
    (a21 : PySem.W.nsIn K mainGlobals "_law_close_picture" = some (some (.ref f21))) (l21 : K.lookup f21 = some ⟨oc21, od21, .func (PySem.W.fnOf "_law_close_picture" "_law_close_picture" (defArgs s__law_close_picture) (defBody s__law_close_picture) (defScope s__law_close_picture) .none kV21 dc21 pm21 an21 cd21 ct21), sl21⟩) (c21 : PySem.W.codeIn K cd21 "_law_close_picture" = true) (k21 : PySem.W.keepIn K (.ref f21) = true)
    {od22 an22 : Option Addr} {sl22 : Array (Option Value)} {oc22 kV22 dc22 pm22 cd22 ct22 : Value} {f22 : Addr}
    (a22 : PySem.W.nsIn K mainGlobals "law" = some (some (.ref f22))) (l22 : K.lookup f22 = some ⟨oc22, od22, .func (PySem.W.fnOf "law" "law" (defArgs s_law) (defBody s_law) (defScope s_law) .none kV22 dc22 pm22 an22 cd22 ct22), sl22⟩) (c22 : PySem.W.codeIn K cd22 "law" = true) (k22 : PySem.W.keepIn K (.ref f22) = true)
    (z_isinstance : PySem.W.nsIn K mainGlobals "isinstance" = some none)
    (z_int : PySem.W.nsIn K mainGlobals "int" = some none)
    (z_bool : PySem.W.nsIn K mainGlobals "bool" = some none)
    (z_tuple : PySem.W.nsIn K mainGlobals "tuple" = some none)
    (z_len : PySem.W.nsIn K mainGlobals "len" = some none)
    (z_max : PySem.W.nsIn K mainGlobals "max" = some none)
    (z_enumerate : PySem.W.nsIn K mainGlobals "enumerate" = some none)
    (z_zip : PySem.W.nsIn K mainGlobals "zip" = some none)
    (z_all : PySem.W.nsIn K mainGlobals "all" = some none)
    (z_abs : PySem.W.nsIn K mainGlobals "abs" = some none)
    (z_repr : PySem.W.nsIn K mainGlobals "repr" = some none)
    (z_list : PySem.W.nsIn K mainGlobals "list" = some none)
    (z_str : PySem.W.nsIn K mainGlobals "str" = some none)
    (z_range : PySem.W.nsIn K mainGlobals "range" = some none)
    (z_sorted : PySem.W.nsIn K mainGlobals "sorted" = some none)
    (z_set : PySem.W.nsIn K mainGlobals "set" = some none)
    (z_min : PySem.W.nsIn K mainGlobals "min" = some none)
    (y_heappush : PySem.W.nsIn K mainGlobals "heappush" = some (some (.builtin "_heapq.heappush")))
    (y_heappop : PySem.W.nsIn K mainGlobals "heappop" = some (some (.builtin "_heapq.heappop"))) :
    ∃ fd : FuncData, (∀ (s : Shared) (v : Value), BindsTo s fd ⟨[v], []⟩ [("_law_script", v)]) ∧ ∀ base : Heap, K.In base → base.Ns mainGlobals mg → SysB base → FnG l.prog w K mg base CX0 8 fa fd ["_law_script"] (spP K [] [.ro] S_law) := by
  have e := hfa.symm.trans (PySem.W.mg_of X G a22)
  cases e
  have T : Bi mg := ⟨PySem.W.mg_none_of X G z_isinstance, PySem.W.mg_none_of X G z_int, PySem.W.mg_none_of X G z_bool, PySem.W.mg_none_of X G z_tuple, PySem.W.mg_none_of X G z_len, PySem.W.mg_none_of X G z_max, PySem.W.mg_none_of X G z_enumerate, PySem.W.mg_none_of X G z_zip, PySem.W.mg_none_of X G z_all, PySem.W.mg_none_of X G z_abs, PySem.W.mg_none_of X G z_repr, PySem.W.mg_none_of X G z_list, PySem.W.mg_none_of X G z_str, PySem.W.mg_none_of X G z_range, PySem.W.mg_none_of X G z_sorted, PySem.W.mg_none_of X G z_set, PySem.W.mg_none_of X G z_min, PySem.W.mg_of X G y_heappush, PySem.W.mg_of X G y_heappop⟩
  have F1 := fun_mk (st := s_is_integer) l1 c1 k1
  have b1 := F1.binds (ps := ["thing"]) fun _ _ _ _ _ _ us hl => match us, hl with | [_], _ => rfl
  have F2 := fun_mk (st := s_is_natural) l2 c2 k2
  have b2 := F2.binds (ps := ["thing"]) fun _ _ _ _ _ _ us hl => match us, hl with | [_], _ => rfl
  have F3 := fun_mk (st := s_rows_of) l3 c3 k3
  have b3 := F3.binds (ps := ["picture", "spacing"]) fun _ _ _ _ _ _ us hl => match us, hl with | [_, _], _ => rfl
  have F4 := fun_mk (st := s_rows_many) l4 c4 k4
  have b4 := F4.binds (ps := ["rows"]) fun _ _ _ _ _ _ us hl => match us, hl with | [_], _ => rfl
  have F5 := fun_mk (st := s_most_abreast) l5 c5 k5
  have b5 := F5.binds (ps := ["picture", "spacing"]) fun _ _ _ _ _ _ us hl => match us, hl with | [_, _], _ => rfl
  have F6 := fun_mk (st := s_is_rows) l6 c6 k6
  have b6 := F6.binds (ps := ["picture", "spacing", "thing"]) fun _ _ _ _ _ _ us hl => match us, hl with | [_, _, _], _ => rfl
  have F7 := fun_mk (st := s__law_bag) l7 c7 k7
  have b7 := F7.binds (ps := ["_law_script"]) fun _ _ _ _ _ _ us hl => match us, hl with | [_], _ => rfl
  have F8 := fun_mk (st := s__law_take) l8 c8 k8
  have b8 := F8.binds (ps := ["_law_bag_here", "_law_many"]) fun _ _ _ _ _ _ us hl => match us, hl with | [_, _], _ => rfl
  have F9 := fun_mk (st := s__law_some) l9 c9 k9
  have b9 := F9.binds (ps := ["_law_bag_here", "_law_things"]) fun _ _ _ _ _ _ us hl => match us, hl with | [_, _], _ => rfl
  have F10 := fun_mk (st := s__law_alike) l10 c10 k10
  have b10 := F10.binds (ps := ["_law_found", "_law_due"]) fun _ _ _ _ _ _ us hl => match us, hl with | [_, _], _ => rfl
  have F11 := fun_mk (st := s__law_is_int) l11 c11 k11
  have b11 := F11.binds (ps := ["_law_thing"]) fun _ _ _ _ _ _ us hl => match us, hl with | [_], _ => rfl
  have F12 := fun_mk (st := s__law_odd) l12 c12 k12
  have b12 := F12.binds (ps := ["_law_bag_here"]) fun _ _ _ _ _ _ us hl => match us, hl with | [_], _ => rfl
  have F13 := fun_mk (st := s__law_bent) l13 c13 k13
  have b13 := F13.binds (ps := ["_law_bag_here", "_law_thing", "_law_deep"]) fun _ _ _ _ _ _ us hl => match us, hl with | [_, _, _], _ => rfl
  have F14 := fun_mk (st := s__law_are) l14 c14 k14
  have b14 := F14.binds (ps := ["_law_thing", "_law_least", "_law_is_one"]) fun _ _ _ _ _ _ us hl => match us, hl with | [_, _, _], _ => rfl
  have F15 := fun_mk (st := s__law_shades) l15 c15 k15
  have b15 := F15.binds (ps := ["_law_bag_here"]) fun _ _ _ _ _ _ us hl => match us, hl with | [_], _ => rfl
  have F16 := fun_mk (st := s__law_shape) l16 c16 k16
  have b16 := F16.binds (ps := ["_law_points"]) fun _ _ _ _ _ _ us hl => match us, hl with | [_], _ => rfl
  have F17 := fun_mk (st := s__law_rows) l17 c17 k17
  have b17 := F17.binds (ps := ["_law_picture", "_law_spacing"]) fun _ _ _ _ _ _ us hl => match us, hl with | [_, _], _ => rfl
  have F18 := fun_mk (st := s__law_abreast) l18 c18 k18
  have b18 := F18.binds (ps := ["_law_picture", "_law_spacing"]) fun _ _ _ _ _ _ us hl => match us, hl with | [_, _], _ => rfl
  have F19 := fun_mk (st := s__law_are_rows) l19 c19 k19
  have b19 := F19.binds (ps := ["_law_picture", "_law_spacing", "_law_rows_here"]) fun _ _ _ _ _ _ us hl => match us, hl with | [_, _, _], _ => rfl
  have F20 := fun_mk (st := s__law_is_rows) l20 c20 k20
  have b20 := F20.binds (ps := ["_law_picture", "_law_spacing", "_law_thing"]) fun _ _ _ _ _ _ us hl => match us, hl with | [_, _, _], _ => rfl
  have F21 := fun_mk (st := s__law_close_picture) l21 c21 k21
  have b21 := F21.binds (ps := ["_law_bag_here"]) fun _ _ _ _ _ _ us hl => match us, hl with | [_], _ => rfl
  have F22 := fun_mk (st := s_law) l22 c22 k22
  have b22 := F22.binds (ps := ["_law_script"]) fun _ _ _ _ _ _ us hl => match us, hl with | [_], _ => rfl
  refine ⟨PySem.W.fnOf "law" "law" (defArgs s_law) (defBody s_law) (defScope s_law) .none kV22 dc22 pm22 an22 cd22 ct22, fun s v => .of_eq rfl, fun base _ _ hsy => ?_⟩
  have G1 := ok_is_integer (P := l.prog) (w := w) (base := base) (TT := []) F1 T 
  have G3 := ok_rows_of (P := l.prog) (w := w) (base := base) (TT := []) F3 T 
  have G4 := ok_rows_many (P := l.prog) (w := w) (base := base) (TT := []) F4 T 
  have G5 := ok_most_abreast (P := l.prog) (w := w) (base := base) (TT := []) F5 T 
  have G7 := ok__law_bag (P := l.prog) (w := w) (base := base) (TT := []) F7 T 
  have G8 := ok__law_take (P := l.prog) (w := w) (base := base) (TT := []) F8 T 
  have G10 := ok__law_alike (P := l.prog) (w := w) (base := base) (TT := []) F10 T 
  have G11 := ok__law_is_int (P := l.prog) (w := w) (base := base) (TT := []) F11 T 
  have G16 := ok__law_shape (P := l.prog) (w := w) (base := base) (TT := []) F16 T 
  have G17 := ok__law_rows (P := l.prog) (w := w) (base := base) (TT := []) F17 T 
  have G18 := ok__law_abreast (P := l.prog) (w := w) (base := base) (TT := []) F18 T 
  have G19 := ok__law_are_rows (P := l.prog) (w := w) (base := base) (TT := []) F19 T 
  have G2 := ok_is_natural (P := l.prog) (w := w) (base := base) (TT := []) F2 T G1 (PySem.W.mg_of X G a1) k1 b1
  have G9 := ok__law_some (P := l.prog) (w := w) (base := base) (TT := []) F9 T G8 (PySem.W.mg_of X G a8) k8 b8
  have G14 := ok__law_are (P := l.prog) (w := w) (base := base) (TT := []) F14 T G11 (PySem.W.mg_of X G a11) k11 b11
  have G6 := ok_is_rows (P := l.prog) (w := w) (base := base) (TT := []) F6 T G2 (PySem.W.mg_of X G a2) k2 b2
  have G12 := ok__law_odd (P := l.prog) (w := w) (base := base) (TT := []) F12 T G9 (PySem.W.mg_of X G a9) k9 b9
  have G15 := ok__law_shades (P := l.prog) (w := w) (base := base) (TT := []) F15 T G9 (PySem.W.mg_of X G a9) k9 b9
  have G20 := ok__law_is_rows (P := l.prog) (w := w) (base := base) (TT := []) F20 T G11 (PySem.W.mg_of X G a11) k11 b11 G19 (PySem.W.mg_of X G a19) k19 b19 G14 (PySem.W.mg_of X G a14) k14 b14
  have G21 := ok__law_close_picture (P := l.prog) (w := w) (base := base) (TT := []) F21 T G9 (PySem.W.mg_of X G a9) k9 b9 G8 (PySem.W.mg_of X G a8) k8 b8 G15 (PySem.W.mg_of X G a15) k15 b15 G16 (PySem.W.mg_of X G a16) k16 b16
  have G13 := ok__law_bent (P := l.prog) (w := w) (base := base) (TT := []) F13 T G12 (PySem.W.mg_of X G a12) k12 b12 G8 (PySem.W.mg_of X G a8) k8 b8 G9 (PySem.W.mg_of X G a9) k9 b9 G11 (PySem.W.mg_of X G a11) k11 b11 (PySem.W.mg_of X G a13) k13 b13
  exact ok_law F22 T hsy G7 (PySem.W.mg_of X G a7) k7 b7 G21 (PySem.W.mg_of X G a21) k21 b21 G9 (PySem.W.mg_of X G a9) k9 b9 G17 (PySem.W.mg_of X G a17) k17 b17 G10 (PySem.W.mg_of X G a10) k10 b10 G4 (PySem.W.mg_of X G a4) k4 b4 G12 (PySem.W.mg_of X G a12) k12 b12 G5 (PySem.W.mg_of X G a5) k5 b5 G18 (PySem.W.mg_of X G a18) k18 b18 G3 (PySem.W.mg_of X G a3) k3 b3 G8 (PySem.W.mg_of X G a8) k8 b8 G13 (PySem.W.mg_of X G a13) k13 b13 G6 (PySem.W.mg_of X G a6) k6 b6 G20 (PySem.W.mg_of X G a20) k20 b20
theorem walk {l : PySem.W.OpenLaw} {q : Program} {loose : List Str} {XP : (Str → Option Value) → Heap → Prop} {YP : World → Heap → Prop} {d : DefRec} {K : Params → PySem.W.Frag} (himp : importsNone q = true) (hn : l.most = some 63) (hdf : d.params.defaults = [])
    (hY : ∀ (w : World) (h : Heap), YP w h → (K w.params).In h)
    (F : ∀ (w : World) (mg : Str → Option Value) (fa : Addr) (h : Heap), (K w.params).In h → h.Ns mainGlobals mg → mg d.name = some (.ref fa) →
      ∃ fd : FuncData, (∀ (s : Shared) (u : Value), BindsTo s fd ⟨[u], []⟩ [("_law_script", u)]) ∧ ∀ base : Heap, (K w.params).In base → base.Ns mainGlobals mg → SysB base → FnG l.prog w (K w.params) mg base CX0 8 fa fd ["_law_script"] (spP (K w.params) [] [.ro] S_law)) :
    PySem.W.WalkO q loose XP YP l.row.toRowW d [] (fun f vs => PySem.call f vs) :=
  walk_goesB (n := 63) (k := 8) (x := "_law_script") (sp := fun K => spP K [] [.ro] S_law) himp hn (by decide) hdf ⟨rfl, by decide, by decide⟩ hY F fun K H a ns hl hS => law_args (fun p hp => nomatch hp) hl hS m_law law_spec
end K14
open PySem PySem.W PyProof.Rows
set_option maxRecDepth 100000 in
set_option maxHeartbeats 0 in
theorem PySem.Challenge.cw_lampsaloft_k14_rows_of_depth_holds : PySem.Challenge.rw_lampsaloft_k14_rows_of_depth.Holds := by
  w_on; o_law; k_head; (case hw => w_witness2)
  k_fill
  refine K14.walk (l := PySem.Challenge.rw_lampsaloft_k14_rows_of_depth) (by kernel_rfl) rfl rfl (fun w h Y => PySem.W.kIn_of Y) ?F
  case F =>
    intro w mg fa h KX G hmg
    refine' K14.all_mk KX G hmg ?a1 ?l1 ?c1 ?k1 ?a2 ?l2 ?c2 ?k2 ?a3 ?l3 ?c3 ?k3 ?a4 ?l4 ?c4 ?k4 ?a5 ?l5 ?c5 ?k5 ?a6 ?l6 ?c6 ?k6 ?a7 ?l7 ?c7 ?k7 ?a8 ?l8 ?c8 ?k8 ?a9 ?l9 ?c9 ?k9 ?a10 ?l10 ?c10 ?k10 ?a11 ?l11 ?c11 ?k11 ?a12 ?l12 ?c12 ?k12 ?a13 ?l13 ?c13 ?k13 ?a14 ?l14 ?c14 ?k14 ?a15 ?l15 ?c15 ?k15 ?a16 ?l16 ?c16 ?k16 ?a17 ?l17 ?c17 ?k17 ?a18 ?l18 ?c18 ?k18 ?a19 ?l19 ?c19 ?k19 ?a20 ?l20 ?c20 ?k20 ?a21 ?l21 ?c21 ?k21 ?a22 ?l22 ?c22 ?k22 ?z_isinstance ?z_int ?z_bool ?z_tuple ?z_len ?z_max ?z_enumerate ?z_zip ?z_all ?z_abs ?z_repr ?z_list ?z_str ?z_range ?z_sorted ?z_set ?z_min ?y_heappush ?y_heappop
    (case a1 => k_is)
    (case l1 => k_is)
    (case c1 => k_is)
    (case k1 => k_is)
    (case a2 => k_is)
    (case l2 => k_is)
    (case c2 => k_is)
    (case k2 => k_is)
    (case a3 => k_is)
    (case l3 => k_is)
    (case c3 => k_is)
    (case k3 => k_is)
    (case a4 => k_is)
    (case l4 => k_is)
    (case c4 => k_is)
    (case k4 => k_is)
    (case a5 => k_is)
    (case l5 => k_is)
    (case c5 => k_is)
    (case k5 => k_is)
    (case a6 => k_is)
    (case l6 => k_is)
    (case c6 => k_is)
    (case k6 => k_is)
    (case a7 => k_is)
    (case l7 => k_is)
    (case c7 => k_is)
    (case k7 => k_is)
    (case a8 => k_is)
    (case l8 => k_is)
    (case c8 => k_is)
    (case k8 => k_is)
    (case a9 => k_is)
    (case l9 => k_is)
    (case c9 => k_is)
    (case k9 => k_is)
    (case a10 => k_is)
    (case l10 => k_is)
    (case c10 => k_is)
    (case k10 => k_is)
    (case a11 => k_is)
    (case l11 => k_is)
    (case c11 => k_is)
    (case k11 => k_is)
    (case a12 => k_is)
    (case l12 => k_is)
    (case c12 => k_is)
    (case k12 => k_is)
    (case a13 => k_is)
    (case l13 => k_is)
    (case c13 => k_is)
    (case k13 => k_is)
    (case a14 => k_is)
    (case l14 => k_is)
    (case c14 => k_is)
    (case k14 => k_is)
    (case a15 => k_is)
    (case l15 => k_is)
    (case c15 => k_is)
    (case k15 => k_is)
    (case a16 => k_is)
    (case l16 => k_is)
    (case c16 => k_is)
    (case k16 => k_is)
    (case a17 => k_is)
    (case l17 => k_is)
    (case c17 => k_is)
    (case k17 => k_is)
    (case a18 => k_is)
    (case l18 => k_is)
    (case c18 => k_is)
    (case k18 => k_is)
    (case a19 => k_is)
    (case l19 => k_is)
    (case c19 => k_is)
    (case k19 => k_is)
    (case a20 => k_is)
    (case l20 => k_is)
    (case c20 => k_is)
    (case k20 => k_is)
    (case a21 => k_is)
    (case l21 => k_is)
    (case c21 => k_is)
    (case k21 => k_is)
    (case a22 => k_is)
    (case l22 => k_is)
    (case c22 => k_is)
    (case k22 => k_is)
    (case z_isinstance => k_is)
    (case z_int => k_is)
    (case z_bool => k_is)
    (case z_tuple => k_is)
    (case z_len => k_is)
    (case z_max => k_is)
    (case z_enumerate => k_is)
    (case z_zip => k_is)
    (case z_all => k_is)
    (case z_abs => k_is)
    (case z_repr => k_is)
    (case z_list => k_is)
    (case z_str => k_is)
    (case z_range => k_is)
    (case z_sorted => k_is)
    (case z_set => k_is)
    (case z_min => k_is)
    (case y_heappush => k_is)
    (case y_heappop => k_is)
