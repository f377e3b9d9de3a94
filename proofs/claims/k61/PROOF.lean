import PyProof.Rows.All
import Wide.All
import OpenK.AllK
import Wide.FinOn
import HandS.ForMost
import HandS.Wide
import HandS.Gcd
import HandS.Walk
import HandS.TupAny
import HandS.TupMul
import HandS.Lambda
import HandS.IsInst
import HandS.More
import KE.KMathG
import Flt.RightSqrt
import PyProof.StrLawsRepr
import HandS.Deep
import HandS.Zip
import HandS.Style
import PyProof.EnumMake
import KE.GoesMore
import HandS.SortRule
import HandS.TupSets
import HandS.SortInts
import PyProof.Rows.SortShell
import PyProof.SumAny
import KE.SortData
import KE.DataMinMax
import HandS.SortKw
import PyProof.StrBlock2
import HandS.Conv
import KE.KDictZip
import PyProof.CollectWalk
import HandS.NoneIn
import HandS.Flt
import KE.KDictSum
import KE.KDictCopyH
import HandS.Nested
import KE.KNestM
import HandS.Flow
import HandS.Dict
import KE.GoesZip
import KE.GoesEnum
import PySem.Challenge.RW_lampsaloft_k61_falls_and_who_is_struck
set_option Elab.async false
set_option linter.all false
set_option maxRecDepth 100000
namespace DV
open PySem PySem.Spec PyProof.Rows L2
open LamX (ExtN TabS Tabs CodeO)
def LkL (K : PySem.W.Frag) (N : Addr → Prop) (H : Hp) (a : Addr) (xs : List V) : Prop := H a = some (.lst xs) ∧ ¬ N a
def LkT (K : PySem.W.Frag) (N : Addr → Prop) (H : Hp) (a : Addr) (xs : List V) : Prop := (Rd H a (.tup xs) ∧ ¬ N a) ∨ SqT K (fun _ => none) a xs
theorem sql_none {K : PySem.W.Frag} {H : Hp} {a : Addr} {xs : List V} (h : SqL K (fun _ => none) a xs) : SqL K H a xs := by
  rcases h with (h | ⟨o, h⟩) | h
  · cases h
  · cases h
  · exact .inr h
theorem sqt_none {K : PySem.W.Frag} {H : Hp} {a : Addr} {xs : List V} (h : SqT K (fun _ => none) a xs) : SqT K H a xs := by
  rcases h with (h | ⟨o, h⟩) | h
  · cases h
  · cases h
  · exact .inr h
theorem LkL.sq {K : PySem.W.Frag} {N : Addr → Prop} {H : Hp} {a : Addr} {xs : List V} (h : LkL K N H a xs) : SqL K H a xs := .of h.1
theorem LkT.sq {K : PySem.W.Frag} {N : Addr → Prop} {H : Hp} {a : Addr} {xs : List V} (h : LkT K N H a xs) : SqT K H a xs := by
  rcases h with ⟨h, _⟩ | h
  · exact .inl h
  · exact sqt_none h
/-- no table of code objects -/
def nt (o : HO) : Prop := ∀ ps, o ≠ .tbl ps
theorem nt_lst {xs : List V} : nt (.lst xs) := fun _ z => nomatch z
theorem nt_tup {xs : List V} : nt (.tup xs) := fun _ z => nomatch z
theorem nt_frz {o : Obj} {u : HO} : nt (.frz o u) := fun _ z => nomatch z
theorem nt_dT {xs : List (List L2.Key × V)} : nt (.dT xs) := fun _ z => nomatch z
/-- from one heap to the next: all but N stands; N grows by new ones alone -/
structure Go (N N' : Addr → Prop) (H H' : Hp) : Prop where
  st : ∀ a o, ¬ N a → H a = some o → nt o → H' a = some o
  nw : ∀ a, N' a → N a ∨ H a = none
theorem Rd.go {N N' : Addr → Prop} {H H' : Hp} (g : Go N N' H H') {a : Addr} {u : HO} (h : Rd H a u) (n : ¬ N a) (hu : nt u) : Rd H' a u ∧ ¬ N' a := by
  refine ⟨?_, fun z => ?_⟩
  · rcases h with h | ⟨o, h⟩
    · exact .inl (g.st _ _ n h hu)
    · exact .inr ⟨o, g.st _ _ n h nt_frz⟩
  · rcases g.nw a z with z | z
    · exact n z
    · rcases h with h | ⟨o, h⟩
      · rw [z] at h; cases h
      · rw [z] at h; cases h
theorem LkL.go {K : PySem.W.Frag} {N N' : Addr → Prop} {H H' : Hp} (g : Go N N' H H') {a : Addr} {xs : List V} (h : LkL K N H a xs) : LkL K N' H' a xs := by
  refine ⟨g.st _ _ h.2 h.1 nt_lst, fun z => ?_⟩
  rcases g.nw a z with z | z
  · exact h.2 z
  · have := h.1; rw [z] at this; cases this
theorem LkT.go {K : PySem.W.Frag} {N N' : Addr → Prop} {H H' : Hp} (g : Go N N' H H') {a : Addr} {xs : List V} (h : LkT K N H a xs) : LkT K N' H' a xs := by
  rcases h with ⟨h, n⟩ | h
  · exact .inl (Rd.go g h n nt_tup)
  · exact .inr h
/-- keys of dicts as data -/
def kD : L2.Key → PyData
  | .inl i => .int i
  | .inr x => .str x
theorem nt_dK {xs : List (L2.Key × V)} : nt (.dK xs) := fun _ z => nomatch z
def LkD (N : Addr → Prop) (H : Hp) (a : Addr) (kvs : List (L2.Key × V)) : Prop := (∃ o, H a = some (.frz o (.dK kvs))) ∧ ¬ N a
theorem LkD.go {N N' : Addr → Prop} {H H' : Hp} (g : Go N N' H H') {a : Addr} {kvs : List (L2.Key × V)} (h : LkD N H a kvs) : LkD N' H' a kvs := by
  obtain ⟨⟨o, h⟩, n⟩ := h
  refine ⟨⟨o, g.st _ _ n h nt_frz⟩, fun z => ?_⟩
  rcases g.nw a z with z | z
  · exact n z
  · rw [z] at h; cases h
theorem LkD.rd {N : Addr → Prop} {H : Hp} {a : Addr} {kvs : List (L2.Key × V)} (h : LkD N H a kvs) : Rd H a (.dK kvs) := .inr h.1
mutual
/-- what a value is as data: lists, tuples, dicts whose keys are ints and texts -/
inductive Dp (K : PySem.W.Frag) (H : Hp) : V → PyData → Prop
  | non : Dp K H .non .none
  | bl (b : Bool) : Dp K H (.bl b) (.bool b)
  | int (i : Int) : Dp K H (.int i) (.int i)
  | str (x : Str) : Dp K H (.str x) (.str x)
  | lst {a : Addr} {us : List V} {qs : List PyData} : SqL K H a us → DpAll K H us qs → Dp K H (.ref a) (.list qs)
  | tup {a : Addr} {us : List V} {qs : List PyData} : SqT K H a us → DpAll K H us qs → Dp K H (.ref a) (.tuple qs)
  | dic {a : Addr} {kvs : List (L2.Key × V)} {qs : List (PyData × PyData)} : Rd H a (.dK kvs) → DpKv K H kvs qs → Dp K H (.ref a) (.dict qs)
inductive DpAll (K : PySem.W.Frag) (H : Hp) : List V → List PyData → Prop
  | nil : DpAll K H [] []
  | cons {v : V} {vs : List V} {d : PyData} {qs : List PyData} : Dp K H v d → DpAll K H vs qs → DpAll K H (v :: vs) (d :: qs)
inductive DpKv (K : PySem.W.Frag) (H : Hp) : List (L2.Key × V) → List (PyData × PyData) → Prop
  | nil : DpKv K H [] []
  | cons {k : L2.Key} {v : V} {vs : List (L2.Key × V)} {d : PyData} {qs : List (PyData × PyData)} : Dp K H v d → DpKv K H vs qs → DpKv K H ((k, v) :: vs) ((kD k, d) :: qs)
end
mutual
theorem Dp.l2 {K : PySem.W.Frag} {H : Hp} : ∀ {d : PyData} {v : V}, Dp K H v d → d.canLay0 = true → L2.Dp K H v d
  | .none, _, h, _ => by cases h; exact .non
  | .bool _, _, h, _ => by cases h; exact .bl _
  | .int _, _, h, _ => by cases h; exact .int _
  | .str _, _, h, _ => by cases h; exact .str _
  | .list _, _, h, c => by
    cases h with
    | lst l t => exact .lst l (DpAll.l2 t (by simpa only [PyData.canLay0] using c))
  | .tuple _, _, h, c => by
    cases h with
    | tup l t => exact .tup l (DpAll.l2 t (by simpa only [PyData.canLay0] using c))
  | .dict _, _, h, c => by simp only [PyData.canLay0] at c; cases c
theorem DpAll.l2 {K : PySem.W.Frag} {H : Hp} : ∀ {qs : List PyData} {vs : List V}, DpAll K H vs qs → PyData.canLayAll0 qs = true → L2.DpAll K H vs qs
  | [], _, h, _ => by cases h; exact .nil
  | _ :: _, _, h, c => by
    cases h with
    | cons y1 y2 =>
      simp only [PyData.canLayAll0, Bool.and_eq_true] at c
      exact .cons (Dp.l2 y1 c.1) (DpAll.l2 y2 c.2)
end
mutual
theorem Dp.nd {K : PySem.W.Frag} {H : Hp} : ∀ {d : PyData} {v : V}, Dp K H v d → d.hasDict = false → L2.Dp K H v d
  | .none, _, h, _ => by cases h; exact .non
  | .bool _, _, h, _ => by cases h; exact .bl _
  | .int _, _, h, _ => by cases h; exact .int _
  | .str _, _, h, _ => by cases h; exact .str _
  | .list _, _, h, c => by
    cases h with
    | lst l t => exact .lst l (DpAll.nd t (by simpa only [PyData.hasDict] using c))
  | .tuple _, _, h, c => by
    cases h with
    | tup l t => exact .tup l (DpAll.nd t (by simpa only [PyData.hasDict] using c))
  | .dict _, _, h, c => by simp only [PyData.hasDict] at c; cases c
theorem DpAll.nd {K : PySem.W.Frag} {H : Hp} : ∀ {qs : List PyData} {vs : List V}, DpAll K H vs qs → PyData.hasDictAll qs = false → L2.DpAll K H vs qs
  | [], _, h, _ => by cases h; exact .nil
  | _ :: _, _, h, c => by
    cases h with
    | cons y1 y2 =>
      simp only [PyData.hasDictAll, Bool.or_eq_false_iff] at c
      exact .cons (Dp.nd y1 c.1) (DpAll.nd y2 c.2)
end
section
variable {X : Cx} {pins : List (Addr × Obj)} {σ : L2.St} {H : Hp} {s : Shared}
theorem key_reads {h : Heap} {k : L2.Key} {u : Value} (e : keyIs k u = true) : Reads h u (kD k) [] := by
  rcases keyIs_shape e with ⟨i, t, rfl, rfl⟩ | ⟨x, t, rfl, rfl⟩
  · exact Reads.int i t
  · exact Reads.str x t
mutual
theorem Dp.reads (I : L2.Inv X pins σ H s) : ∀ (d : PyData) (v : V) (u : Value), Dp X.K H v d → RelV v u → ∃ as, Reads s.heap u d as
  | .none, _, _, h, r => by
    cases h
    cases r
    exact ⟨_, Reads.none⟩
  | .bool b, _, _, h, r => by
    cases h
    cases r
    exact ⟨_, Reads.bool b⟩
  | .int i, _, _, h, r => by
    cases h
    obtain ⟨t, rfl⟩ := r
    exact ⟨_, Reads.int i t⟩
  | .str x, _, _, h, r => by
    cases h
    obtain ⟨t, rfl⟩ := r
    exact ⟨_, Reads.str x t⟩
  | .list qs, _, _, h, r => by
    cases h with
    | lst k1 k2 =>
      cases r
      obtain ⟨tis, rv, ⟨o, n, e0, e1c, _, e2d⟩, _⟩ := I.list k1
      obtain ⟨as, kr⟩ := Dp.readsAll I qs _ tis k2 rv
      exact ⟨_, Reads.list e0 e1c e2d kr⟩
  | .tuple qs, _, _, h, r => by
    cases h with
    | tup k1 k2 =>
      cases r
      obtain ⟨tis, rv, ⟨o, e0, e1c, n, e2d⟩, _⟩ := I.tuple k1
      obtain ⟨as, kr⟩ := Dp.readsAll I qs _ tis k2 rv
      exact ⟨_, Reads.tuple e0 e1c e2d kr⟩
  | .dict qs, _, _, h, r => by
    cases h with
    | dic l t =>
      cases r
      obtain ⟨_, _, vs, kv, o, es, ep, y1, y2, h3, h4, h5, h6⟩ := dk_rd I.hok l
      obtain ⟨⟨as, g1⟩, bs, g2⟩ := DpKv.reads I qs _ vs es.toList t kv h5
      exact ⟨_, Reads.dict y1 y2.1 h3 g1 g2⟩
theorem Dp.readsAll (I : L2.Inv X pins σ H s) : ∀ (qs : List PyData) (vs : List V) (us : List Value), DpAll X.K H vs qs → Vals vs us → ∃ as, ReadsAll s.heap us qs as
  | [], _, _, h, r => by
    cases h
    cases r
    exact ⟨_, ReadsAll.nil⟩
  | d :: qs, _, _, h, r => by
    cases h with
    | cons y1 y2 =>
      cases r with
      | cons z1 z2 =>
        obtain ⟨as, g1⟩ := Dp.reads I d _ _ y1 z1
        obtain ⟨bs, g2⟩ := Dp.readsAll I qs _ _ y2 z2
        exact ⟨_, ReadsAll.cons g1 g2⟩
theorem DpKv.reads (I : L2.Inv X pins σ H s) : ∀ (qs : List (PyData × PyData)) (kvs : List (L2.Key × V)) (vs : List (L2.Key × Value)) (es : List DictEntry), DpKv X.K H kvs qs → KV kvs vs → Pairs (mixKind X.prog X.w) es vs →
    (∃ as, ReadsAll s.heap (es.map (·.key)) (qs.map (·.1)) as) ∧ ∃ bs, ReadsAll s.heap (es.map (·.val)) (qs.map (·.2)) bs
  | [], _, _, _, h, kv, p => by
    cases h
    cases kv
    cases p
    exact ⟨⟨_, ReadsAll.nil⟩, _, ReadsAll.nil⟩
  | (k, d) :: qs, _, _, _, h, kv, p => by
    cases h with
    | cons y1 y2 =>
      cases kv with
      | cons z1 z2 =>
        cases p with
        | cons p1 p2 p3 =>
          obtain ⟨⟨as, g1⟩, bs, g2⟩ := DpKv.reads I qs _ _ _ y2 z2 p3
          obtain ⟨e1, rv⟩ := z1
          obtain ⟨cs, q3⟩ := Dp.reads I d _ _ y1 rv
          dsimp only at e1 p1
          rw [← e1] at p1
          rw [← p2] at q3
          exact ⟨⟨_, ReadsAll.cons (key_reads p1) g1⟩, _, ReadsAll.cons q3 g2⟩
end
end
mutual
def Im (K : PySem.W.Frag) (N : Addr → Prop) (H : Hp) : PyData → V → Prop
  | .none, v => v = .non
  | .bool b, v => v = .bl b
  | .int i, v => v = .int i
  | .str x, v => v = .str x
  | .list ds, v => ∃ a xs, v = .ref a ∧ LkL K N H a xs ∧ ImAll K N H ds xs
  | .tuple ds, v => ∃ a xs, v = .ref a ∧ LkT K N H a xs ∧ ImAll K N H ds xs
  | .dict ds, v => ∃ a kvs, v = .ref a ∧ LkD N H a kvs ∧ ImKv K N H ds kvs
def ImAll (K : PySem.W.Frag) (N : Addr → Prop) (H : Hp) : List PyData → List V → Prop
  | [], vs => vs = []
  | d :: ds, vs => ∃ x xs, vs = x :: xs ∧ Im K N H d x ∧ ImAll K N H ds xs
def ImKv (K : PySem.W.Frag) (N : Addr → Prop) (H : Hp) : List (PyData × PyData) → List (L2.Key × V) → Prop
  | [], vs => vs = []
  | (k, d) :: ds, vs => ∃ q x xs, vs = (q, x) :: xs ∧ k = kD q ∧ Im K N H d x ∧ ImKv K N H ds xs
end
section
variable {K : PySem.W.Frag} {N N' : Addr → Prop} {H H' : Hp}
mutual
theorem Im.go (g : Go N N' H H') : ∀ {d : PyData} {v : V}, Im K N H d v → Im K N' H' d v
  | .none, _, h => by simpa only [Im] using h
  | .bool _, _, h => by simpa only [Im] using h
  | .int _, _, h => by simpa only [Im] using h
  | .str _, _, h => by simpa only [Im] using h
  | .list _, _, h => by
    simp only [Im] at h ⊢
    obtain ⟨a, xs, e, l, t⟩ := h
    exact ⟨a, xs, e, l.go g, ImAll.go g t⟩
  | .tuple _, _, h => by
    simp only [Im] at h ⊢
    obtain ⟨a, xs, e, l, t⟩ := h
    exact ⟨a, xs, e, l.go g, ImAll.go g t⟩
  | .dict _, _, h => by
    simp only [Im] at h ⊢
    obtain ⟨a, kvs, e, l, t⟩ := h
    exact ⟨a, kvs, e, l.go g, ImKv.go g t⟩
theorem ImAll.go (g : Go N N' H H') : ∀ {ds : List PyData} {vs : List V}, ImAll K N H ds vs → ImAll K N' H' ds vs
  | [], _, h => by simpa only [ImAll] using h
  | _ :: _, _, h => by
    simp only [ImAll] at h ⊢
    obtain ⟨x, xs, e, l, t⟩ := h
    exact ⟨x, xs, e, Im.go g l, ImAll.go g t⟩
theorem ImKv.go (g : Go N N' H H') : ∀ {ds : List (PyData × PyData)} {vs : List (L2.Key × V)}, ImKv K N H ds vs → ImKv K N' H' ds vs
  | [], _, h => by simpa only [ImKv] using h
  | (_, _) :: _, _, h => by
    simp only [ImKv] at h ⊢
    obtain ⟨q, x, xs, e, k, l, t⟩ := h
    exact ⟨q, x, xs, e, k, Im.go g l, ImKv.go g t⟩
end
mutual
theorem Im.dp : ∀ {d : PyData} {v : V}, Im K N H d v → Dp K H v d
  | .none, _, h => by simp only [Im] at h; subst h; exact .non
  | .bool _, _, h => by simp only [Im] at h; subst h; exact .bl _
  | .int _, _, h => by simp only [Im] at h; subst h; exact .int _
  | .str _, _, h => by simp only [Im] at h; subst h; exact .str _
  | .list _, _, h => by
    simp only [Im] at h
    obtain ⟨a, xs, rfl, l, t⟩ := h
    exact .lst l.sq (ImAll.dp t)
  | .tuple _, _, h => by
    simp only [Im] at h
    obtain ⟨a, xs, rfl, l, t⟩ := h
    exact .tup l.sq (ImAll.dp t)
  | .dict _, _, h => by
    simp only [Im] at h
    obtain ⟨a, kvs, rfl, l, t⟩ := h
    exact .dic l.rd (ImKv.dp t)
theorem ImAll.dp : ∀ {ds : List PyData} {vs : List V}, ImAll K N H ds vs → DpAll K H vs ds
  | [], _, h => by simp only [ImAll] at h; subst h; exact .nil
  | _ :: _, _, h => by
    simp only [ImAll] at h
    obtain ⟨x, xs, rfl, l, t⟩ := h
    exact .cons (Im.dp l) (ImAll.dp t)
theorem ImKv.dp : ∀ {ds : List (PyData × PyData)} {vs : List (L2.Key × V)}, ImKv K N H ds vs → DpKv K H vs ds
  | [], _, h => by simp only [ImKv] at h; subst h; exact .nil
  | (_, _) :: _, _, h => by
    simp only [ImKv] at h
    obtain ⟨q, x, xs, rfl, rfl, l, t⟩ := h
    exact .cons (Im.dp l) (ImKv.dp t)
end
theorem ImAll.length : ∀ {ds : List PyData} {vs : List V}, ImAll K N H ds vs → vs.length = ds.length
  | [], _, h => by simp only [ImAll] at h; subst h; rfl
  | _ :: _, _, h => by
    simp only [ImAll] at h
    obtain ⟨x, xs, rfl, l, t⟩ := h
    simp [ImAll.length t]
theorem ImAll.get : ∀ {ds : List PyData} {vs : List V} {i : Nat} {d : PyData}, ImAll K N H ds vs → ds[i]? = some d → ∃ v, vs[i]? = some v ∧ Im K N H d v
  | [], _, _, _, _, e => by simp at e
  | d :: ds, _, 0, _, h, e => by
    simp only [ImAll] at h
    obtain ⟨x, xs, rfl, l, t⟩ := h
    simp at e; subst e
    exact ⟨x, rfl, l⟩
  | d :: ds, _, i + 1, _, h, e => by
    simp only [ImAll] at h
    obtain ⟨x, xs, rfl, l, t⟩ := h
    obtain ⟨v, e1, l1⟩ := ImAll.get (i := i) t (by simpa using e)
    exact ⟨v, by simpa using e1, l1⟩
theorem ImAll.getV : ∀ {ds : List PyData} {vs : List V} {i : Nat} {v : V}, ImAll K N H ds vs → vs[i]? = some v → ∃ d, ds[i]? = some d ∧ Im K N H d v
  | [], _, _, _, h, e => by simp only [ImAll] at h; subst h; simp at e
  | d :: ds, _, 0, _, h, e => by
    simp only [ImAll] at h
    obtain ⟨x, xs, rfl, l, t⟩ := h
    simp at e; subst e
    exact ⟨d, rfl, l⟩
  | d :: ds, _, i + 1, _, h, e => by
    simp only [ImAll] at h
    obtain ⟨x, xs, rfl, l, t⟩ := h
    obtain ⟨v, e1, l1⟩ := ImAll.getV (i := i) t (by simpa using e)
    exact ⟨v, by simpa using e1, l1⟩
theorem ImAll.append : ∀ {ds es : List PyData} {vs us : List V}, ImAll K N H ds vs → ImAll K N H es us → ImAll K N H (ds ++ es) (vs ++ us)
  | [], _, _, _, h, k => by simp only [ImAll] at h; subst h; exact k
  | d :: ds, es, _, us, h, k => by
    simp only [ImAll] at h
    obtain ⟨x, xs, rfl, l, t⟩ := h
    show ImAll K N H (d :: (ds ++ es)) (x :: (xs ++ us))
    simp only [ImAll]
    exact ⟨x, _, rfl, l, ImAll.append t k⟩
theorem ImAll.cons {d : PyData} {ds : List PyData} {v : V} {vs : List V} (h : Im K N H d v) (k : ImAll K N H ds vs) : ImAll K N H (d :: ds) (v :: vs) := by
  simp only [ImAll]; exact ⟨v, vs, rfl, h, k⟩
theorem ImAll.nil : ImAll K N H [] [] := by simp only [ImAll]
theorem ImAll.take : ∀ {ds : List PyData} {vs : List V} (n : Nat), ImAll K N H ds vs → ImAll K N H (ds.take n) (vs.take n)
  | _, _, 0, _ => by simp only [List.take_zero]; exact .nil
  | [], _, n + 1, h => by simp only [ImAll] at h; subst h; exact .nil
  | d :: ds, _, n + 1, h => by
    simp only [ImAll] at h
    obtain ⟨x, xs, rfl, l, t⟩ := h
    exact ImAll.cons l (ImAll.take n t)
theorem ImAll.drop : ∀ {ds : List PyData} {vs : List V} (n : Nat), ImAll K N H ds vs → ImAll K N H (ds.drop n) (vs.drop n)
  | _, _, 0, h => h
  | [], _, n + 1, h => by simp only [ImAll] at h; subst h; exact .nil
  | d :: ds, _, n + 1, h => by
    simp only [ImAll] at h
    obtain ⟨x, xs, rfl, l, t⟩ := h
    exact ImAll.drop n t
theorem ImAll.set : ∀ {ds : List PyData} {vs : List V} {d : PyData} {v : V} (i : Nat), ImAll K N H ds vs → Im K N H d v → ImAll K N H (ds.set i d) (vs.set i v)
  | [], _, _, _, _, h, _ => by simp only [ImAll] at h; subst h; exact .nil
  | d :: ds, _, _, _, 0, h, k => by
    simp only [ImAll] at h
    obtain ⟨x, xs, rfl, l, t⟩ := h
    exact ImAll.cons k t
  | d :: ds, _, _, _, i + 1, h, k => by
    simp only [ImAll] at h
    obtain ⟨x, xs, rfl, l, t⟩ := h
    exact ImAll.cons l (ImAll.set i t k)
theorem Im.int {i : Int} : Im K N H (.int i) (.int i) := by simp only [Im]
theorem Im.bool {b : Bool} : Im K N H (.bool b) (.bl b) := by simp only [Im]
theorem Im.none : Im K N H .none .non := by simp only [Im]
theorem Im.str {x : Str} : Im K N H (.str x) (.str x) := by simp only [Im]
theorem Im.int_iff {i : Int} {v : V} : Im K N H (.int i) v ↔ v = .int i := by simp only [Im]
theorem Im.bool_iff {b : Bool} {v : V} : Im K N H (.bool b) v ↔ v = .bl b := by simp only [Im]
theorem ImAll.ints : ∀ ns : List Int, ImAll K N H (ns.map .int) (ns.map .int)
  | [] => .nil
  | n :: ns => .cons .int (ImAll.ints ns)
end
/-- K the written part; H0 the heap at its start; N what callers may change; L what is lent to this body -/
structure Fm where
  K : PySem.W.Frag
  H0 : Hp
  N : Addr → Prop
  L : Addr → Prop
  fix : Nat → Prop
  T : List (Addr × Str)
inductive Ent
  | d (x : PyData)
  | own (xs : List PyData)
  | dic (kvs : List (List L2.Key × PyData))
  | dik (kvs : List (L2.Key × PyData))
  | ro (x : PyData)
  | raw (v : V)
/-- it is of this body's own: a list, a dict -/
def Ent.mine : Ent → Prop
  | .own _ => True
  | .dic _ => True
  | .dik _ => True
  | _ => False
abbrev Rho := List (Option Ent)
inductive R
  | d (x : PyData)
  | o (i : Nat)
  | raw (v : V)
inductive Pin
  | val (v : V) (r : R)
  | acc (a : Addr) (xs : List PyData)
  | frz (a : Addr) (o : Obj)
def accs : List Pin → List Addr
  | [] => []
  | .acc a _ :: ps => a :: accs ps
  | .val _ _ :: ps => accs ps
  | .frz _ _ :: ps => accs ps
theorem mem_accs {a : Addr} : ∀ {ps : List Pin}, a ∈ accs ps ↔ ∃ xs, Pin.acc a xs ∈ ps
  | [] => by simp [accs]
  | .acc b ys :: ps => by
    simp only [accs, List.mem_cons, mem_accs (ps := ps)]
    constructor
    · rintro (rfl | ⟨xs, h⟩)
      · exact ⟨ys, .inl rfl⟩
      · exact ⟨xs, .inr h⟩
    · rintro ⟨xs, h | h⟩
      · cases h; exact .inl rfl
      · exact .inr ⟨xs, h⟩
  | .val v r :: ps => by
    simp only [accs, mem_accs (ps := ps), List.mem_cons]
    constructor
    · rintro ⟨xs, h⟩; exact ⟨xs, .inr h⟩
    · rintro ⟨xs, h | h⟩
      · cases h
      · exact ⟨xs, h⟩
  | .frz v r :: ps => by
    simp only [accs, mem_accs (ps := ps), List.mem_cons]
    constructor
    · rintro ⟨xs, h⟩; exact ⟨xs, .inr h⟩
    · rintro ⟨xs, h | h⟩
      · cases h
      · exact ⟨xs, h⟩
def OwnAt (ρ : Rho) (σ : L2.St) (i : Nat) (a : Addr) : Prop := (∃ e : Ent, ρ[i]? = some (some e) ∧ e.mine) ∧ σ[i]? = some (some (.ref a))
/-- what may be changed while this body runs -/
def Av (F : Fm) (pins : List Pin) (ρ : Rho) (σ : L2.St) : Addr → Prop := fun a => F.N a ∨ (∃ i, OwnAt ρ σ i a) ∨ a ∈ accs pins
/-- a list that callers may change, but nobody while this body runs -/
def LkR (F : Fm) (a : Addr) (us : List V) : Prop := (Rd F.H0 a (.lst us) ∧ ¬ F.L a) ∨ SqL F.K (fun _ => none) a us
def RoOk (F : Fm) (A : Addr → Prop) (H : Hp) (x : PyData) (v : V) : Prop := Im F.K A H x v ∨ ∃ a us xs, v = .ref a ∧ x = .list xs ∧ LkR F a us ∧ ImAll F.K A H xs us
def EntOk (F : Fm) (A : Addr → Prop) (H : Hp) : Ent → V → Prop
  | .d x, v => Im F.K A H x v
  | .own xs, v => ∃ a vs, v = .ref a ∧ H a = some (.lst vs) ∧ ImAll F.K A H xs vs ∧ (F.L a ∨ F.H0 a = none)
  | .dic kvs, v => ∃ a vs, v = .ref a ∧ H a = some (.dT vs) ∧ vs.map (·.1) = kvs.map (·.1) ∧ ImAll F.K A H (kvs.map (·.2)) (vs.map (·.2)) ∧ F.H0 a = none
  | .dik kvs, v => ∃ a vs, v = .ref a ∧ H a = some (.dK vs) ∧ vs.map (·.1) = kvs.map (·.1) ∧ ImAll F.K A H (kvs.map (·.2)) (vs.map (·.2)) ∧ F.H0 a = none
  | .ro x, v => RoOk F A H x v
  | .raw u, v => v = u
/-- a slot's data -/
def slot (ρ : Rho) (i : Nat) : Option PyData :=
  match ρ[i]? with
  | some (some (.d x)) => some x
  | some (some (.own xs)) => some (.list xs)
  | some (some (.ro x)) => some x
  | _ => none
def val (ρ : Rho) : R → Option PyData
  | .d x => some x
  | .o i => slot ρ i
  | .raw _ => none
def ROk (F : Fm) (A : Addr → Prop) (ρ : Rho) (σ : L2.St) (H : Hp) : R → V → Prop
  | .d x, v => Im F.K A H x v
  | .o i, v => σ[i]? = some (some v) ∧ ∃ x, slot ρ i = some x
  | .raw u, v => v = u
def PinOk (F : Fm) (A : Addr → Prop) (ρ : Rho) (σ : L2.St) (H : Hp) : Pin → Prop
  | .val v r => ROk F A ρ σ H r v
  | .acc a xs => ∃ vs, H a = some (.lst vs) ∧ ImAll F.K A H xs vs ∧ F.H0 a = none ∧ (¬ ∃ i, OwnAt ρ σ i a)
  | .frz a o => ∃ u, H a = some (.frz o u)
/-- what may be changed in place: a list, a dict -/
def Mutab : HO → Prop
  | .lst _ => True
  | .dT _ => True
  | .dK _ => True
  | _ => False
/-- the heap has grown; tables of code objects may have changed -/
structure Gr (H H' : Hp) : Prop where
  ext : ExtN H H'
  tbl : ∀ a ps, H a = some (.tbl ps) → ∃ qs, H' a = some (.tbl qs)
theorem Gr.of {H H' : Hp} (g : ∀ a o, H a = some o → H' a = some o) : Gr H H' := ⟨ExtN.of g, fun a ps h => ⟨ps, g _ _ h⟩⟩
theorem Gr.refl (H : Hp) : Gr H H := .of fun _ _ h => h
theorem Gr.trans {H H1 H2 : Hp} (g : Gr H H1) (k : Gr H1 H2) : Gr H H2 := ⟨g.ext.trans k.ext, fun a ps h => let ⟨qs, h1⟩ := g.tbl a ps h; k.tbl a qs h1⟩
def TbOk (F : Fm) (H : Hp) : Prop := Tabs F.T H ∧ ∀ a ps, F.H0 a = some (.tbl ps) → ∃ qs, H a = some (.tbl qs)
theorem TbOk.gr {F : Fm} {H H' : Hp} (t : TbOk F H) (g : Gr H H') (k : Tabs F.T H') : TbOk F H' := ⟨k, fun a ps h => let ⟨qs, h1⟩ := t.2 a ps h; g.tbl a qs h1⟩
theorem TbOk.ext {F : Fm} {H H' : Hp} (t : TbOk F H) (g : ∀ a o, H a = some o → H' a = some o) : TbOk F H' := t.gr (.of g) (t.1.ext g)
theorem code_nm {c : Addr} {q : Str} : ¬ Mutab (CodeO c q) := by
  unfold CodeO
  exact fun z => z
theorem tabs_upd {T : List (Addr × Str)} {H : Hp} (t : Tabs T H) {a : Addr} {o u : HO} (h : H a = some o) (m : Mutab o) : Tabs T (upd H a u) := fun p hp => by
  obtain ⟨ps, h1, h2, h3⟩ := t p hp
  have ne : ∀ {b : Addr} {v : HO}, H b = some v → ¬ Mutab v → b ≠ a := fun e n z => by
    subst z
    rw [h] at e
    cases e
    exact n m
  refine ⟨ps, by rw [upd_ne (ne h1 (fun z => z))]; exact h1, h2, fun pos cv hc => ?_⟩
  obtain ⟨c, e1, e2⟩ := h3 pos cv hc
  exact ⟨c, e1, by rw [upd_ne (ne e2 code_nm)]; exact e2⟩
theorem TbOk.upd {F : Fm} {H : Hp} (t : TbOk F H) {a : Addr} {o u : HO} (h : H a = some o) (m : Mutab o) : TbOk F (upd H a u) := by
  refine ⟨tabs_upd t.1 h m, fun b ps e => ?_⟩
  obtain ⟨qs, h1⟩ := t.2 b ps e
  refine ⟨qs, ?_⟩
  rw [upd_ne (fun z => ?_)]
  · exact h1
  · subst z; rw [h] at h1; cases h1; exact m
theorem Mutab.nt {o : HO} (h : Mutab o) : DV.nt o := fun ps e => by
  subst e
  exact h
structure Ok (F : Fm) (pins : List Pin) (ρ : Rho) (σ : L2.St) (H : Hp) : Prop where
  len : σ.length = ρ.length
  ent : ∀ (i : Nat) (e : Ent), ρ[i]? = some (some e) → ∃ v, σ[i]? = some (some v) ∧ EntOk F (Av F pins ρ σ) H e v
  own : ∀ (i j : Nat) (a : Addr), OwnAt ρ σ i a → OwnAt ρ σ j a → i = j
  pin : ∀ p ∈ pins, PinOk F (Av F pins ρ σ) ρ σ H p
  acs : (accs pins).Nodup
  fr : ∀ a o, ¬ F.L a → F.H0 a = some o → nt o → H a = some o
  nh : ∀ a, F.N a → ∃ o, H a = some o ∧ Mutab o
  ln : ∀ a, F.L a → F.N a
  h0 : ∀ a, F.N a → ∃ o, F.H0 a = some o
  lf : ∀ (i : Nat) (a : Addr), OwnAt ρ σ i a → F.L a → F.fix i
  tb : TbOk F H
section
variable {F : Fm} {pins : List Pin} {ρ : Rho} {σ : L2.St} {H H' : Hp}
theorem Ok.ownM (O : Ok F pins ρ σ H) {i : Nat} {a : Addr} (h : OwnAt ρ σ i a) : ∃ o, H a = some o ∧ Mutab o ∧ (F.L a ∨ F.H0 a = none) := by
  obtain ⟨⟨e, h1, hm⟩, h2⟩ := h
  obtain ⟨v, h3, h4⟩ := O.ent i _ h1
  rw [h2] at h3
  cases h3
  cases e with
  | own xs =>
    obtain ⟨b, vs, e, h5, _, h6⟩ := h4
    cases e
    exact ⟨_, h5, trivial, h6⟩
  | dic kvs =>
    obtain ⟨b, vs, e, h5, _, _, h6⟩ := h4
    cases e
    exact ⟨_, h5, trivial, .inr h6⟩
  | dik kvs =>
    obtain ⟨b, vs, e, h5, _, _, h6⟩ := h4
    cases e
    exact ⟨_, h5, trivial, .inr h6⟩
  | d x => exact hm.elim
  | ro x => exact hm.elim
  | raw x => exact hm.elim
theorem Ok.ownL (O : Ok F pins ρ σ H) {i : Nat} {a : Addr} (h : OwnAt ρ σ i a) : ∃ o, H a = some o ∧ (F.L a ∨ F.H0 a = none) := by
  obtain ⟨o, h1, _, h2⟩ := O.ownM h
  exact ⟨o, h1, h2⟩
theorem Ok.avM (O : Ok F pins ρ σ H) {a : Addr} (h : Av F pins ρ σ a) : ∃ o, H a = some o ∧ Mutab o := by
  rcases h with h | ⟨i, h⟩ | h
  · exact O.nh a h
  · obtain ⟨vs, h, m, _⟩ := O.ownM h; exact ⟨_, h, m⟩
  · obtain ⟨xs, h⟩ := mem_accs.mp h
    obtain ⟨vs, h, _⟩ := O.pin _ h
    exact ⟨_, h, trivial⟩
theorem Ok.avH (O : Ok F pins ρ σ H) {a : Addr} (h : Av F pins ρ σ a) : ∃ o, H a = some o := by
  obtain ⟨o, h, _⟩ := O.avM h
  exact ⟨o, h⟩
theorem RoOk.go {A A' : Addr → Prop} (g : Go A A' H H') {x : PyData} {v : V} (h : RoOk F A H x v) : RoOk F A' H' x v := by
  rcases h with h | ⟨a, us, xs, e, e2, l, t⟩
  · exact .inl (h.go g)
  · exact .inr ⟨a, us, xs, e, e2, l, t.go g⟩
/-- a change of the heap that Av does not feel -/
theorem Ok.heapE (O : Ok F pins ρ σ H) (g : ExtN H H') (tb : TbOk F H') : Ok F pins ρ σ H' := by
  have G : Go (Av F pins ρ σ) (Av F pins ρ σ) H H' := ⟨fun a o _ h m => g a o h m, fun a h => .inl h⟩
  refine ⟨O.len, fun i e h => ?_, O.own, fun p hp => ?_, O.acs, fun a o n h m => g _ _ (O.fr a o n h m) m, fun a h => ?_, O.ln, O.h0, O.lf, tb⟩
  · obtain ⟨v, h1, h2⟩ := O.ent i e h
    refine ⟨v, h1, ?_⟩
    cases e with
    | d x => exact Im.go G h2
    | own xs =>
      obtain ⟨a, vs, e, h5, h6, h7⟩ := h2
      exact ⟨a, vs, e, g _ _ h5 nt_lst, h6.go G, h7⟩
    | dic kvs =>
      obtain ⟨a, vs, e, h5, h6, h7, h8⟩ := h2
      exact ⟨a, vs, e, g _ _ h5 nt_dT, h6, h7.go G, h8⟩
    | dik kvs =>
      obtain ⟨a, vs, e, h5, h6, h7, h8⟩ := h2
      exact ⟨a, vs, e, g _ _ h5 nt_dK, h6, h7.go G, h8⟩
    | ro x => exact RoOk.go G h2
    | raw u => exact h2
  · have h := O.pin p hp
    cases p with
    | val v r =>
      cases r with
      | d x => exact Im.go G h
      | o i => exact h
      | raw u => exact h
    | acc a xs =>
      obtain ⟨vs, h1, h2, h3⟩ := h
      exact ⟨vs, g _ _ h1 nt_lst, h2.go G, h3⟩
    | frz a o =>
      obtain ⟨u, h1⟩ := h
      exact ⟨u, g _ _ h1 nt_frz⟩
  · obtain ⟨o, h, m⟩ := O.nh a h
    exact ⟨o, g _ _ h (Mutab.nt m), m⟩
theorem Ok.heapN (O : Ok F pins ρ σ H) (g : Gr H H') (tb : Tabs F.T H') : Ok F pins ρ σ H' := O.heapE g.ext (O.tb.gr g tb)
theorem Ok.fr0 (O : Ok F pins ρ σ H) : ∀ a o, ¬ F.L a → F.H0 a = some o → H a ≠ none := fun a o n h z => by
  by_cases m : nt o
  · rw [O.fr a o n h m] at z; cases z
  · have : ∃ ps, o = .tbl ps := Classical.byContradiction fun q => m fun ps e => q ⟨ps, e⟩
    obtain ⟨ps, rfl⟩ := this
    obtain ⟨qs, e⟩ := O.tb.2 a ps h
    rw [e] at z; cases z
theorem Ok.heap (O : Ok F pins ρ σ H) (g : ∀ a o, H a = some o → H' a = some o) : Ok F pins ρ σ H' := O.heapN (Gr.of g) (O.tb.1.ext g)
theorem grow_new {p : Addr} {o : HO} (h : H p = none) : ∀ a u, H a = some u → upd H p o a = some u := fun a u e => by
  rw [upd_ne (ne_of_none e h)]; exact e
theorem Ok.new (O : Ok F pins ρ σ H) {p : Addr} {o : HO} (h : H p = none) : Ok F pins ρ σ (upd H p o) := O.heap (grow_new h)
/-- a value is kept in mind -/
theorem Ok.push (O : Ok F pins ρ σ H) {v : V} {r : R} (h : ROk F (Av F pins ρ σ) ρ σ H r v) : Ok F (.val v r :: pins) ρ σ H := by
  have e : Av F (.val v r :: pins) ρ σ = Av F pins ρ σ := rfl
  refine ⟨O.len, by rw [e]; exact O.ent, O.own, fun p hp => ?_, O.acs, O.fr, O.nh, O.ln, O.h0, O.lf, O.tb⟩
  rw [e]
  rcases List.mem_cons.mp hp with rfl | hp
  · exact h
  · exact O.pin p hp
theorem Ok.popV {v : V} {r : R} (O : Ok F (.val v r :: pins) ρ σ H) : Ok F pins ρ σ H ∧ ROk F (Av F pins ρ σ) ρ σ H r v := by
  have e : Av F (.val v r :: pins) ρ σ = Av F pins ρ σ := rfl
  refine ⟨⟨O.len, by have := O.ent; rw [e] at this; exact this, O.own, fun p hp => ?_, O.acs, O.fr, O.nh, O.ln, O.h0, O.lf, O.tb⟩, ?_⟩
  · have := O.pin p (List.mem_cons_of_mem _ hp)
    rw [e] at this; exact this
  · have := O.pin _ (List.mem_cons_self ..)
    rw [e] at this; exact this
theorem ROk.go {A A' : Addr → Prop} (g : Go A A' H H') {r : R} {v : V} (h : ROk F A ρ σ H r v) : ROk F A' ρ σ H' r v := by
  cases r with
  | d x => exact Im.go g h
  | o i => exact h
  | raw u => exact h
/-- a new list, kept in mind: nobody else knows it -/
theorem Ok.pushL (O : Ok F pins ρ σ H) {p : Addr} {xs : List PyData} {vs : List V} (hp : H p = none) (h : ImAll F.K (Av F pins ρ σ) H xs vs) : Ok F (.acc p xs :: pins) ρ σ (upd H p (.lst vs)) := by
  have G : Go (Av F pins ρ σ) (Av F (.acc p xs :: pins) ρ σ) H (upd H p (.lst vs)) := by
    refine ⟨fun a o _ h _ => grow_new hp a o h, fun a h => ?_⟩
    rcases h with h | h | h
    · exact .inl (.inl h)
    · exact .inl (.inr (.inl h))
    · rcases List.mem_cons.mp (show a ∈ p :: accs pins from h) with rfl | h
      · exact .inr hp
      · exact .inl (.inr (.inr h))
  have nAv : ¬ Av F pins ρ σ p := fun h => by obtain ⟨o, h⟩ := O.avH h; rw [hp] at h; cases h
  have g := grow_new (o := .lst vs) hp
  refine ⟨O.len, fun i e h => ?_, O.own, fun q hq => ?_, ?_, fun a o n h m => g _ _ (O.fr a o n h m), fun a h => ?_, O.ln, O.h0, O.lf, O.tb.ext g⟩
  · obtain ⟨v, h1, h2⟩ := O.ent i e h
    refine ⟨v, h1, ?_⟩
    cases e with
    | d x => exact Im.go G h2
    | own ys =>
      obtain ⟨a, us, e, h5, h6, h7⟩ := h2
      exact ⟨a, us, e, g _ _ h5, h6.go G, h7⟩
    | dic kvs =>
      obtain ⟨a, vs, e, h5, h6, h7, h8⟩ := h2
      exact ⟨a, vs, e, g _ _ h5, h6, h7.go G, h8⟩
    | dik kvs =>
      obtain ⟨a, vs, e, h5, h6, h7, h8⟩ := h2
      exact ⟨a, vs, e, g _ _ h5, h6, h7.go G, h8⟩
    | ro x => exact RoOk.go G h2
    | raw u => exact h2
  · rcases List.mem_cons.mp hq with rfl | hq
    · refine ⟨vs, upd_same, h.go G, ?_, fun ⟨i, z⟩ => nAv (.inr (.inl ⟨i, z⟩))⟩
      cases e : F.H0 p with
      | none => rfl
      | some o =>
        by_cases hl : F.L p
        · exact absurd (.inl (O.ln p hl)) nAv
        · exact absurd hp (O.fr0 p o hl e)
    · have h := O.pin q hq
      cases q with
      | val v r => exact ROk.go G h
      | acc a ys =>
        obtain ⟨us, h1, h2, h3⟩ := h
        exact ⟨us, g _ _ h1, h2.go G, h3⟩
      | frz a o =>
        obtain ⟨u, h1⟩ := h
        exact ⟨u, g _ _ h1⟩
  · show (p :: accs pins).Nodup
    refine List.nodup_cons.mpr ⟨fun h => nAv (.inr (.inr h)), O.acs⟩
  · obtain ⟨o, h, m⟩ := O.nh a h
    exact ⟨o, g _ _ h, m⟩
/-- it is data from now on -/
theorem Ok.popL {p : Addr} {xs : List PyData} (O : Ok F (.acc p xs :: pins) ρ σ H) : Ok F pins ρ σ H ∧ Im F.K (Av F pins ρ σ) H (.list xs) (.ref p) := by
  have G : Go (Av F (.acc p xs :: pins) ρ σ) (Av F pins ρ σ) H H := by
    refine ⟨fun a o _ h _ => h, fun a h => .inl ?_⟩
    rcases h with h | h | h
    · exact .inl h
    · exact .inr (.inl h)
    · exact .inr (.inr (List.mem_cons_of_mem _ h))
  obtain ⟨vs, h1, h2, h3, h4⟩ := O.pin _ (List.mem_cons_self ..)
  have hnd := List.nodup_cons.mp (show (p :: accs pins).Nodup from O.acs)
  refine ⟨⟨O.len, fun i e h => ?_, O.own, fun q hq => ?_, hnd.2, O.fr, O.nh, O.ln, O.h0, O.lf, O.tb⟩, ?_⟩
  · obtain ⟨v, h1, h2⟩ := O.ent i e h
    refine ⟨v, h1, ?_⟩
    cases e with
    | d x => exact Im.go G h2
    | own ys =>
      obtain ⟨a, us, e, h5, h6, h7⟩ := h2
      exact ⟨a, us, e, h5, h6.go G, h7⟩
    | dic kvs =>
      obtain ⟨a, vs, e, h5, h6, h7, h8⟩ := h2
      exact ⟨a, vs, e, h5, h6, h7.go G, h8⟩
    | dik kvs =>
      obtain ⟨a, vs, e, h5, h6, h7, h8⟩ := h2
      exact ⟨a, vs, e, h5, h6, h7.go G, h8⟩
    | ro x => exact RoOk.go G h2
    | raw u => exact h2
  · have h := O.pin q (List.mem_cons_of_mem _ hq)
    cases q with
    | val v r => exact ROk.go G h
    | acc a ys =>
      obtain ⟨us, h1, h2, h3⟩ := h
      exact ⟨us, h1, h2.go G, h3⟩
    | frz a o => exact h
  · simp only [Im]
    refine ⟨p, vs, rfl, ⟨h1, ?_⟩, h2.go G⟩
    rintro (h | h | h)
    · obtain ⟨o, h⟩ := O.h0 p h
      rw [h3] at h; cases h
    · exact h4 h
    · exact hnd.1 h
end
end DV
namespace DV
open PySem PySem.Spec PyProof.Rows L2
open LamX (ExtN TabS Tabs CodeO)
section
variable {F : Fm} {pins : List Pin} {ρ : Rho} {σ : L2.St} {H H' : Hp}
theorem EntOk.goM {A A' : Addr → Prop} (g : Go A A' H H') {e : Ent} {v : V} (h : EntOk F A H e v) (hown : ∀ a o, v = .ref a → H a = some o → e.mine → Mutab o → H' a = some o) : EntOk F A' H' e v := by
  cases e with
  | d x => exact Im.go g h
  | own ys =>
    obtain ⟨a, us, e, h5, h6, h7⟩ := h
    exact ⟨a, us, e, hown a _ e h5 trivial trivial, h6.go g, h7⟩
  | dic kvs =>
    obtain ⟨a, us, e, h5, h6, h7, h8⟩ := h
    exact ⟨a, us, e, hown a _ e h5 trivial trivial, h6, h7.go g, h8⟩
  | dik kvs =>
    obtain ⟨a, us, e, h5, h6, h7, h8⟩ := h
    exact ⟨a, us, e, hown a _ e h5 trivial trivial, h6, h7.go g, h8⟩
  | ro x => exact RoOk.go g h
  | raw u => exact h
theorem EntOk.go {A A' : Addr → Prop} (g : Go A A' H H') {e : Ent} {v : V} (h : EntOk F A H e v) (hown : ∀ a o, v = .ref a → H a = some o → e.mine → H' a = some o) : EntOk F A' H' e v := EntOk.goM g h fun a o e1 e2 m _ => hown a o e1 e2 m
theorem setOwn_iff {i : Nat} {a : Addr} {xs : List PyData} (h : OwnAt ρ σ i a) (j : Nat) (b : Addr) : OwnAt (ρ.set i (some (.own xs))) σ j b ↔ OwnAt ρ σ j b := by
  obtain ⟨⟨ys, h1, hm⟩, h2⟩ := h
  have hi : i < ρ.length := by
    rcases Nat.lt_or_ge i ρ.length with z | z
    · exact z
    · rw [List.getElem?_eq_none z] at h1; cases h1
  by_cases e : i = j
  · subst e
    constructor
    · rintro ⟨_, h3⟩; exact ⟨⟨ys, h1, hm⟩, h3⟩
    · rintro ⟨_, h3⟩; exact ⟨⟨.own xs, by simp [hi], trivial⟩, h3⟩
  · unfold OwnAt
    rw [List.getElem?_set_ne e]
theorem Ok.setOwn (O : Ok F pins ρ σ H) {i : Nat} {a : Addr} {xs : List PyData} {vs : List V} (h : OwnAt ρ σ i a) (hx : ImAll F.K (Av F pins ρ σ) H xs vs) :
    Ok F pins (ρ.set i (some (.own xs))) σ (upd H a (.lst vs)) := by
  have oe := setOwn_iff (xs := xs) h
  have ae : Av F pins (ρ.set i (some (.own xs))) σ = Av F pins ρ σ := by
    funext b
    unfold Av
    simp only [oe]
  have aa : Av F pins ρ σ a := .inr (.inl ⟨i, h⟩)
  have G : Go (Av F pins ρ σ) (Av F pins ρ σ) H (upd H a (.lst vs)) := ⟨fun b o n e _ => by
    have hb : b ≠ a := fun z => n (by rw [z]; exact aa)
    rw [upd_ne hb]; exact e, fun b z => .inl z⟩
  obtain ⟨vs0, hH, hl⟩ := O.ownL h
  obtain ⟨⟨ys, h1, hm⟩, h2⟩ := id h
  have hi : i < ρ.length := by
    rcases Nat.lt_or_ge i ρ.length with z | z
    · exact z
    · rw [List.getElem?_eq_none z] at h1; cases h1
  refine ⟨by rw [List.length_set]; exact O.len, fun j e hj => ?_, fun j k b z1 z2 => O.own j k b ((oe j b).mp z1) ((oe k b).mp z2), fun p hp => ?_, O.acs, fun b o n e m => ?_, fun b z => ?_, O.ln, O.h0, fun j b z => O.lf j b ((oe j b).mp z), ?_⟩
  · rw [ae]
    by_cases e2 : i = j
    · subst e2
      rw [List.getElem?_set_self hi] at hj
      cases hj
      exact ⟨.ref a, h2, a, vs, rfl, upd_same, hx.go G, hl⟩
    · rw [List.getElem?_set_ne e2] at hj
      obtain ⟨v, h3, h4⟩ := O.ent j e hj
      refine ⟨v, h3, EntOk.go G h4 fun b us ev hb ex => ?_⟩
      subst ev
      rw [upd_ne (fun z => e2 (O.own i j a h (by subst z; exact ⟨⟨e, hj, ex⟩, h3⟩)))]
      exact hb
  · rw [ae]
    have hq := O.pin p hp
    cases p with
    | val v r =>
      cases r with
      | d x => exact Im.go G hq
      | o j =>
        refine ⟨hq.1, ?_⟩
        by_cases e2 : i = j
        · subst e2
          exact ⟨.list xs, by unfold slot; rw [List.getElem?_set_self hi]⟩
        · obtain ⟨x, hx2⟩ := hq.2
          refine ⟨x, ?_⟩
          unfold slot at hx2 ⊢
          rw [List.getElem?_set_ne e2]
          exact hx2
      | raw u => exact hq
    | acc b ys =>
      obtain ⟨us, h3, h4, h5, h6⟩ := hq
      refine ⟨us, ?_, h4.go G, h5, fun ⟨j, z⟩ => h6 ⟨j, (oe j b).mp z⟩⟩
      rw [upd_ne (fun z => h6 (by subst z; exact ⟨i, h⟩))]
      exact h3
    | frz b o =>
      obtain ⟨u, h1⟩ := hq
      refine ⟨u, ?_⟩
      rw [upd_ne (fun z => ?_)]
      · exact h1
      · subst z
        obtain ⟨w, g1, g2, _⟩ := O.ownM h
        rw [h1] at g1; cases g1; exact g2.elim
  · rw [upd_ne (fun z => ?_)]
    · exact O.fr b o n e m
    · subst z
      rcases hl with hl | hl
      · exact n hl
      · rw [hl] at e; cases e
  · by_cases e : b = a
    · subst e; exact ⟨_, upd_same, trivial⟩
    · rw [upd_ne e]; exact O.nh b z
  · obtain ⟨o0, e0, m0⟩ := O.avM aa
    exact O.tb.upd e0 m0
theorem Ok.setAcc {a : Addr} {xs ys : List PyData} {vs : List V} (O : Ok F (.acc a xs :: pins) ρ σ H) (hx : ImAll F.K (Av F (.acc a xs :: pins) ρ σ) H ys vs) :
    Ok F (.acc a ys :: pins) ρ σ (upd H a (.lst vs)) := by
  have ae : Av F (.acc a ys :: pins) ρ σ = Av F (.acc a xs :: pins) ρ σ := rfl
  have aa : Av F (.acc a xs :: pins) ρ σ a := .inr (.inr (List.mem_cons_self ..))
  have G : Go (Av F (.acc a xs :: pins) ρ σ) (Av F (.acc a xs :: pins) ρ σ) H (upd H a (.lst vs)) := ⟨fun b o n e _ => by
    have hb : b ≠ a := fun z => n (by rw [z]; exact aa)
    rw [upd_ne hb]; exact e, fun b z => .inl z⟩
  obtain ⟨vs0, hH, hi0, h00, hno⟩ := O.pin _ (List.mem_cons_self ..)
  have hnd := List.nodup_cons.mp (show (a :: accs pins).Nodup from O.acs)
  refine ⟨O.len, fun j e hj => ?_, O.own, fun p hp => ?_, O.acs, fun b o n e m => ?_, fun b z => ?_, O.ln, O.h0, O.lf, O.tb.upd hH trivial⟩
  · rw [ae]
    obtain ⟨v, h3, h4⟩ := O.ent j e hj
    refine ⟨v, h3, EntOk.go G h4 fun b us ev hb ex => ?_⟩
    subst ev
    rw [upd_ne (fun z => hno (by subst z; exact ⟨j, ⟨e, hj, ex⟩, h3⟩))]
    exact hb
  · rw [ae]
    rcases List.mem_cons.mp hp with rfl | hp1
    · exact ⟨vs, upd_same, hx.go G, h00, hno⟩
    · have hq := O.pin p (List.mem_cons_of_mem _ hp1)
      cases p with
      | val v r => exact ROk.go G hq
      | acc b zs =>
        obtain ⟨us, h3, h4, h5⟩ := hq
        refine ⟨us, ?_, h4.go G, h5⟩
        rw [upd_ne (fun z => hnd.1 (by subst z; exact mem_accs.mpr ⟨zs, hp1⟩))]
        exact h3
      | frz b o =>
        obtain ⟨u, h1⟩ := hq
        refine ⟨u, ?_⟩
        rw [upd_ne (fun z => ?_)]
        · exact h1
        · subst z
          obtain ⟨ws, g1, _⟩ := O.pin _ (List.mem_cons_self ..)
          rw [h1] at g1; cases g1
  · rw [upd_ne (fun z => ?_)]
    · exact O.fr b o n e m
    · subst z; rw [h00] at e; cases e
  · by_cases e : b = a
    · subst e; exact ⟨_, upd_same, trivial⟩
    · rw [upd_ne e]; exact O.nh b z
/-- no value in mind stands for the i-th slot -/
def Fr (pins : List Pin) (i : Nat) : Prop := ∀ v j, Pin.val v (.o j) ∈ pins → j ≠ i
def SPn (F : Fm) (pins : List Pin) : Prop := ∀ v j, Pin.val v (.o j) ∈ pins → F.fix j
theorem SPn.fr (h : SPn F pins) {i : Nat} (hi : ¬ F.fix i) : Fr pins i := fun v j hp e => hi (e ▸ h v j hp)
theorem SPn.cons (h : SPn F pins) {v : V} {x : PyData} : SPn F (.val v (.d x) :: pins) := fun u j hp => by
  rcases List.mem_cons.mp hp with z | z
  · cases z
  · exact h u j z
theorem slot_ne {i j : Nat} {e : Option Ent} (h : j ≠ i) : slot (ρ.set i e) j = slot ρ j := by
  unfold slot; rw [List.getElem?_set_ne (fun z => h z.symm)]
theorem getset {α : Type} {l : List α} {i j : Nat} {x y : α} (h : (l.set i x)[j]? = some y) : (j = i ∧ y = x ∧ i < l.length) ∨ (j ≠ i ∧ l[j]? = some y) := by
  by_cases e : i = j
  · subst e
    by_cases hl : i < l.length
    · rw [List.getElem?_set_self hl] at h; cases h; exact .inl ⟨rfl, rfl, hl⟩
    · rw [List.getElem?_eq_none (by rw [List.length_set]; omega)] at h; cases h
  · rw [List.getElem?_set_ne e] at h
    exact .inr ⟨fun z => e z.symm, h⟩
theorem own_put {i j : Nat} {b : Addr} {e : Option Ent} {u : Option V} (he : ∀ f, e = some f → ¬ f.mine) (h : OwnAt (ρ.set i e) (σ.set i u) j b) : j ≠ i ∧ OwnAt ρ σ j b := by
  obtain ⟨⟨xs, h1, hm⟩, h2⟩ := h
  rcases getset h1 with ⟨_, q, _⟩ | ⟨ne, q⟩
  · exact absurd hm (he xs q.symm)
  · rw [List.getElem?_set_ne (fun z => ne z.symm)] at h2
    exact ⟨ne, ⟨xs, q, hm⟩, h2⟩
/-- a name takes a value that is no list of its own -/
theorem Ok.put (O : Ok F pins ρ σ H) {i : Nat} {e : Option Ent} {u : Option V} (hi : Fr pins i) (he : ∀ f, e = some f → ¬ f.mine) (hv : ∀ f, e = some f → ∃ v, u = some v ∧ EntOk F (Av F pins ρ σ) H f v) :
    Ok F pins (ρ.set i e) (σ.set i u) H := by
  have G : Go (Av F pins ρ σ) (Av F pins (ρ.set i e) (σ.set i u)) H H := by
    refine ⟨fun _ _ _ h _ => h, fun a h => .inl ?_⟩
    rcases h with h | ⟨j, h⟩ | h
    · exact .inl h
    · exact .inr (.inl ⟨j, (own_put he h).2⟩)
    · exact .inr (.inr h)
  refine ⟨by rw [List.length_set, List.length_set]; exact O.len, fun j f hj => ?_, fun j k b z1 z2 => O.own j k b (own_put he z1).2 (own_put he z2).2, fun p hp => ?_, O.acs, O.fr, O.nh, O.ln, O.h0, fun j b z => O.lf j b (own_put he z).2, O.tb⟩
  · rcases getset hj with ⟨rfl, q, hl⟩ | ⟨ne, q⟩
    · obtain ⟨v, hu, ho⟩ := hv f q.symm
      subst hu
      exact ⟨v, by rw [List.getElem?_set_self (by rw [O.len]; exact hl)], EntOk.go G ho fun _ _ _ z _ => z⟩
    · obtain ⟨v, h3, h4⟩ := O.ent j f q
      exact ⟨v, by rw [List.getElem?_set_ne (fun z => ne z.symm)]; exact h3, EntOk.go G h4 fun _ _ _ z _ => z⟩
  · have hq := O.pin p hp
    cases p with
    | val v r =>
      cases r with
      | d x => exact Im.go G hq
      | o j =>
        have ne := hi v j hp
        obtain ⟨h1, x, h2⟩ := hq
        exact ⟨by rw [List.getElem?_set_ne (fun z => ne z.symm)]; exact h1, x, by rw [slot_ne ne]; exact h2⟩
      | raw u => exact hq
    | acc b ys =>
      obtain ⟨us, h3, h4, h5, h6⟩ := hq
      exact ⟨us, h3, h4.go G, h5, fun ⟨j, z⟩ => h6 ⟨j, (own_put he z).2⟩⟩
    | frz b o => exact hq
/-- a name takes a new list of its own -/
theorem Ok.putL {p : Addr} {xs : List PyData} (O : Ok F (.acc p xs :: pins) ρ σ H) {i : Nat} (hi : Fr pins i) :
    Ok F pins (ρ.set i (some (.own xs))) (σ.set i (some (.ref p))) H := by
  obtain ⟨vs, hH, hx, h00, hno⟩ := O.pin _ (List.mem_cons_self ..)
  have hnd := List.nodup_cons.mp (show (p :: accs pins).Nodup from O.acs)
  have ow : ∀ j b, OwnAt (ρ.set i (some (.own xs))) (σ.set i (some (.ref p))) j b → (j = i ∧ b = p) ∨ (j ≠ i ∧ OwnAt ρ σ j b) := fun j b h => by
    obtain ⟨⟨ys, h1, hm⟩, h2⟩ := h
    rcases getset h1 with ⟨rfl, q, hl⟩ | ⟨ne, q⟩
    · rw [List.getElem?_set_self (by rw [O.len]; exact hl)] at h2
      cases h2; exact .inl ⟨rfl, rfl⟩
    · rw [List.getElem?_set_ne (fun z => ne z.symm)] at h2
      exact .inr ⟨ne, ⟨ys, q, hm⟩, h2⟩
  have G : Go (Av F (.acc p xs :: pins) ρ σ) (Av F pins (ρ.set i (some (.own xs))) (σ.set i (some (.ref p)))) H H := by
    refine ⟨fun _ _ _ h _ => h, fun a h => .inl ?_⟩
    rcases h with h | ⟨j, h⟩ | h
    · exact .inl h
    · rcases ow j a h with ⟨_, rfl⟩ | ⟨_, h⟩
      · exact .inr (.inr (List.mem_cons_self ..))
      · exact .inr (.inl ⟨j, h⟩)
    · exact .inr (.inr (List.mem_cons_of_mem _ h))
  refine ⟨by rw [List.length_set, List.length_set]; exact O.len, fun j f hj => ?_, fun j k b z1 z2 => ?_, fun q hq => ?_, hnd.2, O.fr, O.nh, O.ln, O.h0, fun j b z hL => ?_, O.tb⟩
  · rcases getset hj with ⟨rfl, q, hl⟩ | ⟨ne, q⟩
    · cases q
      exact ⟨.ref p, by rw [List.getElem?_set_self (by rw [O.len]; exact hl)], p, vs, rfl, hH, hx.go G, .inr h00⟩
    · obtain ⟨v, h3, h4⟩ := O.ent j f q
      exact ⟨v, by rw [List.getElem?_set_ne (fun z => ne z.symm)]; exact h3, EntOk.go G h4 fun _ _ _ z _ => z⟩
  · rcases ow j b z1 with ⟨e1, e2⟩ | ⟨n1, y1⟩
    · rcases ow k b z2 with ⟨e3, _⟩ | ⟨n2, y2⟩
      · rw [e1, e3]
      · rw [e2] at y2; exact absurd ⟨k, y2⟩ hno
    · rcases ow k b z2 with ⟨e3, e4⟩ | ⟨n2, y2⟩
      · rw [e4] at y1; exact absurd ⟨j, y1⟩ hno
      · exact O.own j k b y1 y2
  · have h := O.pin q (List.mem_cons_of_mem _ hq)
    cases q with
    | val v r =>
      cases r with
      | d x => exact Im.go G h
      | o j =>
        have ne := hi v j hq
        obtain ⟨h1, x, h2⟩ := h
        exact ⟨by rw [List.getElem?_set_ne (fun z => ne z.symm)]; exact h1, x, by rw [slot_ne ne]; exact h2⟩
      | raw u => exact h
    | acc b ys =>
      obtain ⟨us, h3, h4, h5, h6⟩ := h
      refine ⟨us, h3, h4.go G, h5, fun ⟨j, z⟩ => ?_⟩
      rcases ow j b z with ⟨_, rfl⟩ | ⟨_, z⟩
      · exact hnd.1 (mem_accs.mpr ⟨ys, hq⟩)
      · exact h6 ⟨j, z⟩
    | frz b o => exact h
  · rcases ow j b z with ⟨_, rfl⟩ | ⟨_, z⟩
    · obtain ⟨o, h⟩ := O.h0 b (O.ln b hL)
      rw [h00] at h; cases h
    · exact O.lf j b z hL
/-- a list of one's own is data from now on -/
theorem Ok.frz (O : Ok F pins ρ σ H) {i : Nat} {xs : List PyData} (h : ρ[i]? = some (some (.own xs))) (hf : ¬ F.fix i) : Ok F pins (ρ.set i (some (.d (.list xs)))) σ H := by
  obtain ⟨v, hσ, a, vs, rfl, hH, hx, hl⟩ := O.ent i _ h
  have hil : i < ρ.length := by
    rcases Nat.lt_or_ge i ρ.length with z | z
    · exact z
    · rw [List.getElem?_eq_none z] at h; cases h
  have hown : OwnAt ρ σ i a := ⟨⟨_, h, trivial⟩, hσ⟩
  have ow : ∀ j b, OwnAt (ρ.set i (some (.d (.list xs)))) σ j b → j ≠ i ∧ OwnAt ρ σ j b := fun j b h => by
    obtain ⟨⟨ys, h1, hm⟩, h2⟩ := h
    rcases getset h1 with ⟨_, q, _⟩ | ⟨ne, q⟩
    · cases q; exact hm.elim
    · exact ⟨ne, ⟨ys, q, hm⟩, h2⟩
  have G : Go (Av F pins ρ σ) (Av F pins (ρ.set i (some (.d (.list xs)))) σ) H H := by
    refine ⟨fun _ _ _ h _ => h, fun a h => .inl ?_⟩
    rcases h with h | ⟨j, h⟩ | h
    · exact .inl h
    · exact .inr (.inl ⟨j, (ow j a h).2⟩)
    · exact .inr (.inr h)
  have h0a : F.H0 a = none := by
    rcases hl with hl | hl
    · exact absurd (O.lf i a hown hl) hf
    · exact hl
  have nav : ¬ Av F pins (ρ.set i (some (.d (.list xs)))) σ a := by
    rintro (z | ⟨j, z⟩ | z)
    · obtain ⟨o, e⟩ := O.h0 a z
      rw [h0a] at e; cases e
    · exact (ow j a z).1 (O.own j i a (ow j a z).2 hown)
    · obtain ⟨ys, hp⟩ := mem_accs.mp z
      obtain ⟨_, _, _, _, hno⟩ := O.pin _ hp
      exact hno ⟨i, hown⟩
  have im : Im F.K (Av F pins (ρ.set i (some (.d (.list xs)))) σ) H (.list xs) (.ref a) := by
    simp only [Im]
    exact ⟨a, vs, rfl, ⟨hH, nav⟩, hx.go G⟩
  refine ⟨by rw [List.length_set]; exact O.len, fun j f hj => ?_, fun j k b z1 z2 => O.own j k b (ow j b z1).2 (ow k b z2).2, fun p hp => ?_, O.acs, O.fr, O.nh, O.ln, O.h0, fun j b z => O.lf j b (ow j b z).2, O.tb⟩
  · rcases getset hj with ⟨rfl, q, hl⟩ | ⟨ne, q⟩
    · cases q
      exact ⟨.ref a, hσ, im⟩
    · obtain ⟨v, h3, h4⟩ := O.ent j f q
      exact ⟨v, h3, EntOk.go G h4 fun _ _ _ z _ => z⟩
  · have hq := O.pin p hp
    cases p with
    | val v r =>
      cases r with
      | d x => exact Im.go G hq
      | o j =>
        obtain ⟨h1, x, h2⟩ := hq
        refine ⟨h1, ?_⟩
        by_cases e : j = i
        · subst e
          exact ⟨.list xs, by unfold slot; rw [List.getElem?_set_self hil]⟩
        · exact ⟨x, by rw [slot_ne e]; exact h2⟩
      | raw u => exact hq
    | acc b ys =>
      obtain ⟨us, h3, h4, h5, h6⟩ := hq
      exact ⟨us, h3, h4.go G, h5, fun ⟨j, z⟩ => h6 ⟨j, (ow j b z).2⟩⟩
    | frz b o => exact hq
/-- slots forgotten -/
theorem Ok.clr (O : Ok F pins ρ σ H) {i : Nat} (hi : Fr pins i) : Ok F pins (ρ.set i none) (σ.set i none) H := O.put hi (fun _ z => nomatch z) fun _ z => nomatch z
theorem Ok.unclr {i : Nat} (O : Ok F pins ρ (σ.set i none) H) (hi : ρ[i]? = some none) : Ok F pins ρ σ H := by
  have hs : ∀ j v, (σ.set i none)[j]? = some (some v) → σ[j]? = some (some v) := fun j v h => by
    rcases getset h with ⟨_, q, _⟩ | ⟨_, q⟩
    · cases q
    · exact q
  have hs' : ∀ j v, j ≠ i → σ[j]? = some (some v) → (σ.set i none)[j]? = some (some v) := fun j v ne h => by rw [List.getElem?_set_ne (fun z => ne z.symm)]; exact h
  have ne : ∀ j e, ρ[j]? = some (some e) → j ≠ i := fun j e h z => by subst z; rw [hi] at h; cases h
  have ow : ∀ j b, OwnAt ρ σ j b ↔ OwnAt ρ (σ.set i none) j b := fun j b =>
    ⟨fun ⟨⟨xs, h1, hm⟩, h2⟩ => ⟨⟨xs, h1, hm⟩, hs' j _ (ne j _ h1) h2⟩, fun ⟨h1, h2⟩ => ⟨h1, hs j _ h2⟩⟩
  have ae : Av F pins ρ σ = Av F pins ρ (σ.set i none) := by
    funext b; unfold Av; simp only [ow]
  refine ⟨by have := O.len; rw [List.length_set] at this; exact this, fun j e h => ?_, fun j k b z1 z2 => O.own j k b ((ow j b).mp z1) ((ow k b).mp z2), fun p hp => ?_, O.acs, O.fr, O.nh, O.ln, O.h0, fun j b z => O.lf j b ((ow j b).mp z), O.tb⟩
  · obtain ⟨v, h1, h2⟩ := O.ent j e h
    exact ⟨v, hs j v h1, by rw [ae]; exact h2⟩
  · have hq := O.pin p hp
    cases p with
    | val v r =>
      cases r with
      | d x => rw [ae]; exact hq
      | o j => exact ⟨hs j v hq.1, hq.2⟩
      | raw u => exact hq
    | acc b ys =>
      obtain ⟨us, h3, h4, h5, h6⟩ := hq
      exact ⟨us, h3, by rw [ae]; exact h4, h5, fun ⟨j, z⟩ => h6 ⟨j, (ow j b).mp z⟩⟩
    | frz b o => exact hq
def wipeR (ρ : Rho) : List Nat → Rho
  | [] => ρ
  | i :: r => (wipeR ρ r).set i none
theorem Ok.wipe (O : Ok F pins ρ σ H) : ∀ {vs : List Nat}, (∀ i ∈ vs, Fr pins i) → Ok F pins (wipeR ρ vs) (wipe σ vs) H
  | [], _ => O
  | i :: r, h => by
    have := Ok.wipe O (vs := r) fun j hj => h j (List.mem_cons_of_mem _ hj)
    exact this.clr (h i (List.mem_cons_self ..))
theorem wipeR_len : ∀ vs : List Nat, (wipeR ρ vs).length = ρ.length
  | [] => rfl
  | i :: r => by show ((wipeR ρ r).set i none).length = _; rw [List.length_set]; exact wipeR_len r
theorem wipeR_none : ∀ {vs : List Nat} {i : Nat}, i ∈ vs → i < ρ.length → (wipeR ρ vs)[i]? = some none
  | j :: r, i, h, hl => by
    show ((wipeR ρ r).set j none)[i]? = some none
    by_cases e : j = i
    · subst e
      rw [List.getElem?_set_self (by rw [wipeR_len]; exact hl)]
    · rw [List.getElem?_set_ne e]
      rcases List.mem_cons.mp h with z | z
      · exact absurd z.symm e
      · exact wipeR_none z hl
theorem Ok.unwipe : ∀ {vs : List Nat} {σ : L2.St}, Ok F pins ρ (L2.wipe σ vs) H → (∀ i ∈ vs, ρ[i]? = some none ∨ ρ[i]? = none) → Ok F pins ρ σ H
  | [], _, O, _ => O
  | i :: r, σ, O, h => by
    have O' : Ok F pins ρ ((L2.wipe σ r).set i none) H := O
    rcases h i (List.mem_cons_self ..) with z | z
    · exact Ok.unwipe (O'.unclr z) fun j hj => h j (List.mem_cons_of_mem _ hj)
    · have hl : ρ.length ≤ i := List.getElem?_eq_none_iff.mp z
      have hw : (L2.wipe σ r).length = ρ.length := by have := O'.len; rw [List.length_set] at this; exact this
      rw [List.set_eq_of_length_le (by omega)] at O'
      exact Ok.unwipe O' fun j hj => h j (List.mem_cons_of_mem _ hj)
end
end DV
namespace DV
open PySem PySem.Spec PyProof.Rows L2
open LamX (ExtN TabS Tabs CodeO)
abbrev TDE := Rho → (R → Rho → Prop) → Prop
abbrev TDL := Rho → (List PyData → Rho → Prop) → Prop
abbrev TDA := Rho → (List R → Rho → Prop) → Prop
abbrev TDT := Rho → (Bool → Rho → Prop) → Prop
structure DEnds where
  nx : Rho → Prop
  rt : R → Rho → Prop
  bk : Rho → Prop := fun _ => False
  ct : Rho → Prop := fun _ => False
  rl : List PyData → Rho → Prop := fun _ _ => False
abbrev TDS := DEnds → Rho → Prop
/-- what a reading tells of data -/
structure DE (F : Fm) (te : TE) (td : TDE) : Prop where
  run : ∀ (pins : List Pin) (ρ : Rho) (σ : L2.St) (H : Hp) (Q : VK), Ok F pins ρ σ H →
    td ρ (fun r ρ' => ∀ v H', Ok F pins ρ' σ H' → ROk F (Av F pins ρ' σ) ρ' σ H' r v → Q v H') → te σ H Q
  mono : ∀ ρ Q Q', (∀ r ρ', Q r ρ' → Q' r ρ') → td ρ Q → td ρ Q'
structure DL (F : Fm) (te : TE) (td : TDL) : Prop where
  run : ∀ (pins : List Pin) (ρ : Rho) (σ : L2.St) (H : Hp) (Q : VK), Ok F pins ρ σ H →
    td ρ (fun xs ρ' => ∀ p H', Ok F (.acc p xs :: pins) ρ' σ H' → Q (.ref p) H') → te σ H Q
  mono : ∀ ρ Q Q', (∀ r ρ', Q r ρ' → Q' r ρ') → td ρ Q → td ρ Q'
structure DT (F : Fm) (tt : TT) (td : TDT) : Prop where
  run : ∀ (pins : List Pin) (ρ : Rho) (σ : L2.St) (H : Hp) (Q : Bool → Hp → Prop), Ok F pins ρ σ H →
    td ρ (fun b ρ' => ∀ H', Ok F pins ρ' σ H' → Q b H') → tt σ H Q
  mono : ∀ ρ Q Q', (∀ r ρ', Q r ρ' → Q' r ρ') → td ρ Q → td ρ Q'
def ROks (F : Fm) (A : Addr → Prop) (ρ : Rho) (σ : L2.St) (H : Hp) : List R → List V → Prop
  | [], vs => vs = []
  | r :: rs, vs => ∃ v us, vs = v :: us ∧ ROk F A ρ σ H r v ∧ ROks F A ρ σ H rs us
structure DA (F : Fm) (ta : TA) (td : TDA) : Prop where
  run : ∀ (pins : List Pin) (ρ : Rho) (σ : L2.St) (H : Hp) (Q : List V → Hp → Prop), Ok F pins ρ σ H →
    td ρ (fun rs ρ' => ∀ vs H', Ok F pins ρ' σ H' → ROks F (Av F pins ρ' σ) ρ' σ H' rs vs → Q vs H') → ta σ H Q
  mono : ∀ ρ Q Q', (∀ r ρ', Q r ρ' → Q' r ρ') → td ρ Q → td ρ Q'
structure PD (X : Cx) (F : Fm) (e : Expr) (te : TE) (td : TDE) : Prop where
  pe : PE X e te
  de : DE F te td
structure PDL (X : Cx) (F : Fm) (e : Expr) (te : TE) (td : TDL) : Prop where
  pe : PE X e te
  dl : DL F te td
structure PDT (X : Cx) (F : Fm) (e : Expr) (tt : TT) (td : TDT) : Prop where
  pt : PT X e tt
  dt : DT F tt td
structure PDW (X : Cx) (F : Fm) (e : Expr) (tt : TT) (td : TDT) : Prop where
  pw : PW X e tt
  dt : DT F tt td
structure PDA (X : Cx) (F : Fm) (es : List Expr) (ta : TA) (td : TDA) : Prop where
  pa : PA X es ta
  da : DA F ta td
section
variable {F : Fm} {pins : List Pin} {ρ : Rho} {σ : L2.St} {H H' : Hp}
theorem LkR.sq (O : Ok F pins ρ σ H) {a : Addr} {us : List V} (h : LkR F a us) : SqL F.K H a us := by
  rcases h with ⟨h | ⟨o, h⟩, n⟩ | h
  · exact .inl (.inl (O.fr _ _ n h nt_lst))
  · exact .inl (.inr ⟨o, O.fr _ _ n h nt_frz⟩)
  · exact sql_none h
theorem slot_dp (O : Ok F pins ρ σ H) {i : Nat} {v : V} {x : PyData} (h1 : σ[i]? = some (some v)) (h2 : slot ρ i = some x) : Dp F.K H v x := by
  unfold slot at h2
  cases e : ρ[i]? with
  | none => rw [e] at h2; cases h2
  | some f =>
    rw [e] at h2
    cases f with
    | none => cases h2
    | some f =>
      obtain ⟨u, h3, h4⟩ := O.ent i f e
      rw [h1] at h3; cases h3
      cases f with
      | d y => cases h2; exact Im.dp h4
      | own ys =>
        cases h2
        obtain ⟨a, vs, rfl, h5, h6, _⟩ := h4
        exact .lst (.of h5) h6.dp
      | dic kvs => cases h2
      | dik kvs => cases h2
      | ro y =>
        cases h2
        rcases h4 with h4 | ⟨a, us, xs, rfl, rfl, l, t⟩
        · exact Im.dp h4
        · exact .lst (l.sq O) t.dp
      | raw u => cases h2
theorem val_dp (O : Ok F pins ρ σ H) {A : Addr → Prop} {r : R} {v : V} {x : PyData} (h : ROk F A ρ σ H r v) (h2 : val ρ r = some x) : Dp F.K H v x := by
  cases r with
  | d y => cases h2; exact Im.dp h
  | o i => exact slot_dp O h.1 h2
  | raw u => cases h2
def vals (ρ : Rho) : List R → Option (List PyData)
  | [] => some []
  | r :: rs => match val ρ r, vals ρ rs with
    | some x, some xs => some (x :: xs)
    | _, _ => none
theorem vals_dp (O : Ok F pins ρ σ H) {A : Addr → Prop} : ∀ {rs : List R} {vs : List V} {xs : List PyData}, ROks F A ρ σ H rs vs → vals ρ rs = some xs → DpAll F.K H vs xs
  | [], _, _, h, e => by
    simp only [ROks] at h; simp only [vals] at e; subst h; cases e; exact .nil
  | r :: rs, _, _, h, e => by
    simp only [ROks] at h
    obtain ⟨v, us, rfl, h1, h2⟩ := h
    simp only [vals] at e
    cases e1 : val ρ r with
    | none => rw [e1] at e; cases e
    | some x =>
      cases e2 : vals ρ rs with
      | none => rw [e1, e2] at e; cases e
      | some xs =>
        rw [e1, e2] at e; cases e
        exact .cons (val_dp O h1 e1) (vals_dp O h2 e2)
end
/-- a value without a heap -/
def Sc (z : PyData) (v : V) : Prop := ∀ K N H, Im K N H z v
theorem Sc.int {i : Int} : Sc (.int i) (.int i) := fun _ _ _ => Im.int
theorem Sc.bool {b : Bool} : Sc (.bool b) (.bl b) := fun _ _ _ => Im.bool
theorem Sc.str {x : Str} : Sc (.str x) (.str x) := fun _ _ _ => Im.str
theorem Sc.none : Sc .none .non := fun _ _ _ => Im.none
theorem ROk.sc {F : Fm} {A : Addr → Prop} {ρ : Rho} {σ : L2.St} {H : Hp} {z : PyData} {v : V} (h : Sc z v) : ROk F A ρ σ H (.d z) v := h _ _ _
section
variable {X : Cx} {F : Fm} {a b c e : Expr} {es : List Expr} {ta tb tc te : TE} {da db dc de : TDE} {pos : Pos}
def dVar (i : Nat) : TDE := fun ρ Q => match ρ[i]? with
  | some (some (.d x)) => Q (.d x) ρ
  | some (some (.own _)) => Q (.o i) ρ
  | some (some (.ro _)) => Q (.o i) ρ
  | some (some (.raw v)) => Q (.raw v) ρ
  | _ => False
theorem de_var (i : Nat) : DE F (tVar i) (dVar i) := by
  constructor
  · intro pins ρ σ H Q O h
    unfold dVar at h
    cases e : ρ[i]? with
    | none => rw [e] at h; exact h.elim
    | some f =>
      rw [e] at h
      cases f with
      | none => exact h.elim
      | some f =>
        obtain ⟨v, h1, h2⟩ := O.ent i f e
        refine ⟨v, h1, ?_⟩
        cases f with
        | d x => exact h v H O h2
        | own xs => exact h v H O ⟨h1, .list xs, by unfold slot; rw [e]⟩
        | dic kvs => exact h.elim
        | dik kvs => exact h.elim
        | ro x => exact h v H O ⟨h1, x, by unfold slot; rw [e]⟩
        | raw u => exact h v H O h2
  · intro ρ Q Q' hq h
    unfold dVar at h ⊢
    split at h <;> first | exact hq _ _ h | exact h
theorem pdv (i : Nat) {x : Str} (hN : X.N[i]? = some x := by rfl) (hv : Vis X.env.scope x := by first | exact Or.inl rfl | exact Or.inr (Or.inl rfl) | exact Or.inr (Or.inr rfl)) (hd : (x == ("__debug__" : Str)) = false := by decide)
    (hcd : (x == ("__classdict__" : Str)) = false := by decide) : PD X F (.Name x pos) (tVar i) (dVar i) := ⟨pe_var hN hv hd hcd, de_var i⟩
def dC (z : PyData) : TDE := fun ρ Q => Q (.d z) ρ
theorem de_c {v : V} {z : PyData} (h : Sc z v) : DE F (tC v) (dC z) := ⟨fun pins ρ σ H Q O h2 => h2 v H O (h _ _ _), fun _ _ _ hq h => hq _ _ h⟩
theorem pd_int {i : Int} {j} : PD X F (.Constant (.int i) j pos) (tC (.int i)) (dC (.int i)) := ⟨pe_int, de_c .int⟩
theorem pd_bl {i : Bool} {j} : PD X F (.Constant (.bool i) j pos) (tC (.bl i)) (dC (.bool i)) := ⟨pe_bl, de_c .bool⟩
theorem pd_str {i : Str} {j} : PD X F (.Constant (.str i) j pos) (tC (.str i)) (dC (.str i)) := ⟨pe_str, de_c .str⟩
theorem pd_non {j} : PD X F (.Constant .none j pos) (tC .non) (dC .none) := ⟨pe_non, de_c .none⟩
abbrev F2 := PyData → PyData → (PyData → Prop) → Prop
/-- the operator's reading from data, the answer without a heap -/
structure SO (K : PySem.W.Frag) (r : R2) (f : F2) : Prop where
  run : ∀ (H : Hp) (x y : V) (dx dy : PyData) (Q : VK), Dp K H x dx → Dp K H y dy → f dx dy (fun z => ∀ v, Sc z v → Q v H) → r x y H Q
  mono : ∀ x y Q Q', (∀ z, Q z → Q' z) → f x y Q → f x y Q'
def onV2 (ρ : Rho) (r s : R) (f : PyData → PyData → Prop) : Prop := match val ρ r, val ρ s with
  | some x, some y => f x y
  | _, _ => False
theorem onV2_of {ρ : Rho} {r s : R} {f : PyData → PyData → Prop} (h : onV2 ρ r s f) : ∃ x y, val ρ r = some x ∧ val ρ s = some y ∧ f x y := by
  unfold onV2 at h
  split at h
  · exact ⟨_, _, by assumption, by assumption, h⟩
  · exact h.elim
theorem onV2_mono {ρ : Rho} {r s : R} {f g : PyData → PyData → Prop} (h : onV2 ρ r s f) (k : ∀ x y, f x y → g x y) : onV2 ρ r s g := by
  unfold onV2 at h ⊢
  split at h
  · exact k _ _ h
  · exact h.elim
def onV (ρ : Rho) (r : R) (f : PyData → Prop) : Prop := match val ρ r with
  | some x => f x
  | _ => False
theorem onV_of {ρ : Rho} {r : R} {f : PyData → Prop} (h : onV ρ r f) : ∃ x, val ρ r = some x ∧ f x := by
  unfold onV at h
  split at h
  · exact ⟨_, by assumption, h⟩
  · exact h.elim
theorem onV_mono {ρ : Rho} {r : R} {f g : PyData → Prop} (h : onV ρ r f) (k : ∀ x, f x → g x) : onV ρ r g := by
  unfold onV at h ⊢
  split at h
  · exact k _ h
  · exact h.elim
def onVs (ρ : Rho) (rs : List R) (f : List PyData → Prop) : Prop := match vals ρ rs with
  | some xs => f xs
  | _ => False
theorem onVs_of {ρ : Rho} {rs : List R} {f : List PyData → Prop} (h : onVs ρ rs f) : ∃ xs, vals ρ rs = some xs ∧ f xs := by
  unfold onVs at h
  split at h
  · exact ⟨_, by assumption, h⟩
  · exact h.elim
theorem onVs_mono {ρ : Rho} {rs : List R} {f g : List PyData → Prop} (h : onVs ρ rs f) (k : ∀ xs, f xs → g xs) : onVs ρ rs g := by
  unfold onVs at h ⊢
  split at h
  · exact k _ h
  · exact h.elim
def dBin (ta tb : TDE) (k : R → R → Rho → (R → Rho → Prop) → Prop) : TDE := fun ρ Q => ta ρ fun r ρ1 => tb ρ1 fun s ρ2 => k r s ρ2 Q
/-- two operands, one behind the other -/
theorem de_bin {t : V → V → Hp → VK → Prop} {k : R → R → Rho → (R → Rho → Prop) → Prop} (ha : DE F ta da) (hb : DE F tb db)
    (hk : ∀ pins ρ σ H x y r s (Q : VK), Ok F pins ρ σ H → ROk F (Av F pins ρ σ) ρ σ H r x → ROk F (Av F pins ρ σ) ρ σ H s y → k r s ρ (fun z ρ' => ∀ v H', Ok F pins ρ' σ H' → ROk F (Av F pins ρ' σ) ρ' σ H' z v → Q v H') → t x y H Q)
    (hm : ∀ r s ρ Q Q', (∀ r ρ', Q r ρ' → Q' r ρ') → k r s ρ Q → k r s ρ Q') :
    DE F (fun σ H Q => ta σ H fun x H1 => tb σ H1 fun y H2 => t x y H2 Q) (dBin da db k) := by
  constructor
  · intro pins ρ σ H Q O h
    refine ha.run pins ρ σ H _ O (ha.mono _ _ _ (fun r ρ1 h1 x H1 O1 R1 => ?_) h)
    refine hb.run (.val x r :: pins) ρ1 σ H1 _ (O1.push R1) (hb.mono _ _ _ (fun s ρ2 h2 y H2 O2 R2 => ?_) h1)
    obtain ⟨O3, R3⟩ := O2.popV
    exact hk pins ρ2 σ H2 x y r s Q O3 R3 R2 h2
  · intro ρ Q Q' hq h
    exact ha.mono _ _ _ (fun r ρ1 h1 => hb.mono _ _ _ (fun s ρ2 h2 => hm r s ρ2 Q Q' hq h2) h1) h
def dOp (f : F2) (ta tb : TDE) : TDE := dBin ta tb fun r s ρ Q => onV2 ρ r s fun x y => f x y fun z => Q (.d z) ρ
theorem de_op {r : R2} {f : F2} (hf : SO F.K r f) (ha : DE F ta da) (hb : DE F tb db) : DE F (tOp r ta tb) (dOp f da db) := by
  refine de_bin ha hb (fun pins ρ σ H x y r s Q O R1 R2 h => ?_) fun r s ρ Q Q' hq h => onV2_mono h fun x y h => hf.mono _ _ _ _ (fun z => hq _ _) h
  obtain ⟨dx, dy, e1, e2, h⟩ := onV2_of h
  exact hf.run H x y dx dy Q (val_dp O R1 e1) (val_dp O R2 e2) (hf.mono _ _ _ _ (fun z q v hv => q v H O (hv _ _ _)) h)
theorem pd_op {op : Operator} {r : R2} {f : F2} (ho : OpR X (binaryOp op) r) (hf : SO F.K r f) (ha : PD X F a ta da) (hb : PD X F b tb db) : PD X F (.BinOp a op b pos) (tOp r ta tb) (dOp f da db) := ⟨pe_op ho ha.pe hb.pe, de_op hf ha.de hb.de⟩
theorem pd_cmp {op : CmpOp} {r : R2} {f : F2} (ho : OpR X (compareOp op) r) (hm : behindInMarks op b = false) (hf : SO F.K r f) (ha : PD X F a ta da) (hb : PD X F b tb db) : PD X F (.Compare a [op] [b] pos) (tOp r ta tb) (dOp f da db) := ⟨pe_cmpR ho ha.pe hb.pe hm, de_op hf ha.de hb.de⟩
/-- of two whole numbers -/
def fI (C : Int → Int → Prop) (g : Int → Int → PyData) : F2
  | .int i, .int j, Q => C i j ∧ Q (g i j)
  | _, _, _ => False
theorem so_I {K : PySem.W.Frag} {C : Int → Int → Prop} {g : Int → Int → PyData} {g' : Int → Int → V} (h : ∀ i j, Sc (g i j) (g' i j)) : SO K (rI C g') (fI C g) := by
  constructor
  · intro H x y dx dy Q h1 h2 q
    cases dx <;> cases dy <;> first | exact q.elim | skip
    cases h1; cases h2
    exact ⟨_, _, rfl, rfl, q.1, q.2 _ (h _ _)⟩
  · intro x y Q Q' hq q
    cases x <;> cases y <;> first | exact q.elim | skip
    exact ⟨q.1, hq _ q.2⟩
def fI0 (g : Int → Int → PyData) : F2
  | .int i, .int j, Q => Q (g i j)
  | _, _, _ => False
theorem so_I0 {K : PySem.W.Frag} {g : Int → Int → PyData} {g' : Int → Int → V} (h : ∀ i j, Sc (g i j) (g' i j)) : SO K (rI0 g') (fI0 g) := by
  constructor
  · intro H x y dx dy Q h1 h2 q
    cases dx <;> cases dy <;> first | exact q.elim | skip
    cases h1; cases h2
    exact ⟨_, _, rfl, rfl, q _ (h _ _)⟩
  · intro x y Q Q' hq q
    cases x <;> cases y <;> first | exact q.elim | skip
    exact hq _ q
abbrev fAdd : F2 := fI0 fun i j => .int (i + j)
abbrev fSub : F2 := fI0 fun i j => .int (i - j)
abbrev fMul : F2 := fI CMulW fun i j => .int (i * j)
abbrev fDiv : F2 := fI CDivW fun i j => .int (i / j)
abbrev fMod : F2 := fI (fun _ j => 0 < j) fun i j => .int (i % j)
abbrev fLt : F2 := fI0 fun i j => .bool (decide (i < j))
abbrev fLe : F2 := fI0 fun i j => .bool (decide (i ≤ j))
abbrev fGt : F2 := fI0 fun i j => .bool (decide (j < i))
abbrev fGe : F2 := fI0 fun i j => .bool (decide (j ≤ i))
theorem pd_add (ha : PD X F a ta da) (hb : PD X F b tb db) : PD X F (.BinOp a .Add b pos) (tOp (rI0 fun i j => .int (i + j)) ta tb) (dOp fAdd da db) := pd_op op_add (so_I0 fun _ _ => .int) ha hb
theorem pd_sub (ha : PD X F a ta da) (hb : PD X F b tb db) : PD X F (.BinOp a .Sub b pos) (tOp (rI0 fun i j => .int (i - j)) ta tb) (dOp fSub da db) := pd_op op_sub (so_I0 fun _ _ => .int) ha hb
theorem pd_mul (ha : PD X F a ta da) (hb : PD X F b tb db) : PD X F (.BinOp a .Mult b pos) (tOp (rI CMulW fun i j => .int (i * j)) ta tb) (dOp fMul da db) := pd_op op_mulW (so_I fun _ _ => .int) ha hb
theorem pd_div (ha : PD X F a ta da) (hb : PD X F b tb db) : PD X F (.BinOp a .FloorDiv b pos) (tOp (rI CDivW fun i j => .int (i / j)) ta tb) (dOp fDiv da db) := pd_op op_fdivW (so_I fun _ _ => .int) ha hb
/-- by any divisor but 0 -/
def CDivZ (_ j : Int) : Prop := j ≠ 0 ∧ j.natAbs.log2 < 9000
theorem op_fdivZ : OpR X (binaryOp .FloorDiv) (rI CDivZ fun i j => .int (i.fdiv j)) := opI fun i j _ _ _ _ _ hc q => floordiv_int hc.1 q (.inl (PyProof.noPylong_of_log2 hc.2))
abbrev fDivZ : F2 := fI CDivZ fun i j => .int (i.fdiv j)
theorem pd_divZ (ha : PD X F a ta da) (hb : PD X F b tb db) : PD X F (.BinOp a .FloorDiv b pos) (tOp (rI CDivZ fun i j => .int (i.fdiv j)) ta tb) (dOp fDivZ da db) := pd_op op_fdivZ (so_I fun _ _ => .int) ha hb
theorem pd_mod (ha : PD X F a ta da) (hb : PD X F b tb db) : PD X F (.BinOp a .Mod b pos) (tOp (rI (fun _ j => 0 < j) fun i j => .int (i % j)) ta tb) (dOp fMod da db) := pd_op op_mod (so_I fun _ _ => .int) ha hb
theorem pd_lt (ha : PD X F a ta da) (hb : PD X F b tb db) : PD X F (.Compare a [.Lt] [b] pos) (tOp (rI0 fun i j => .bl (decide (i < j))) ta tb) (dOp fLt da db) := pd_cmp op_lt (nomark _) (so_I0 fun _ _ => .bool) ha hb
theorem pd_ge (ha : PD X F a ta da) (hb : PD X F b tb db) : PD X F (.Compare a [.GtE] [b] pos) (tOp (rI0 fun i j => .bl (decide (j ≤ i))) ta tb) (dOp fGe da db) := pd_cmp op_ge (nomark _) (so_I0 fun _ _ => .bool) ha hb
/-- == of any data -/
def fEq : F2 := fun x y Q => SeqAt.shaped x = true ∧ SeqAt.shaped y = true ∧ Q (.bool (PyData.eqv x y))
def fNe : F2 := fun x y Q => SeqAt.shaped x = true ∧ SeqAt.shaped y = true ∧ Q (.bool (!PyData.eqv x y))
theorem so_Eq {K : PySem.W.Frag} : SO K (rEqD K) fEq := ⟨fun H x y dx dy Q h1 h2 q => ⟨dx, dy, h1.l2 (SeqAt.canLay_of_shaped q.1), h2.l2 (SeqAt.canLay_of_shaped q.2.1), q.1, q.2.1, q.2.2 _ .bool⟩, fun _ _ _ _ hq q => ⟨q.1, q.2.1, hq _ q.2.2⟩⟩
theorem so_Ne {K : PySem.W.Frag} : SO K (rNeD K) fNe := ⟨fun H x y dx dy Q h1 h2 q => ⟨dx, dy, h1.l2 (SeqAt.canLay_of_shaped q.1), h2.l2 (SeqAt.canLay_of_shaped q.2.1), q.1, q.2.1, q.2.2 _ .bool⟩, fun _ _ _ _ hq q => ⟨q.1, q.2.1, hq _ q.2.2⟩⟩
theorem pd_eq (hu : X.A.units + 64 < cLine) (hK : X.K = F.K := by rfl) (ha : PD X F a ta da) (hb : PD X F b tb db) : PD X F (.Compare a [.Eq] [b] pos) (tOp (rEqD F.K) ta tb) (dOp fEq da db) := by
  have h := pd_cmp (X := X) (F := F) (pos := pos) (op_eqD hu) (nomark _) (by rw [hK]; exact so_Eq) ha hb
  rw [hK] at h; exact h
/-- == of two texts -/
def fEqS : F2
  | .str x, .str y, Q => Q (.bool (decide (x = y)))
  | _, _, _ => False
theorem so_EqS {K : PySem.W.Frag} : SO K rEq fEqS := by
  constructor
  · intro H x y dx dy Q h1 h2 q
    cases dx <;> cases dy <;> first | exact q.elim | skip
    cases h1; cases h2
    refine ⟨rfl, q _ ?_⟩
    rw [dec_str, ← Bool.beq_eq_decide_eq]
    exact .bool
  · intro x y Q Q' hq q
    cases x <;> cases y <;> first | exact q.elim | skip
    exact hq _ q
theorem pd_eqS (ha : PD X F a ta da) (hb : PD X F b tb db) : PD X F (.Compare a [.Eq] [b] pos) (tOp rEq ta tb) (dOp fEqS da db) := pd_cmp op_eq (nomark _) so_EqS ha hb
def dUn (f : PyData → (PyData → Prop) → Prop) (ta : TDE) : TDE := fun ρ Q => ta ρ fun r ρ1 => onV ρ1 r fun x => f x fun z => Q (.d z) ρ1
def fNeg : PyData → (PyData → Prop) → Prop
  | .int i, Q => Q (.int (-i))
  | _, _ => False
theorem pd_neg (ha : PD X F a ta da) : PD X F (.UnaryOp .USub a pos) (tUn (rU fun i => .int (-i)) ta) (dUn fNeg da) := by
  refine ⟨pe_un un_neg ha.pe, ?_, ?_⟩
  · intro pins ρ σ H Q O h
    refine ha.de.run pins ρ σ H _ O (ha.de.mono _ _ _ (fun r ρ1 h1 x H1 O1 R1 => ?_) h)
    obtain ⟨dx, e, h2⟩ := onV_of h1
    have d := val_dp O1 R1 e
    cases dx <;> first | exact h2.elim | skip
    cases d
    exact ⟨_, rfl, h2 _ _ O1 (.sc .int)⟩
  · intro ρ Q Q' hq h
    refine ha.de.mono _ _ _ (fun r ρ1 h1 => onV_mono h1 fun x h2 => ?_) h
    cases x <;> first | exact h2.elim | skip
    exact hq _ _ h2
end
end DV
namespace DV
open PySem PySem.Spec PyProof.Rows L2
open LamX (ExtN TabS Tabs CodeO)
section
variable {X : Cx} {F : Fm} {a b c e : Expr} {es : List Expr} {ta tb tc te : TE} {da db dc de : TDE} {pos : Pos} {t : TA} {d : TDA}
def dNil : TDA := fun ρ Q => Q [] ρ
def dCons (te : TDE) (t : TDA) : TDA := fun ρ Q => te ρ fun r ρ1 => t ρ1 fun rs ρ2 => Q (r :: rs) ρ2
theorem da_nil : DA F tNil dNil := ⟨fun pins ρ σ H Q O h => h [] H O (by simp only [ROks]), fun _ _ _ hq h => hq _ _ h⟩
theorem da_cons (h1 : DE F te de) (h2 : DA F t d) : DA F (tCons te t) (dCons de d) := by
  constructor
  · intro pins ρ σ H Q O h
    refine h1.run pins ρ σ H _ O (h1.mono _ _ _ (fun r ρ1 h3 x H1 O1 R1 => ?_) h)
    refine h2.run (.val x r :: pins) ρ1 σ H1 _ (O1.push R1) (h2.mono _ _ _ (fun rs ρ2 h4 vs H2 O2 R2 => ?_) h3)
    obtain ⟨O3, R3⟩ := O2.popV
    refine h4 _ H2 O3 ?_
    simp only [ROks]
    exact ⟨x, vs, rfl, R3, R2⟩
  · intro ρ Q Q' hq h
    exact h1.mono _ _ _ (fun r ρ1 h3 => h2.mono _ _ _ (fun rs ρ2 h4 => hq _ _ h4) h3) h
theorem pda_nil : PDA X F [] tNil dNil := ⟨pa_nil, da_nil⟩
theorem pda_cons (h1 : PD X F e te de) (h2 : PDA X F es t d) (hs : starEach (e :: es) X.env = (false, eval e X.env) :: starEach es X.env := by rfl) : PDA X F (e :: es) (tCons te t) (dCons de d) := ⟨pa_cons h1.pe h2.pa hs, da_cons h1.de h2.da⟩
/-- all of them data that nobody changes -/
def dats : List R → Option (List PyData)
  | [] => some []
  | .d x :: rs => (dats rs).map (x :: ·)
  | _ :: _ => none
theorem dats_im {A : Addr → Prop} {ρ : Rho} {σ : L2.St} {H : Hp} : ∀ {rs : List R} {vs : List V} {xs : List PyData}, ROks F A ρ σ H rs vs → dats rs = some xs → ImAll F.K A H xs vs
  | [], _, _, h, e => by simp only [ROks] at h; simp only [dats] at e; subst h; cases e; exact .nil
  | .d x :: rs, _, _, h, e => by
    simp only [ROks] at h
    obtain ⟨v, us, rfl, h1, h2⟩ := h
    simp only [dats] at e
    cases e1 : dats rs with
    | none => rw [e1] at e; cases e
    | some xs => rw [e1] at e; cases e; exact .cons h1 (dats_im h2 e1)
  | .o _ :: _, _, _, _, e => by cases e
  | .raw _ :: _, _, _, _, e => by cases e
def onD (rs : List R) (f : List PyData → Prop) : Prop := match dats rs with
  | some xs => f xs
  | _ => False
theorem onD_of {rs : List R} {f : List PyData → Prop} (h : onD rs f) : ∃ xs, dats rs = some xs ∧ f xs := by
  unfold onD at h
  split at h
  · exact ⟨_, by assumption, h⟩
  · exact h.elim
theorem onD_mono {rs : List R} {f g : List PyData → Prop} (h : onD rs f) (k : ∀ xs, f xs → g xs) : onD rs g := by
  unfold onD at h ⊢
  split at h
  · exact k _ h
  · exact h.elim
def Few (n : Nat) : Prop := n ≤ sizeLine
def dTup (t : TDA) : TDE := fun ρ Q => t ρ fun rs ρ1 => onD rs fun xs => Few xs.length ∧ Q (.d (.tuple xs)) ρ1
theorem newTup {pins : List Pin} {ρ : Rho} {σ : L2.St} {H : Hp} (O : Ok F pins ρ σ H) {p : Addr} {xs : List PyData} {vs : List V} (hp : H p = none) (h : ImAll F.K (Av F pins ρ σ) H xs vs) :
    Ok F pins ρ σ (upd H p (.tup vs)) ∧ Im F.K (Av F pins ρ σ) (upd H p (.tup vs)) (.tuple xs) (.ref p) := by
  have g := grow_new (o := .tup vs) hp
  refine ⟨O.new hp, ?_⟩
  simp only [Im]
  refine ⟨p, vs, rfl, .inl ⟨.inl upd_same, fun z => ?_⟩, h.go ⟨fun a o _ e _ => g a o e, fun a z => .inl z⟩⟩
  obtain ⟨o, e⟩ := O.avH z
  rw [hp] at e; cases e
theorem pd_tup {x1} (h : PDA X F es t d) : PD X F (.Tuple es x1 pos) (tTup t) (dTup d) := by
  refine ⟨pe_tup h.pa, ?_, ?_⟩
  · intro pins ρ σ H Q O hq
    refine h.da.run pins ρ σ H _ O (h.da.mono _ _ _ (fun rs ρ1 h1 vs H1 O1 R1 => ?_) hq)
    obtain ⟨xs, e, hl, h2⟩ := onD_of h1
    have im := dats_im R1 e
    refine ⟨by rw [im.length]; exact hl, fun p hp => ?_⟩
    obtain ⟨O2, i2⟩ := newTup O1 hp im
    exact h2 _ _ O2 i2
  · intro ρ Q Q' hq hh
    exact h.da.mono _ _ _ (fun rs ρ1 h1 => onD_mono h1 fun xs h2 => ⟨h2.1, hq _ _ h2.2⟩) hh
def dLst (t : TDA) : TDL := fun ρ Q => t ρ fun rs ρ1 => onD rs fun xs => Few xs.length ∧ Q xs ρ1
theorem pl_lst (h : PDA X F es t d) : PDL X F (.List es pos) (tLst t) (dLst d) := by
  refine ⟨pe_lst h.pa, ?_, ?_⟩
  · intro pins ρ σ H Q O hq
    refine h.da.run pins ρ σ H _ O (h.da.mono _ _ _ (fun rs ρ1 h1 vs H1 O1 R1 => ?_) hq)
    obtain ⟨xs, e, hl, h2⟩ := onD_of h1
    have im := dats_im R1 e
    refine ⟨by rw [im.length]; exact hl, fun p hp => ?_⟩
    exact h2 _ _ (O1.pushL hp im)
  · intro ρ Q Q' hq hh
    exact h.da.mono _ _ _ (fun rs ρ1 h1 => onD_mono h1 fun xs h2 => ⟨h2.1, hq _ _ h2.2⟩) hh
/-- a new list as data -/
def dOfL (t : TDL) : TDE := fun ρ Q => t ρ fun xs ρ1 => Q (.d (.list xs)) ρ1
theorem pd_l {dl : TDL} (h : PDL X F e te dl) : PD X F e te (dOfL dl) := by
  refine ⟨h.pe, ?_, ?_⟩
  · intro pins ρ σ H Q O hq
    refine h.dl.run pins ρ σ H _ O (h.dl.mono _ _ _ (fun xs ρ1 h1 p H1 O1 => ?_) hq)
    obtain ⟨O2, i2⟩ := O1.popL
    exact h1 _ _ O2 i2
  · intro ρ Q Q' hq hh
    exact h.dl.mono _ _ _ (fun xs ρ1 h1 => hq _ _ h1) hh
abbrev FA := List PyData → (PyData → Prop) → Prop
structure SC (K : PySem.W.Frag) (r : List V → Hp → VK → Prop) (f : FA) : Prop where
  run : ∀ (H : Hp) (vs : List V) (ds : List PyData) (Q : VK), DpAll K H vs ds → f ds (fun z => ∀ v, Sc z v → Q v H) → r vs H Q
  mono : ∀ ds Q Q', (∀ z, Q z → Q' z) → f ds Q → f ds Q'
def dCB (f : FA) (t : TDA) : TDE := fun ρ Q => t ρ fun rs ρ1 => onVs ρ1 rs fun xs => f xs fun z => Q (.d z) ρ1
theorem de_cb {r : List V → Hp → VK → Prop} {f : FA} (hf : SC F.K r f) (h : DA F t d) : DE F (tCB r t) (dCB f d) := by
  constructor
  · intro pins ρ σ H Q O hq
    refine h.run pins ρ σ H _ O (h.mono _ _ _ (fun rs ρ1 h1 vs H1 O1 R1 => ?_) hq)
    obtain ⟨xs, e, h2⟩ := onVs_of h1
    exact hf.run H1 vs xs Q (vals_dp O1 R1 e) (hf.mono _ _ _ (fun z q v hv => q v H1 O1 (.sc hv)) h2)
  · intro ρ Q Q' hq hh
    exact h.mono _ _ _ (fun rs ρ1 h1 => onVs_mono h1 fun xs h2 => hf.mono _ _ _ (fun z => hq _ _) h2) hh
theorem pd_callB {r : List V → Hp → VK → Prop} {f : FA} {x : Str} {p : Pos} {id : String} (hc : CallR X (.builtin id) r) (hf : SC F.K r f) (hg : Gl X x) (hm : X.mg x = none) (hv : bootBuiltins x = some (.builtin id)) (ha : PDA X F (e :: es) t d) (hn : x ≠ "__name__" := by decide) (hdb : (x == ("__debug__" : Str)) = false := by decide)
    (he : starEach (e :: es) X.env = (false, eval e X.env) :: starEach es X.env := by rfl) (hpl : (backTo pos (starEach es X.env)).any (·.1) = false := by rfl) : PD X F (.Call (.Name x p) (e :: es) [] pos) (tCB r t) (dCB f d) :=
  ⟨pe_callB hc hg hm hv ha.pa hn hdb he hpl, de_cb hf ha.da⟩
theorem pd_callTy {r : List V → Hp → VK → Prop} {f : FA} {x : Str} {p : Pos} {T : String} (hc : CallR X (.type T) r) (hf : SC F.K r f) (hg : Gl X x) (hm : X.mg x = none) (hv : bootBuiltins x = some (.type T)) (ha : PDA X F (e :: es) t d) (hn : x ≠ "__name__" := by decide) (hdb : (x == ("__debug__" : Str)) = false := by decide)
    (he : starEach (e :: es) X.env = (false, eval e X.env) :: starEach es X.env := by rfl) (hpl : (backTo pos (starEach es X.env)).any (·.1) = false := by rfl) : PD X F (.Call (.Name x p) (e :: es) [] pos) (tCB r t) (dCB f d) :=
  ⟨pe_callTy hc hg hm hv ha.pa hn hdb he hpl, de_cb hf ha.da⟩
/-- f, a function of a module that the program imports by name -/
theorem pd_callM {r : List V → Hp → VK → Prop} {f : FA} {x : Str} {p : Pos} {id : String} (hc : CallR X (.builtin id) r) (hf : SC F.K r f) (hg : Gl X x) (hm : X.mg x = some (.builtin id)) (ha : PDA X F (e :: es) t d) (hdb : (x == ("__debug__" : Str)) = false := by decide)
    (he : starEach (e :: es) X.env = (false, eval e X.env) :: starEach es X.env := by rfl) (hpl : (backTo pos (starEach es X.env)).any (·.1) = false := by rfl) : PD X F (.Call (.Name x p) (e :: es) [] pos) (tCB r t) (dCB f d) :=
  ⟨pe_callBfun hc hg hm ha.pa hdb he hpl, de_cb hf ha.da⟩
def fAbs : FA
  | [.int i], Q => Q (.int (if i < 0 then -i else i))
  | _, _ => False
theorem dpall1 {K : PySem.W.Frag} {H : Hp} {vs : List V} {d : PyData} (h : DpAll K H vs [d]) : ∃ v, vs = [v] ∧ Dp K H v d := by
  cases h with
  | cons h1 h2 => cases h2; exact ⟨_, rfl, h1⟩
theorem dpall2 {K : PySem.W.Frag} {H : Hp} {vs : List V} {d e : PyData} (h : DpAll K H vs [d, e]) : ∃ v u, vs = [v, u] ∧ Dp K H v d ∧ Dp K H u e := by
  cases h with
  | cons h1 h2 =>
    obtain ⟨u, rfl, h3⟩ := dpall1 h2
    exact ⟨_, u, rfl, h1, h3⟩
theorem dp_int {K : PySem.W.Frag} {H : Hp} {v : V} {i : Int} (h : Dp K H v (.int i)) : v = .int i := by cases h; rfl
theorem dp_bool {K : PySem.W.Frag} {H : Hp} {v : V} {i : Bool} (h : Dp K H v (.bool i)) : v = .bl i := by cases h; rfl
theorem sc_abs {K : PySem.W.Frag} : SC K (fun xs H Q => ∃ i, xs = [.int i] ∧ Q (.int (if i < 0 then -i else i)) H) fAbs := by
  constructor
  · intro H vs ds Q h q
    unfold fAbs at q
    split at q
    · obtain ⟨v, rfl, h1⟩ := dpall1 h
      cases dp_int h1
      exact ⟨_, rfl, q _ .int⟩
    · exact q.elim
  · intro ds Q Q' hq q
    unfold fAbs at q ⊢
    split at q
    · exact hq _ q
    · exact q.elim
def fInt : FA
  | [.int i], Q => Q (.int i)
  | [.bool k], Q => Q (.int (if k then 1 else 0))
  | _, _ => False
theorem sc_int {K : PySem.W.Frag} : SC K (fun xs H Q => (∃ i, xs = [.int i] ∧ Q (.int i) H) ∨ ∃ k, xs = [.bl k] ∧ Q (.int (if k then 1 else 0)) H) fInt := by
  constructor
  · intro H vs ds Q h q
    unfold fInt at q
    split at q
    · obtain ⟨v, rfl, h1⟩ := dpall1 h
      cases dp_int h1
      exact .inl ⟨_, rfl, q _ .int⟩
    · obtain ⟨v, rfl, h1⟩ := dpall1 h
      cases dp_bool h1
      exact .inr ⟨_, rfl, q _ .int⟩
    · exact q.elim
  · intro ds Q Q' hq q
    unfold fInt at q ⊢
    split at q <;> first | exact hq _ q | exact q.elim
def fMax : FA
  | [.int i, .int j], Q => Q (.int (if j > i then j else i))
  | _, _ => False
theorem sc_max {K : PySem.W.Frag} : SC K (fun xs H Q => ∃ i j, xs = [.int i, .int j] ∧ Q (.int (if j > i then j else i)) H) fMax := by
  constructor
  · intro H vs ds Q h q
    unfold fMax at q
    split at q
    · obtain ⟨v, u, rfl, h1, h2⟩ := dpall2 h
      cases dp_int h1; cases dp_int h2
      exact ⟨_, _, rfl, q _ .int⟩
    · exact q.elim
  · intro ds Q Q' hq q
    unfold fMax at q ⊢
    split at q <;> first | exact hq _ q | exact q.elim
def fMin : FA
  | [.int i, .int j], Q => Q (.int (if j < i then j else i))
  | _, _ => False
def fGcd : FA
  | [.int i, .int j], Q => Q (.int ((Nat.gcd i.natAbs j.natAbs : Nat) : Int))
  | _, _ => False
theorem sc_gcd {K : PySem.W.Frag} : SC K rGcd fGcd := by
  constructor
  · intro H vs ds Q h q
    unfold fGcd at q
    split at q
    · obtain ⟨v, u, rfl, h1, h2⟩ := dpall2 h
      cases dp_int h1; cases dp_int h2
      exact ⟨_, _, rfl, q _ .int⟩
    · exact q.elim
  · intro ds Q Q' hq q
    unfold fGcd at q ⊢
    split at q <;> first | exact hq _ q | exact q.elim
/-- len of a list or a tuple -/
def fLen : FA
  | [.list xs], Q => Q (.int (xs.length : Nat))
  | [.tuple xs], Q => Q (.int (xs.length : Nat))
  | _, _ => False
theorem DpAll.length {K : PySem.W.Frag} {H : Hp} : ∀ {vs : List V} {ds : List PyData}, DpAll K H vs ds → vs.length = ds.length
  | _, [], h => by cases h; rfl
  | _, _ :: _, h => by cases h with | cons h1 h2 => simp [DpAll.length h2]
theorem sc_len {K : PySem.W.Frag} : SC K (fun xs H Q => ∃ p ys, xs = [.ref p] ∧ (SqL K H p ys ∨ SqT K H p ys) ∧ Q (.int ys.length) H) fLen := by
  constructor
  · intro H vs ds Q h q
    unfold fLen at q
    split at q
    · obtain ⟨v, rfl, h1⟩ := dpall1 h
      cases h1 with
      | lst h2 h3 => exact ⟨_, _, rfl, .inl h2, by rw [DpAll.length h3]; exact q _ .int⟩
    · obtain ⟨v, rfl, h1⟩ := dpall1 h
      cases h1 with
      | tup h2 h3 => exact ⟨_, _, rfl, .inr h2, by rw [DpAll.length h3]; exact q _ .int⟩
    · exact q.elim
  · intro ds Q Q' hq q
    unfold fLen at q ⊢
    split at q <;> first | exact hq _ q | exact q.elim
/-- repr of data -/
def rRepr (K : PySem.W.Frag) : List V → Hp → VK → Prop := fun vs H Q => ∃ v d, vs = [v] ∧ Dp K H v d ∧ d.showable = true ∧ d.hasDict = false ∧ d.depth ≤ 60 ∧ d.shown.length ≤ sizeLine ∧ Q (.str d.shown) H
theorem call_repr (hr : X.A.guards = some []) (hu : X.A.units + 64 < cLine) : CallR X (.builtin "repr") (rRepr X.K) := by
  intro pins s σ H vs us Q I r h
  obtain ⟨v, d, rfl, hd, hs, hn, hdp, hsz, q⟩ := h
  obtain ⟨u, rfl, ru⟩ := vals1 r
  obtain ⟨as, rd⟩ := L2.Dp.reads I d v u (hd.nd hn) ru
  have fin : ∀ (h' : Heap) (u' : Tok) (tk : Nat), (∀ b o, s.heap.get? b = some o → h'.get? b = some o) → EP X pins σ Q (.str d.shown u') { s with heap := h', toks := tk } := fun h' u' tk hk =>
    ⟨.str d.shown, H, I.kept hk, ⟨u', rfl⟩, q⟩
  cases d with
  | none =>
    cases hd; cases (show u = Value.none from ru)
    rw [PyData.shown_none] at q
    exact PySem.P.repr_of_none ⟨.str _, H, I.tok _, ⟨_, rfl⟩, q⟩
  | bool b =>
    cases hd; cases (show u = Value.bool b from ru)
    rw [PyData.shown_bool] at q
    exact PySem.P.repr_of_bool ⟨.str _, H, I.tok _, ⟨_, rfl⟩, q⟩
  | int i =>
    cases hd; obtain ⟨tk, rfl⟩ := (show ∃ t, u = Value.int i t from ru)
    have hz : i.natAbs.log2 < 1920 := by simpa [PyData.showable] using hs
    rw [PyData.shown_int] at q
    exact PySem.P.repr_of_int hz ⟨.str _, H, I.tok _, ⟨_, rfl⟩, q⟩
  | str x =>
    cases hd; obtain ⟨tk, rfl⟩ := (show ∃ t, u = Value.str x t from ru)
    rw [PyData.shown_str] at q hsz
    exact PySem.P.repr_of_str ⟨.str _, H, I.tok _, ⟨_, rfl⟩, q⟩ hsz
  | list xs =>
    cases hd; rename_i a vs h1 h2; cases (show u = Value.ref a from ru)
    exact repr_of_reads' rd hs (PyData.noDict_hsm hn) hr (by omega) (fun _ _ e => e) fin hsz
  | tuple xs =>
    cases hd; rename_i a vs h1 h2; cases (show u = Value.ref a from ru)
    exact repr_of_reads' rd hs (PyData.noDict_hsm hn) hr (by omega) (fun _ _ e => e) fin hsz
  | dict _ => simp only [PyData.hasDict] at hn; cases hn
def Plain (d : PyData) : Prop := d.showable = true ∧ d.hasDict = false ∧ d.depth ≤ 60 ∧ d.shown.length ≤ sizeLine
def fRepr : FA
  | [d], Q => Plain d ∧ Q (.str d.shown)
  | _, _ => False
theorem sc_repr {K : PySem.W.Frag} : SC K (rRepr K) fRepr := by
  constructor
  · intro H vs ds Q h q
    unfold fRepr at q
    split at q
    · obtain ⟨v, rfl, h1⟩ := dpall1 h
      exact ⟨v, _, rfl, h1, q.1.1, q.1.2.1, q.1.2.2.1, q.1.2.2.2, q.2 _ .str⟩
    · exact q.elim
  · intro ds Q Q' hq q
    unfold fRepr at q ⊢
    split at q
    · exact ⟨q.1, hq _ q.2⟩
    · exact q.elim
end
end DV
namespace DV
open PySem PySem.Spec PyProof.Rows L2
open LamX (ExtN TabS Tabs CodeO)
structure FnG (P : Program) (w : World) (K : PySem.W.Frag) (mg : Str → Option Value) (base : Heap) (CX : CXT) (k : Nat) (f : Addr) (fd : FuncData) (ps : List Str) (sp : Sp) : Prop where
  size : ∀ vs H Q E, sp vs H Q E → vs.length = ps.length
  goes : ∀ (A : Around) (out : List Env) (s : Shared) (H : Hp) (ar : Args) (us : List Value) (vs : List V) (Q : VK) (E : XK),
    Room k A → A.guards = some [] → Env0 P w K mg base A out s H → BindsTo s fd ar (ps.zip us) → Vals vs us → sp vs H Q E → codeAny (model P w) A (.call (.ref f) ar) (CR CX out P w H s Q E) s
theorem FnG.up {P : Program} {w : World} {K : PySem.W.Frag} {mg : Str → Option Value} {base : Heap} {CX : CXT} {j k : Nat} {f : Addr} {fd : FuncData} {ps : List Str} {sp : Sp} (G : FnG P w K mg base CX j f fd ps sp) (h : j ≤ k) : FnG P w K mg base CX k f fd ps sp :=
  ⟨G.size, fun A out s H ar us vs Q E hr => G.goes A out s H ar us vs Q E (hr.mono h)⟩
section
variable {P : Program} {w : World} {K : PySem.W.Frag} {mg : Str → Option Value} {base : Heap} {T : List (Addr × Str)}
theorem fg_ofC {x qual : Str} {st : Stmt} {f : Addr} {fd : FuncData} {N ps : List Str} {k : Nat} {sp : Sp} (W : Fun K x qual st f fd) (S : FnScope N ps (defScope st)) (hlen : ∀ vs H Q E, sp vs H Q E → vs.length = ps.length)
    (body : ∀ (cdv : Value), fd.code = cdv → ∀ (A : Around) (out : List Env) (s : Shared) (H : Hp) (vs : List V) (Q : VK) (E : XK), Room k (A.deeper (envOfC qual (defScope st) s.heap.objs.size f cdv)) → A.guards = some [] → sp vs H Q E →
      ∃ t, PSs (cxOf CX0 P w K mg base N qual (defScope st) f cdv A out s H E).nox (defBody st) t ∧ t { nx := fun _ H' => Q .non H', rt := Q } (start N vs) H) : FnG P w K mg base CX0 (k + 1) f fd ps sp := by
  obtain ⟨oc, od, kV, doc, pm, an, cdv, ct, osl, rfl, lk, cd⟩ := W.ex
  constructor
  · exact hlen
  intro A out s H ar us vs Q E room hgd env0 hbind rel hs
  have inK : K.In s.heap := env0.mod.kin.keeps fun b o e => (env0.bs b o e).1
  have names : ∀ y ∈ ps.zip us, (defScope st).names.lookup y.1 = some .local ∨ ((defScope st).names.lookup y.1 = some .cell ∧ ((cellsFrom (s.heap.objs.size + 1) (defScope st).names []).lookup y.1).isSome = true) := by
    rintro ⟨n, v⟩ hy
    cases S.par n (List.of_mem_zip hy).1 with
    | inl q => exact .inl q
    | inr q => exact .inr ⟨q, PySem.W.cellsFrom_some _ _ _ (.inl q)⟩
  apply codeAny_call_function room.depth (inK _ _ lk) rfl S.co S.gen rfl (PySem.W.codeRec_of inK cd)
  apply hbind
  apply wpAny_newFunctionEnv_cells S.kind names
  rintro env rfl s1 ic
  constructor
  · exact (env0.mod.nolimit.keeps fun b o e => (env0.bs b o e).1).keeps ic.toInCall.keep
  apply codeAny_func
  obtain ⟨t, ht0, hq⟩ := body cdv rfl A out s H vs Q E (room.deeper _) hgd hs
  have ht := ht0.nox
  have I0 := inv_start (CX := CX0) (E := E) S room.hd env0 (hlen _ _ _ _ hs) rel ic
  refine wpAny_mono (ht.run [] s1 (start N vs) H _ I0 hq) ?_ fun _ _ z => z
  intro fl s' z
  cases fl with
  | ret u =>
    obtain ⟨v, σ', H', J, rv, q⟩ := z
    exact ⟨v, H', J.os, J.bare, J.base, J.hok, rv, q⟩
  | next =>
    obtain ⟨σ', H', J, q⟩ := z
    exact ⟨V.non, H', J.os, J.bare, J.base, J.hok, rfl, q⟩
  | brk => exact z.elim fun _ z => z.elim fun _ z => z.2.elim
  | cont => exact z.elim fun _ z => z.elim fun _ z => z.2.elim
theorem fg_of {x qual : Str} {st : Stmt} {f : Addr} {fd : FuncData} {N ps : List Str} {k : Nat} {sp : Sp} (W : Fun K x qual st f fd) (S : FnScope N ps (defScope st)) (hlen : ∀ vs H Q E, sp vs H Q E → vs.length = ps.length)
    (body : ∀ (cdv : Value) (A : Around) (out : List Env) (s : Shared) (H : Hp) (vs : List V) (Q : VK) (E : XK), Room k (A.deeper (envOfC qual (defScope st) s.heap.objs.size f cdv)) → A.guards = some [] → sp vs H Q E →
      ∃ t, PSs (cxOf CX0 P w K mg base N qual (defScope st) f cdv A out s H E).nox (defBody st) t ∧ t { nx := fun _ H' => Q .non H', rt := Q } (start N vs) H) : FnG P w K mg base CX0 (k + 1) f fd ps sp :=
  fg_ofC W S hlen fun cdv _ => body cdv
end
section
variable {X : Cx} {k : Nat} {f : Addr} {fd : FuncData} {ps : List Str} {sp : Sp} {E : XK} {x : Str} {p pos : Pos} {e : Expr} {es : List Expr} {t : TA}
theorem goes_fn {pins : List (Addr × Obj)} {σ : L2.St} {H : Hp} {s : Shared} {Q : VK} {us : List Value} {vs : List V} (G : FnG X.prog X.w X.K X.mg X.base CX0 k f fd ps sp) (hr : Room k X.A) (hgd : X.A.guards = some []) (hb : Binds X.K fd ps [])
    (I : Inv X pins σ H s) (r : Vals vs us) (h : sp vs H Q E) : wpAny (model X.prog X.w) X.A (call (.ref f) us) (EP X pins σ Q) X.xe s := by
  have bl : (us ++ []).length = ps.length := by rw [List.append_nil, ← r.length]; exact G.size _ _ _ _ h
  have bd := hb s us I.kIn bl
  rw [List.append_nil] at bd
  apply wpAny_call
  refine codeAny_mono (G.goes X.A X.stack s H ⟨us, []⟩ us vs Q E hr hgd I.env0 bd r h) ?_
  rintro (e | (u | _ | _ | _)) s' z
  all_goals first | exact I.after z | exact False.elim z
/-- f(e, ..) -/
theorem pe_callG (G : FnG X.prog X.w X.K X.mg X.base CX0 k f fd ps sp) (hr : Room k X.A) (hgd : X.A.guards = some []) (hg : Gl X x) (hm : X.mg x = some (.ref f)) (hk : PySem.W.keepIn X.K (.ref f) = true) (hb : Binds X.K fd ps [])
    (ha : PA X (e :: es) t) (hdb : (x == ("__debug__" : Str)) = false := by decide) (he : starEach (e :: es) X.env = (false, eval e X.env) :: starEach es X.env := by rfl) (hpl : (backTo pos (starEach es X.env)).any (·.1) = false := by rfl) :
    PE X (.Call (.Name x p) (e :: es) [] pos) (fun σ H Q => t σ H fun vs H1 => sp vs H1 Q E) := by
  constructor
  intro pins s σ H Q I h
  apply wpAny_Call_Name_kw
  apply ld_glob I hg hm _ hdb
  refine PySem.W.callWith_K (h₀ := X.base) I.ok.mod.kin hk (thn (ha.run pos pins s σ H _ I h) ?_) he hpl
  rintro us s1 ⟨vs, H1, I1, r, q⟩
  exact ⟨I1.kIn, goes_fn G hr hgd hb I1 r q⟩
end
theorem law_goes {P : Program} {w : World} {K : PySem.W.Frag} {mg mb : Str → Option Value} {k : Nat} {fa a : Addr} {fd : FuncData} {x : Str} {sp : Sp} {s₁ : Shared} {vs : List Value} {ns : List Int}
    (inK : K.In s₁.heap) (nm : s₁.heap.Ns mainGlobals mg) (nb : s₁.heap.Ns builtinsNs mb) (bb : ∀ x : Str, x ≠ "__name__" → mb x = bootBuiltins x) (nl : s₁.heap.NoLimit) (ng : s₁.gens = #[])
    (at_a : s₁.heap.get? a = some { cls := .type "list", data := .seq vs.toArray }) (hin : IntsAre vs ns) (short : ns.length ≤ sizeLine) (room : Room k callerA)
    (G : ∀ base : Heap, K.In base → base.Ns mainGlobals mg → FnG P w K mg base CX0 k fa fd [x] sp) (bind : ∀ (s : Shared) (u : Value), BindsTo s fd ⟨[u], []⟩ [(x, u)])
    (hs : ∀ H : Hp, SqL K H a (ns.map V.int) → sp [.ref a] H (fun v _ => v = .bl true) fun _ _ _ => False) :
    codeAny (model P w) callerA (.call (.ref fa) ⟨[.ref a], []⟩) (fun r s' => r = .ok (.ret (.bool true)) ∧ OldK s₁.heap s'.heap ∧ s'.os = s₁.os ∧ AllBare s'.gens) s₁ := by
  let ob : Obj := { cls := .type "list", data := .seq vs.toArray }
  let Hs : Hp := fun b => if b = a ∧ K.lookup a = none then some (.frz ob (.lst (ns.map V.int))) else none
  have Hs_some : ∀ {b u}, Hs b = some u → b = a ∧ K.lookup a = none ∧ u = .frz ob (.lst (ns.map V.int)) := by
    intro b u q
    have q : (if b = a ∧ K.lookup a = none then some (HO.frz ob (.lst (ns.map V.int))) else none) = some u := q
    split at q
    · rename_i c; cases q; exact ⟨c.1, c.2, rfl⟩
    · cases q
  have rel := vals_ints hin
  have sq : SqL K Hs a (ns.map V.int) := by
    cases hk : K.lookup a with
    | none => exact .inl (.inr ⟨ob, if_pos ⟨rfl, hk⟩⟩)
    | some o =>
      have e := inK a o hk
      rw [at_a] at e; cases e
      exact .inr ⟨_, vs.toArray, _, hk, rfl, rfl, rfl, by rw [List.size_toArray, hin.length]; exact short, by simpa using rel⟩
  have hok : HOk P w Hs s₁.heap := by
    intro b u q
    obtain ⟨rfl, _, rfl⟩ := Hs_some q
    exact ⟨at_a, by rw [List.length_map]; exact short, vs, _, rel, at_a⟩
  have keepK : ∀ {b : Addr} {o : Obj}, K.lookup b = some o → Hs b = none := by
    intro b o e
    cases q : Hs b with
    | none => rfl
    | some u => obtain ⟨rfl, z, _⟩ := Hs_some q; rw [z] at e; cases e
  have keepD : ∀ {b : Addr} {o : Obj} {es : Array DictEntry} {ep : Nat}, s₁.heap.get? b = some o → o.data = .dict es ep → Hs b = none := by
    intro b o es ep e d
    cases q : Hs b with
    | none => rfl
    | some u =>
      obtain ⟨rfl, _, _⟩ := Hs_some q
      rw [at_a] at e; cases e
      exact absurd d (by intro z; cases z)
  have ns_of : ∀ {b : Addr} {m : Str → Option Value}, s₁.heap.Ns b m → (hidT s₁.heap Hs).Ns b m := by
    rintro b m ⟨o, es, ep, e, d, r⟩
    exact ⟨o, es, ep, hidT_get e (keepD e d), d, r⟩
  have kb : K.In (hidT s₁.heap Hs) := fun b o e => hidT_get (inK b o e) (keepK e)
  have md : Mod K mg (hidT s₁.heap Hs) := by
    obtain ⟨mc, l1, l2⟩ := nl
    exact ⟨kb, ns_of nm, ⟨mb, ns_of nb, bb⟩, ⟨mc, ns_of l1, l2⟩⟩
  have env0 : Env0 P w K mg (hidT s₁.heap Hs) callerA [] s₁ Hs :=
    ⟨rfl, md, fun b o => of_hidT, Nat.le_of_eq (hidT_size _ _), trivial, (fun b hb => nomatch hb), hok, .of_eq ng⟩
  refine codeAny_mono ((G _ kb (ns_of nm)).goes callerA [] s₁ Hs ⟨[.ref a], []⟩ [.ref a] [.ref a] _ _ room rfl env0 (bind s₁ (.ref a)) (.cons rfl .nil) (hs Hs sq)) ?_
  rintro (e | fl) s' z
  · exact False.elim z
  cases fl with
  | next => exact False.elim z
  | brk => exact False.elim z
  | cont => exact False.elim z
  | ret u =>
    obtain ⟨v, H', os, bare, un, hok', rv, q⟩ := z
    have q : v = .bl true := q
    subst q
    obtain rfl : u = Value.bool true := rv
    refine ⟨rfl, .of_keep ?_, os, bare⟩
    intro b o e
    cases q : Hs b with
    | none => exact un.keep b o e q (fun z => nomatch z) (fun z => nomatch z)
    | some u =>
      obtain ⟨rfl, _, rfl⟩ := Hs_some q
      obtain ⟨e2, _⟩ := hok' _ _ (un.frzs _ _ _ q)
      rw [at_a] at e; cases e
      exact e2
theorem walk_goes {l : PySem.W.OpenLaw} {n k : Nat} {q : Program} {loose : List Str} {XP : (Str → Option Value) → Heap → Prop} {YP : World → Heap → Prop} {d : DefRec} {K : Params → PySem.W.Frag} {sp : PySem.W.Frag → Sp} {x : Str}
    (hn : l.most = some n) (hn2 : n ≤ sizeLine) (hdf : d.params.defaults = []) (hr : Room k callerA) (hY : ∀ (w : World) (h : Heap), YP w h → (K w.params).In h)
    (G : ∀ (w : World) (mg : Str → Option Value) (fa : Addr) (h : Heap), (K w.params).In h → h.Ns mainGlobals mg → mg d.name = some (.ref fa) →
      ∃ fd : FuncData, (∀ (s : Shared) (u : Value), BindsTo s fd ⟨[u], []⟩ [(x, u)]) ∧ ∀ base : Heap, (K w.params).In base → base.Ns mainGlobals mg → FnG l.prog w (K w.params) mg base CX0 k fa fd [x] (sp (K w.params)))
    (hsp : ∀ (K : PySem.W.Frag) (H : Hp) (a : Addr) (ns : List Int), ns.length ≤ n → SqL K H a (ns.map V.int) → sp K [.ref a] H (fun v _ => v = .bl true) fun _ _ _ => False) :
    PySem.W.WalkO q loose XP YP l.row.toRowW d [] (fun f vs => PySem.call f vs) := by
  apply Att.attach_call hn hdf
  intro w s₀ s₁ mg mb fa o pm cd doc a vs ns Gr Y ho hd hcd hmg hobj hints hlen hg
  have inK := hY w _ Y
  obtain ⟨fd, hb, hF⟩ := G w mg fa _ inK Gr.T.g hmg
  exact law_goes inK Gr.T.g Gr.T.b Gr.T.builtins Gr.T.nolimit hg hobj hints (Nat.le_trans hlen hn2) hr hF hb fun H => hsp _ H a ns hlen
end DV
namespace DV
open PySem PySem.Spec PyProof.Rows L2
open LamX (ExtN TabS Tabs CodeO)
section
variable {X : Cx} {F : Fm} {a b c e : Expr} {es : List Expr} {ta tb tc te : TE} {da db dc de : TDE} {pos : Pos} {t : TA} {d : TDA} {tt tu : TT} {dt du : TDT}
def dTV (te : TDE) : TDT := fun ρ Q => te ρ fun r ρ1 => match val ρ1 r with
  | some (.bool k) => Q k ρ1
  | _ => False
theorem dt_tv {k : TE → TT} (hk : ∀ te, k te = fun σ H Q => te σ H fun x H1 => ∃ c, x = .bl c ∧ Q c H1) (h : DE F te de) : DT F (k te) (dTV de) := by
  rw [hk]
  constructor
  · intro pins ρ σ H Q O hq
    refine h.run pins ρ σ H _ O (h.mono _ _ _ (fun r ρ1 h1 v H1 O1 R1 => ?_) hq)
    split at h1
    · rename_i k e
      cases dp_bool (val_dp O1 R1 e)
      exact ⟨k, rfl, h1 H1 O1⟩
    · exact h1.elim
  · intro ρ Q Q' hq hh
    refine h.mono _ _ _ (fun r ρ1 h1 => ?_) hh
    show match val ρ1 r with
      | some (.bool k) => Q' k ρ1
      | _ => False
    split at h1
    · rename_i k e
      exact hq _ _ h1
    · exact h1.elim
theorem pt_v (h : PD X F e te de) (he : ∀ whole, isTrue e X.env whole = (do let v ← whole; standAt e.pos; holding [v] (truthy v)) := by intro _; rfl) : PDT X F e (tB te) (dTV de) := ⟨pt_val h.pe he, dt_tv (k := tB) (fun _ => rfl) h.de⟩
def dNot (t : TDT) : TDT := fun ρ Q => t ρ fun k ρ1 => Q (!k) ρ1
theorem pt_no (h : PDT X F a tt dt) : PDT X F (.UnaryOp .Not a pos) (tNot tt) (dNot dt) :=
  ⟨pt_not h.pt, fun pins ρ σ H Q O hq => h.dt.run pins ρ σ H _ O (h.dt.mono _ _ _ (fun k ρ1 h1 H1 O1 => h1 H1 O1) hq), fun ρ Q Q' hq hh => h.dt.mono _ _ _ (fun k ρ1 h1 => hq _ _ h1) hh⟩
def dAnd (t u : TDT) : TDT := fun ρ Q => t ρ fun k ρ1 => if k = true then u ρ1 Q else Q false ρ1
def dOr (t u : TDT) : TDT := fun ρ Q => t ρ fun k ρ1 => if k = true then Q true ρ1 else u ρ1 Q
theorem dt_and (h1 : DT F tt dt) (h2 : DT F tu du) : DT F (tAnd tt tu) (dAnd dt du) := by
  constructor
  · intro pins ρ σ H Q O hq
    refine h1.run pins ρ σ H _ O (h1.mono _ _ _ (fun k ρ1 h3 H1 O1 => ?_) hq)
    cases k with
    | true => exact h2.run pins ρ1 σ H1 Q O1 h3
    | false => exact h3 H1 O1
  · intro ρ Q Q' hq hh
    refine h1.mono _ _ _ (fun k ρ1 h3 => ?_) hh
    cases k with
    | true => exact h2.mono _ _ _ hq h3
    | false => exact hq _ _ h3
theorem dt_or (h1 : DT F tt dt) (h2 : DT F tu du) : DT F (tOr tt tu) (dOr dt du) := by
  constructor
  · intro pins ρ σ H Q O hq
    refine h1.run pins ρ σ H _ O (h1.mono _ _ _ (fun k ρ1 h3 H1 O1 => ?_) hq)
    cases k with
    | false => exact h2.run pins ρ1 σ H1 Q O1 h3
    | true => exact h3 H1 O1
  · intro ρ Q Q' hq hh
    refine h1.mono _ _ _ (fun k ρ1 h3 => ?_) hh
    cases k with
    | false => exact h2.mono _ _ _ hq h3
    | true => exact hq _ _ h3
theorem pwd_and1 (h : PDT X F a tt dt) : PDW X F (.BoolOp .And [a] pos) tt dt := ⟨pw_and1 h.pt, h.dt⟩
theorem pwd_or1 (h : PDT X F a tt dt) : PDW X F (.BoolOp .Or [a] pos) tt dt := ⟨pw_or1 h.pt, h.dt⟩
theorem pwd_and {rest : List Expr} (h : PDT X F a tt dt) (k : PDW X F (.BoolOp .And (b :: rest) pos) tu du) : PDW X F (.BoolOp .And (a :: b :: rest) pos) (tAnd tt tu) (dAnd dt du) := ⟨pw_and h.pt k.pw, dt_and h.dt k.dt⟩
theorem pwd_or {rest : List Expr} (h : PDT X F a tt dt) (k : PDW X F (.BoolOp .Or (b :: rest) pos) tu du) : PDW X F (.BoolOp .Or (a :: b :: rest) pos) (tOr tt tu) (dOr dt du) := ⟨pw_or h.pt k.pw, dt_or h.dt k.dt⟩
theorem pt_w (h : PDW X F e tt dt) : PDT X F e tt dt := ⟨h.pw.pt, h.dt⟩
/-- and, or, not as values: truths -/
def dAndV (ta tb : TDE) : TDE := fun ρ Q => ta ρ fun r ρ1 => match val ρ1 r with
  | some (.bool k) => if k = true then tb ρ1 Q else Q (.d (.bool false)) ρ1
  | _ => False
def dOrV (ta tb : TDE) : TDE := fun ρ Q => ta ρ fun r ρ1 => match val ρ1 r with
  | some (.bool k) => if k = true then Q (.d (.bool true)) ρ1 else tb ρ1 Q
  | _ => False
def dNotV (ta : TDE) : TDE := fun ρ Q => ta ρ fun r ρ1 => match val ρ1 r with
  | some (.bool k) => Q (.d (.bool !k)) ρ1
  | _ => False
theorem pdn_one {op : BoolOp} (h : PD X F a ta da) : PD X F (.BoolOp op [a] pos) ta da := ⟨pe_one h.pe, h.de⟩
theorem pd_and {rest : List Expr} (ha : PD X F a ta da) (hb : PD X F (.BoolOp .And (b :: rest) pos) tb db) : PD X F (.BoolOp .And (a :: b :: rest) pos) (L2.tAndV ta tb) (dAndV da db) := by
  refine ⟨pe_and ha.pe hb.pe, ?_, ?_⟩
  · intro pins ρ σ H Q O hq
    refine ha.de.run pins ρ σ H _ O (ha.de.mono _ _ _ (fun r ρ1 h1 v H1 O1 R1 => ?_) hq)
    split at h1
    · rename_i k e
      cases dp_bool (val_dp O1 R1 e)
      refine ⟨k, rfl, ?_⟩
      cases k with
      | true => exact hb.de.run pins ρ1 σ H1 Q O1 h1
      | false => exact h1 _ H1 O1 (.sc .bool)
    · exact h1.elim
  · intro ρ Q Q' hq hh
    refine ha.de.mono _ _ _ (fun r ρ1 h1 => ?_) hh
    revert h1
    split
    · rename_i k e
      cases k with
      | true => exact fun h1 => hb.de.mono _ _ _ hq h1
      | false => exact fun h1 => hq _ _ h1
    · exact fun h1 => h1
def dIfE (t : TDT) (ta tb : TDE) : TDE := fun ρ Q => t ρ fun k ρ1 => if k = true then ta ρ1 Q else tb ρ1 Q
theorem pd_ifExp (hc : PDT X F c tt dt) (ha : PD X F a ta da) (hb : PD X F b tb db) : PD X F (.IfExp c a b pos) (tIf tt ta tb) (dIfE dt da db) := by
  refine ⟨pe_ifExp hc.pt ha.pe hb.pe, ?_, ?_⟩
  · intro pins ρ σ H Q O hq
    refine hc.dt.run pins ρ σ H _ O (hc.dt.mono _ _ _ (fun k ρ1 h1 H1 O1 => ?_) hq)
    cases k with
    | true => exact ha.de.run pins ρ1 σ H1 Q O1 h1
    | false => exact hb.de.run pins ρ1 σ H1 Q O1 h1
  · intro ρ Q Q' hq hh
    refine hc.dt.mono _ _ _ (fun k ρ1 h1 => ?_) hh
    cases k with
    | true => exact ha.de.mono _ _ _ hq h1
    | false => exact hb.de.mono _ _ _ hq h1
end
structure Rel (F : Fm) (pins : List Pin) (D : Ends) (DD : DEnds) : Prop where
  nx : ∀ ρ σ H, Ok F pins ρ σ H → DD.nx ρ → D.nx σ H
  rt : ∀ ρ σ H v r, Ok F pins ρ σ H → ROk F (Av F pins ρ σ) ρ σ H r v → DD.rt r ρ → D.rt v H
  bk : ∀ ρ σ H, Ok F pins ρ σ H → DD.bk ρ → D.bk σ H
  ct : ∀ ρ σ H, Ok F pins ρ σ H → DD.ct ρ → D.ct σ H
  rl : ∀ ρ σ H p xs, Ok F (.acc p xs :: pins) ρ σ H → DD.rl xs ρ → D.rt (.ref p) H
def DS (F : Fm) (ts : TS) (tds : TDS) : Prop := ∀ (pins : List Pin) (ρ : Rho) (σ : L2.St) (H : Hp) (D : Ends) (DD : DEnds), Ok F pins ρ σ H → SPn F pins → Rel F pins D DD → tds DD ρ → ts D σ H
structure PDS (X : Cx) (F : Fm) (st : Stmt) (ts : TS) (tds : TDS) : Prop where
  ps : PS X st ts
  ds : DS F ts tds
structure PDSs (X : Cx) (F : Fm) (st : List Stmt) (ts : TS) (tds : TDS) : Prop where
  pss : PSs X st ts
  ds : DS F ts tds
section
variable {X : Cx} {F : Fm} {a b c e : Expr} {es : List Expr} {ta tb tc te : TE} {da db dc de : TDE} {pos : Pos} {t : TA} {d : TDA} {tt tu : TT} {dt du : TDT} {st : Stmt} {rest sts : List Stmt} {ts us : TS} {ds dus : TDS}
def dNext : TDS := fun DD ρ => DD.nx ρ
def dSeq (t u : TDS) : TDS := fun DD ρ => t { DD with nx := u DD } ρ
theorem dss_nil : PDSs X F [] tNext dNext := ⟨pss_nil, fun pins ρ σ H D DD O S R h => R.nx ρ σ H O h⟩
theorem dss_cons (h1 : PDS X F st ts ds) (h2 : PDSs X F rest us dus) : PDSs X F (st :: rest) (tSeq ts us) (dSeq ds dus) :=
  ⟨pss_cons h1.ps h2.pss, fun pins ρ σ H D DD O S R h => h1.ds pins ρ σ H { D with nx := us D } { DD with nx := dus DD } O S
    ⟨fun ρ1 σ1 H1 O1 q => h2.ds pins ρ1 σ1 H1 D DD O1 S R q, R.rt, R.bk, R.ct, R.rl⟩ h⟩
theorem dss_one (h1 : PDS X F st ts ds) : PDSs X F [st] ts ds := ⟨pss_one h1.ps, h1.ds⟩
def dBreak : TDS := fun DD ρ => DD.bk ρ
def dCont : TDS := fun DD ρ => DD.ct ρ
def dDrop (te : TDE) : TDS := fun DD ρ => te ρ fun _ ρ1 => DD.nx ρ1
theorem ds_expr (he : PD X F e te de) (hs : swapsWith e none pos.line X.env = pure false := by rfl) : PDS X F (.Expr e pos) (tDrop te) (dDrop de) :=
  ⟨ps_expr he.pe hs, fun pins ρ σ H D DD O S R h => he.de.run pins ρ σ H _ O (he.de.mono _ _ _ (fun r ρ1 h1 v H1 O1 _ => R.nx ρ1 σ H1 O1 h1) h)⟩
def dRet (te : TDE) : TDS := fun DD ρ => te ρ DD.rt
theorem ds_ret (he : PD X F e te de) : PDS X F (.Return (some e) pos) (tRet te) (dRet de) :=
  ⟨ps_ret he.pe, fun pins ρ σ H D DD O S R h => he.de.run pins ρ σ H _ O (he.de.mono _ _ _ (fun r ρ1 h1 v H1 O1 R1 => R.rt ρ1 σ H1 v r O1 R1 h1) h)⟩
def dRetN : TDS := fun DD ρ => DD.rt (.d .none) ρ
def dIfS (c : TDT) (t u : TDS) : TDS := fun DD ρ => c ρ fun k ρ1 => if k = true then t DD ρ1 else u DD ρ1
theorem ds_if {c : Expr} {x y : List Stmt} (hc : PDT X F c tt dt) (h1 : PDSs X F x ts ds) (h2 : PDSs X F y us dus) : PDS X F (.If c x y pos) (tIfS tt ts us) (dIfS dt ds dus) := by
  refine ⟨ps_if hc.pt h1.pss h2.pss, fun pins ρ σ H D DD O S R h => ?_⟩
  refine hc.dt.run pins ρ σ H _ O (hc.dt.mono _ _ _ (fun k ρ1 h3 H1 O1 => ?_) h)
  cases k with
  | true => exact h1.ds pins ρ1 σ H1 D DD O1 S R h3
  | false => exact h2.ds pins ρ1 σ H1 D DD O1 S R h3
def setR (i : Nat) (r : R) (ρ : Rho) (k : Rho → Prop) : Prop := match r with
  | .d x => k (ρ.set i (some (.d x)))
  | .raw v => k (ρ.set i (some (.raw v)))
  | .o j => match ρ[j]? with
    | some (some (.ro x)) => k (ρ.set i (some (.ro x)))
    | _ => False
def SameOut (σ σ' : L2.St) (sl : List Nat) : Prop := ∀ vs : List Nat, (∀ i ∈ sl, i ∈ vs) → wipe σ' vs = wipe σ vs
abbrev TDGt := R → Rho → (Rho → Prop) → Prop
structure DG (F : Fm) (g : TG) (dg : TDGt) (sl : List Nat) : Prop where
  run : ∀ (pins : List Pin) (ρ : Rho) (σ : L2.St) (H : Hp) (v : V) (r : R) (Q : L2.St → Hp → Prop) (P : Rho → Prop), Ok F pins ρ σ H → (∀ i ∈ sl, Fr pins i) → ROk F (Av F pins ρ σ) ρ σ H r v → dg r ρ P →
    (∀ ρ' σ' H', Ok F pins ρ' σ' H' → SameOut σ σ' sl → P ρ' → Q σ' H') → g v σ H Q
  mono : ∀ r ρ P P', (∀ ρ', P ρ' → P' ρ') → dg r ρ P → dg r ρ P'
theorem wipe_out1 {σ : L2.St} {i : Nat} {u : Option V} : ∀ {vs : List Nat}, i ∈ vs → wipe (σ.set i u) vs = wipe σ vs
  | j :: r, h => by
    show (wipe (σ.set i u) r).set j none = (wipe σ r).set j none
    by_cases hr : i ∈ r
    · rw [wipe_out1 hr]
    · have e : i = j := by
        rcases List.mem_cons.mp h with z | z
        · exact z
        · exact absurd z hr
      subst e
      have : ∀ (vs : List Nat) (σ : L2.St), i ∉ vs → wipe (σ.set i u) vs = (wipe σ vs).set i u := fun vs => by
        induction vs with
        | nil => intro σ _; rfl
        | cons k ks ih =>
          intro σ hn
          show (wipe (σ.set i u) ks).set k none = ((wipe σ ks).set k none).set i u
          rw [ih σ (fun z => hn (List.mem_cons_of_mem _ z)), List.set_comm _ _ (fun z => hn (by rw [z]; exact List.mem_cons_self ..))]
      rw [this r σ hr, List.set_set]
theorem dg_name (i : Nat) : DG F (gName i) (setR i) [i] := by
  constructor
  · intro pins ρ σ H v r Q P O hf Rv h k
    have so : SameOut σ (σ.set i (some v)) [i] := fun vs hv => wipe_out1 (hv i (List.mem_singleton.mpr rfl))
    have hi := hf i (List.mem_singleton.mpr rfl)
    cases r with
    | d x => exact k _ _ _ (O.put hi (fun _ z => by cases z; exact id) fun f e => by cases e; exact ⟨v, rfl, Rv⟩) so h
    | raw u => exact k _ _ _ (O.put hi (fun _ z => by cases z; exact id) fun f e => by cases e; exact ⟨v, rfl, Rv⟩) so h
    | o j =>
      unfold setR at h
      dsimp only at h
      split at h
      · rename_i x e
        obtain ⟨u, h1, h2⟩ := O.ent j _ e
        have h3 := Rv.1
        rw [h1] at h3; cases h3
        exact k _ _ _ (O.put hi (fun _ z => by cases z; exact id) fun f e => by cases e; exact ⟨_, rfl, h2⟩) so h
      · exact h.elim
  · intro r ρ P P' hp h
    cases r with
    | d x => exact hp _ h
    | raw v => exact hp _ h
    | o j =>
      unfold setR at h ⊢
      dsimp only at h ⊢
      split at h
      · exact hp _ h
      · exact h.elim
structure DGs (F : Fm) (g : TGs) (dg : List PyData → Rho → (Rho → Prop) → Prop) (sl : List Nat) : Prop where
  run : ∀ (pins : List Pin) (ρ : Rho) (σ : L2.St) (H : Hp) (vs : List V) (xs : List PyData) (Q : L2.St → Hp → Prop) (P : Rho → Prop), Ok F pins ρ σ H → (∀ i ∈ sl, Fr pins i) → ImAll F.K (Av F pins ρ σ) H xs vs → dg xs ρ P →
    (∀ ρ' σ' H', Ok F pins ρ' σ' H' → SameOut σ σ' sl → P ρ' → Q σ' H') → g vs σ H Q
  mono : ∀ xs ρ P P', (∀ ρ', P ρ' → P' ρ') → dg xs ρ P → dg xs ρ P'
def dgNil : List PyData → Rho → (Rho → Prop) → Prop
  | [], ρ, P => P ρ
  | _, _, _ => False
def dgCons (g : TDGt) (gs : List PyData → Rho → (Rho → Prop) → Prop) : List PyData → Rho → (Rho → Prop) → Prop
  | x :: xs, ρ, P => g (.d x) ρ fun ρ' => gs xs ρ' P
  | _, _, _ => False
theorem dgs_nil : DGs F gNil dgNil [] := by
  constructor
  · intro pins ρ σ H vs xs Q P O hf hv h k
    cases xs with
    | nil => simp only [ImAll] at hv; exact ⟨hv, k ρ σ H O (fun _ _ => rfl) h⟩
    | cons x xs => exact h.elim
  · intro xs ρ P P' hp h
    cases xs with
    | nil => exact hp _ h
    | cons x xs => exact h.elim
def pinsOf : List V → List PyData → List Pin
  | v :: vs, x :: xs => .val v (.d x) :: pinsOf vs xs
  | _, _ => []
theorem Ok.pushAll {pins : List Pin} {ρ : Rho} {σ : L2.St} {H : Hp} (O : Ok F pins ρ σ H) : ∀ {xs : List PyData} {vs : List V}, ImAll F.K (Av F pins ρ σ) H xs vs → Ok F (pinsOf vs xs ++ pins) ρ σ H ∧ Av F (pinsOf vs xs ++ pins) ρ σ = Av F pins ρ σ
  | [], vs, h => by simp only [ImAll] at h; subst h; exact ⟨O, rfl⟩
  | x :: xs, vs, h => by
    simp only [ImAll] at h
    obtain ⟨v, us, rfl, h1, h2⟩ := h
    obtain ⟨O1, e⟩ := O.pushAll h2
    exact ⟨O1.push (v := v) (r := .d x) (by rw [e]; exact h1), e⟩
theorem Ok.popAll {pins : List Pin} {ρ : Rho} {σ : L2.St} {H : Hp} : ∀ {xs : List PyData} {vs : List V}, vs.length = xs.length → Ok F (pinsOf vs xs ++ pins) ρ σ H → Ok F pins ρ σ H ∧ Av F (pinsOf vs xs ++ pins) ρ σ = Av F pins ρ σ ∧ ImAll F.K (Av F pins ρ σ) H xs vs
  | [], [], _, O => ⟨O, rfl, .nil⟩
  | x :: xs, [], h, _ => by cases h
  | [], v :: vs, h, _ => by cases h
  | x :: xs, v :: vs, h, O => by
    obtain ⟨O1, r1⟩ := Ok.popV (show Ok F (.val v (.d x) :: (pinsOf vs xs ++ pins)) ρ σ H from O)
    obtain ⟨O2, e, r2⟩ := Ok.popAll (by simpa using h) O1
    have r1 : Im F.K (Av F (pinsOf vs xs ++ pins) ρ σ) H x v := r1
    rw [e] at r1
    exact ⟨O2, e, .cons r1 r2⟩
theorem fr_pinsOf {pins : List Pin} {i : Nat} (h : Fr pins i) : ∀ (vs : List V) (xs : List PyData), Fr (pinsOf vs xs ++ pins) i
  | [], _ => h
  | v :: vs, [] => h
  | v :: vs, x :: xs => fun u j hp => by
    rcases List.mem_cons.mp (show Pin.val u (.o j) ∈ Pin.val v (.d x) :: (pinsOf vs xs ++ pins) from hp) with z | z
    · cases z
    · exact fr_pinsOf h vs xs u j z
theorem SameOut.trans {σ σ1 σ2 : L2.St} {s t : List Nat} (h : SameOut σ σ1 s) (k : SameOut σ1 σ2 t) : SameOut σ σ2 (s ++ t) := fun vs hv =>
  (k vs fun i hi => hv i (List.mem_append_right _ hi)).trans (h vs fun i hi => hv i (List.mem_append_left _ hi))
theorem dgs_cons {g : TG} {dg : TDGt} {s t : List Nat} {gs : TGs} {dgs : List PyData → Rho → (Rho → Prop) → Prop} (h1 : DG F g dg s) (h2 : DGs F gs dgs t) : DGs F (gCons g gs) (dgCons dg dgs) (s ++ t) := by
  constructor
  · intro pins ρ σ H vs xs Q P O hf hv h k
    cases xs with
    | nil => exact h.elim
    | cons x xs =>
      simp only [ImAll] at hv
      obtain ⟨v, us, rfl, h3, h4⟩ := hv
      obtain ⟨O1, e1⟩ := O.pushAll h4
      refine ⟨v, us, rfl, h1.run (pinsOf us xs ++ pins) ρ σ H v (.d x) _ _ O1 (fun i hi => fr_pinsOf (hf i (List.mem_append_left _ hi)) us xs) (by rw [e1]; exact h3) h fun ρ' σ' H' O2 so q => ?_⟩
      obtain ⟨O3, _, r3⟩ := Ok.popAll h4.length O2
      exact h2.run pins ρ' σ' H' us xs Q P O3 (fun i hi => hf i (List.mem_append_right _ hi)) r3 q fun ρ2 σ2 H2 O4 so2 q2 => k ρ2 σ2 H2 O4 (so.trans so2) q2
  · intro xs ρ P P' hp h
    cases xs with
    | nil => exact h.elim
    | cons x xs => exact h1.mono _ _ _ _ (fun ρ' q => h2.mono _ _ _ _ hp q) h
def dgTup (n : Nat) (gs : List PyData → Rho → (Rho → Prop) → Prop) : TDGt := fun r ρ P => match r with
  | .d (.tuple xs) => xs.length = n ∧ gs xs ρ P
  | _ => False
theorem dg_tup {n : Nat} {gs : TGs} {dgs : List PyData → Rho → (Rho → Prop) → Prop} {s : List Nat} (h : DGs F gs dgs s) : DG F (gTup F.K n gs) (dgTup n dgs) s := by
  constructor
  · intro pins ρ σ H v r Q P O hf Rv hd k
    unfold dgTup at hd
    split at hd
    · rename_i xs
      have Rv : Im F.K (Av F pins ρ σ) H (.tuple xs) v := Rv
      simp only [Im] at Rv
      obtain ⟨a, vs, rfl, l, im⟩ := Rv
      exact ⟨a, vs, rfl, l.sq, by rw [im.length]; exact hd.1, h.run pins ρ σ H vs xs Q P O hf im hd.2 k⟩
    · exact hd.elim
  · intro r ρ P P' hp hd
    unfold dgTup at hd ⊢
    split at hd
    · exact ⟨hd.1, h.mono _ _ _ _ hp hd.2⟩
    · exact hd.elim
structure PDG (X : Cx) (F : Fm) (tg : Expr) (g : TG) (dg : TDGt) (sl : List Nat) : Prop where
  pg : PG X tg g
  dg : DG F g dg sl
structure PDGs (X : Cx) (F : Fm) (tgs : List Expr) (g : TGs) (dg : List PyData → Rho → (Rho → Prop) → Prop) (sl : List Nat) : Prop where
  pgs : PGs X tgs g
  dgs : DGs F g dg sl
theorem pgd_name {i : Nat} {x : Str} (hN : X.N.Nodup) (hi : X.N[i]? = some x := by rfl) (hx : Loc X.env.scope x := by first | exact Or.inl rfl | exact Or.inr rfl) (hf : X.fn x = true ∨ X.env.scope.names.lookup x = some .local := by first | exact .inl rfl | exact .inr rfl) : PDG X F (.Name x pos) (gName i) (setR i) [i] := ⟨pg_name hN hi hx hf, dg_name i⟩
theorem pgds_nil : PDGs X F [] gNil dgNil [] := ⟨pgs_nil, dgs_nil⟩
end
end DV
namespace DV
open PySem PySem.Spec PyProof.Rows L2
open LamX (ExtN TabS Tabs CodeO)
section
variable {X : Cx} {F : Fm} {a b c e : Expr} {es : List Expr} {ta tb tc te : TE} {da db dc de : TDE} {dl : TDL} {pos : Pos} {t : TA} {d : TDA} {tt tu : TT} {dt du : TDT} {st : Stmt} {rest sts : List Stmt} {ts us : TS} {ds dus : TDS}
theorem pgds_cons {tg : Expr} {tgs : List Expr} {g : TG} {dg : TDGt} {s u : List Nat} {gs : TGs} {dgs : List PyData → Rho → (Rho → Prop) → Prop} (h1 : PDG X F tg g dg s) (h2 : PDGs X F tgs gs dgs u)
    (hs : (assignEach (tg :: tgs) X.env).map (·.2) = assign tg X.env :: (assignEach tgs X.env).map (·.2) := by rfl) : PDGs X F (tg :: tgs) (gCons g gs) (dgCons dg dgs) (s ++ u) := ⟨pgs_cons h1.pg h2.pgs hs, dgs_cons h1.dg h2.dgs⟩
theorem pgd_tup {tgs : List Expr} {k n : Nat} {gs : TGs} {dgs : List PyData → Rho → (Rho → Prop) → Prop} {s : List Nat} (hc : X.calm = true) (h : PDGs X F tgs gs dgs s) (hK : X.K = F.K := by rfl)
    (hn : (assignEach tgs X.env).length = n := by rfl) (hst : (assignEach tgs X.env).findIdx? (·.1) = none := by rfl) : PDG X F (.Tuple tgs k pos) (gTup F.K n gs) (dgTup n dgs) s := by
  refine ⟨?_, dg_tup h.dgs⟩
  have := pg_tup (pos := pos) (k := k) hc h.pgs hn hst
  rw [hK] at this
  exact this
def dAsg (te : TDE) (dg : TDGt) : TDS := fun DD ρ => te ρ fun r ρ1 => dg r ρ1 DD.nx
theorem dsa {g : TG} {dg : TDGt} {s : List Nat} (he : DE F te de) (hg : DG F g dg s) (hf : ∀ i ∈ s, ¬ F.fix i) : DS F (tAsg te g) (dAsg de dg) := fun pins ρ σ H D DD O S R h =>
  he.run pins ρ σ H _ O (he.mono _ _ _ (fun r ρ1 h1 v H1 O1 R1 => hg.run pins ρ1 σ H1 v r _ _ O1 (fun i hi => S.fr (hf i hi)) R1 h1 fun ρ2 σ2 H2 O2 _ q => R.nx ρ2 σ2 H2 O2 q) h)
theorem ds_asg {tg : Expr} {g : TG} {dg : TDGt} {s : List Nat} (he : PD X F e te de) (hg : PDG X F tg g dg s) (hf : ∀ i ∈ s, ¬ F.fix i) (hs : swapsWithSole [tg] e pos.line X.env = pure false := by rfl) (hw : swappedStores [tg] e X.env = pure none := by rfl)
    (h1 : (assignEach [tg] X.env).map (·.2) = [assign tg X.env] := by rfl) : PDS X F (.Assign [tg] e pos) (tAsg te g) (dAsg de dg) := ⟨ps_asg he.pe hg.pg hs hw h1, dsa he.de hg.dg hf⟩
theorem ds_set {i : Nat} {x : Str} {pos' : Pos} (hN : X.N.Nodup) (he : PD X F e te de) (hf : ¬ F.fix i) (hi : X.N[i]? = some x := by rfl) (hx : Loc X.env.scope x := by first | exact Or.inl rfl | exact Or.inr rfl) (hs : swapsWith e (some (.Name x pos')) pos.line X.env = pure false := by rfl) (hfn : X.fn x = true ∨ X.env.scope.names.lookup x = some .local := by first | exact .inl rfl | exact .inr rfl) :
    PDS X F (.Assign [.Name x pos'] e pos) (tAsg te (gName i)) (dAsg de (setR i)) := ⟨ps_set hN hi hx he.pe hs hfn, dsa he.de (dg_name i) fun j hj => by rw [List.mem_singleton.mp hj]; exact hf⟩
/-- x = a new list that is changed later -/
def dSetL (i : Nat) (tl : TDL) : TDS := fun DD ρ => tl ρ fun xs ρ1 => DD.nx (ρ1.set i (some (.own xs)))
theorem dsl {i : Nat} (he : DL F te dl) (hf : ¬ F.fix i) : DS F (tAsg te (gName i)) (dSetL i dl) := fun pins ρ σ H D DD O S R h =>
  he.run pins ρ σ H _ O (he.mono _ _ _ (fun xs ρ1 h1 p H1 O1 => R.nx _ _ H1 (O1.putL (S.fr hf)) h1) h)
theorem ds_setL {i : Nat} {x : Str} {pos' : Pos} (hN : X.N.Nodup) (he : PDL X F e te dl) (hf : ¬ F.fix i) (hi : X.N[i]? = some x := by rfl) (hx : Loc X.env.scope x := by first | exact Or.inl rfl | exact Or.inr rfl) (hs : swapsWith e (some (.Name x pos')) pos.line X.env = pure false := by rfl) (hfn : X.fn x = true ∨ X.env.scope.names.lookup x = some .local := by first | exact .inl rfl | exact .inr rfl) :
    PDS X F (.Assign [.Name x pos'] e pos) (tAsg te (gName i)) (dSetL i dl) := ⟨ps_set hN hi hx he.pe hs hfn, dsl he.dl hf⟩
def noO : R → Prop
  | .o _ => False
  | _ => True
/-- x, y = e, e' with plain locals -/
def dPar (i j : Nat) (t : TDA) : TDS := fun DD ρ => t ρ fun rs ρ1 => match rs with
  | [r, s] => noO s ∧ setR i r ρ1 fun ρ2 => setR j s ρ2 DD.nx
  | _ => False
theorem ds_par {i j : Nat} {x y : Str} {px py pt : Pos} {pt2 : Pos} {kt' k2'} (hc : X.calm = true) (hN : X.N.Nodup) (ha : PDA X F [a, b] t d) (hfi : ¬ F.fix i) (hfj : ¬ F.fix j) (hij : i ≠ j := by decide) (hi : X.N[i]? = some x := by rfl) (hj : X.N[j]? = some y := by rfl)
    (hx : X.env.scope.names.lookup x = some .local := by rfl) (hy : X.env.scope.names.lookup y = some .local := by rfl)
    (hw : swappedStores [.Tuple [.Name x px, .Name y py] kt' pt] (.Tuple [a, b] k2' pt2) X.env = pure (some [x, y]) := by rfl)
    (hs : swapsWithSole [.Tuple [.Name x px, .Name y py] kt' pt] (.Tuple [a, b] k2' pt2) pos.line X.env = pure false := by rfl) :
    PDS X F (.Assign [.Tuple [.Name x px, .Name y py] kt' pt] (.Tuple [a, b] k2' pt2) pos) (tPar i j t) (dPar i j d) := by
  refine ⟨ps_par hc hN hi hj hij hx hy ha.pa hw hs, fun pins ρ σ H D DD O S R h => ?_⟩
  refine ha.da.run pins ρ σ H _ O (ha.da.mono _ _ _ (fun rs ρ1 h1 vs H1 O1 R1 => ?_) h)
  split at h1
  · rename_i r s
    simp only [ROks] at R1
    obtain ⟨v, us, rfl, r1, w, us2, rfl, r2, rfl⟩ := R1
    refine ⟨v, w, rfl, ?_⟩
    have O2 := O1.push r2
    have g1 : gName i v σ H1 fun σ2 H2 => gName j w σ2 H2 fun σ3 H3 => D.nx σ3 H3 := by
      refine (dg_name (F := F) i).run (.val w s :: pins) ρ1 σ H1 v r _ _ O2 (fun k hk => ?_) (by exact r1) h1.2 fun ρ2 σ2 H2 O3 _ q => ?_
      · rw [List.mem_singleton.mp hk]
        intro u l hp
        rcases List.mem_cons.mp hp with z | z
        · cases z
          exact h1.1.elim
        · exact S.fr hfi u l z
      · obtain ⟨O4, r3⟩ := O3.popV
        exact (dg_name (F := F) j).run pins ρ2 σ2 H2 w s _ _ O4 (fun k hk => by rw [List.mem_singleton.mp hk]; exact S.fr hfj) r3 q fun ρ4 σ4 H4 O5 _ q2 => R.nx _ _ _ O5 q2
    exact g1
  · exact h1.elim
/-- the own list that stands in slot i -/
def onOwn (ρ : Rho) (i : Nat) (f : List PyData → Prop) : Prop := match ρ[i]? with
  | some (some (.own xs)) => f xs
  | _ => False
theorem onOwn_of {ρ : Rho} {i : Nat} {f : List PyData → Prop} (h : onOwn ρ i f) : ∃ xs, ρ[i]? = some (some (.own xs)) ∧ f xs := by
  unfold onOwn at h
  split at h
  · exact ⟨_, by assumption, h⟩
  · exact h.elim
theorem onOwn_mono {ρ : Rho} {i : Nat} {f g : List PyData → Prop} (h : onOwn ρ i f) (k : ∀ x, f x → g x) : onOwn ρ i g := by
  unfold onOwn at h ⊢
  split at h
  · exact k _ h
  · exact h.elim
/-- a datum -/
def onDat (r : R) (f : PyData → Prop) : Prop := match r with
  | .d x => f x
  | _ => False
theorem Ok.ownGet {pins : List Pin} {ρ : Rho} {σ : L2.St} {H : Hp} (O : Ok F pins ρ σ H) {i : Nat} {xs : List PyData} (h : ρ[i]? = some (some (.own xs))) :
    ∃ p vs, σ[i]? = some (some (.ref p)) ∧ H p = some (.lst vs) ∧ ImAll F.K (Av F pins ρ σ) H xs vs ∧ OwnAt ρ σ i p := by
  obtain ⟨v, h1, p, vs, rfl, h2, h3, _⟩ := O.ent i _ h
  exact ⟨p, vs, h1, h2, h3, ⟨_, h, trivial⟩, h1⟩
/-- a method of the own list at slot i -/
def dOwnM (i : Nat) (t : TDA) (k : List PyData → List R → (PyData → List PyData → Prop) → Prop) : TDE := fun ρ Q => onOwn ρ i fun _ => t ρ fun rs ρ1 => onOwn ρ1 i fun xs => k xs rs fun z ys => Q (.d z) (ρ1.set i (some (.own ys)))
/-- its reading r by values, from data; the answer is without a heap -/
structure SM (F : Fm) (r : V → List V → Hp → VK → Prop) (k : List PyData → List R → (PyData → List PyData → Prop) → Prop) : Prop where
  run : ∀ (pins : List Pin) (ρ : Rho) (σ : L2.St) (H : Hp) (p : Addr) (vs us : List V) (xs : List PyData) (rs : List R) (Q : VK), Ok F pins ρ σ H → H p = some (.lst vs) → ImAll F.K (Av F pins ρ σ) H xs vs → ROks F (Av F pins ρ σ) ρ σ H rs us →
    k xs rs (fun z ys => ∀ v ws, Sc z v → ImAll F.K (Av F pins ρ σ) H ys ws → Q v (upd H p (.lst ws))) → r (.ref p) us H Q
  mono : ∀ xs rs Q Q', (∀ z ys, Q z ys → Q' z ys) → k xs rs Q → k xs rs Q'
theorem de_ownM {i : Nat} {r : V → List V → Hp → VK → Prop} {k : List PyData → List R → (PyData → List PyData → Prop) → Prop} (hr : SM F r k) (ha : DA F t d) : DE F (tBM F.K "list" r (tVar i) t) (dOwnM i d k) := by
  constructor
  · intro pins ρ σ H Q O h
    obtain ⟨xs0, e0, h⟩ := onOwn_of h
    obtain ⟨p, vs0, h1, h2, h3, _⟩ := O.ownGet e0
    refine ⟨.ref p, h1, .inl ⟨rfl, vs0, .of h2⟩, ?_⟩
    refine ha.run pins ρ σ H _ O (ha.mono _ _ _ (fun rs ρ1 h4 us H1 O1 R1 => ?_) h)
    obtain ⟨xs, e1, h5⟩ := onOwn_of h4
    obtain ⟨q, vs, g1, g2, g3, g4⟩ := O1.ownGet e1
    rw [h1] at g1; cases g1
    refine hr.run pins ρ1 σ H1 p vs us xs rs Q O1 g2 g3 R1 (hr.mono _ _ _ _ (fun z ys q v ws hv hw => ?_) h5)
    exact q v _ (O1.setOwn g4 hw) (.sc hv)
  · intro ρ Q Q' hq h
    exact onOwn_mono h fun xs0 h => ha.mono _ _ _ (fun rs ρ1 h4 => onOwn_mono h4 fun xs h5 => hr.mono _ _ _ _ (fun z ys q => hq _ _ q) h5) h
def kAppend : List PyData → List R → (PyData → List PyData → Prop) → Prop
  | xs, [.d y], Q => Few (xs.length + 1) ∧ Q .none (xs ++ [y])
  | _, _, _ => False
theorem sm_append : SM F rAppend kAppend := by
  constructor
  · intro pins ρ σ H p vs us xs rs Q O h1 h2 h3 h
    unfold kAppend at h
    split at h
    · rename_i xs y
      simp only [ROks] at h3
      obtain ⟨v, _, rfl, h4, rfl⟩ := h3
      refine ⟨p, vs, v, rfl, rfl, h1, ?_, h.2 _ _ .none (h2.append (.cons h4 .nil))⟩
      have := h.1
      unfold Few at this
      rw [h2.length]; omega
    · exact h.elim
  · intro xs rs Q Q' hq h
    unfold kAppend at h ⊢
    split at h
    · exact ⟨h.1, hq _ _ h.2⟩
    · exact h.elim
def kInsert : List PyData → List R → (PyData → List PyData → Prop) → Prop
  | xs, [.d (.int i), .d y], Q => (Few (xs.length + 1) ∧ 0 ≤ i ∧ i < 2 ^ 63) ∧ Q .none (xs.take i.toNat ++ [y] ++ xs.drop i.toNat)
  | _, _, _ => False
section
variable {name : Str} {apos cpos : Pos} {x : Str} {vpos : Pos} {i : Nat}
theorem pd_append (ha : PDA X F [e] t d) (hK : X.K = F.K := by rfl) (hN : X.N[i]? = some x := by rfl) (hv : Vis X.env.scope x := by first | exact Or.inl rfl | exact Or.inr (Or.inl rfl) | exact Or.inr (Or.inr rfl)) (hd : (x == ("__debug__" : Str)) = false := by decide)
    (hcd : (x == ("__classdict__" : Str)) = false := by decide)
    (hbase : attributeBase (.Name x vpos) "append" X.env (eval (.Name x vpos) X.env) = eval (.Name x vpos) X.env := by rfl)
    (hfew : ((backTo cpos (starEach [e] X.env)).all (fun x => !x.1) && (backToKw cpos (keywordEach [] X.env)).all (fun x => x.1.isSome)
      && decide (([e] : List Expr).length + ([] : List Keyword).length + (if ([] : List Keyword).isEmpty then 0 else 1) < 30)) = true := by rfl)
    (hline : (apos.endLine == cpos.line) = true := by rfl) (hs : starEach [e] X.env = (false, eval e X.env) :: starEach [] X.env := by rfl) (hplain : (backTo cpos (starEach [] X.env)).any (·.1) = false := by rfl) :
    PD X F (.Call (.Attribute (.Name x vpos) "append" apos) [e] [] cpos) (tBM F.K "list" rAppend (tVar i) t) (dOwnM i d kAppend) := by
  refine ⟨?_, de_ownM sm_append ha.da⟩
  have := pe_bm (cpos := cpos) (apos := apos) PySem.F.plainAttrs_list PySem.F.slot_list_append PySem.F.type_list_append mt_append (pe_var (pos := vpos) hN hv hd hcd) ha.pa hbase hfew hline hs hplain
  rw [hK] at this
  exact this
end
/-- x[k] = e -/
def dSetItem (i : Nat) (te tk : TDE) : TDS := fun DD ρ => te ρ fun r ρ1 => onDat r fun y => onOwn ρ1 i fun _ => tk ρ1 fun s ρ2 => onV ρ2 s fun k => onOwn ρ2 i fun xs => match k with
  | .int k => (0 ≤ k ∧ k < xs.length) ∧ DD.nx (ρ2.set i (some (.own (xs.set k.toNat y))))
  | _ => False
theorem ixN_nat {n : Nat} {k : Int} (h0 : 0 ≤ k) (h1 : k < n) : ixN n k = some k.toNat := by
  unfold ixN; rw [if_pos h0, if_pos h1]
theorem ds_setItem {i : Nat} {k : Expr} {tk : TE} {dk : TDE} {x : Str} {vpos spos : Pos} (he : PD X F e te de) (hk : PD X F k tk dk) (hg : PG X (.Subscript (.Name x vpos) k spos) (gSub (tVar i) tk rSetL)) (hs : swapsWithSole [.Subscript (.Name x vpos) k spos] e pos.line X.env = pure false := by rfl) (hw : swappedStores [.Subscript (.Name x vpos) k spos] e X.env = pure none := by rfl)
    (h1 : (assignEach [.Subscript (.Name x vpos) k spos] X.env).map (·.2) = [assign (.Subscript (.Name x vpos) k spos) X.env] := by rfl) :
    PDS X F (.Assign [.Subscript (.Name x vpos) k spos] e pos) (tAsg te (gSub (tVar i) tk rSetL)) (dSetItem i de dk) := by
  refine ⟨ps_asg he.pe hg hs hw h1, fun pins ρ σ H D DD O S R h => ?_⟩
  refine he.de.run pins ρ σ H _ O (he.de.mono _ _ _ (fun r ρ1 h2 v H1 O1 R1 => ?_) h)
  cases r with
  | o j => exact h2.elim
  | raw u => exact h2.elim
  | d y =>
    obtain ⟨xs0, e0, h2⟩ := onOwn_of h2
    obtain ⟨p, vs0, g1, g2, g3, _⟩ := O1.ownGet e0
    refine ⟨.ref p, g1, ?_⟩
    refine hk.de.run (.val v (.d y) :: pins) ρ1 σ H1 _ (O1.push R1) (hk.de.mono _ _ _ (fun s ρ2 h3 u H2 O2 R2 => ?_) h2)
    obtain ⟨O3, R3⟩ := O2.popV
    obtain ⟨kk, e1, h4⟩ := onV_of h3
    obtain ⟨xs, e2, h5⟩ := onOwn_of h4
    obtain ⟨q, vs, f1, f2, f3, f4⟩ := O3.ownGet e2
    rw [g1] at f1; cases f1
    cases kk <;> first | exact h5.elim | skip
    rename_i k0
    cases dp_int (val_dp O2 R2 e1)
    refine ⟨p, vs, k0, k0.toNat, rfl, rfl, f2, ?_, R.nx _ _ _ (O3.setOwn f4 (f3.set _ R3)) h5.2⟩
    rw [f3.length]
    exact ixN_nat h5.1.1 h5.1.2
/-- x[k] += e, whole numbers -/
def dAddItem (i : Nat) (tk te : TDE) : TDS := fun DD ρ => onOwn ρ i fun _ => tk ρ fun s ρ1 => onV ρ1 s fun k => onOwn ρ1 i fun xs => match k with
  | .int k => (0 ≤ k ∧ k < xs.length) ∧ match xs[k.toNat]? with
    | some (.int n) => te ρ1 fun r ρ2 => onV ρ2 r fun y => onOwn ρ2 i fun ys => match y with
      | .int m => ys.length = xs.length ∧ DD.nx (ρ2.set i (some (.own (ys.set k.toNat (.int (n + m))))))
      | _ => False
    | _ => False
  | _ => False
theorem ds_addItem {i : Nat} {k : Expr} {tk : TE} {dk : TDE} {x : Str} {vpos spos : Pos} (hk : PD X F k tk dk) (he : PD X F e te de) (hp : PS X (.AugAssign (.Subscript (.Name x vpos) k spos) .Add e pos) (tAugS (tVar i) tk te (rIxL F.K) (ipI fun i j => i + j) rSetL)) :
    PDS X F (.AugAssign (.Subscript (.Name x vpos) k spos) .Add e pos) (tAugS (tVar i) tk te (rIxL F.K) (ipI fun i j => i + j) rSetL) (dAddItem i dk de) := by
  refine ⟨hp, fun pins ρ σ H D DD O S R h => ?_⟩
  obtain ⟨xs0, e0, h⟩ := onOwn_of h
  obtain ⟨p, vs0, g1, g2, g3, _⟩ := O.ownGet e0
  refine ⟨.ref p, g1, ?_⟩
  refine hk.de.run pins ρ σ H _ O (hk.de.mono _ _ _ (fun s ρ1 h3 u H1 O1 R1 => ?_) h)
  obtain ⟨kk, e1, h4⟩ := onV_of h3
  obtain ⟨xs, e2, h5⟩ := onOwn_of h4
  obtain ⟨q, vs, f1, f2, f3, f4⟩ := O1.ownGet e2
  rw [g1] at f1; cases f1
  cases kk <;> first | exact h5.elim | skip
  rename_i k0
  cases dp_int (val_dp O1 R1 e1)
  obtain ⟨hb, h6⟩ := h5
  split at h6
  · rename_i n en
    obtain ⟨v0, ev, iv⟩ := f3.get en
    cases (Im.int_iff.mp iv)
    refine ⟨p, vs, k0, .int n, rfl, rfl, .of f2, ?_, ?_⟩
    · unfold atI
      rw [f3.length, ixN_nat hb.1 hb.2]
      exact ev
    refine he.de.run pins ρ1 σ H1 _ O1 (he.de.mono _ _ _ (fun r ρ2 h7 w H2 O2 R2 => ?_) h6)
    obtain ⟨y, e3, h8⟩ := onV_of h7
    obtain ⟨ys, e4, h9⟩ := onOwn_of h8
    obtain ⟨q2, us, j1, j2, j3, j4⟩ := O2.ownGet e4
    rw [g1] at j1; cases j1
    cases y <;> first | exact h9.elim | skip
    rename_i m
    cases dp_int (val_dp O2 R2 e3)
    refine ⟨n, m, rfl, rfl, p, us, k0, k0.toNat, rfl, rfl, j2, ?_, R.nx _ _ _ (O2.setOwn j4 (j3.set _ .int)) h9.2⟩
    rw [j3.length, h9.1]
    exact ixN_nat hb.1 hb.2
  · exact h6.elim
end
end DV
namespace DV
open PySem PySem.Spec PyProof.Rows L2
open LamX (ExtN TabS Tabs CodeO)
section
variable {X : Cx} {F : Fm} {a b c e : Expr} {es : List Expr} {ta tb tc te : TE} {da db dc de : TDE} {dl : TDL} {pos : Pos} {t : TA} {d : TDA} {tt tu : TT} {dt du : TDT} {st : Stmt} {rest sts : List Stmt} {ts us : TS} {ds dus : TDS}
def dWhile (c : TDT) (tb : TDS) : TDS := fun DD ρ => ∃ (I : Rho → Prop) (μ : Rho → Nat), I ρ ∧ ∀ ρ, I ρ → c ρ fun k ρ1 => if k = true then tb { DD with nx := fun ρ' => I ρ' ∧ μ ρ' < μ ρ, ct := fun ρ' => I ρ' ∧ μ ρ' < μ ρ, bk := DD.nx } ρ1 else DD.nx ρ1
theorem ds_while {c : Expr} {body : List Stmt} (hp : PassesOwn (model X.prog X.w) X.A X.env X.xe) (hc : PDT X F c tt dt) (hb : PDSs X F body ts ds) : PDS X F (.While c body [] pos) (tWhile tt ts) (dWhile dt ds) := by
  refine ⟨ps_while hp hc.pt hb.pss, fun pins ρ σ H D DD O S R h => ?_⟩
  obtain ⟨I, μ, h0, h⟩ := h
  refine ⟨fun m σ H => ∃ ρ, Ok F pins ρ σ H ∧ I ρ ∧ m = μ ρ, ⟨_, ρ, O, h0, rfl⟩, ?_⟩
  rintro m σ1 H1 ⟨ρ1, O1, i1, rfl⟩
  refine hc.dt.run pins ρ1 σ1 H1 _ O1 (hc.dt.mono _ _ _ (fun k ρ2 h2 H2 O2 => ?_) (h ρ1 i1))
  cases k with
  | false => exact R.nx _ _ _ O2 h2
  | true =>
    refine ⟨fun σ' H' => ∃ ρ', Ok F pins ρ' σ' H' ∧ I ρ' ∧ μ ρ' < μ ρ1, fun σ' H' ⟨ρ', O', i', lt⟩ => ⟨μ ρ', lt, ρ', O', i', rfl⟩, ?_⟩
    exact hb.ds pins ρ2 σ1 H2 _ { DD with nx := fun ρ' => I ρ' ∧ μ ρ' < μ ρ1, ct := fun ρ' => I ρ' ∧ μ ρ' < μ ρ1, bk := DD.nx } O2 S ⟨fun ρ3 σ3 H3 O3 q => ⟨ρ3, O3, q⟩, R.rt, R.nx, fun ρ3 σ3 H3 O3 q => ⟨ρ3, O3, q⟩, R.rl⟩ h2
/-- what is walked: J gives the items, while the values pl are in mind -/
structure WOk (F : Fm) (J : It) (items : List PyData) (pl : List Pin) : Prop where
  goes : ∀ (i : Nat) (pins : List Pin) (ρ : Rho) (σ : L2.St) (H : Hp), (∀ p ∈ pl, p ∈ pins) → i < items.length → Ok F pins ρ σ H → J.go i H
  stops : ∀ (pins : List Pin) (ρ : Rho) (σ : L2.St) (H : Hp), (∀ p ∈ pl, p ∈ pins) → Ok F pins ρ σ H → J.stop items.length H
  yld : ∀ (i : Nat) (pins : List Pin) (ρ : Rho) (σ : L2.St) (H : Hp) (x : V) (H' : Hp), (∀ p ∈ pl, p ∈ pins) → i < items.length → Ok F pins ρ σ H → J.yld i H x H' → ∃ y, items[i]? = some y ∧ Ok F pins ρ σ H' ∧ Im F.K (Av F pins ρ σ) H' y x
abbrev TDI := Rho → (List PyData → Rho → Prop) → Prop
def IsV (p : Pin) : Prop := (∃ v x, p = .val v (.d x)) ∨ ∃ a o, p = .frz a o
structure DI (F : Fm) (wi : TI) (dw : TDI) : Prop where
  run : ∀ (pins : List Pin) (ρ : Rho) (σ : L2.St) (H : Hp) (R : It → Hp → Prop), Ok F pins ρ σ H →
    dw ρ (fun items ρ' => ∀ J H' pl, WOk F J items pl → (∀ p ∈ pl, IsV p) → Ok F (pl ++ pins) ρ' σ H' → R J H') → wi σ H R
  mono : ∀ ρ Q Q', (∀ r ρ', Q r ρ' → Q' r ρ') → dw ρ Q → dw ρ Q'
structure PDI (X : Cx) (F : Fm) (tg iter : Expr) (wi : TI) (dw : TDI) : Prop where
  pi : PI X tg iter wi
  di : DI F wi dw
theorem Ok.popZ {a : Addr} {o : Obj} {pins : List Pin} {ρ : Rho} {σ : L2.St} {H : Hp} (O : Ok F (.frz a o :: pins) ρ σ H) : Ok F pins ρ σ H ∧ ∃ u, H a = some (.frz o u) := by
  have e : Av F (.frz a o :: pins) ρ σ = Av F pins ρ σ := rfl
  refine ⟨⟨O.len, by have := O.ent; rw [e] at this; exact this, O.own, fun p hp => ?_, O.acs, O.fr, O.nh, O.ln, O.h0, O.lf, O.tb⟩, O.pin _ (List.mem_cons_self ..)⟩
  have := O.pin p (List.mem_cons_of_mem _ hp)
  rw [e] at this; exact this
theorem Ok.popVs {pins : List Pin} {ρ : Rho} {σ : L2.St} {H : Hp} : ∀ {pl : List Pin}, (∀ p ∈ pl, IsV p) → Ok F (pl ++ pins) ρ σ H → Ok F pins ρ σ H ∧ Av F (pl ++ pins) ρ σ = Av F pins ρ σ
  | [], _, O => ⟨O, rfl⟩
  | p :: pl, h, O => by
    rcases h p (List.mem_cons_self ..) with ⟨v, x, rfl⟩ | ⟨a, o, rfl⟩
    · obtain ⟨O1, _⟩ := Ok.popV (show Ok F (.val v (.d x) :: (pl ++ pins)) ρ σ H from O)
      obtain ⟨O2, e⟩ := O1.popVs fun q hq => h q (List.mem_cons_of_mem _ hq)
      exact ⟨O2, e⟩
    · obtain ⟨O1, _⟩ := Ok.popZ (show Ok F (.frz a o :: (pl ++ pins)) ρ σ H from O)
      obtain ⟨O2, e⟩ := O1.popVs fun q hq => h q (List.mem_cons_of_mem _ hq)
      exact ⟨O2, e⟩
theorem SPn.app {pins : List Pin} (S : SPn F pins) {pl : List Pin} (h : ∀ p ∈ pl, IsV p) : SPn F (pl ++ pins) := fun v j hp => by
  rcases List.mem_append.mp hp with z | z
  · rcases h _ z with ⟨u, x, e⟩ | ⟨u, x, e⟩
    · cases e
    · cases e
  · exact S v j z
theorem accs_app {pins : List Pin} : ∀ {pl : List Pin}, (∀ p ∈ pl, IsV p) → accs (pl ++ pins) = accs pins
  | [], _ => rfl
  | p :: pl, h => by
    rcases h p (List.mem_cons_self ..) with ⟨v, x, rfl⟩ | ⟨a, o, rfl⟩
    · exact accs_app (pl := pl) fun q hq => h q (List.mem_cons_of_mem _ hq)
    · exact accs_app (pl := pl) fun q hq => h q (List.mem_cons_of_mem _ hq)
/-- fewer things in mind -/
theorem Ok.sub {pins qs : List Pin} {ρ : Rho} {σ : L2.St} {H : Hp} (O : Ok F pins ρ σ H) (h : ∀ p ∈ qs, p ∈ pins) (e : accs qs = accs pins) : Ok F qs ρ σ H := by
  have ae : Av F qs ρ σ = Av F pins ρ σ := by unfold Av; rw [e]
  exact ⟨O.len, by rw [ae]; exact O.ent, O.own, fun p hp => by rw [ae]; exact O.pin p (h p hp), by rw [e]; exact O.acs, O.fr, O.nh, O.ln, O.h0, O.lf, O.tb⟩
theorem Ok.popAV {pins : List Pin} {ρ : Rho} {σ : L2.St} {H : Hp} {p : Addr} {xs : List PyData} {pl : List Pin} (O : Ok F (.acc p xs :: (pl ++ pins)) ρ σ H) (h : ∀ p ∈ pl, IsV p) : Ok F (.acc p xs :: pins) ρ σ H := by
  refine O.sub (fun q hq => ?_) ?_
  · rcases List.mem_cons.mp hq with z | z
    · rw [z]; exact List.mem_cons_self ..
    · exact List.mem_cons_of_mem _ (List.mem_append_right _ z)
  · show p :: accs pins = p :: accs (pl ++ pins)
    rw [accs_app h]
theorem Rel.app {pins : List Pin} {D : Ends} {DD : DEnds} (R : Rel F pins D DD) {pl : List Pin} (h : ∀ p ∈ pl, IsV p) : Rel F (pl ++ pins) D DD :=
  ⟨fun ρ σ H O q => R.nx ρ σ H (O.popVs h).1 q, fun ρ σ H v r O r1 q => R.rt ρ σ H v r (O.popVs h).1 (by rw [(O.popVs h).2] at r1; exact r1) q, fun ρ σ H O q => R.bk ρ σ H (O.popVs h).1 q, fun ρ σ H O q => R.ct ρ σ H (O.popVs h).1 q, fun ρ σ H p xs O q => R.rl ρ σ H p xs (O.popAV h) q⟩
def dFor (wi : TDI) (g : TDGt) (tb : TDS) : TDS := fun DD ρ => wi ρ fun xs ρ1 => ∃ I : Nat → Rho → Prop, I 0 ρ1 ∧
  (∀ i x ρ, xs[i]? = some x → I i ρ → g (.d x) ρ fun ρ2 => tb { DD with nx := I (i + 1), ct := I (i + 1), bk := DD.nx } ρ2) ∧ ∀ ρ, I xs.length ρ → DD.nx ρ
theorem ds_for {tg iter : Expr} {body : List Stmt} {wi : TI} {dw : TDI} {g : TG} {dg : TDGt} {sl : List Nat} (hp : PassesOwn (model X.prog X.w) X.A X.env X.xe) (hc : X.calm = true) (hi : PDI X F tg iter wi dw) (hg : PDG X F tg g dg sl) (hb : PDSs X F body ts ds) (hf : ∀ i ∈ sl, ¬ F.fix i)
    (hs : ∀ x, foldedSetIterable iter X.env x = pure x := by intro _; rfl) : PDS X F (.For tg iter body [] pos) (tFor wi g ts) (dFor dw dg ds) := by
  refine ⟨?_, fun pins ρ σ H D DD O S R h => ?_⟩
  · first | exact ps_for hp hc hi.pi hg.pg hb.pss | exact ps_for hp hc hi.pi hg.pg hb.pss hs
  refine hi.di.run pins ρ σ H _ O (hi.di.mono _ _ _ (fun xs ρ1 h1 J H1 pl W hpl O1 => ?_) h)
  obtain ⟨I, h0, hturn, hend⟩ := h1
  have hin : ∀ p ∈ pl, p ∈ pl ++ pins := fun p hp => List.mem_append_left _ hp
  have R2 := R.app hpl
  refine ⟨fun i m σ H => ∃ ρ, Ok F (pl ++ pins) ρ σ H ∧ I i ρ ∧ i ≤ xs.length ∧ m = xs.length - i, ⟨_, ρ1, O1, h0, Nat.zero_le _, rfl⟩, ?_⟩
  rintro i m σ2 H2 ⟨ρ2, O2, i2, hle, rfl⟩
  by_cases hlt : i < xs.length
  · refine .inr ⟨W.goes i _ ρ2 σ2 H2 hin hlt O2, fun σ' H' => ∃ ρ', Ok F (pl ++ pins) ρ' σ' H' ∧ I (i + 1) ρ', fun σ' H' ⟨ρ', O', i'⟩ => ⟨xs.length - (i + 1), by omega, ρ', O', i', by omega, rfl⟩, fun x H3 hy => ?_⟩
    obtain ⟨y, ey, O3, im⟩ := W.yld i _ ρ2 σ2 H2 x H3 hin hlt O2 hy
    refine hg.dg.run _ ρ2 σ2 H3 x (.d y) _ _ O3 (fun j hj => (S.app hpl).fr (hf j hj)) im (hturn i y ρ2 ey i2) fun ρ4 σ4 H4 O4 _ q => ?_
    exact hb.ds _ ρ4 σ4 H4 _ { DD with nx := I (i + 1), ct := I (i + 1), bk := DD.nx } O4 (S.app hpl) ⟨fun ρ5 σ5 H5 O5 q => ⟨ρ5, O5, q⟩, R2.rt, R2.nx, fun ρ5 σ5 H5 O5 q => ⟨ρ5, O5, q⟩, R2.rl⟩ q
  · have e : i = xs.length := by omega
    subst e
    exact .inl ⟨W.stops _ ρ2 σ2 H2 hin O2, R2.nx _ _ _ O2 (hend ρ2 i2)⟩
def dLc (wi : TDI) (g : TDGt) (tt : TDT) (te : TDE) (vs : List Nat) : TDL := fun ρ Q => wi ρ fun xs ρ1 => (∀ i ∈ vs, ρ1[i]? = some none) ∧ ∃ I : Nat → List PyData → Rho → Prop, I 0 [] ρ1 ∧
  (∀ i x acc ρ, xs[i]? = some x → I i acc ρ → g (.d x) ρ fun ρ2 => tt ρ2 fun k ρ3 => if k = true then te ρ3 fun r ρ4 => onDat r fun y => Few (acc.length + 1) ∧ I (i + 1) (acc ++ [y]) (wipeR ρ4 vs) else I (i + 1) acc (wipeR ρ3 vs)) ∧
  ∀ acc ρ, I xs.length acc ρ → Q acc (wipeR ρ vs)
def dYes : TDT := fun ρ Q => Q true ρ
structure PDTs (X : Cx) (F : Fm) (ifs : List Expr) (tt : TT) (td : TDT) : Prop where
  pts : PTs X ifs tt
  dt : DT F tt td
theorem dts_nil : PDTs X F [] tYes dYes := ⟨pts_nil, fun pins ρ σ H Q O h => h H O, fun ρ Q Q' hq h => hq _ _ h⟩
theorem dts_one (h : PDT X F c tt dt) : PDTs X F [c] tt dt := ⟨pts_one h.pt, h.dt⟩
theorem dl_lc {wi : TI} {dw : TDI} {g : TG} {dg : TDGt} {vs : List Nat} (hi : DI F wi dw) (hg : DG F g dg vs) (ht : DT F tt dt) (he : DE F te de) : DL F (tLc wi g tt te vs) (dLc dw dg dt de vs) := by
  constructor
  · intro pins ρ σ H Q O h
    refine hi.run pins ρ σ H _ O (hi.mono _ _ _ (fun xs ρ1 h1 J H1 pl W hpl O1 D hD => ?_) h)
    obtain ⟨hno, I, h0, hturn, hend⟩ := h1
    have hfr : ∀ {p : List Pin}, (∀ q ∈ p, q ∈ pl ++ pins ∨ ∃ a ys, q = .acc a ys) → ∀ i ∈ vs, Fr p i := fun {p} hp i hi v j hm e => by
      subst e
      rcases hp _ hm with z | ⟨a, ys, z⟩
      · obtain ⟨_, x, hx⟩ := O1.pin _ z
        unfold slot at hx
        rw [hno j hi] at hx
        cases hx
      · cases z
    -- the state of a turn: the values pl, the new list, at the wiped slots
    have hin : ∀ acc, ∀ p ∈ pl, p ∈ (Pin.acc D acc :: (pl ++ pins)) := fun acc p hp => List.mem_cons_of_mem _ (List.mem_append_left _ hp)
    have hfr2 : ∀ acc, ∀ i ∈ vs, Fr (Pin.acc D acc :: (pl ++ pins)) i := fun acc => hfr fun q hq => by
      rcases List.mem_cons.mp hq with z | z
      · exact .inr ⟨_, _, z⟩
      · exact .inl z
    have start : Ok F (.acc D [] :: (pl ++ pins)) ρ1 σ (upd H1 D (.lst [])) := O1.pushL hD .nil
    have hw1 : wipeR ρ1 vs = ρ1 := by
      have : ∀ (us : List Nat), (∀ i ∈ us, ρ1[i]? = some none) → wipeR ρ1 us = ρ1 := fun us => by
        induction us with
        | nil => intro _; rfl
        | cons k ks ih =>
          intro hk
          show (wipeR ρ1 ks).set k none = ρ1
          rw [ih fun i hi => hk i (List.mem_cons_of_mem _ hi)]
          apply List.ext_getElem?
          intro n
          by_cases e : k = n
          · subst e
            have := hk k (List.mem_cons_self ..)
            have hl : k < ρ1.length := by
              rcases Nat.lt_or_ge k ρ1.length with z | z
              · exact z
              · rw [List.getElem?_eq_none z] at this; cases this
            rw [List.getElem?_set_self hl, this]
          · rw [List.getElem?_set_ne e]
      exact this vs hno
    have start2 : Ok F (.acc D [] :: (pl ++ pins)) ρ1 (wipe σ vs) (upd H1 D (.lst [])) := by
      have := start.wipe (hfr2 [])
      rw [hw1] at this
      exact this
    refine ⟨fun i m H => ∃ acc ρ, Ok F (.acc D acc :: (pl ++ pins)) ρ (wipe σ vs) H ∧ I i acc ρ ∧ i ≤ xs.length ∧ m = xs.length - i, ⟨_, [], ρ1, start2, h0, Nat.zero_le _, rfl⟩, ?_⟩
    rintro i m H2 ⟨acc, ρ2, O2, i2, hle, rfl⟩
    by_cases hlt : i < xs.length
    · refine .inr ⟨W.goes i _ ρ2 _ H2 (hin acc) hlt O2, fun H' => ∃ acc ρ, Ok F (.acc D acc :: (pl ++ pins)) ρ (wipe σ vs) H' ∧ I (i + 1) acc ρ, fun H' ⟨acc', ρ', O', i'⟩ => ⟨xs.length - (i + 1), by omega, acc', ρ', O', i', by omega, rfl⟩, fun x H3 hy => ?_⟩
      obtain ⟨y, ey, O3, im⟩ := W.yld i _ ρ2 _ H2 x H3 (hin acc) hlt O2 hy
      refine hg.run _ ρ2 _ H3 x (.d y) _ _ O3 (hfr2 acc) im (hturn i y acc ρ2 ey i2) fun ρ4 σ4 H4 O4 so q => ?_
      have hw4 : wipe σ4 vs = wipe σ vs := by
        have := so vs fun _ h => h
        rw [this]
        have idem : ∀ (us : List Nat) (τ : L2.St), (∀ i ∈ us, i ∈ vs) → wipe (wipe σ vs) us = wipe σ vs := fun us => by
          induction us with
          | nil => intro _ _; rfl
          | cons k ks ih =>
            intro τ hk
            show (wipe (wipe σ vs) ks).set k none = wipe σ vs
            rw [ih τ fun i hi => hk i (List.mem_cons_of_mem _ hi)]
            apply List.ext_getElem?
            intro n
            by_cases e : k = n
            · subst e
              have hk1 := hk k (List.mem_cons_self ..)
              by_cases hl : k < (wipe σ vs).length
              · rw [List.getElem?_set_self hl]
                have : ∀ (ws : List Nat), k ∈ ws → k < σ.length → (wipe σ ws)[k]? = some none := fun ws => by
                  induction ws with
                  | nil => intro h _; cases h
                  | cons w ws ih2 =>
                    intro h hl2
                    show ((wipe σ ws).set w none)[k]? = some none
                    by_cases e2 : w = k
                    · subst e2
                      rw [List.getElem?_set_self (by rw [wipe_length]; exact hl2)]
                    · rw [List.getElem?_set_ne e2]
                      rcases List.mem_cons.mp h with z | z
                      · exact absurd z.symm e2
                      · exact ih2 z hl2
                rw [this vs hk1 (by rw [wipe_length] at hl; exact hl)]
              · rw [List.getElem?_eq_none (by rw [List.length_set]; omega), List.getElem?_eq_none (by omega)]
            · rw [List.getElem?_set_ne e]
        exact idem vs σ fun _ h => h
      refine ⟨hw4, ?_⟩
      refine ht.run _ ρ4 σ4 H4 _ O4 (ht.mono _ _ _ (fun k ρ5 h5 H5 O5 => ?_) q)
      cases k with
      | false =>
        have := O5.wipe (hfr2 acc)
        rw [hw4] at this
        exact ⟨acc, _, this, h5⟩
      | true =>
        refine he.run _ ρ5 σ4 H5 _ O5 (he.mono _ _ _ (fun r ρ6 h6 w H6 O6 R6 => ?_) h5)
        cases r with
        | o j => exact h6.elim
        | raw u => exact h6.elim
        | d z =>
          obtain ⟨vsD, hHD, hiD, _, _⟩ := O6.pin _ (List.mem_cons_self ..)
          refine ⟨vsD, hHD, ?_, acc ++ [z], wipeR ρ6 vs, ?_, h6.2⟩
          · have := h6.1
            unfold Few at this
            rw [hiD.length]; omega
          · have O7 := (O6.setAcc (hiD.append (.cons R6 .nil))).wipe (hfr2 (acc ++ [z]))
            rw [hw4] at O7
            exact O7
    · have e : i = xs.length := by omega
      subst e
      refine .inl ⟨W.stops _ ρ2 _ H2 (hin acc) O2, ?_⟩
      have hq := hend acc ρ2 i2
      refine hq D H2 ?_
      have O3 := O2.wipe (hfr2 acc)
      have hww : wipe (wipe σ vs) vs = wipe (wipe σ vs) vs := rfl
      have O4 : Ok F (.acc D acc :: (pl ++ pins)) (wipeR ρ2 vs) σ H2 := by
        refine Ok.unwipe (vs := vs) (Ok.unwipe (vs := vs) O3 ?_) ?_
        all_goals
          intro i hi
          by_cases hl : i < ρ2.length
          · exact .inl (wipeR_none hi hl)
          · exact .inr (List.getElem?_eq_none (by rw [wipeR_len]; omega))
      refine O4.sub (fun p hp => ?_) (by show D :: accs pins = D :: accs (pl ++ pins); rw [accs_app hpl])
      rcases List.mem_cons.mp hp with z | z
      · exact z ▸ List.mem_cons_self ..
      · exact List.mem_cons_of_mem _ (List.mem_append_right _ z)
  · intro ρ Q Q' hq h
    refine hi.mono _ _ _ (fun xs ρ1 h1 => ?_) h
    obtain ⟨hno, I, h0, hturn, hend⟩ := h1
    exact ⟨hno, I, h0, hturn, fun acc ρ i => hq _ _ (hend acc ρ i)⟩
end
end DV
namespace DV
open PySem PySem.Spec PyProof.Rows L2
open LamX (ExtN TabS Tabs CodeO)
section
variable {X : Cx} {F : Fm} {a b c e : Expr} {es : List Expr} {ta tb tc te : TE} {da db dc de : TDE} {dl : TDL} {pos : Pos} {t : TA} {d : TDA} {tt tu : TT} {dt du : TDT}
/-- what a def's parameter is handed: data that nobody changes (d), or a list that is read alone (ro) -/
inductive Kd
  | d | ro
def ArgOk (K : PySem.W.Frag) (N Z : Addr → Prop) (H : Hp) : Kd → PyData → V → Prop
  | .d, x, v => Im K N H x v
  | .ro, x, v => Im K N H x v ∨ ∃ a us xs, v = .ref a ∧ x = .list xs ∧ ((Rd H a (.lst us) ∧ ¬ Z a) ∨ SqL K (fun _ => none) a us) ∧ ImAll K N H xs us
def ArgsOk (K : PySem.W.Frag) (N Z : Addr → Prop) (H : Hp) : List Kd → List PyData → List V → Prop
  | k :: ks, x :: xs, vs => ∃ v us, vs = v :: us ∧ ArgOk K N Z H k x v ∧ ArgsOk K N Z H ks xs us
  | [], [], vs => vs = []
  | _, _, _ => False
def noZ : Addr → Prop := fun _ => False
abbrev Sd := List PyData → (PyData → Prop) → Prop
/-- the promise of a def that changes nothing -/
def spP (K : PySem.W.Frag) (T : List (Addr × Str)) (ks : List Kd) (S : Sd) : Sp := fun vs H Q _ => ∃ (N : Addr → Prop) (xs : List PyData), Tabs T H ∧ (∀ a, N a → ∃ o, H a = some o ∧ Mutab o) ∧ ArgsOk K N noZ H ks xs vs ∧
  S xs fun z => ∀ v H', Gr H H' → Tabs T H' → Im K N H' z v → Q v H'
abbrev Sb := List PyData → List PyData → (PyData → List PyData → Prop) → Prop
/-- all but B has grown -/
structure GrB (B : Addr) (H H' : Hp) : Prop where
  ext : ∀ a o, a ≠ B → H a = some o → nt o → H' a = some o
  tbl : ∀ a ps, H a = some (.tbl ps) → ∃ qs, H' a = some (.tbl qs)
/-- of one that changes its first argument, a list, alone -/
def spB (K : PySem.W.Frag) (T : List (Addr × Str)) (ks : List Kd) (S : Sb) : Sp := fun vs H Q _ => ∃ (N : Addr → Prop) (B : Addr) (bvs ws : List V) (bag xs : List PyData), Tabs T H ∧ vs = .ref B :: ws ∧ N B ∧ (∀ a, N a → ∃ o, H a = some o ∧ Mutab o) ∧ H B = some (.lst bvs) ∧ ImAll K N H bag bvs ∧ ArgsOk K N (fun a => a = B) H ks xs ws ∧
  S bag xs fun z bag' => ∀ v H' bvs', GrB B H H' → Tabs T H' → H' B = some (.lst bvs') → ImAll K N H' bag' bvs' → Im K N H' z v → Q v H'
def dats2 (ρ : Rho) : List Kd → List R → Option (List PyData)
  | .d :: ks, .d x :: rs => (dats2 ρ ks rs).map (x :: ·)
  | .ro :: ks, r :: rs => match val ρ r, dats2 ρ ks rs with
    | some x, some xs => some (x :: xs)
    | _, _ => none
  | [], [] => some []
  | _, _ => none
theorem ro_arg {Z : Addr → Prop} {pins : List Pin} {ρ : Rho} {σ : L2.St} {H : Hp} (O : Ok F pins ρ σ H) {r : R} {v : V} {x : PyData} (h2 : ∀ a, Z a → F.L a ∨ F.H0 a = none) (h1 : ∀ j a, r = .o j → OwnAt ρ σ j a → ¬ Z a)
    (h : ROk F (Av F pins ρ σ) ρ σ H r v) (hv : val ρ r = some x) : ArgOk F.K (Av F pins ρ σ) Z H .ro x v := by
  have ro : ∀ {x : PyData} {v : V}, RoOk F (Av F pins ρ σ) H x v → ArgOk F.K (Av F pins ρ σ) Z H .ro x v := by
    rintro x v (h | ⟨a, us, xs, e, e2, l, t⟩)
    · exact .inl h
    · refine .inr ⟨a, us, xs, e, e2, ?_, t⟩
      rcases l with ⟨l, n⟩ | l
      · refine .inl ⟨?_, fun z => ?_⟩
        · rcases l with l | ⟨o, l⟩
          · exact .inl (O.fr _ _ n l nt_lst)
          · exact .inr ⟨o, O.fr _ _ n l nt_frz⟩
        · rcases h2 a z with z | z
          · exact n z
          · rcases l with l | ⟨o, l⟩
            · rw [z] at l; cases l
            · rw [z] at l; cases l
      · exact .inr l
  cases r with
  | d y => cases hv; exact .inl h
  | raw u => cases hv
  | o i =>
    have g1 := h.1
    have hv : slot ρ i = some x := hv
    unfold slot at hv
    split at hv
    · rename_i y e; cases hv
      obtain ⟨u, g2, g3⟩ := O.ent i _ e
      rw [g1] at g2; cases g2
      exact .inl g3
    · rename_i ys e; cases hv
      obtain ⟨p, vs, g2, g3, g4, g5⟩ := O.ownGet e
      rw [g1] at g2; cases g2
      exact .inr ⟨p, vs, ys, rfl, rfl, .inl ⟨.inl g3, h1 i p rfl g5⟩, g4⟩
    · rename_i y e; cases hv
      obtain ⟨u, g2, g3⟩ := O.ent i _ e
      rw [g1] at g2; cases g2
      exact ro g3
    · cases hv
theorem args_ok {Z : Addr → Prop} {pins : List Pin} {ρ : Rho} {σ : L2.St} {H : Hp} (O : Ok F pins ρ σ H) (h2 : ∀ a, Z a → F.L a ∨ F.H0 a = none) : ∀ {ks : List Kd} {rs : List R} {vs : List V} {xs : List PyData}, (∀ r ∈ rs, ∀ j a, r = .o j → OwnAt ρ σ j a → ¬ Z a) → ROks F (Av F pins ρ σ) ρ σ H rs vs → dats2 ρ ks rs = some xs → ArgsOk F.K (Av F pins ρ σ) Z H ks xs vs
  | [], [], vs, xs, _, h, e => by
    simp only [ROks] at h; simp only [dats2] at e; cases e
    simp only [ArgsOk]; exact h
  | .d :: ks, .d x :: rs, vs, xs, hz, h, e => by
    simp only [ROks] at h
    obtain ⟨v, us, rfl, h1, h3⟩ := h
    simp only [dats2] at e
    cases e1 : dats2 ρ ks rs with
    | none => rw [e1] at e; cases e
    | some ys =>
      rw [e1] at e; cases e
      simp only [ArgsOk]
      exact ⟨v, us, rfl, h1, args_ok O h2 (fun r hr => hz r (List.mem_cons_of_mem _ hr)) h3 e1⟩
  | .ro :: ks, r :: rs, vs, xs, hz, h, e => by
    simp only [ROks] at h
    obtain ⟨v, us, rfl, h1, h3⟩ := h
    simp only [dats2] at e
    cases e0 : val ρ r with
    | none => rw [e0] at e; cases e
    | some x =>
      cases e1 : dats2 ρ ks rs with
      | none => rw [e0, e1] at e; cases e
      | some ys =>
        rw [e0, e1] at e; cases e
        simp only [ArgsOk]
        exact ⟨v, us, rfl, ro_arg O h2 (hz r (List.mem_cons_self ..)) h1 e0, args_ok O h2 (fun r hr => hz r (List.mem_cons_of_mem _ hr)) h3 e1⟩
  | [], _ :: _, _, _, _, _, e => by simp only [dats2] at e; cases e
  | .d :: _, [], _, _, _, _, e => by simp only [dats2] at e; cases e
  | .ro :: _, [], _, _, _, _, e => by simp only [dats2] at e; cases e
  | .d :: _, .o _ :: _, _, _, _, _, e => by simp only [dats2] at e; cases e
  | .d :: _, .raw _ :: _, _, _, _, _, e => by simp only [dats2] at e; cases e
def onArgs (ρ : Rho) (ks : List Kd) (rs : List R) (f : List PyData → Prop) : Prop := match dats2 ρ ks rs with
  | some xs => f xs
  | _ => False
theorem onArgs_of {ρ : Rho} {ks : List Kd} {rs : List R} {f : List PyData → Prop} (h : onArgs ρ ks rs f) : ∃ xs, dats2 ρ ks rs = some xs ∧ f xs := by
  unfold onArgs at h
  split at h
  · exact ⟨_, by assumption, h⟩
  · exact h.elim
theorem onArgs_mono {ρ : Rho} {ks : List Kd} {rs : List R} {f g : List PyData → Prop} (h : onArgs ρ ks rs f) (k : ∀ xs, f xs → g xs) : onArgs ρ ks rs g := by
  unfold onArgs at h ⊢
  split at h
  · exact k _ h
  · exact h.elim
def MonoP (S : Sd) : Prop := ∀ xs Q Q', (∀ z, Q z → Q' z) → S xs Q → S xs Q'
def MonoB (S : Sb) : Prop := ∀ bag xs Q Q', (∀ z b, Q z b → Q' z b) → S bag xs Q → S bag xs Q'
def dCallP (ks : List Kd) (S : Sd) (t : TDA) : TDE := fun ρ Q => t ρ fun rs ρ1 => onArgs ρ1 ks rs fun xs => S xs fun z => Q (.d z) ρ1
theorem de_callP {ks : List Kd} {S : Sd} {E : XK} (hS : MonoP S) (h : DA F t d) : DE F (fun σ H Q => t σ H fun vs H1 => spP F.K F.T ks S vs H1 Q E) (dCallP ks S d) := by
  constructor
  · intro pins ρ σ H Q O hq
    refine h.run pins ρ σ H _ O (h.mono _ _ _ (fun rs ρ1 h1 vs H1 O1 R1 => ?_) hq)
    obtain ⟨xs, e, h2⟩ := onArgs_of h1
    refine ⟨Av F pins ρ1 σ, xs, O1.tb.1, fun a ha => O1.avM ha, args_ok O1 (fun a z => z.elim) (fun _ _ _ _ _ _ z => z) R1 e, hS _ _ _ (fun z q v H' g tb im => ?_) h2⟩
    exact q v H' (O1.heapN g tb) im
  · intro ρ Q Q' hq hh
    exact h.mono _ _ _ (fun rs ρ1 h1 => onArgs_mono h1 fun xs h2 => hS _ _ _ (fun z => hq _ _) h2) hh
theorem pd_callP {ks : List Kd} {S : Sd} {k : Nat} {f : Addr} {fd : FuncData} {ps : List Str} {x : Str} {p : Pos} (G : FnG X.prog X.w X.K X.mg X.base CX0 k f fd ps (spP F.K F.T ks S)) (hS : MonoP S) (hr : Room k X.A) (hgd : X.A.guards = some []) (hg : Gl X x) (hm : X.mg x = some (.ref f)) (hk : PySem.W.keepIn X.K (.ref f) = true) (hb : Binds X.K fd ps [])
    (ha : PDA X F (e :: es) t d) (hdb : (x == ("__debug__" : Str)) = false := by decide) (he : starEach (e :: es) X.env = (false, eval e X.env) :: starEach es X.env := by rfl) (hpl : (backTo pos (starEach es X.env)).any (·.1) = false := by rfl) :
    PD X F (.Call (.Name x p) (e :: es) [] pos) (fun σ H Q => t σ H fun vs H1 => spP F.K F.T ks S vs H1 Q E0) (dCallP ks S d) :=
  ⟨pe_callG G hr hgd hg hm hk hb ha.pa hdb he hpl, de_callP hS ha.da⟩
def noSelf (i : Nat) : List R → Prop
  | [] => True
  | .o j :: rs => j ≠ i ∧ noSelf i rs
  | _ :: rs => noSelf i rs
theorem noSelf_mem {i : Nat} : ∀ {rs : List R}, noSelf i rs → ∀ r ∈ rs, ∀ j, r = .o j → j ≠ i
  | .o k :: rs, h, r, hr, j, e => by
    rcases List.mem_cons.mp hr with z | z
    · rw [z] at e; cases e; exact h.1
    · exact noSelf_mem h.2 r z j e
  | .d _ :: rs, h, r, hr, j, e => by
    rcases List.mem_cons.mp hr with z | z
    · rw [z] at e; cases e
    · exact noSelf_mem (show noSelf i rs from h) r z j e
  | .raw _ :: rs, h, r, hr, j, e => by
    rcases List.mem_cons.mp hr with z | z
    · rw [z] at e; cases e
    · exact noSelf_mem (show noSelf i rs from h) r z j e
/-- f(bag, ..): the first argument the own list at slot i -/
def dCallB (ks : List Kd) (S : Sb) (t : TDA) : TDE := fun ρ Q => t ρ fun rs ρ1 => match rs with
  | .o i :: rs => noSelf i rs ∧ onOwn ρ1 i fun bag => onArgs ρ1 ks rs fun xs => S bag xs fun z bag' => Q (.d z) (ρ1.set i (some (.own bag')))
  | _ => False
theorem Ok.lent {pins : List Pin} {ρ : Rho} {σ : L2.St} {H H' : Hp} (O : Ok F pins ρ σ H) {i : Nat} {B : Addr} {vs : List V} {ys : List PyData} (h : OwnAt ρ σ i B) (g : GrB B H H') (tb : Tabs F.T H') (hB : H' B = some (.lst vs)) (hv : ImAll F.K (Av F pins ρ σ) H' ys vs) :
    Ok F pins (ρ.set i (some (.own ys))) σ H' ∧ Av F pins (ρ.set i (some (.own ys))) σ = Av F pins ρ σ := by
  have ae : Av F pins (ρ.set i (some (.own ys))) σ = Av F pins ρ σ := by
    funext b
    unfold Av
    simp only [setOwn_iff (xs := ys) h]
  have aB : Av F pins ρ σ B := .inr (.inl ⟨i, h⟩)
  have G : Go (Av F pins ρ σ) (Av F pins ρ σ) H H' := ⟨fun a o n e m => g.ext a o (fun z => n (by rw [z]; exact aB)) e m, fun a z => .inl z⟩
  -- first a heap with an empty list at B, then the heap H'
  have O1 := O.setOwn (xs := []) (vs := []) h .nil
  have ae1 : Av F pins (ρ.set i (some (.own []))) σ = Av F pins ρ σ := by
    funext b
    unfold Av
    simp only [setOwn_iff (xs := []) h]
  have hi : i < ρ.length := by
    obtain ⟨⟨zs, h1, _⟩, _⟩ := h
    rcases Nat.lt_or_ge i ρ.length with z | z
    · exact z
    · rw [List.getElem?_eq_none z] at h1; cases h1
  refine ⟨?_, ae⟩
  refine ⟨by rw [List.length_set]; exact O.len, fun j f hj => ?_, fun j k b z1 z2 => O.own j k b ((setOwn_iff h j b).mp z1) ((setOwn_iff h k b).mp z2), fun p hp => ?_, O.acs, fun b o n e m => ?_, fun b z => ?_, O.ln, O.h0, fun j b z => O.lf j b ((setOwn_iff h j b).mp z), ⟨tb, fun a ps e => let ⟨qs, h1⟩ := O.tb.2 a ps e; g.tbl a qs h1⟩⟩
  · rw [ae]
    rcases getset hj with ⟨rfl, q, hl⟩ | ⟨ne, q⟩
    · cases q
      obtain ⟨_, _, hl⟩ := O.ownL h
      exact ⟨.ref B, h.2, B, vs, rfl, hB, hv, hl⟩
    · obtain ⟨v, h3, h4⟩ := O.ent j f q
      refine ⟨v, h3, EntOk.goM G h4 fun b us ev hb ex mu => ?_⟩
      subst ev
      exact g.ext b _ (fun z => ne (O.own j i B (by subst z; exact ⟨⟨f, q, ex⟩, h3⟩) h)) hb mu.nt
  · rw [ae]
    have hq := O.pin p hp
    cases p with
    | val v r =>
      cases r with
      | d x => exact Im.go G hq
      | o j =>
        refine ⟨hq.1, ?_⟩
        by_cases e2 : j = i
        · subst e2
          exact ⟨.list ys, by unfold slot; rw [List.getElem?_set_self hi]⟩
        · obtain ⟨x, hx2⟩ := hq.2
          exact ⟨x, by rw [slot_ne e2]; exact hx2⟩
      | raw u => exact hq
    | acc b zs =>
      obtain ⟨us, h3, h4, h5, h6⟩ := hq
      exact ⟨us, g.ext b _ (fun z => h6 (by subst z; exact ⟨i, h⟩)) h3 nt_lst, h4.go G, h5, fun ⟨j, z⟩ => h6 ⟨j, (setOwn_iff h j b).mp z⟩⟩
    | frz b o =>
      obtain ⟨u, h1⟩ := hq
      refine ⟨u, g.ext b _ (fun z => ?_) h1 nt_frz⟩
      subst z
      obtain ⟨w, g1, g2, _⟩ := O.ownM h
      rw [h1] at g1; cases g1; exact g2.elim
  · obtain ⟨_, _, hl⟩ := O.ownL h
    refine g.ext b o (fun z => ?_) (O.fr b o n e m) m
    subst z
    rcases hl with hl | hl
    · exact n hl
    · rw [hl] at e; cases e
  · by_cases e : b = B
    · subst e; exact ⟨_, hB, trivial⟩
    · obtain ⟨o, z, m⟩ := O.nh b z
      exact ⟨o, g.ext b o e z m.nt, m⟩
theorem de_callB {ks : List Kd} {S : Sb} {E : XK} (hS : MonoB S) (h : DA F t d) : DE F (fun σ H Q => t σ H fun vs H1 => spB F.K F.T ks S vs H1 Q E) (dCallB ks S d) := by
  constructor
  · intro pins ρ σ H Q O hq
    refine h.run pins ρ σ H _ O (h.mono _ _ _ (fun rs ρ1 h1 vs H1 O1 R1 => ?_) hq)
    cases rs with
    | nil => exact h1.elim
    | cons r rs =>
      cases r with
      | d x => exact h1.elim
      | raw u => exact h1.elim
      | o i =>
        obtain ⟨hns, h1⟩ := h1
        obtain ⟨bag, e0, h2⟩ := onOwn_of h1
        obtain ⟨xs, e, h3⟩ := onArgs_of h2
        simp only [ROks] at R1
        obtain ⟨v, us, rfl, R0, R1⟩ := R1
        obtain ⟨B, bvs, g1, g2, g3, g4⟩ := O1.ownGet e0
        have := R0.1
        rw [g1] at this; cases this
        refine ⟨Av F pins ρ1 σ, B, bvs, us, bag, xs, O1.tb.1, rfl, .inr (.inl ⟨i, g4⟩), fun a ha => O1.avM ha, g2, g3, args_ok O1 (fun a z => by obtain ⟨_, _, hl⟩ := O1.ownL g4; rw [z]; exact hl) (fun r hr j a e z ea => noSelf_mem hns r hr j e (O1.own j i B (by rw [← ea]; exact z) g4)) R1 e, hS _ _ _ _ (fun z bag' q v H' bvs' g tb hB hv im => ?_) h3⟩
        obtain ⟨O2, ae⟩ := O1.lent g4 g tb hB hv
        exact q v H' O2 (by show Im F.K (Av F pins (ρ1.set i (some (.own bag'))) σ) H' z v; rw [ae]; exact im)
  · intro ρ Q Q' hq hh
    refine h.mono _ _ _ (fun rs ρ1 h1 => ?_) hh
    cases rs with
    | nil => exact h1.elim
    | cons r rs =>
      cases r with
      | d x => exact h1.elim
      | raw u => exact h1.elim
      | o i => exact ⟨h1.1, onOwn_mono h1.2 fun bag h2 => onArgs_mono h2 fun xs h3 => hS _ _ _ _ (fun z b => hq _ _) h3⟩
theorem pd_callBag {ks : List Kd} {S : Sb} {k : Nat} {f : Addr} {fd : FuncData} {ps : List Str} {x : Str} {p : Pos} (G : FnG X.prog X.w X.K X.mg X.base CX0 k f fd ps (spB F.K F.T ks S)) (hS : MonoB S) (hr : Room k X.A) (hgd : X.A.guards = some []) (hg : Gl X x) (hm : X.mg x = some (.ref f)) (hk : PySem.W.keepIn X.K (.ref f) = true) (hb : Binds X.K fd ps [])
    (ha : PDA X F (e :: es) t d) (hdb : (x == ("__debug__" : Str)) = false := by decide) (he : starEach (e :: es) X.env = (false, eval e X.env) :: starEach es X.env := by rfl) (hpl : (backTo pos (starEach es X.env)).any (·.1) = false := by rfl) :
    PD X F (.Call (.Name x p) (e :: es) [] pos) (fun σ H Q => t σ H fun vs H1 => spB F.K F.T ks S vs H1 Q E0) (dCallB ks S d) :=
  ⟨pe_callG G hr hgd hg hm hk hb ha.pa hdb he hpl, de_callB hS ha.da⟩
end
def entOf : Kd → PyData → Ent
  | .d, x => .d x
  | .ro, x => .ro x
def rhoP (n : Nat) (ks : List Kd) (xs : List PyData) : Rho := (ks.zip xs).map (fun p => some (entOf p.1 p.2)) ++ List.replicate (n - xs.length) none
def frP (K : PySem.W.Frag) (H : Hp) (N : Addr → Prop) (T : List (Addr × Str)) : Fm := ⟨K, H, N, fun _ => False, fun _ => False, T⟩
def frB (K : PySem.W.Frag) (H : Hp) (N : Addr → Prop) (B : Addr) (T : List (Addr × Str)) : Fm := ⟨K, H, N, fun a => a = B, fun i => i = 0, T⟩
theorem ArgsOk.len {K : PySem.W.Frag} {N Z : Addr → Prop} {H : Hp} : ∀ {ks : List Kd} {xs : List PyData} {vs : List V}, ArgsOk K N Z H ks xs vs → vs.length = ks.length ∧ xs.length = ks.length
  | [], [], _, h => by simp only [ArgsOk] at h; subst h; exact ⟨rfl, rfl⟩
  | k :: ks, x :: xs, _, h => by
    simp only [ArgsOk] at h
    obtain ⟨v, us, rfl, _, h2⟩ := h
    obtain ⟨e1, e2⟩ := ArgsOk.len h2
    exact ⟨by simp [e1], by simp [e2]⟩
  | [], _ :: _, _, h => by simp only [ArgsOk] at h
  | _ :: _, [], _, h => by simp only [ArgsOk] at h
theorem ArgsOk.at {K : PySem.W.Frag} {N Z : Addr → Prop} {H : Hp} : ∀ {ks : List Kd} {xs : List PyData} {vs : List V} {i : Nat} {e : Ent}, ArgsOk K N Z H ks xs vs → ((ks.zip xs).map (fun p => some (entOf p.1 p.2)))[i]? = some (some e) → ∃ k x v, e = entOf k x ∧ vs[i]? = some v ∧ ArgOk K N Z H k x v
  | [], [], _, _, _, _, h => by simp at h
  | k :: ks, x :: xs, _, 0, e, h, he => by
    simp only [ArgsOk] at h
    obtain ⟨v, us, rfl, h1, _⟩ := h
    simp at he
    exact ⟨k, x, v, he.symm, rfl, h1⟩
  | k :: ks, x :: xs, _, i + 1, e, h, he => by
    simp only [ArgsOk] at h
    obtain ⟨v, us, rfl, _, h2⟩ := h
    obtain ⟨k', x', v', g1, g2, g3⟩ := ArgsOk.at (i := i) h2 (by simpa using he)
    exact ⟨k', x', v', g1, by simpa using g2, g3⟩
  | [], _ :: _, _, _, _, h, _ => by simp only [ArgsOk] at h
  | _ :: _, [], _, _, _, h, _ => by simp only [ArgsOk] at h
end DV
namespace DV
open PySem PySem.Spec PyProof.Rows L2
open LamX (ExtN TabS Tabs CodeO)
theorem rhoP_len {n : Nat} {ks : List Kd} {xs : List PyData} (h : xs.length = ks.length) (hn : ks.length ≤ n) : (rhoP n ks xs).length = n := by
  unfold rhoP
  rw [List.length_append, List.length_map, List.length_zip, List.length_replicate]
  omega
theorem rhoP_some {n : Nat} {ks : List Kd} {xs : List PyData} {i : Nat} {e : Ent} (h : (rhoP n ks xs)[i]? = some (some e)) : ((ks.zip xs).map (fun p => some (entOf p.1 p.2)))[i]? = some (some e) := by
  unfold rhoP at h
  by_cases hi : i < ((ks.zip xs).map (fun p => some (entOf p.1 p.2))).length
  · rw [List.getElem?_append_left hi] at h; exact h
  · rw [List.getElem?_append_right (by omega), List.getElem?_replicate] at h
    split at h <;> cases h
theorem arg_ent {K : PySem.W.Frag} {N A Z : Addr → Prop} {H : Hp} {F : Fm} (hF : F.K = K) (hH : F.H0 = H) (hL : ∀ a, F.L a → Z a) (hA : ∀ a, A a → N a) {k : Kd} {x : PyData} {v : V} (h : ArgOk K N Z H k x v) : EntOk F A H (entOf k x) v := by
  subst hF hH
  have G : Go N A F.H0 F.H0 := ⟨fun a o _ e _ => e, fun a z => .inl (hA a z)⟩
  cases k with
  | d => exact Im.go G h
  | ro =>
    rcases h with h | ⟨a, us, xs, e, e2, l, t⟩
    · exact .inl (Im.go G h)
    · refine .inr ⟨a, us, xs, e, e2, ?_, t.go G⟩
      rcases l with ⟨l, n⟩ | l
      · exact .inl ⟨l, fun z => n (hL a z)⟩
      · exact .inr l
def retP (r : R) (ρ : Rho) (Q : PyData → Prop) : Prop := match r with
  | .d z => Q z
  | .o i => onOwn ρ i fun xs => Q (.list xs)
  | .raw _ => False
def retB (r : R) (ρ : Rho) (Q : PyData → List PyData → Prop) : Prop := onOwn ρ 0 fun bag => match r with
  | .d z => Q z bag
  | .o (i + 1) => onOwn ρ (i + 1) fun xs => Q (.list xs) bag
  | _ => False
theorem fixP {K : PySem.W.Frag} {H : Hp} {N : Addr → Prop} {T : List (Addr × Str)} {i : Nat} : ¬ (frP K H N T).fix i := fun z => z
theorem fixB {K : PySem.W.Frag} {H : Hp} {N : Addr → Prop} {B : Addr} {T : List (Addr × Str)} {i : Nat} (h : i ≠ 0) : ¬ (frB K H N B T).fix i := h
theorem nofixP {K : PySem.W.Frag} {H : Hp} {N : Addr → Prop} {T : List (Addr × Str)} {l : List Nat} : ∀ i ∈ l, ¬ (frP K H N T).fix i := fun _ _ z => z
theorem nofixB {K : PySem.W.Frag} {H : Hp} {N : Addr → Prop} {B : Addr} {T : List (Addr × Str)} {l : List Nat} (h : ∀ i ∈ l, i ≠ 0) : ∀ i ∈ l, ¬ (frB K H N B T).fix i := h
section
variable {P : Program} {w : World} {K : PySem.W.Frag} {mg : Str → Option Value} {base : Heap} {T : List (Addr × Str)}
theorem fnPC {x qual : Str} {st : Stmt} {f : Addr} {fd : FuncData} {N ps : List Str} {k : Nat} {ks : List Kd} {S : Sd} (W : Fun K x qual st f fd) (Sc : FnScope N ps (defScope st)) (hks : ks.length = ps.length)
    (body : ∀ (cdv : Value), fd.code = cdv → ∀ (A : Around) (out : List Env) (s : Shared) (H : Hp) (E : XK) (Nn : Addr → Prop), Room k (A.deeper (envOfC qual (defScope st) s.heap.objs.size f cdv)) → A.guards = some [] →
      ∃ ts tds, PDSs (cxOf CX0 P w K mg base N qual (defScope st) f cdv A out s H E).nox (frP K H Nn T) (defBody st) ts tds ∧
        ∀ xs Q, xs.length = ks.length → S xs Q → tds { nx := fun _ => Q .none, rt := fun r ρ => retP r ρ Q } (rhoP N.length ks xs)) : FnG P w K mg base CX0 (k + 1) f fd ps (spP K T ks S) := by
  have hpl : ps.length ≤ N.length := by have := congrArg List.length Sc.pre; rw [List.length_take] at this; omega
  refine fg_ofC W Sc (fun vs H Q E h => ?_) fun cdv hcd A out s H vs Q E hr hgd h => ?_
  · obtain ⟨Nn, xs, _, _, ha, _⟩ := h
    rw [ha.len.1, hks]
  obtain ⟨Nn, xs, tb, hM, ha, hS⟩ := h
  have hN : ∀ a, Nn a → ∃ o, H a = some o := fun a z => let ⟨o, e, _⟩ := hM a z; ⟨o, e⟩
  obtain ⟨ts, tds, hb, hq⟩ := body cdv hcd A out s H E Nn hr hgd
  refine ⟨ts, hb.pss, ?_⟩
  have hl := ha.len
  have noOwn : ∀ i a, ¬ OwnAt (rhoP N.length ks xs) (L2.start N vs) i a := by
    rintro i a ⟨⟨ys, h1, hm⟩, _⟩
    obtain ⟨k, x, v, e, _⟩ := ha.at (rhoP_some h1)
    subst e
    cases k <;> exact hm
  have O : Ok (frP K H Nn T) [] (rhoP N.length ks xs) (L2.start N vs) H := by
    refine ⟨?_, fun i e h1 => ?_, fun i j a h1 _ => absurd h1 (noOwn i a), fun p hp => (nomatch hp), .nil, fun a o _ e _ => e, hM, fun a h => h.elim, hN, fun i a _ h => h.elim, tb, fun a ps e => ⟨ps, e⟩⟩
    · rw [rhoP_len hl.2 (by rw [hks]; exact hpl)]
      unfold L2.start
      rw [List.length_append, List.length_map, List.length_replicate]
      omega
    · obtain ⟨k, x, v, rfl, h2, h3⟩ := ha.at (rhoP_some h1)
      refine ⟨v, ?_, arg_ent (N := Nn) rfl rfl (fun a z => z) (fun a z => ?_) h3⟩
      · have hi : i < vs.length := by
          rcases Nat.lt_or_ge i vs.length with z | z
          · exact z
          · rw [List.getElem?_eq_none z] at h2; cases h2
        unfold L2.start
        rw [List.getElem?_append_left (by simpa using hi), List.getElem?_map, h2]; rfl
      · rcases z with z | ⟨j, z⟩ | z
        · exact z
        · exact absurd z (noOwn j a)
        · cases z
  refine hb.ds [] _ _ H _ _ O (fun v j hp => nomatch hp) ⟨fun ρ σ H' O' q => ?_, fun ρ σ H' v r O' R' q => ?_, fun _ _ _ _ q => False.elim q, fun _ _ _ _ q => False.elim q, fun _ _ _ _ _ _ q => False.elim q⟩ (hq xs _ hl.2 hS)
  · exact q .non H' ⟨fun a o e => O'.fr a o (fun z => z) e, O'.tb.2⟩ O'.tb.1 .none
  · have G : Go (Av (frP K H Nn T) [] ρ σ) Nn H' H' := ⟨fun _ _ _ e _ => e, fun a z => .inl (.inl z)⟩
    have fr : Gr H H' := ⟨fun a o e => O'.fr a o (fun z => z) e, O'.tb.2⟩
    cases r with
    | d z => exact q v H' fr O'.tb.1 (Im.go G R')
    | raw u => exact q.elim
    | o i =>
      obtain ⟨ys, e, q⟩ := onOwn_of q
      obtain ⟨p, us, h1, h2, h3, h4⟩ := O'.ownGet e
      have := R'.1
      rw [h1] at this; cases this
      refine q _ H' fr O'.tb.1 ?_
      simp only [Im]
      refine ⟨p, us, rfl, ⟨h2, fun z => ?_⟩, h3.go G⟩
      obtain ⟨_, _, hl⟩ := O'.ownL h4
      rcases hl with hl | hl
      · exact hl
      · obtain ⟨o, e⟩ := hN p z
        have hl : H p = none := hl
        rw [hl] at e; cases e
theorem fnP {x qual : Str} {st : Stmt} {f : Addr} {fd : FuncData} {N ps : List Str} {k : Nat} {ks : List Kd} {S : Sd} (W : Fun K x qual st f fd) (Sc : FnScope N ps (defScope st)) (hks : ks.length = ps.length)
    (body : ∀ (cdv : Value) (A : Around) (out : List Env) (s : Shared) (H : Hp) (E : XK) (Nn : Addr → Prop), Room k (A.deeper (envOfC qual (defScope st) s.heap.objs.size f cdv)) → A.guards = some [] →
      ∃ ts tds, PDSs (cxOf CX0 P w K mg base N qual (defScope st) f cdv A out s H E).nox (frP K H Nn T) (defBody st) ts tds ∧
        ∀ xs Q, xs.length = ks.length → S xs Q → tds { nx := fun _ => Q .none, rt := fun r ρ => retP r ρ Q } (rhoP N.length ks xs)) : FnG P w K mg base CX0 (k + 1) f fd ps (spP K T ks S) :=
  fnPC W Sc hks fun cdv _ => body cdv
theorem fnB {x qual : Str} {st : Stmt} {f : Addr} {fd : FuncData} {N ps : List Str} {k : Nat} {ks : List Kd} {S : Sb} (W : Fun K x qual st f fd) (Sc : FnScope N ps (defScope st)) (hks : ks.length + 1 = ps.length)
    (body : ∀ (cdv : Value) (A : Around) (out : List Env) (s : Shared) (H : Hp) (E : XK) (Nn : Addr → Prop) (B : Addr), Room k (A.deeper (envOfC qual (defScope st) s.heap.objs.size f cdv)) → A.guards = some [] →
      ∃ ts tds, PDSs (cxOf CX0 P w K mg base N qual (defScope st) f cdv A out s H E).nox (frB K H Nn B T) (defBody st) ts tds ∧
        ∀ bag xs Q, xs.length = ks.length → S bag xs Q → tds { nx := fun ρ => retB (.d .none) ρ Q, rt := fun r ρ => retB r ρ Q } (some (.own bag) :: rhoP (N.length - 1) ks xs)) : FnG P w K mg base CX0 (k + 1) f fd ps (spB K T ks S) := by
  have hpl : ps.length ≤ N.length := by have := congrArg List.length Sc.pre; rw [List.length_take] at this; omega
  refine fg_of W Sc (fun vs H Q E h => ?_) fun cdv A out s H vs Q E hr hgd h => ?_
  · obtain ⟨Nn, B, bvs, ws, bag, xs, _, rfl, _, _, _, _, ha, _⟩ := h
    rw [List.length_cons, ha.len.1, hks]
  obtain ⟨Nn, B, bvs, ws, bag, xs, tb, rfl, hNB, hM, hB, hbag, ha, hS⟩ := h
  have hN : ∀ a, Nn a → ∃ o, H a = some o := fun a z => let ⟨o, e, _⟩ := hM a z; ⟨o, e⟩
  obtain ⟨ts, tds, hb, hq⟩ := body cdv A out s H E Nn B hr hgd
  refine ⟨ts, hb.pss, ?_⟩
  have hl := ha.len
  have own0 : ∀ i a, OwnAt (some (.own bag) :: rhoP (N.length - 1) ks xs) (L2.start N (.ref B :: ws)) i a → i = 0 ∧ a = B := by
    rintro i a ⟨⟨ys, h1, hm⟩, h2⟩
    cases i with
    | zero =>
      have h2 : some (some (V.ref B)) = some (some (V.ref a)) := h2
      cases h2; exact ⟨rfl, rfl⟩
    | succ i =>
      obtain ⟨k, x, v, e, _⟩ := ha.at (rhoP_some (show (rhoP (N.length - 1) ks xs)[i]? = some (some ys) by simpa using h1))
      subst e
      cases k <;> exact hm.elim
  have at0 : OwnAt (some (.own bag) :: rhoP (N.length - 1) ks xs) (L2.start N (.ref B :: ws)) 0 B := ⟨⟨.own bag, rfl, trivial⟩, rfl⟩
  have avN : ∀ a, Av (frB K H Nn B T) [.val (.ref B) (.o 0)] (some (.own bag) :: rhoP (N.length - 1) ks xs) (L2.start N (.ref B :: ws)) a → Nn a := by
    rintro a (z | ⟨j, z⟩ | z)
    · exact z
    · rw [(own0 j a z).2]; exact hNB
    · cases z
  have G0 : Go Nn (Av (frB K H Nn B T) [.val (.ref B) (.o 0)] (some (.own bag) :: rhoP (N.length - 1) ks xs) (L2.start N (.ref B :: ws))) H H := ⟨fun _ _ _ e _ => e, fun a z => .inl (avN a z)⟩
  have O : Ok (frB K H Nn B T) [.val (.ref B) (.o 0)] (some (.own bag) :: rhoP (N.length - 1) ks xs) (L2.start N (.ref B :: ws)) H := by
    refine ⟨?_, fun i e h1 => ?_, fun i j a h1 h2 => (own0 i a h1).1.trans (own0 j a h2).1.symm, fun p hp => ?_, .nil, fun a o _ e _ => e, hM, fun a h => ?_, hN, fun i a h _ => (own0 i a h).1, tb, fun a ps e => ⟨ps, e⟩⟩
    · rw [List.length_cons, rhoP_len hl.2 (by omega)]
      unfold L2.start
      rw [List.length_append, List.length_map, List.length_replicate, List.length_cons]
      omega
    · cases i with
      | zero =>
        have h1 : some (some (Ent.own bag)) = some (some e) := h1
        cases h1
        exact ⟨.ref B, rfl, B, bvs, rfl, hB, hbag.go G0, .inl rfl⟩
      | succ i =>
        obtain ⟨k, x, v, rfl, h2, h3⟩ := ha.at (rhoP_some (show (rhoP (N.length - 1) ks xs)[i]? = some (some e) by simpa using h1))
        refine ⟨v, ?_, ?_⟩
        · have hi : i < ws.length := by
            rcases Nat.lt_or_ge i ws.length with z | z
            · exact z
            · rw [List.getElem?_eq_none z] at h2; cases h2
          unfold L2.start
          rw [List.getElem?_append_left (by simpa using hi), List.getElem?_map]
          show (ws[i]?).map some = some (some v)
          rw [h2]; rfl
        · exact arg_ent (N := Nn) rfl rfl (fun a z => z) avN h3
    · rcases List.mem_cons.mp hp with rfl | hp
      · exact ⟨rfl, .list bag, rfl⟩
      · cases hp
    · rw [h]; exact hNB
  refine hb.ds [.val (.ref B) (.o 0)] _ _ H _ _ O (fun v j hp => ?_) ⟨fun ρ σ H' O' q => ?_, fun ρ σ H' v r O' R' q => ?_, fun _ _ _ _ q => False.elim q, fun _ _ _ _ q => False.elim q, fun _ _ _ _ _ _ q => False.elim q⟩ (hq bag xs _ hl.2 hS)
  · rcases List.mem_cons.mp hp with z | z
    · cases z; rfl
    · cases z
  all_goals
    have G : Go (Av (frB K H Nn B T) [.val (.ref B) (.o 0)] ρ σ) Nn H' H' := ⟨fun _ _ _ e _ => e, fun a z => .inl (.inl z)⟩
    have fr : GrB B H H' := ⟨fun a o n e => O'.fr a o n e, O'.tb.2⟩
    obtain ⟨bag', e0, q⟩ := onOwn_of q
    obtain ⟨p, us, h1, h2, h3, h4⟩ := O'.ownGet e0
    have hp0 := (O'.pin _ (List.mem_cons_self ..)).1
    rw [h1] at hp0; cases hp0
  · exact q .non H' us fr O'.tb.1 h2 (h3.go G) .none
  · cases r with
    | d z => exact q v H' us fr O'.tb.1 h2 (h3.go G) (Im.go G R')
    | raw u => exact q.elim
    | o i =>
      cases i with
      | zero => exact q.elim
      | succ i =>
        obtain ⟨ys, e, q⟩ := onOwn_of q
        obtain ⟨p, vs, g1, g2, g3, g4⟩ := O'.ownGet e
        have := R'.1
        rw [g1] at this; cases this
        refine q _ H' us fr O'.tb.1 h2 (h3.go G) ?_
        simp only [Im]
        refine ⟨p, vs, rfl, ⟨g2, fun z => ?_⟩, g3.go G⟩
        obtain ⟨_, _, hl⟩ := O'.ownL g4
        rcases hl with hl | hl
        · have hl : p = B := hl
          subst hl
          have := O'.own _ _ _ g4 h4
          cases this
        · obtain ⟨o, e⟩ := hN p z
          have hl : H p = none := hl
          rw [hl] at e; cases e
end
end DV
namespace DV
open PySem PySem.Spec PyProof.Rows L2
open LamX (ExtN TabS Tabs CodeO)
section
variable {X : Cx} {F : Fm} {a b c e : Expr} {es : List Expr} {ta tb tc te : TE} {da db dc de : TDE} {dl dl2 : TDL} {pos : Pos} {t : TA} {d : TDA} {tt tu : TT} {dt du : TDT}
theorem get_list : PGet X (rIxL X.K) := by
  intro pins s σ H o i ov iv Q I ro ri h
  obtain ⟨p, xs, k, z, rfl, rfl, hq, he, q⟩ := h
  cases ro
  obtain ⟨tk, rfl⟩ := ri
  obtain ⟨its, r, pl, hz⟩ := I.list hq
  obtain ⟨j, h1, h2, h3, h4, h5⟩ := atI_get he
  obtain ⟨w, ew, rw'⟩ := r.get h2
  have hl := r.length
  have hn := line63
  have fin : EP X pins σ Q w s := ⟨z, H, I, rw', q⟩
  by_cases h0 : 0 ≤ k
  · have hj : k.toNat = j := by
      rw [seqIndex_of h0 h5] at h1
      exact Option.some.inj h1
    exact wpAny_getItem_list pl.isList h0 (by omega) (by rw [hj]; simpa using ew) fin
  · have hj : (k + (its.toArray.size : Int)).toNat = j := by
      rw [seqIndex_neg (by omega) h4] at h1
      rw [List.size_toArray, ← hl]
      exact Option.some.inj h1
    exact wpAny_getItem_list_neg pl.isList (by omega) (by rw [List.size_toArray] <;> omega) (by omega) (by rw [hj]; simpa using ew) fin
/-- the items of a list or tuple -/
def items (ρ : Rho) : R → Option (List PyData)
  | .d (.list xs) => some xs
  | .d (.tuple xs) => some xs
  | .o i => match ρ[i]? with
    | some (some (.own xs)) => some xs
    | some (some (.ro (.list xs))) => some xs
    | some (some (.ro (.tuple xs))) => some xs
    | some (some (.d (.list xs))) => some xs
    | some (some (.d (.tuple xs))) => some xs
    | _ => none
  | _ => none
section
variable {pins : List Pin} {ρ : Rho} {σ : L2.St} {H : Hp}
theorem im_items {A : Addr → Prop} {x : PyData} {v : V} {xs : List PyData} (h : Im F.K A H x v) (e : x = .list xs ∨ x = .tuple xs) : ∃ a vs, v = .ref a ∧ (SqL F.K H a vs ∨ SqT F.K H a vs) ∧ ImAll F.K A H xs vs := by
  rcases e with rfl | rfl
  · simp only [Im] at h
    obtain ⟨a, vs, e, l, t⟩ := h
    exact ⟨a, vs, e, .inl l.sq, t⟩
  · simp only [Im] at h
    obtain ⟨a, vs, e, l, t⟩ := h
    exact ⟨a, vs, e, .inr l.sq, t⟩
theorem items_ok (O : Ok F pins ρ σ H) {r : R} {v : V} {xs : List PyData} (h : ROk F (Av F pins ρ σ) ρ σ H r v) (e : items ρ r = some xs) : ∃ a vs, v = .ref a ∧ (SqL F.K H a vs ∨ SqT F.K H a vs) ∧ ImAll F.K (Av F pins ρ σ) H xs vs := by
  cases r with
  | raw u => cases e
  | d x =>
    cases x <;> first | cases e | skip
    · exact im_items h (.inl rfl)
    · exact im_items h (.inr rfl)
  | o i =>
    have h1 := h.1
    have e : (match ρ[i]? with
      | some (some (.own xs)) => some xs
      | some (some (.ro (.list xs))) => some xs
      | some (some (.ro (.tuple xs))) => some xs
      | some (some (.d (.list xs))) => some xs
      | some (some (.d (.tuple xs))) => some xs
      | _ => none) = some xs := e
    split at e
    · rename_i ys q; cases e
      obtain ⟨p, vs, g1, g2, g3, _⟩ := O.ownGet q
      rw [h1] at g1; cases g1
      exact ⟨p, vs, rfl, .inl (.of g2), g3⟩
    · rename_i ys q; cases e
      obtain ⟨u, g1, g2⟩ := O.ent i _ q
      rw [h1] at g1; cases g1
      rcases g2 with g2 | ⟨p, us, zs, rfl, g4, g5, g6⟩
      · exact im_items g2 (.inl rfl)
      · cases g4; exact ⟨p, us, rfl, .inl (g5.sq O), g6⟩
    · rename_i ys q; cases e
      obtain ⟨u, g1, g2⟩ := O.ent i _ q
      rw [h1] at g1; cases g1
      rcases g2 with g2 | ⟨p, us, zs, rfl, g4, g5, g6⟩
      · exact im_items g2 (.inr rfl)
      · cases g4
    · rename_i ys q; cases e
      obtain ⟨u, g1, g2⟩ := O.ent i _ q
      rw [h1] at g1; cases g1
      exact im_items g2 (.inl rfl)
    · rename_i ys q; cases e
      obtain ⟨u, g1, g2⟩ := O.ent i _ q
      rw [h1] at g1; cases g1
      exact im_items g2 (.inr rfl)
    · cases e
end
def onItems (ρ : Rho) (r : R) (f : List PyData → Prop) : Prop := match items ρ r with
  | some xs => f xs
  | _ => False
theorem onItems_of {ρ : Rho} {r : R} {f : List PyData → Prop} (h : onItems ρ r f) : ∃ xs, items ρ r = some xs ∧ f xs := by
  unfold onItems at h
  split at h
  · exact ⟨_, by assumption, h⟩
  · exact h.elim
theorem onItems_mono {ρ : Rho} {r : R} {f g : List PyData → Prop} (h : onItems ρ r f) (k : ∀ xs, f xs → g xs) : onItems ρ r g := by
  unfold onItems at h ⊢
  split at h
  · exact k _ h
  · exact h.elim
def onInt (ρ : Rho) (r : R) (f : Int → Prop) : Prop := match val ρ r with
  | some (.int k) => f k
  | _ => False
theorem onInt_of {ρ : Rho} {r : R} {f : Int → Prop} (h : onInt ρ r f) : ∃ k, val ρ r = some (.int k) ∧ f k := by
  unfold onInt at h
  split at h
  · exact ⟨_, by assumption, h⟩
  · exact h.elim
theorem onInt_mono {ρ : Rho} {r : R} {f g : Int → Prop} (h : onInt ρ r f) (k : ∀ x, f x → g x) : onInt ρ r g := by
  unfold onInt at h ⊢
  split at h
  · exact k _ h
  · exact h.elim
def onAt (xs : List PyData) (k : Int) (f : PyData → Prop) : Prop := match atI xs k with
  | some y => f y
  | _ => False
theorem onAt_of {xs : List PyData} {k : Int} {f : PyData → Prop} (h : onAt xs k f) : ∃ y, atI xs k = some y ∧ f y := by
  unfold onAt at h
  split at h
  · exact ⟨_, by assumption, h⟩
  · exact h.elim
theorem onAt_mono {xs : List PyData} {k : Int} {f g : PyData → Prop} (h : onAt xs k f) (m : ∀ x, f x → g x) : onAt xs k g := by
  unfold onAt at h ⊢
  split at h
  · exact m _ h
  · exact h.elim
def dIx (ta tb : TDE) : TDE := dBin ta tb fun r s ρ Q => onItems ρ r fun xs => onInt ρ s fun k => onAt xs k fun y => Q (.d y) ρ
theorem at_rel {K : PySem.W.Frag} {N : Addr → Prop} {H : Hp} {xs : List PyData} {vs : List V} {k : Int} {y : PyData} (h : ImAll K N H xs vs) (e : atI xs k = some y) : ∃ v, atI vs k = some v ∧ Im K N H y v := by
  unfold atI at e ⊢
  rw [h.length]
  cases q : ixN xs.length k with
  | none => rw [q] at e; cases e
  | some j =>
    rw [q] at e
    exact h.get e
theorem pd_ix (ha : PD X F a ta da) (hb : PD X F b tb db) (hs : PlainIx b) (hK : X.K = F.K := by rfl) : PD X F (.Subscript a b pos) (tOp (fun x y H Q => rIxL F.K x y H Q ∨ rIxT F.K x y H Q) ta tb) (dIx da db) := by
  refine ⟨?_, de_bin ha.de hb.de (fun pins ρ σ H x y r s Q O R1 R2 h => ?_) fun r s ρ Q Q' hq h => onItems_mono h fun xs h => onInt_mono h fun k h => onAt_mono h fun y h => hq _ _ h⟩
  · have := pe_ix (pos := pos) (ix_list.or ix_tup) ha.pe hb.pe hs
    rw [hK] at this
    exact this
  obtain ⟨xs, e1, h⟩ := onItems_of h
  obtain ⟨k, e2, h⟩ := onInt_of h
  obtain ⟨y, e3, h⟩ := onAt_of h
  obtain ⟨p, vs, rfl, l, im⟩ := items_ok O R1 e1
  cases dp_int (val_dp O R2 e2)
  obtain ⟨v, e4, i4⟩ := at_rel im e3
  rcases l with l | l
  · exact .inl ⟨p, vs, k, v, rfl, rfl, l, e4, h v H O i4⟩
  · exact .inr ⟨p, vs, k, v, rfl, rfl, l, e4, h v H O i4⟩
def cutD (xs : List PyData) (lo hi : Option Int) : List PyData := (xs.drop (HT.sIx xs.length 0 lo)).take (HT.sIx xs.length xs.length hi - HT.sIx xs.length 0 lo)
theorem ImAll.cut {K : PySem.W.Frag} {N : Addr → Prop} {H : Hp} {xs : List PyData} {vs : List V} (h : ImAll K N H xs vs) (lo hi : Option Int) : ImAll K N H (cutD xs lo hi) (cutV vs lo hi) := by
  unfold cutD cutV
  rw [h.length]
  exact (h.drop _).take _
abbrev TDO := Rho → (Option Int → Rho → Prop) → Prop
structure DO (F : Fm) (to : TO) (td : TDO) : Prop where
  run : ∀ (pins : List Pin) (ρ : Rho) (σ : L2.St) (H : Hp) (Q : Option Int → Hp → Prop), Ok F pins ρ σ H → td ρ (fun o ρ' => ∀ H', Ok F pins ρ' σ H' → Q o H') → to σ H Q
  mono : ∀ ρ Q Q', (∀ r ρ', Q r ρ' → Q' r ρ') → td ρ Q → td ρ Q'
structure PDO (X : Cx) (F : Fm) (e : Option Expr) (to : TO) (td : TDO) : Prop where
  po : PO X e to
  d : DO F to td
def dNoPart : TDO := fun ρ Q => Q none ρ
def dPart (te : TDE) : TDO := fun ρ Q => te ρ fun r ρ1 => onInt ρ1 r fun k => Q (some k) ρ1
theorem pdo_none : PDO X F none tNoPart dNoPart := ⟨po_none, fun pins ρ σ H Q O h => h H O, fun _ _ _ hq h => hq _ _ h⟩
theorem pdo_some (h : PD X F e te de) : PDO X F (some e) (tPart te) (dPart de) := by
  refine ⟨po_some h.pe, fun pins ρ σ H Q O hq => ?_, fun ρ Q Q' hq hh => h.de.mono _ _ _ (fun r ρ1 h1 => onInt_mono h1 fun k => hq _ _) hh⟩
  refine h.de.run pins ρ σ H _ O (h.de.mono _ _ _ (fun r ρ1 h1 v H1 O1 R1 => ?_) hq)
  obtain ⟨k, e, q⟩ := onInt_of h1
  cases dp_int (val_dp O1 R1 e)
  exact ⟨k, rfl, q H1 O1⟩
def dSlice (te : TDE) (tl th : TDO) (k : R → Option Int → Option Int → Rho → Prop) (ρ : Rho) : Prop := te ρ fun r ρ1 => tl ρ1 fun lo ρ2 => th ρ2 fun hi ρ3 => k r lo hi ρ3
variable {lo hi : Option Expr} {tl th : TO} {dlo dhi : TDO} {p2 : Pos}
/-- the items of a list that callers or this body may change -/
def litems (ρ : Rho) : R → Option (List PyData)
  | .d (.list xs) => some xs
  | .o i => match ρ[i]? with
    | some (some (.own xs)) => some xs
    | some (some (.ro (.list xs))) => some xs
    | some (some (.d (.list xs))) => some xs
    | _ => none
  | _ => none
theorem litems_ok {pins : List Pin} {ρ : Rho} {σ : L2.St} {H : Hp} (O : Ok F pins ρ σ H) {r : R} {v : V} {xs : List PyData} (h : ROk F (Av F pins ρ σ) ρ σ H r v) (e : litems ρ r = some xs) : ∃ a vs, v = .ref a ∧ SqL F.K H a vs ∧ ImAll F.K (Av F pins ρ σ) H xs vs := by
  have lst : ∀ {A : Addr → Prop} {v : V} {xs : List PyData}, Im F.K A H (.list xs) v → ∃ a vs, v = .ref a ∧ SqL F.K H a vs ∧ ImAll F.K A H xs vs := fun {A v xs} h => by
    simp only [Im] at h
    obtain ⟨a, vs, e, l, t⟩ := h
    exact ⟨a, vs, e, l.sq, t⟩
  cases r with
  | raw u => cases e
  | d x =>
    cases x <;> first | cases e | skip
    exact lst h
  | o i =>
    have h1 := h.1
    have e : (match ρ[i]? with
      | some (some (.own xs)) => some xs
      | some (some (.ro (.list xs))) => some xs
      | some (some (.d (.list xs))) => some xs
      | _ => none) = some xs := e
    split at e
    · rename_i ys q; cases e
      obtain ⟨p, vs, g1, g2, g3, _⟩ := O.ownGet q
      rw [h1] at g1; cases g1
      exact ⟨p, vs, rfl, .of g2, g3⟩
    · rename_i ys q; cases e
      obtain ⟨u, g1, g2⟩ := O.ent i _ q
      rw [h1] at g1; cases g1
      rcases g2 with g2 | ⟨p, us, zs, rfl, g4, g5, g6⟩
      · exact lst g2
      · cases g4; exact ⟨p, us, rfl, g5.sq O, g6⟩
    · rename_i ys q; cases e
      obtain ⟨u, g1, g2⟩ := O.ent i _ q
      rw [h1] at g1; cases g1
      exact lst g2
    · cases e
def onL (ρ : Rho) (r : R) (f : List PyData → Prop) : Prop := match litems ρ r with
  | some xs => f xs
  | _ => False
theorem onL_of {ρ : Rho} {r : R} {f : List PyData → Prop} (h : onL ρ r f) : ∃ xs, litems ρ r = some xs ∧ f xs := by
  unfold onL at h
  split at h
  · exact ⟨_, by assumption, h⟩
  · exact h.elim
theorem onL_mono {ρ : Rho} {r : R} {f g : List PyData → Prop} (h : onL ρ r f) (k : ∀ xs, f xs → g xs) : onL ρ r g := by
  unfold onL at h ⊢
  split at h
  · exact k _ h
  · exact h.elim
def dSlL (te : TDE) (tl th : TDO) : TDL := fun ρ Q => dSlice te tl th (fun r lo hi ρ3 => onL ρ3 r fun xs => Q (cutD xs lo hi) ρ3) ρ
theorem pl_slice (he : PD X F e te de) (hl : PDO X F lo tl dlo) (hh : PDO X F hi th dhi) (hK : X.K = F.K := by rfl) : PDL X F (.Subscript e (.Slice lo hi none p2) pos) (tSl (rSlL F.K) te tl th) (dSlL de dlo dhi) := by
  refine ⟨?_, fun pins ρ σ H Q O h => ?_, fun ρ Q Q' hq h => he.de.mono _ _ _ (fun r ρ1 h1 => hl.d.mono _ _ _ (fun l ρ2 h2 => hh.d.mono _ _ _ (fun u ρ3 h3 => onL_mono h3 fun xs => hq _ _) h2) h1) h⟩
  · have := pe_slice (pos := pos) (p2 := p2) sl_list he.pe hl.po hh.po
    rw [hK] at this
    exact this
  refine he.de.run pins ρ σ H _ O (he.de.mono _ _ _ (fun r ρ1 h1 v H1 O1 R1 => ?_) h)
  refine hl.d.run (.val v r :: pins) ρ1 σ H1 _ (O1.push R1) (hl.d.mono _ _ _ (fun l ρ2 h2 H2 O2 => ?_) h1)
  refine hh.d.run (.val v r :: pins) ρ2 σ H2 _ O2 (hh.d.mono _ _ _ (fun u ρ3 h3 H3 O3 => ?_) h2)
  obtain ⟨O4, R4⟩ := O3.popV
  obtain ⟨xs, e1, q⟩ := onL_of h3
  obtain ⟨p, vs, rfl, sq, im⟩ := litems_ok O4 R4 e1
  exact ⟨p, vs, rfl, sq, fun p' hp => q p' _ (O4.pushL hp (im.cut l u))⟩
def mitems (ρ : Rho) : R → Option (List PyData)
  | .d (.list xs) => some xs
  | .o i => match ρ[i]? with
    | some (some (.own xs)) => some xs
    | _ => none
  | _ => none
theorem mitems_ok {pins : List Pin} {ρ : Rho} {σ : L2.St} {H : Hp} (O : Ok F pins ρ σ H) {r : R} {v : V} {xs : List PyData} (h : ROk F (Av F pins ρ σ) ρ σ H r v) (e : mitems ρ r = some xs) : ∃ a vs, v = .ref a ∧ H a = some (.lst vs) ∧ ImAll F.K (Av F pins ρ σ) H xs vs := by
  cases r with
  | raw u => cases e
  | d x =>
    cases x <;> first | cases e | skip
    have h : Im F.K (Av F pins ρ σ) H (.list xs) v := h
    simp only [Im] at h
    obtain ⟨a, vs, e, l, t⟩ := h
    exact ⟨a, vs, e, l.1, t⟩
  | o i =>
    have h1 := h.1
    have e : (match ρ[i]? with
      | some (some (.own xs)) => some xs
      | _ => none) = some xs := e
    split at e
    · rename_i ys q; cases e
      obtain ⟨p, vs, g1, g2, g3, _⟩ := O.ownGet q
      rw [h1] at g1; cases g1
      exact ⟨p, vs, rfl, g2, g3⟩
    · cases e
def onM (ρ : Rho) (r : R) (f : List PyData → Prop) : Prop := match mitems ρ r with
  | some xs => f xs
  | _ => False
theorem onM_of {ρ : Rho} {r : R} {f : List PyData → Prop} (h : onM ρ r f) : ∃ xs, mitems ρ r = some xs ∧ f xs := by
  unfold onM at h
  split at h
  · exact ⟨_, by assumption, h⟩
  · exact h.elim
theorem onM_mono {ρ : Rho} {r : R} {f g : List PyData → Prop} (h : onM ρ r f) (k : ∀ xs, f xs → g xs) : onM ρ r g := by
  unfold onM at h ⊢
  split at h
  · exact k _ h
  · exact h.elim
def dCat (ta tb : TDE) : TDL := fun ρ Q => ta ρ fun r ρ1 => tb ρ1 fun s ρ2 => onM ρ2 r fun xs => onM ρ2 s fun ys => Few (xs.length + ys.length) ∧ Q (xs ++ ys) ρ2
theorem pl_cat (ha : PD X F a ta da) (hb : PD X F b tb db) : PDL X F (.BinOp a .Add b pos) (tOp rCat ta tb) (dCat da db) := by
  refine ⟨pe_op op_cat ha.pe hb.pe, fun pins ρ σ H Q O h => ?_, fun ρ Q Q' hq h => ha.de.mono _ _ _ (fun r ρ1 h1 => hb.de.mono _ _ _ (fun s ρ2 h2 => onM_mono h2 fun xs h3 => onM_mono h3 fun ys h4 => ⟨h4.1, hq _ _ h4.2⟩) h1) h⟩
  refine ha.de.run pins ρ σ H _ O (ha.de.mono _ _ _ (fun r ρ1 h1 x H1 O1 R1 => ?_) h)
  refine hb.de.run (.val x r :: pins) ρ1 σ H1 _ (O1.push R1) (hb.de.mono _ _ _ (fun s ρ2 h2 y H2 O2 R2 => ?_) h1)
  obtain ⟨O3, R3⟩ := O2.popV
  obtain ⟨xs, e1, h3⟩ := onM_of h2
  obtain ⟨ys, e2, h4, q⟩ := onM_of h3
  obtain ⟨p, vs, rfl, g1, i1⟩ := mitems_ok O3 R3 e1
  obtain ⟨p2, us, rfl, g2, i2⟩ := mitems_ok O3 R2 e2
  exact ⟨p, p2, vs, us, rfl, rfl, g1, g2, by rw [i1.length, i2.length]; exact h4, fun p' hp => q p' _ (O3.pushL hp (i1.append i2))⟩
def dTupOf (t : TDA) : TDE := fun ρ Q => t ρ fun rs ρ1 => match rs with
  | [.d (.tuple xs)] => Q (.d (.tuple xs)) ρ1
  | [r] => onL ρ1 r fun xs => Q (.d (.tuple xs)) ρ1
  | _ => False
end
section
variable {X : Cx} {F : Fm} {tg e e2 : Expr} {te te2 : TE} {de de2 : TDE} {pos p : Pos} {t : TA} {d : TDA}
theorem PI.or {tg iter : Expr} {w1 w2 : TI} (h1 : PI X tg iter w1) (h2 : PI X tg iter w2) : PI X tg iter (fun σ H R => w1 σ H R ∨ w2 σ H R) :=
  ⟨fun pins s σ H R I h => h.elim (h1.run pins s σ H R I) (h2.run pins s σ H R I)⟩
end
end DV
namespace DV
open PySem PySem.Spec PyProof.Rows L2
open LamX (ExtN TabS Tabs CodeO)
section
variable {X : Cx} {F : Fm} {tg e e2 a b : Expr} {te te2 ta tb : TE} {de de2 da db : TDE} {pos p : Pos} {t : TA} {d : TDA}
theorem wok_list {v : V} {xs : List PyData} {a : Addr} (hv : v = .ref a) : WOk F (Itl F.K a) xs [.val v (.d (.list xs))] := by
  subst hv
  have key : ∀ (pins : List Pin) (ρ : Rho) (σ : L2.St) (H : Hp), (∀ q ∈ [Pin.val (.ref a) (.d (.list xs))], q ∈ pins) → Ok F pins ρ σ H → ∃ vs, SqL F.K H a vs ∧ ImAll F.K (Av F pins ρ σ) H xs vs := fun pins ρ σ H hp O => by
    have h : Im F.K (Av F pins ρ σ) H (.list xs) (.ref a) := O.pin _ (hp _ (List.mem_cons_self ..))
    simp only [Im] at h
    obtain ⟨q, vs, e, l, im⟩ := h
    cases e
    exact ⟨vs, l.sq, im⟩
  refine ⟨fun i pins ρ σ H hp hi O => ?_, fun pins ρ σ H hp O => ?_, fun i pins ρ σ H x H' hp hi O y => ?_⟩
  · obtain ⟨vs, h1, h2⟩ := key pins ρ σ H hp O
    have hl := h2.length
    exact ⟨vs, vs[i]'(by omega), h1, by simp⟩
  · obtain ⟨vs, h1, h2⟩ := key pins ρ σ H hp O
    exact ⟨vs, h1, by rw [h2.length]; exact Nat.le_refl _⟩
  · obtain ⟨vs, h1, h2⟩ := key pins ρ σ H hp O
    obtain ⟨rfl, y⟩ := y
    obtain ⟨d, e1, e2⟩ := h2.getV (y vs h1)
    exact ⟨d, e1, O, e2⟩
theorem wok_tup {v : V} {xs : List PyData} {a : Addr} (hv : v = .ref a) : WOk F (Itt F.K a) xs [.val v (.d (.tuple xs))] := by
  subst hv
  have key : ∀ (pins : List Pin) (ρ : Rho) (σ : L2.St) (H : Hp), (∀ q ∈ [Pin.val (.ref a) (.d (.tuple xs))], q ∈ pins) → Ok F pins ρ σ H → ∃ vs, SqT F.K H a vs ∧ ImAll F.K (Av F pins ρ σ) H xs vs := fun pins ρ σ H hp O => by
    have h : Im F.K (Av F pins ρ σ) H (.tuple xs) (.ref a) := O.pin _ (hp _ (List.mem_cons_self ..))
    simp only [Im] at h
    obtain ⟨q, vs, e, l, im⟩ := h
    cases e
    exact ⟨vs, l.sq, im⟩
  refine ⟨fun i pins ρ σ H hp hi O => ?_, fun pins ρ σ H hp O => ?_, fun i pins ρ σ H x H' hp hi O y => ?_⟩
  · obtain ⟨vs, h1, h2⟩ := key pins ρ σ H hp O
    have hl := h2.length
    exact ⟨vs, vs[i]'(by omega), h1, by simp⟩
  · obtain ⟨vs, h1, h2⟩ := key pins ρ σ H hp O
    exact ⟨vs, h1, by rw [h2.length]; exact Nat.le_refl _⟩
  · obtain ⟨vs, h1, h2⟩ := key pins ρ σ H hp O
    obtain ⟨rfl, y⟩ := y
    obtain ⟨d, e1, e2⟩ := h2.getV (y vs h1)
    exact ⟨d, e1, O, e2⟩
theorem mem_pinsOf : ∀ {vs : List V} {xs : List PyData} {p : Pin}, p ∈ pinsOf vs xs → IsV p
  | [], _, _, h => by cases h
  | _ :: _, [], _, h => by cases h
  | v :: vs, x :: xs, p, h => by
    rcases List.mem_cons.mp h with z | z
    · exact .inl ⟨v, x, z⟩
    · exact mem_pinsOf z
theorem all_pinsOf {pins : List Pin} {ρ : Rho} {σ : L2.St} {H : Hp} (O : Ok F pins ρ σ H) : ∀ {vs : List V} {xs : List PyData}, vs.length = xs.length → (∀ q ∈ pinsOf vs xs, q ∈ pins) → ImAll F.K (Av F pins ρ σ) H xs vs
  | [], [], _, _ => .nil
  | v :: vs, x :: xs, hl, h => .cons (O.pin _ (h _ (List.mem_cons_self ..))) (all_pinsOf O (by simpa using hl) fun q hq => h q (List.mem_cons_of_mem _ hq))
  | [], _ :: _, hl, _ => by cases hl
  | _ :: _, [], hl, _ => by cases hl
/-- a list that is read alone -/
theorem wok_ro {xs : List PyData} {us : List V} {a : Addr} (hl : us.length = xs.length) (hr : LkR F a us) : WOk F (Itl F.K a) xs (pinsOf us xs) := by
  refine ⟨fun i pins ρ σ H hp hi O => ?_, fun pins ρ σ H hp O => ?_, fun i pins ρ σ H x H' hp hi O y => ?_⟩
  · exact ⟨us, us[i]'(by omega), hr.sq O, by simp⟩
  · exact ⟨us, hr.sq O, by rw [hl]; exact Nat.le_refl _⟩
  · obtain ⟨rfl, y⟩ := y
    obtain ⟨d, e1, e2⟩ := (all_pinsOf O hl hp).getV (y us (hr.sq O))
    exact ⟨d, e1, O, e2⟩
def dSeqI (te : TDE) : TDI := fun ρ Q => te ρ fun r ρ1 => match r with
  | .d (.list xs) => Q xs ρ1
  | .d (.tuple xs) => Q xs ρ1
  | .o i => match ρ1[i]? with
    | some (some (.ro (.list xs))) => Q xs ρ1
    | some (some (.ro (.tuple xs))) => Q xs ρ1
    | _ => False
  | _ => False
def iSeq (K : PySem.W.Frag) (tl : TE) : TI := fun σ H R => tl σ H fun x H1 => ∃ a, x = .ref a ∧ (((∃ xs, SqL K H1 a xs) ∧ R (Itl K a) H1) ∨ ((∃ xs, SqT K H1 a xs) ∧ R (Itt K a) H1))
theorem pi_seq (he : PE X e te) : PI X tg e (iSeq X.K te) := by
  constructor
  intro pins s σ H R I h
  refine thn (he.run pins s σ H _ I h) ?_
  rintro v s1 ⟨x, H1, I1, r1, a, rfl, hq⟩
  cases r1
  have new : ∀ (o : Obj), ∀ b ∈ [s1.heap.objs.size], FpOk X pins H1 b := fun o b hb => by
    obtain rfl : b = s1.heap.objs.size := by simpa using hb
    exact I1.fpOk (Nat.le_refl _) I1.fresh
  have keep : ∀ (o : Obj), Inv X pins σ H1 { s1 with heap := s1.heap.push o } := fun o => I1.kept (t' := s1.toks) fun b u e => Heap.get?_push_of_some _ e
  rcases hq with ⟨⟨xs, hq⟩, q⟩ | ⟨⟨xs, hq⟩, q⟩
  · obtain ⟨its, rv, pl, _⟩ := I1.list hq
    apply wpAny_pyIter_list pl.isList
    exact ⟨_, [s1.heap.objs.size], _, _, H1, rfl, keep _, turn_list a _, ⟨_, Heap.get?_push_size _ rfl, rfl, rfl⟩, new default, q⟩
  · obtain ⟨its, rv, pl, _⟩ := I1.tuple hq
    apply wpAny_pyIter_tuple (show s1.heap.IsTuple a its.toArray from pl)
    exact ⟨_, [s1.heap.objs.size], _, _, H1, rfl, keep _, turn_tuple a _, ⟨_, Heap.get?_push_size _ rfl, rfl, rfl⟩, new default, q⟩
theorem pdi_seq (he : PD X F e te de) (hK : X.K = F.K := by rfl) : PDI X F tg e (iSeq F.K te) (dSeqI de) := by
  refine ⟨?_, fun pins ρ σ H R O h => ?_, fun ρ Q Q' hq h => ?_⟩
  · have := pi_seq (tg := tg) he.pe
    rw [hK] at this
    exact this
  · refine he.de.run pins ρ σ H _ O (he.de.mono _ _ _ (fun r ρ1 h1 v H1 O1 R1 => ?_) h)
    split at h1
    · rename_i xs
      have im : Im F.K (Av F pins ρ1 σ) H1 (.list xs) v := R1
      have im2 := im
      simp only [Im] at im2
      obtain ⟨a, vs, rfl, l, _⟩ := im2
      refine ⟨a, rfl, .inl ⟨⟨vs, l.sq⟩, h1 _ H1 _ (wok_list rfl) (fun p hp => ?_) (O1.push (v := .ref a) (r := .d (.list xs)) im)⟩⟩
      rcases List.mem_cons.mp hp with z | z
      · exact .inl ⟨_, _, z⟩
      · cases z
    · rename_i xs
      have im : Im F.K (Av F pins ρ1 σ) H1 (.tuple xs) v := R1
      have im2 := im
      simp only [Im] at im2
      obtain ⟨a, vs, rfl, l, _⟩ := im2
      refine ⟨a, rfl, .inr ⟨⟨vs, l.sq⟩, h1 _ H1 _ (wok_tup rfl) (fun p hp => ?_) (O1.push (v := .ref a) (r := .d (.tuple xs)) im)⟩⟩
      rcases List.mem_cons.mp hp with z | z
      · exact .inl ⟨_, _, z⟩
      · cases z
    · rename_i i
      have g0 := R1.1
      split at h1
      · rename_i xs q
        obtain ⟨u, g1, g2⟩ := O1.ent i _ q
        rw [g0] at g1; cases g1
        rcases g2 with im | ⟨a, us, ys, rfl, e1, l, t⟩
        · have im2 := im
          simp only [Im] at im2
          obtain ⟨a, vs, rfl, l, _⟩ := im2
          refine ⟨a, rfl, .inl ⟨⟨vs, l.sq⟩, h1 _ H1 _ (wok_list rfl) (fun p hp => ?_) (O1.push (v := .ref a) (r := .d (.list xs)) im)⟩⟩
          rcases List.mem_cons.mp hp with z | z
          · exact .inl ⟨_, _, z⟩
          · cases z
        · cases e1
          exact ⟨a, rfl, .inl ⟨⟨us, l.sq O1⟩, h1 _ H1 _ (wok_ro t.length l) (fun p hp => mem_pinsOf hp) (O1.pushAll t).1⟩⟩
      · rename_i xs q
        obtain ⟨u, g1, g2⟩ := O1.ent i _ q
        rw [g0] at g1; cases g1
        rcases g2 with im | ⟨a, us, ys, rfl, e1, l, t⟩
        · have im2 := im
          simp only [Im] at im2
          obtain ⟨a, vs, rfl, l, _⟩ := im2
          refine ⟨a, rfl, .inr ⟨⟨vs, l.sq⟩, h1 _ H1 _ (wok_tup rfl) (fun p hp => ?_) (O1.push (v := .ref a) (r := .d (.tuple xs)) im)⟩⟩
          rcases List.mem_cons.mp hp with z | z
          · exact .inl ⟨_, _, z⟩
          · cases z
        · cases e1
      · exact h1.elim
    · exact h1.elim
  · refine he.de.mono _ _ _ (fun r ρ1 h1 => ?_) h
    revert h1
    split
    · exact fun h1 => hq _ _ h1
    · exact fun h1 => hq _ _ h1
    · intro h1
      split at h1
      · exact hq _ _ h1
      · exact hq _ _ h1
      · exact h1.elim
    · exact fun h1 => h1
def rng (lo : Int) (n : Nat) : List PyData := (List.range n).map fun k => .int (lo + (k : Nat))
theorem rng_at {lo : Int} {n i : Nat} (h : i < n) : (rng lo n)[i]? = some (.int (lo + (i : Nat))) := by
  unfold rng
  rw [List.getElem?_map, List.getElem?_range h]; rfl
theorem rng_len {lo : Int} {n : Nat} : (rng lo n).length = n := by unfold rng; rw [List.length_map, List.length_range]
theorem wok_rng {lo : Int} {n : Nat} : WOk F (Itr lo n) (rng lo n) [] := by
  refine ⟨fun i pins ρ σ H hp hi O => by rw [rng_len] at hi; exact hi, fun pins ρ σ H hp O => by rw [rng_len]; exact Nat.le_refl _, fun i pins ρ σ H x H' hp hi O y => ?_⟩
  rw [rng_len] at hi
  obtain ⟨rfl, rfl⟩ := y
  exact ⟨_, rng_at hi, O, .int⟩
def dRng1 (t : TDA) : TDI := fun ρ Q => t ρ fun rs ρ1 => match rs with
  | [.d (.int j)] => (-(2 ^ 62) ≤ j ∧ j < 2 ^ 62) ∧ Q (rng 0 j.toNat) ρ1
  | _ => False
def dRng2 (t : TDA) : TDI := fun ρ Q => t ρ fun rs ρ1 => match rs with
  | [.d (.int i), .d (.int j)] => (-(2 ^ 62) ≤ i ∧ i < 2 ^ 62 ∧ -(2 ^ 62) ≤ j ∧ j < 2 ^ 62) ∧ Q (rng i (j - i).toNat) ρ1
  | _ => False
theorem pdi_range1 (hg : Gl X "range") (hm : X.mg "range" = none) (ha : PDA X F [e] t d) (hs : starEach [e] X.env = [(false, eval e X.env)] := by rfl) : PDI X F tg (.Call (.Name "range" p) [e] [] pos) (iRng1 t) (dRng1 d) := by
  refine ⟨pi_range1 hg hm ha.pa hs, fun pins ρ σ H R O h => ?_, fun ρ Q Q' hq h => ?_⟩
  · refine ha.da.run pins ρ σ H _ O (ha.da.mono _ _ _ (fun rs ρ1 h1 vs H1 O1 R1 => ?_) h)
    split at h1
    · rename_i j
      simp only [ROks] at R1
      obtain ⟨v, _, rfl, r1, rfl⟩ := R1
      cases (Im.int_iff.mp (show Im F.K (Av F pins ρ1 σ) H1 (.int j) v from r1))
      exact ⟨j, rfl, h1.1.1, h1.1.2, h1.2 _ H1 [] wok_rng (fun p hp => nomatch hp) O1⟩
    · exact h1.elim
  · refine ha.da.mono _ _ _ (fun rs ρ1 h1 => ?_) h
    revert h1
    split
    · exact fun h1 => ⟨h1.1, hq _ _ h1.2⟩
    · exact fun h1 => h1
end
/-- comprehensions -/
theorem pl_lc {X : Cx} {F : Fm} {elt tg iter : Expr} {ifs : List Expr} {scope : Scope} {own : List (Str × Nat)} {pos : Pos} {wi : TI} {dw : TDI} {g : TG} {dg : TDGt} {tt : TT} {dt : TDT} {te : TE} {de : TDE} (hc : X.calm = true) (hN : X.N.Nodup) (hi : PDI X F tg iter wi dw) (ok : BlkOk X.N X.env.scope scope own)
    (hg : ∀ (s : Shared) (H : Hp) (C : Addr) (cl : List (Str × Addr)) (fp : List Addr), PDG (X.blk s H scope (compEnvC scope cl C X.env) fp) F tg g dg (own.map (·.2))) (ht : ∀ (s : Shared) (H : Hp) (C : Addr) (cl : List (Str × Addr)) (fp : List Addr), PDTs (X.blk s H scope (compEnvC scope cl C X.env) fp) F ifs tt dt)
    (he : ∀ (s : Shared) (H : Hp) (C : Addr) (cl : List (Str × Addr)) (fp : List Addr), PD (X.blk s H scope (compEnvC scope cl C X.env) fp) F elt te de) (hs : ∀ x, foldedSetIterable iter X.env x = pure x := by intro _; rfl) :
    PDL X F (.ListComp elt [⟨tg, iter, ifs, 0⟩] scope pos) (tLc wi g tt te (own.map (·.2))) (dLc dw dg dt de (own.map (·.2))) := by
  refine ⟨pe_lc hc hN hi.pi ok (fun s H C cl fp => (hg s H C cl fp).pg) (fun s H C cl fp => (ht s H C cl fp).pts) (fun s H C cl fp => (he s H C cl fp).pe) hs, ?_⟩
  exact dl_lc hi.di (hg (PySem.start X.prog).1 (fun _ => none) 0 [] []).dg (ht (PySem.start X.prog).1 (fun _ => none) 0 [] []).dt (he (PySem.start X.prog).1 (fun _ => none) 0 [] []).de
end DV
namespace DV
open PySem PySem.Spec PyProof.Rows L2
open LamX (ExtN TabS Tabs CodeO)
section
variable {X : Cx} {F : Fm} {e a b c : Expr} {es : List Expr} {te ta tb : TE} {de da db : TDE} {dl : TDL} {pos p : Pos} {t : TA} {d : TDA}
def tyName : PyData → String
  | .none => "NoneType"
  | .bool _ => "bool"
  | .int _ => "int"
  | .str _ => "str"
  | .list _ => "list"
  | .tuple _ => "tuple"
  | .dict _ => "dict"
def dIsi (n : String) (te : TDE) : TDE := fun ρ Q => te ρ fun r ρ1 => onV ρ1 r fun x => match kitB (tyName x) n with
  | some k => Q (.d (.bool k)) ρ1
  | _ => False
def fSqrt : FA
  | [.int i], Q => (0 ≤ i ∧ i.toNat.log2 < 13000) ∧ Q (.int ((Float64.isqrt i.toNat : Nat) : Int))
  | _, _ => False
abbrev fPow : F2 := fI CPow fun i j => .int (i ^ j.toNat)
theorem pd_pow (ha : PD X F a ta da) (hb : PD X F b tb db) : PD X F (.BinOp a .Pow b pos) (tOp (rI CPow fun i j => .int (i ^ j.toNat)) ta tb) (dOp fPow da db) := pd_op op_pow (so_I fun _ _ => .int) ha hb
/-- a chain of two comparisons of whole numbers -/
def dChainLe (f g : Int → Int → Bool) (ta tb tc : TDE) : TDE := fun ρ Q => ta ρ fun r ρ1 => tb ρ1 fun s ρ2 => onInt ρ2 r fun i => onInt ρ2 s fun j => if f i j = true then tc ρ2 fun u ρ3 => onInt ρ3 u fun k => Q (.d (.bool (g j k))) ρ3 else Q (.d (.bool false)) ρ2
end
abbrev SdL := List PyData → (List PyData → Prop) → Prop
def spF (K : PySem.W.Frag) (T : List (Addr × Str)) (ks : List Kd) (S : SdL) : Sp := fun vs H Q _ => ∃ (N : Addr → Prop) (xs : List PyData), Tabs T H ∧ (∀ a, N a → ∃ o, H a = some o ∧ Mutab o) ∧ ArgsOk K N noZ H ks xs vs ∧
  S xs fun zs => ∀ p H' us, Gr H H' → Tabs T H' → H p = none → H' p = some (.lst us) → ImAll K (fun a => N a ∨ a = p) H' zs us → Q (.ref p) H'
def MonoF (S : SdL) : Prop := ∀ xs Q Q', (∀ z, Q z → Q' z) → S xs Q → S xs Q'
section
variable {P : Program} {w : World} {K : PySem.W.Frag} {mg : Str → Option Value} {base : Heap} {T : List (Addr × Str)}
/-- its body: return [..] -/
theorem fnF {x qual : Str} {st : Stmt} {f : Addr} {fd : FuncData} {N ps : List Str} {k : Nat} {ks : List Kd} {S : SdL} {e : Expr} {pos : Pos} (W : Fun K x qual st f fd) (Sc : FnScope N ps (defScope st)) (hks : ks.length = ps.length) (hst : defBody st = [.Return (some e) pos])
    (body : ∀ (cdv : Value) (A : Around) (out : List Env) (s : Shared) (H : Hp) (E : XK) (Nn : Addr → Prop), Room k (A.deeper (envOfC qual (defScope st) s.heap.objs.size f cdv)) → A.guards = some [] →
      ∃ te dl, PDL (cxOf CX0 P w K mg base N qual (defScope st) f cdv A out s H E).nox (frP K H Nn T) e te dl ∧
        ∀ xs Q, xs.length = ks.length → S xs Q → dl (rhoP N.length ks xs) fun zs _ => Q zs) : FnG P w K mg base CX0 (k + 1) f fd ps (spF K T ks S) := by
  have hpl : ps.length ≤ N.length := by have := congrArg List.length Sc.pre; rw [List.length_take] at this; omega
  refine fg_of W Sc (fun vs H Q E h => ?_) fun cdv A out s H vs Q E hr hgd h => ?_
  · obtain ⟨Nn, xs, _, _, ha, _⟩ := h
    rw [ha.len.1, hks]
  obtain ⟨Nn, xs, tb, hM, ha, hS⟩ := h
  have hN : ∀ a, Nn a → ∃ o, H a = some o := fun a z => let ⟨o, e, _⟩ := hM a z; ⟨o, e⟩
  obtain ⟨te, dl, hb, hq⟩ := body cdv A out s H E Nn hr hgd
  refine ⟨_, by rw [hst]; exact pss_one (ps_ret hb.pe), ?_⟩
  have hl := ha.len
  have noOwn : ∀ i a, ¬ OwnAt (rhoP N.length ks xs) (L2.start N vs) i a := by
    rintro i a ⟨⟨ys, h1, hm⟩, _⟩
    obtain ⟨k, x, v, e, _⟩ := ha.at (rhoP_some h1)
    subst e
    cases k <;> exact hm
  have O : Ok (frP K H Nn T) [] (rhoP N.length ks xs) (L2.start N vs) H := by
    refine ⟨?_, fun i e h1 => ?_, fun i j a h1 _ => absurd h1 (noOwn i a), fun p hp => (nomatch hp), .nil, fun a o _ e _ => e, hM, fun a h => h.elim, hN, fun i a _ h => h.elim, tb, fun a ps e => ⟨ps, e⟩⟩
    · rw [rhoP_len hl.2 (by rw [hks]; exact hpl)]
      unfold L2.start
      rw [List.length_append, List.length_map, List.length_replicate]
      omega
    · obtain ⟨k, x, v, rfl, h2, h3⟩ := ha.at (rhoP_some h1)
      refine ⟨v, ?_, arg_ent (N := Nn) rfl rfl (fun a z => z) (fun a z => ?_) h3⟩
      · have hi : i < vs.length := by
          rcases Nat.lt_or_ge i vs.length with z | z
          · exact z
          · rw [List.getElem?_eq_none z] at h2; cases h2
        unfold L2.start
        rw [List.getElem?_append_left (by simpa using hi), List.getElem?_map, h2]; rfl
      · rcases z with z | ⟨j, z⟩ | z
        · exact z
        · exact absurd z (noOwn j a)
        · cases z
  refine hb.dl.run [] _ _ H _ O (hb.dl.mono _ _ _ (fun zs ρ q p H' O' => ?_) (hq xs _ hl.2 hS))
  obtain ⟨us, h1, h2, h3, h4⟩ := O'.pin _ (List.mem_cons_self ..)
  have hp : H p = none := h3
  refine q p H' us ⟨fun a o e => O'.fr a o (fun z => z) e, O'.tb.2⟩ O'.tb.1 hp h1 (h2.go ⟨fun _ _ _ e _ => e, fun a z => .inl ?_⟩)
  rcases z with z | rfl
  · exact .inl z
  · exact .inr (.inr (List.mem_cons_self ..))
end
section
variable {X : Cx} {F : Fm} {e : Expr} {es : List Expr} {t : TA} {d : TDA} {pos : Pos}
/-- kept in mind, from one heap to the next -/
theorem Ok.pushL2 {pins : List Pin} {ρ : Rho} {σ : L2.St} {H H' : Hp} (O : Ok F pins ρ σ H) (g : Gr H H') (tb : Tabs F.T H') {p : Addr} {xs : List PyData} {vs : List V} (hp : H p = none) (hp' : H' p = some (.lst vs)) (h : ImAll F.K (fun a => Av F pins ρ σ a ∨ a = p) H' xs vs) : Ok F (.acc p xs :: pins) ρ σ H' := by
  have avE : ∀ a, Av F (.acc p xs :: pins) ρ σ a → Av F pins ρ σ a ∨ a = p := fun a h => by
    rcases h with h | h | h
    · exact .inl (.inl h)
    · exact .inl (.inr (.inl h))
    · rcases List.mem_cons.mp (show a ∈ p :: accs pins from h) with rfl | h
      · exact .inr rfl
      · exact .inl (.inr (.inr h))
  have G : Go (Av F pins ρ σ) (Av F (.acc p xs :: pins) ρ σ) H H' := ⟨fun a o _ h m => g.ext a o h m, fun a h => (avE a h).imp_right fun z => by rw [z]; exact hp⟩
  have G2 : Go (fun a => Av F pins ρ σ a ∨ a = p) (Av F (.acc p xs :: pins) ρ σ) H' H' := ⟨fun a o _ h _ => h, fun a h => .inl (avE a h)⟩
  have nAv : ¬ Av F pins ρ σ p := fun h => by obtain ⟨o, h⟩ := O.avH h; rw [hp] at h; cases h
  refine ⟨O.len, fun i e h => ?_, O.own, fun q hq => ?_, ?_, fun a o n h m => g.ext _ _ (O.fr a o n h m) m, fun a h => ?_, O.ln, O.h0, O.lf, O.tb.gr g tb⟩
  · obtain ⟨v, h1, h2⟩ := O.ent i e h
    exact ⟨v, h1, EntOk.goM G h2 fun a us _ z _ mu => g.ext _ _ z mu.nt⟩
  · rcases List.mem_cons.mp hq with rfl | hq
    · refine ⟨vs, hp', h.go G2, ?_, fun ⟨i, z⟩ => nAv (.inr (.inl ⟨i, z⟩))⟩
      cases e : F.H0 p with
      | none => rfl
      | some o =>
        by_cases hl : F.L p
        · exact absurd (.inl (O.ln p hl)) nAv
        · exact absurd hp (O.fr0 p o hl e)
    · have h := O.pin q hq
      cases q with
      | val v r => exact ROk.go G h
      | acc a ys =>
        obtain ⟨us, h1, h2, h3⟩ := h
        exact ⟨us, g.ext _ _ h1 nt_lst, h2.go G, h3⟩
      | frz a o =>
        obtain ⟨u, h1⟩ := h
        exact ⟨u, g.ext _ _ h1 nt_frz⟩
  · exact List.nodup_cons.mpr ⟨fun h => nAv (.inr (.inr h)), O.acs⟩
  · obtain ⟨o, h, m⟩ := O.nh a h
    exact ⟨o, g.ext _ _ h m.nt, m⟩
def dCallF (ks : List Kd) (S : SdL) (t : TDA) : TDL := fun ρ Q => t ρ fun rs ρ1 => onArgs ρ1 ks rs fun xs => S xs fun zs => Q zs ρ1
theorem pl_callF {ks : List Kd} {S : SdL} {k : Nat} {f : Addr} {fd : FuncData} {ps : List Str} {x : Str} {p : Pos} (G : FnG X.prog X.w X.K X.mg X.base CX0 k f fd ps (spF F.K F.T ks S)) (hS : MonoF S) (hr : Room k X.A) (hgd : X.A.guards = some []) (hg : Gl X x) (hm : X.mg x = some (.ref f)) (hk : PySem.W.keepIn X.K (.ref f) = true) (hb : Binds X.K fd ps [])
    (ha : PDA X F (e :: es) t d) (hdb : (x == ("__debug__" : Str)) = false := by decide) (he : starEach (e :: es) X.env = (false, eval e X.env) :: starEach es X.env := by rfl) (hpl : (backTo pos (starEach es X.env)).any (·.1) = false := by rfl) :
    PDL X F (.Call (.Name x p) (e :: es) [] pos) (fun σ H Q => t σ H fun vs H1 => spF F.K F.T ks S vs H1 Q E0) (dCallF ks S d) := by
  refine ⟨pe_callG G hr hgd hg hm hk hb ha.pa hdb he hpl, fun pins ρ σ H Q O h => ?_, fun ρ Q Q' hq h => ha.da.mono _ _ _ (fun rs ρ1 h1 => onArgs_mono h1 fun xs h2 => hS _ _ _ (fun z => hq _ _) h2) h⟩
  refine ha.da.run pins ρ σ H _ O (ha.da.mono _ _ _ (fun rs ρ1 h1 vs H1 O1 R1 => ?_) h)
  obtain ⟨xs, e, h2⟩ := onArgs_of h1
  exact ⟨Av F pins ρ1 σ, xs, O1.tb.1, fun a ha => O1.avM ha, args_ok O1 (fun a z => z.elim) (fun _ _ _ _ _ _ z => z) R1 e, hS _ _ _ (fun zs q p H' us g tb hp hp' im => q p H' (O1.pushL2 g tb hp hp' im)) h2⟩
end
section
variable {X : Cx} {F : Fm} {a b : Expr} {ta tb : TE} {da db : TDE} {pos : Pos}
theorem pt_cmpD {op : CmpOp} {r : R2} {f : F2} (ho : OpR X (compareOp op) r) (hm : behindInMarks op b = false) (hf : SO F.K r f) (ha : PD X F a ta da) (hb : PD X F b tb db) : PDT X F (.Compare a [op] [b] pos) (tTest (tOp r ta tb)) (dTV (dOp f da db)) :=
  ⟨pt_cmpR ho ha.pe hb.pe hm, dt_tv (k := tTest) (fun _ => rfl) (de_op hf ha.de hb.de)⟩
theorem pt_lt (ha : PD X F a ta da) (hb : PD X F b tb db) : PDT X F (.Compare a [.Lt] [b] pos) (tTest (tOp (rI0 fun i j => .bl (decide (i < j))) ta tb)) (dTV (dOp fLt da db)) := pt_cmpD op_lt (nomark _) (so_I0 fun _ _ => .bool) ha hb
theorem pt_gt (ha : PD X F a ta da) (hb : PD X F b tb db) : PDT X F (.Compare a [.Gt] [b] pos) (tTest (tOp (rI0 fun i j => .bl (decide (j < i))) ta tb)) (dTV (dOp fGt da db)) := pt_cmpD op_gt (nomark _) (so_I0 fun _ _ => .bool) ha hb
theorem pt_ge (ha : PD X F a ta da) (hb : PD X F b tb db) : PDT X F (.Compare a [.GtE] [b] pos) (tTest (tOp (rI0 fun i j => .bl (decide (j ≤ i))) ta tb)) (dTV (dOp fGe da db)) := pt_cmpD op_ge (nomark _) (so_I0 fun _ _ => .bool) ha hb
theorem pt_eq (hu : X.A.units + 64 < cLine) (hK : X.K = F.K) (ha : PD X F a ta da) (hb : PD X F b tb db) : PDT X F (.Compare a [.Eq] [b] pos) (tTest (tOp (rEqD F.K) ta tb)) (dTV (dOp fEq da db)) := by
  have h := pt_cmpD (X := X) (F := F) (pos := pos) (op_eqD hu) (nomark _) (by rw [hK]; exact so_Eq) ha hb
  rw [hK] at h; exact h
theorem pt_ne (hu : X.A.units + 64 < cLine) (hK : X.K = F.K) (ha : PD X F a ta da) (hb : PD X F b tb db) : PDT X F (.Compare a [.NotEq] [b] pos) (tTest (tOp (rNeD F.K) ta tb)) (dTV (dOp fNe da db)) := by
  have h := pt_cmpD (X := X) (F := F) (pos := pos) (op_neD hu) (nomark _) (by rw [hK]; exact so_Ne) ha hb
  rw [hK] at h; exact h
end
end DV
namespace DV
open PySem PySem.Spec PyProof.Rows L2
open LamX (ExtN TabS Tabs CodeO)
mutual
def okd : PyData → Bool
  | .none => true
  | .bool _ => true
  | .int i => decide (i.natAbs.log2 < 1000)
  | .str x => (PyData.str x).canLay0 && x.cps.toList.all fun c => decide (c < 16 ^ 8)
  | .list xs => okds xs
  | .tuple xs => okds xs
  | .dict _ => false
def okds : List PyData → Bool
  | [] => true
  | x :: xs => okd x && okds xs
end
mutual
def cost : PyData → Nat
  | .none => 5
  | .bool _ => 5
  | .int _ => 1001
  | .str x => 10 * x.length + 2
  | .list xs => costs xs + 3
  | .tuple xs => costs xs + 3
  | .dict _ => 0
def costs : List PyData → Nat
  | [] => 0
  | x :: xs => cost x + 2 + costs xs
end
theorem piled_costs : ∀ {ts : List Str} {xs : List PyData}, ts = PyData.shownAll xs → (∀ x ∈ xs, x.shown.length ≤ cost x) → (Str.join ", " ts).length ≤ costs xs
  | _, [], h, _ => by
    rw [PyData.shownAll_nil] at h; subst h
    show (Str.join ", " []).length ≤ 0
    decide
  | _, [x], h, hx => by
    rw [PyData.shownAll_cons, PyData.shownAll_nil] at h; subst h
    have := hx x (List.mem_cons_self ..)
    show x.shown.length ≤ cost x + 2 + 0
    omega
  | _, x :: y :: xs, h, hx => by
    rw [PyData.shownAll_cons] at h; subst h
    have ih := piled_costs (ts := PyData.shownAll (y :: xs)) (xs := y :: xs) rfl fun z hz => hx z (List.mem_cons_of_mem _ hz)
    have h1 := hx x (List.mem_cons_self ..)
    have e : Str.join ", " (x.shown :: PyData.shownAll (y :: xs)) = x.shown ++ ", " ++ Str.join ", " (PyData.shownAll (y :: xs)) := by
      rw [PyData.shownAll_cons]; rfl
    rw [e, strLen_append, strLen_append]
    have e2 : (Str.ofString ", ").length = 2 := by decide
    have e3 : costs (x :: y :: xs) = cost x + 2 + costs (y :: xs) := by simp only [costs]
    rw [e3]
    omega
mutual
theorem shown_le : ∀ d : PyData, okd d = true → d.shown.length ≤ cost d
  | .none, _ => by rw [PyData.shown_none]; simp only [cost]; decide
  | .bool b, _ => by rw [PyData.shown_bool]; simp only [cost]; cases b <;> decide
  | .int i, h => by
    simp only [okd, decide_eq_true_eq] at h
    rw [PyData.shown_int, PySem.ofString_length]
    simp only [cost]
    exact int_text_length_le (k := 1000) (by decide) h
  | .str x, h => by
    simp only [okd, Bool.and_eq_true, List.all_eq_true, decide_eq_true_eq] at h
    rw [PyData.shown_str]
    simp only [cost]
    exact StrLaws.reprText_len x h.2
  | .list xs, h => by
    simp only [okd] at h
    rw [PyData.shown_list, strLen_append, strLen_append]
    have := piled_costs (ts := PyData.shownAll xs) rfl (shown_les xs h)
    simp only [cost]
    have e1 : (Str.ofString "[").length = 1 := by decide
    have e2 : (Str.ofString "]").length = 1 := by decide
    omega
  | .tuple xs, h => by
    simp only [okd] at h
    rw [PyData.shown_tuple, strLen_append, strLen_append]
    have := piled_costs (ts := PyData.shownAll xs) rfl (shown_les xs h)
    simp only [cost]
    have e1 : (Str.ofString "(").length = 1 := by decide
    have e2 : (Str.ofString (if (xs.length == 1) = true then ",)" else ")")).length ≤ 2 := by split <;> decide
    omega
  | .dict _, h => by simp only [okd] at h; cases h
theorem shown_les : ∀ xs : List PyData, okds xs = true → ∀ x ∈ xs, x.shown.length ≤ cost x
  | [], _, x, hx => nomatch hx
  | y :: ys, h, x, hx => by
    simp only [okds, Bool.and_eq_true] at h
    rcases List.mem_cons.mp hx with e | hx
    · rw [e]; exact shown_le y h.1
    · exact shown_les ys h.2 x hx
end
mutual
theorem okd_facts : ∀ d : PyData, okd d = true → d.canLay0 = true ∧ d.showable = true ∧ d.hasDict = false
  | .none, _ => ⟨by simp [PyData.canLay0], by simp [PyData.showable], by simp [PyData.hasDict]⟩
  | .bool b, _ => ⟨by simp [PyData.canLay0], by simp [PyData.showable], by simp [PyData.hasDict]⟩
  | .int i, h => by
    simp only [okd, decide_eq_true_eq] at h
    exact ⟨by simp [PyData.canLay0], by simp only [PyData.showable, decide_eq_true_eq]; omega, by simp [PyData.hasDict]⟩
  | .str x, h => by
    simp only [okd, Bool.and_eq_true] at h
    exact ⟨h.1, by simp [PyData.showable], by simp [PyData.hasDict]⟩
  | .list xs, h => by
    simp only [okd] at h
    simp only [PyData.canLay0, PyData.showable, PyData.hasDict]
    exact okds_facts xs h
  | .tuple xs, h => by
    simp only [okd] at h
    simp only [PyData.canLay0, PyData.showable, PyData.hasDict]
    exact okds_facts xs h
  | .dict _, h => by simp only [okd] at h; cases h
theorem okds_facts : ∀ xs : List PyData, okds xs = true → PyData.canLayAll0 xs = true ∧ PyData.showableAll xs = true ∧ PyData.hasDictAll xs = false
  | [], _ => ⟨by simp [PyData.canLayAll0], by simp [PyData.showableAll], by simp [PyData.hasDictAll]⟩
  | y :: ys, h => by
    simp only [okds, Bool.and_eq_true] at h
    obtain ⟨a1, a2, a3⟩ := okd_facts y h.1
    obtain ⟨b1, b2, b3⟩ := okds_facts ys h.2
    simp only [PyData.canLayAll0, PyData.showableAll, PyData.hasDictAll]
    exact ⟨by rw [a1, b1]; rfl, by rw [a2, b2]; rfl, by rw [a3, b3]; rfl⟩
end
/-- data that can be compared and shown -/
structure Fine (d : PyData) : Prop where
  ok : okd d = true
  deep : d.depth ≤ 60
  few : cost d ≤ 16000000
theorem Fine.shaped {d : PyData} (h : Fine d) : SeqAt.shaped d = true := by
  unfold SeqAt.shaped
  rw [Bool.and_eq_true, decide_eq_true_eq]
  exact ⟨(okd_facts d h.ok).1, by have := h.deep; omega⟩
theorem Fine.plain {d : PyData} (h : Fine d) : Plain d := by
  refine ⟨(okd_facts d h.ok).2.1, (okd_facts d h.ok).2.2, h.deep, Nat.le_trans (shown_le d h.ok) (Nat.le_trans h.few ?_)⟩
  rw [sizeLine_eq]; decide
theorem Fine.refl {d : PyData} (h : Fine d) : PyData.eqv d d = true := SeqAt.eqv_refl d (okd_facts d h.ok).1
end DV
namespace DV
open PySem PySem.Spec PyProof.Rows L2
open LamX (ExtN TabS Tabs CodeO)
theorem few_le {n : Nat} (h : n ≤ 100000) : Few n := Nat.le_trans h (by rw [sizeLine_eq]; decide)
theorem sh_int {i : Int} : SeqAt.shaped (.int i) = true := by simp [SeqAt.shaped, PyData.canLay0, PyData.depth]
theorem eqv_int {i j : Int} : PyData.eqv (.int i) (.int j) = decide (i = j) := by
  simp only [PyData.eqv]; exact Bool.beq_eq_decide_eq i j
theorem on0 {x : PyData} {xs : List PyData} {f : PyData → Prop} : onAt (x :: xs) 0 f = f x := by
  have e : atI (x :: xs) 0 = some x := by
    unfold atI ixN
    rw [if_pos (by omega), if_pos (by rw [List.length_cons]; omega)]; rfl
  unfold onAt; rw [e]
theorem on1 {x y : PyData} {xs : List PyData} {f : PyData → Prop} : onAt (x :: y :: xs) 1 f = f y := by
  have e : atI (x :: y :: xs) 1 = some y := by
    unfold atI ixN
    rw [if_pos (by omega), if_pos (by rw [List.length_cons, List.length_cons]; omega)]; rfl
  unfold onAt; rw [e]
theorem on2 {x y z : PyData} {xs : List PyData} {f : PyData → Prop} : onAt (x :: y :: z :: xs) 2 f = f z := by
  have e : atI (x :: y :: z :: xs) 2 = some z := by
    unfold atI ixN
    rw [if_pos (by omega), if_pos (by rw [List.length_cons, List.length_cons, List.length_cons]; omega)]; rfl
  unfold onAt; rw [e]
theorem on3 {x y z u : PyData} {xs : List PyData} {f : PyData → Prop} : onAt (x :: y :: z :: u :: xs) 3 f = f u := by
  have e : atI (x :: y :: z :: u :: xs) 3 = some u := by
    unfold atI ixN
    rw [if_pos (by omega), if_pos (by rw [List.length_cons, List.length_cons, List.length_cons, List.length_cons]; omega)]; rfl
  unfold onAt; rw [e]
theorem cutD_sub {xs : List PyData} {lo hi : Option Int} : ∀ y ∈ cutD xs lo hi, y ∈ xs := fun y h => List.mem_of_mem_drop (List.mem_of_mem_take h)
theorem cutD_len {xs : List PyData} {lo hi : Option Int} : (cutD xs lo hi).length ≤ xs.length := by
  unfold cutD
  rw [List.length_take, List.length_drop]; omega
theorem ite_t {c : Prop} [Decidable c] {A B : Prop} (h : c) (k : A) : if decide c = true then A else B := by rw [decide_eq_true h, if_pos rfl]; exact k
theorem ite_f {c : Prop} [Decidable c] {A B : Prop} (h : ¬ c) (k : B) : if decide c = true then A else B := by rw [decide_eq_false h, if_neg (by decide)]; exact k
theorem ite_b {c : Prop} [Decidable c] {A B : Prop} (k : c → A) (m : ¬ c → B) : if decide c = true then A else B := by
  by_cases h : c
  · exact ite_t h (k h)
  · exact ite_f h (m h)
theorem cmw {i j : Int} {a b : Nat} (ha : i.natAbs < 2 ^ a) (hb : j.natAbs < 2 ^ b) (h0 : 0 < a := by decide) (h1 : 0 < b := by decide) (h : a + b ≤ 1000000 := by decide) : CMulW i j := wide_mul ha hb h0 h1 h
theorem cdw {i j : Int} {b : Nat} (h : 0 < j) (hb : j.natAbs < 2 ^ b) (h0 : 0 < b := by decide) (h9 : b ≤ 9000 := by decide) : CDivW i j := wide_div h hb h0 h9
/-- one statement, what follows kept shut -/
theorem seqI {t u : TDS} {DD : DEnds} {ρ : Rho} (h : ∀ k, k = u DD → t { DD with nx := k } ρ) : dSeq t u DD ρ := h _ rfl
theorem tn0 : Int.toNat 0 = 0 := rfl
theorem tn1 : Int.toNat 1 = 1 := rfl
theorem tn2 : Int.toNat 2 = 2 := rfl
theorem tn3 : Int.toNat 3 = 3 := rfl
/-- the state of the draws, behind at most m of them -/
def Bag (m : Nat) (bag : List PyData) : Prop := ∃ (a b c : Int) (cells : List Int), bag = [.int a, .int b, .int c, .list (cells.map .int)] ∧ 0 ≤ a ∧ 0 ≤ b ∧ b < 4294967296 ∧ 0 ≤ c ∧ c ≤ m ∧ cells.length ≤ 63 ∧ ∀ k ∈ cells, (0 : Int) ≤ k
theorem Bag.up {m n : Nat} {bag : List PyData} (h : Bag m bag) (k : m ≤ n) : Bag n bag := by
  obtain ⟨a, b, c, cells, e, h1, h2, h3, h4, h5, h6⟩ := h
  exact ⟨a, b, c, cells, e, h1, h2, h3, h4, by omega, h6⟩
def S_take : Sb := fun bag xs Q => ∃ (m : Nat) (n : Int), Bag m bag ∧ m < 2 ^ 60 ∧ xs = [.int n] ∧ 0 < n ∧ n.natAbs < 2 ^ 8000 ∧ ∀ (v : Int) bag', 0 ≤ v → v < n → Bag (m + 1) bag' → Q (.int v) bag'
theorem m_take : MonoB S_take := fun bag xs Q Q' hq ⟨m, n, h1, h2, h3, h4, h5, h6⟩ => ⟨m, n, h1, h2, h3, h4, h5, fun v b a1 a2 a3 => hq _ _ (h6 v b a1 a2 a3)⟩
def td_take : TDS := dSeq
          (dIfS (dTV (dOp fEq (dIx (dVar 0) (dC (PyData.int 0))) (dC (PyData.int 0))))
            (dSeq
              (dAsg
                (dIx
                  (dOfL
                    (dCat
                      (dOfL
                        (dSlL (dIx (dVar 0) (dC (PyData.int 3))) (dPart (dIx (dVar 0) (dC (PyData.int 2)))) dNoPart))
                      (dOfL (dLst (dCons (dC (PyData.int 0)) dNil)))))
                  (dC (PyData.int 0)))
                (setR 2))
              (dSeq (dAddItem 0 (dC (PyData.int 2)) (dC (PyData.int 1)))
                (dSeq
                  (dIfS (dTV (dOp fGe (dVar 2) (dOp fPow (dC (PyData.int 10)) (dC (PyData.int 18)))))
                    (dSetItem 0 (dVar 2) (dC (PyData.int 0))) dNext)
                  (dSeq
                    (dAsg
                      (dOp fAdd
                        (dOp fAdd (dOp fMul (dIx (dVar 0) (dC (PyData.int 1))) (dC (PyData.int 48271)))
                          (dOp fMod (dCB fInt (dCons (dVar 2) dNil)) (dC (PyData.int 2147483647))))
                        (dOp fMul (dC (PyData.int 7919)) (dIx (dVar 0) (dC (PyData.int 2)))))
                      (setR 3))
                    (dSetItem 0 (dOp fMod (dCB fInt (dCons (dVar 3) dNil)) (dC (PyData.int 2147483647)))
                      (dC (PyData.int 1)))))))
            dNext)
          (dSeq
            (dIfS (dTV (dOp fGt (dIx (dVar 0) (dC (PyData.int 0))) (dC (PyData.int 0))))
              (dSeq (dAsg (dOp fMod (dCB fInt (dCons (dIx (dVar 0) (dC (PyData.int 0))) dNil)) (dVar 1)) (setR 4))
                (dSeq
                  (dSetItem 0 (dOp fDiv (dCB fInt (dCons (dIx (dVar 0) (dC (PyData.int 0))) dNil)) (dVar 1))
                    (dC (PyData.int 0)))
                  (dRet (dVar 4))))
              dNext)
            (dSeq
              (dAsg
                (dOp fMod
                  (dCB fInt
                    (dCons
                      (dOp fMul (dOp fAdd (dIx (dVar 0) (dC (PyData.int 1))) (dC (PyData.int 1)))
                        (dC (PyData.int 39373)))
                      dNil))
                  (dC (PyData.int 1000000007)))
                (setR 5))
              (dSeq
                (dAsg
                  (dOp fMod
                    (dCB fInt
                      (dCons
                        (dOp fMul
                          (dOp fMod (dCB fInt (dCons (dOp fMul (dVar 5) (dVar 5)) dNil)) (dC (PyData.int 998244353)))
                          (dC (PyData.int 30011)))
                        dNil))
                    (dC (PyData.int 998244353)))
                  (setR 6))
                (dRet (dOp fMod (dCB fInt (dCons (dOp fDiv (dVar 6) (dC (PyData.int 7))) dNil)) (dVar 1))))))
/-- behind the first if -/
def td_take2 : TDS := (dSeq
            (dIfS (dTV (dOp fGt (dIx (dVar 0) (dC (PyData.int 0))) (dC (PyData.int 0))))
              (dSeq (dAsg (dOp fMod (dCB fInt (dCons (dIx (dVar 0) (dC (PyData.int 0))) dNil)) (dVar 1)) (setR 4))
                (dSeq
                  (dSetItem 0 (dOp fDiv (dCB fInt (dCons (dIx (dVar 0) (dC (PyData.int 0))) dNil)) (dVar 1))
                    (dC (PyData.int 0)))
                  (dRet (dVar 4))))
              dNext)
            (dSeq
              (dAsg
                (dOp fMod
                  (dCB fInt
                    (dCons
                      (dOp fMul (dOp fAdd (dIx (dVar 0) (dC (PyData.int 1))) (dC (PyData.int 1)))
                        (dC (PyData.int 39373)))
                      dNil))
                  (dC (PyData.int 1000000007)))
                (setR 5))
              (dSeq
                (dAsg
                  (dOp fMod
                    (dCB fInt
                      (dCons
                        (dOp fMul
                          (dOp fMod (dCB fInt (dCons (dOp fMul (dVar 5) (dVar 5)) dNil)) (dC (PyData.int 998244353)))
                          (dC (PyData.int 30011)))
                        dNil))
                    (dC (PyData.int 998244353)))
                  (setR 6))
                (dRet (dOp fMod (dCB fInt (dCons (dOp fDiv (dVar 6) (dC (PyData.int 7))) dNil)) (dVar 1))))))
theorem rd_take2 {m : Nat} {n a b c : Int} {cells : List Int} {x2 x3 : Option Ent} {Q : PyData → List PyData → Prop} (hn : 0 < n) (hn2 : n.natAbs < 2 ^ 8000) (h0 : 0 ≤ a) (h1 : 0 ≤ b) (h2 : b < 4294967296) (h3 : 0 ≤ c) (h4 : c ≤ m) (h5 : cells.length ≤ 63) (h6 : ∀ k ∈ cells, (0 : Int) ≤ k)
    (q : ∀ (v : Int) bag', 0 ≤ v → v < n → Bag m bag' → Q (.int v) bag') : td_take2 { nx := fun ρ => retB (.d .none) ρ Q, rt := fun r ρ => retB r ρ Q } [some (.own [.int a, .int b, .int c, .list (cells.map .int)]), some (.d (.int n)), x2, x3, none, none, none] := by
  unfold td_take2
  simp only [dSeq, dAsg, dCB, dCons, dNil, dVar, onVs, vals, val, slot, setR, fGcd, dIfS, dTV, dOp, dBin, onV2, fLt, fLe, fGt, fGe, fAdd, fSub, fMul, fDiv, fMod, fI0, dC, dUn, onV, fNeg, dNext, dRet, dTup, onD, dats, fDivZ, fI, fPow, Few, retP, fAbs, fInt, fMax, fMin, fLen, fSqrt, fEq, fNe, dNot, dAnd, dOr, dAndV, dOrV, dNotV, dIfE, dDrop, dRetN, dPar, noO, dSetL, dLst, dOfL, dOwnM, onOwn, onDat, kAppend, kInsert, dSetItem, dAddItem, dIx, onItems, items, onInt, dNoPart, dPart, dSlice, onL, litems, dSlL, dCat, onM, mitems, dTupOf, dSeqI, dRng1, dRng2, dCallP, dCallB, dCallF, noSelf, onArgs, dats2, dIsi, tyName, dYes, dgTup, dgCons, dgNil, retB, dBreak, dCont, ne_eq, not_false_eq_true, true_and, and_true, List.getElem?_cons_zero, List.getElem?_cons_succ, List.set_cons_zero, List.set_cons_succ, Option.map, List.length_cons, List.length_nil, on0, on1, on2, on3]
  refine ite_b (fun ha => ?_) fun ha => ?_
  · refine ⟨hn, cdw hn hn2, ⟨by decide, by decide⟩, ?_⟩
    exact q _ _ (Int.emod_nonneg _ (by clear hn2; omega)) (Int.emod_lt_of_pos _ hn) ⟨a / n, b, c, cells, rfl, Int.ediv_nonneg h0 (by clear hn2; omega), h1, h2, h3, h4, h5, h6⟩
  · have e0 : ∀ x k : Int, 0 < k → 0 ≤ x % k ∧ x % k < k := fun x k hk => ⟨Int.emod_nonneg _ (by omega), Int.emod_lt_of_pos _ hk⟩
    refine ⟨cmw (a := 40) (b := 20) (by omega) (by decide), by decide, ?_⟩
    obtain ⟨u1, u2⟩ := e0 ((b + 1) * 39373) 1000000007 (by decide)
    generalize (b + 1) * 39373 % 1000000007 = u at u1 u2 ⊢
    refine ⟨cmw (a := 40) (b := 40) (by omega) (by omega), by decide, ?_⟩
    obtain ⟨w1, w2⟩ := e0 (u * u) 998244353 (by decide)
    generalize u * u % 998244353 = w at w1 w2 ⊢
    refine ⟨cmw (a := 40) (b := 20) (by omega) (by decide), by decide, cdw (b := 20) (by decide) (by decide), hn, ?_⟩
    exact q _ _ (e0 _ n hn).1 (e0 _ n hn).2 ⟨a, b, c, cells, rfl, h0, h1, h2, h3, h4, h5, h6⟩
theorem rd_take {bag xs : List PyData} {Q : PyData → List PyData → Prop} (hS : S_take bag xs Q) : td_take { nx := fun ρ => retB (.d .none) ρ Q, rt := fun r ρ => retB r ρ Q } (some (.own bag) :: rhoP 6 [.d] xs) := by
  obtain ⟨m, n, ⟨a, b, c, cells, rfl, h0, h1, h2, h3, h4, h5, h6⟩, hm, rfl, hn, hn2, q⟩ := hS
  have e : (some (.own [.int a, .int b, .int c, .list (cells.map .int)]) :: rhoP 6 [.d] [.int n] : Rho) = [some (.own [.int a, .int b, .int c, .list (cells.map .int)]), some (.d (.int n)), none, none, none, none, none] := rfl
  rw [e]
  show dSeq _ td_take2 _ _
  unfold dSeq
  simp only [dSeq, dAsg, dCB, dCons, dNil, dVar, onVs, vals, val, slot, setR, fGcd, dIfS, dTV, dOp, dBin, onV2, fLt, fLe, fGt, fGe, fAdd, fSub, fMul, fDiv, fMod, fI0, dC, dUn, onV, fNeg, dNext, dRet, dTup, onD, dats, fDivZ, fI, fPow, Few, retP, fAbs, fInt, fMax, fMin, fLen, fSqrt, fEq, fNe, dNot, dAnd, dOr, dAndV, dOrV, dNotV, dIfE, dDrop, dRetN, dPar, noO, dSetL, dLst, dOfL, dOwnM, onOwn, onDat, kAppend, kInsert, dSetItem, dAddItem, dIx, onItems, items, onInt, dNoPart, dPart, dSlice, onL, litems, dSlL, dCat, onM, mitems, dTupOf, dSeqI, dRng1, dRng2, dCallP, dCallB, dCallF, noSelf, onArgs, dats2, dIsi, tyName, dYes, dgTup, dgCons, dgNil, retB, dBreak, dCont, ne_eq, not_false_eq_true, true_and, and_true, List.getElem?_cons_zero, List.getElem?_cons_succ, List.set_cons_zero, List.set_cons_succ, Option.map, List.length_cons, List.length_nil, on0, on1, on2, on3, sh_int, eqv_int]
  refine ite_b (fun ha => ?_) fun ha => ?_
  · -- the next cell
    have hc : ∃ (k : Int) (rest : List PyData), cutD (cells.map PyData.int) (some c) none ++ [PyData.int 0] = .int k :: rest ∧ 0 ≤ k := by
      cases e1 : cutD (cells.map PyData.int) (some c) none with
      | nil => exact ⟨0, [], rfl, by decide⟩
      | cons y ys =>
        have hy : y ∈ cells.map PyData.int := cutD_sub (lo := some c) (hi := none) y (by rw [e1]; exact List.mem_cons_self ..)
        obtain ⟨k, hk, rfl⟩ := List.mem_map.mp hy
        exact ⟨k, ys ++ [PyData.int 0], rfl, h6 k hk⟩
    obtain ⟨k, rest, e1, hk⟩ := hc
    have hl : (cutD (cells.map PyData.int) (some c) none).length ≤ 63 := Nat.le_trans cutD_len (by rw [List.length_map]; exact h5)
    rw [e1]
    simp only [dSeq, dAsg, dCB, dCons, dNil, dVar, onVs, vals, val, slot, setR, fGcd, dIfS, dTV, dOp, dBin, onV2, fLt, fLe, fGt, fGe, fAdd, fSub, fMul, fDiv, fMod, fI0, dC, dUn, onV, fNeg, dNext, dRet, dTup, onD, dats, fDivZ, fI, fPow, Few, retP, fAbs, fInt, fMax, fMin, fLen, fSqrt, fEq, fNe, dNot, dAnd, dOr, dAndV, dOrV, dNotV, dIfE, dDrop, dRetN, dPar, noO, dSetL, dLst, dOfL, dOwnM, onOwn, onDat, kAppend, kInsert, dSetItem, dAddItem, dIx, onItems, items, onInt, dNoPart, dPart, dSlice, onL, litems, dSlL, dCat, onM, mitems, dTupOf, dSeqI, dRng1, dRng2, dCallP, dCallB, dCallF, noSelf, onArgs, dats2, dIsi, tyName, dYes, dgTup, dgCons, dgNil, retB, dBreak, dCont, ne_eq, not_false_eq_true, true_and, and_true, List.getElem?_cons_zero, List.getElem?_cons_succ, List.set_cons_zero, List.set_cons_succ, Option.map, List.length_cons, List.length_nil, on0, on1, on2, on3, sh_int, eqv_int, tn0, tn1, tn2, tn3]
    refine ⟨few_le (by omega), few_le (by omega), ⟨by decide, by decide⟩, ⟨by decide, by decide, by decide⟩, ?_⟩
    refine ite_b (fun hk2 => ?_) fun hk2 => ?_
    · refine ⟨⟨by decide, by decide⟩, cmw (a := 40) (b := 20) (by omega) (by decide), by decide, cmw (a := 20) (b := 62) (by decide) (by omega), by decide, ⟨by decide, by decide⟩, ?_⟩
      have z := Int.emod_lt_of_pos (b * 48271 + k % 2147483647 + 7919 * (c + 1)) (show (0 : Int) < 2147483647 by decide)
      exact rd_take2 (m := m + 1) hn hn2 hk (Int.emod_nonneg _ (by decide)) (by omega) (by omega) (by omega) h5 h6 q
    · refine ⟨cmw (a := 40) (b := 20) (by omega) (by decide), by decide, cmw (a := 20) (b := 62) (by decide) (by omega), by decide, ⟨by decide, by decide⟩, ?_⟩
      have z := Int.emod_lt_of_pos (b * 48271 + k % 2147483647 + 7919 * (c + 1)) (show (0 : Int) < 2147483647 by decide)
      exact rd_take2 (m := m + 1) hn hn2 h0 (Int.emod_nonneg _ (by decide)) (by omega) (by omega) (by omega) h5 h6 q
  · exact rd_take2 hn hn2 h0 h1 h2 h3 (by omega) h5 h6 q
/-- one of some things -/
def S_some : Sb := fun bag xs Q => ∃ (m : Nat) (ys : List PyData), Bag m bag ∧ m < 2 ^ 60 ∧ (xs = [.list ys] ∨ xs = [.tuple ys]) ∧ 0 < ys.length ∧ ys.length ≤ 100000 ∧ ∀ y bag', y ∈ ys → Bag (m + 1) bag' → Q y bag'
theorem m_some : MonoB S_some := fun bag xs Q Q' hq ⟨m, ys, h1, h2, h3, h4, h5, h6⟩ => ⟨m, ys, h1, h2, h3, h4, h5, fun y b a1 a2 => hq _ _ (h6 y b a1 a2)⟩
theorem onAt_mem {ys : List PyData} {v : Int} {f : PyData → Prop} (h0 : 0 ≤ v) (h1 : v < ys.length) (h : ∀ y ∈ ys, f y) : onAt ys v f := by
  have hv : v.toNat < ys.length := by omega
  have e : atI ys v = some ys[v.toNat] := by
    unfold atI ixN
    rw [if_pos h0, if_pos h1]
    exact List.getElem?_eq_getElem hv
  unfold onAt; rw [e]
  exact h _ (List.getElem_mem hv)
/-- the draws at their start -/
def S_bag : SdL := fun xs Q => ∃ ns : List Int, xs = [.list (ns.map .int)] ∧ ∀ bag, Bag 0 bag → Q bag
theorem m_bag : MonoF S_bag := fun xs Q Q' hq ⟨ns, h1, h2⟩ => ⟨ns, h1, fun b hb => hq _ (h2 b hb)⟩
theorem rd_bag {xs : List PyData} {Q : List PyData → Prop} (hS : S_bag xs Q) :
    dLst (dCons (dC (PyData.int 0)) (dCons (dC (PyData.int 1234567891)) (dCons (dC (PyData.int 0)) (dCons (dOfL
                    (dLc (dSeqI (dOfL (dSlL (dVar 0) dNoPart (dPart (dC (PyData.int 63)))))) (setR 1) dYes
                      (dCB fAbs (dCons (dVar 1) dNil)) [1])) dNil)))) (rhoP 2 [.ro] xs) fun zs _ => Q zs := by
  obtain ⟨ns, rfl, q⟩ := hS
  have e : rhoP 2 [.ro] [.list (ns.map .int)] = [some (.ro (.list (ns.map .int))), none] := rfl
  rw [e]
  have hl : (cutD (ns.map PyData.int) none (some 63)).length ≤ 63 := by
    unfold cutD
    rw [List.length_take]
    have : HT.sIx (ns.map PyData.int).length (ns.map PyData.int).length (some 63) ≤ 63 := by
      rw [show (63 : Int) = ((63 : Nat) : Int) from rfl, HT.sIx_nat]; omega
    omega
  have hi : ∀ (i : Nat) (x : PyData), (cutD (ns.map PyData.int) none (some 63))[i]? = some x → ∃ k : Int, x = .int k := fun i x h => by
    have := cutD_sub x (List.mem_of_getElem? h)
    obtain ⟨k, _, rfl⟩ := List.mem_map.mp this
    exact ⟨k, rfl⟩
  simp only [dLc, dSeq, dAsg, dCB, dCons, dNil, dVar, onVs, vals, val, slot, setR, fGcd, dIfS, dTV, dOp, dBin, onV2, fLt, fLe, fGt, fGe, fAdd, fSub, fMul, fDiv, fMod, fI0, dC, dUn, onV, fNeg, dNext, dRet, dTup, onD, dats, fDivZ, fI, fPow, Few, retP, fAbs, fInt, fMax, fMin, fLen, fSqrt, fEq, fNe, dNot, dAnd, dOr, dAndV, dOrV, dNotV, dIfE, dDrop, dRetN, dPar, noO, dSetL, dLst, dOfL, dOwnM, onOwn, onDat, kAppend, kInsert, dSetItem, dAddItem, dIx, onItems, items, onInt, dNoPart, dPart, dSlice, onL, litems, dSlL, dCat, onM, mitems, dTupOf, dSeqI, dRng1, dRng2, dCallP, dCallB, dCallF, noSelf, onArgs, dats2, dIsi, tyName, dYes, dgTup, dgCons, dgNil, retB, dBreak, dCont, ne_eq, not_false_eq_true, true_and, and_true, List.getElem?_cons_zero, List.getElem?_cons_succ, List.set_cons_zero, List.set_cons_succ, Option.map, List.length_cons, List.length_nil]
  refine ⟨fun i hi => ?_, fun i acc ρ => i ≤ 63 ∧ ρ = [some (.ro (.list (ns.map .int))), none] ∧ ∃ cs : List Int, acc = cs.map .int ∧ cs.length = i ∧ ∀ k ∈ cs, (0 : Int) ≤ k, ⟨by omega, rfl, [], rfl, rfl, fun k hk => nomatch hk⟩, fun i x acc ρ hx hI => ?_, fun acc ρ hI => ?_⟩
  · obtain rfl : i = 1 := by simpa using hi
    rfl
  · obtain ⟨hi0, rfl, cs, rfl, hc, hp⟩ := hI
    obtain ⟨k, rfl⟩ := hi i x hx
    have hil : i < 63 := by
      have := (List.getElem?_eq_some_iff.mp hx).1
      omega
    simp only [dSeq, dAsg, dCB, dCons, dNil, dVar, onVs, vals, val, slot, setR, fGcd, dIfS, dTV, dOp, dBin, onV2, fLt, fLe, fGt, fGe, fAdd, fSub, fMul, fDiv, fMod, fI0, dC, dUn, onV, fNeg, dNext, dRet, dTup, onD, dats, fDivZ, fI, fPow, Few, retP, fAbs, fInt, fMax, fMin, fLen, fSqrt, fEq, fNe, dNot, dAnd, dOr, dAndV, dOrV, dNotV, dIfE, dDrop, dRetN, dPar, noO, dSetL, dLst, dOfL, dOwnM, onOwn, onDat, kAppend, kInsert, dSetItem, dAddItem, dIx, onItems, items, onInt, dNoPart, dPart, dSlice, onL, litems, dSlL, dCat, onM, mitems, dTupOf, dSeqI, dRng1, dRng2, dCallP, dCallB, dCallF, noSelf, onArgs, dats2, dIsi, tyName, dYes, dgTup, dgCons, dgNil, retB, dBreak, dCont, ne_eq, not_false_eq_true, true_and, and_true, List.getElem?_cons_zero, List.getElem?_cons_succ, List.set_cons_zero, List.set_cons_succ, Option.map, List.length_cons, List.length_nil, wipeR, if_pos]
    refine ⟨few_le (by rw [List.length_map]; omega), by omega, cs ++ [if k < 0 then -k else k], by rw [List.map_append]; rfl, by rw [List.length_append, hc]; rfl, fun j hj => ?_⟩
    rcases List.mem_append.mp hj with h | h
    · exact hp j h
    · obtain rfl : j = if k < 0 then -k else k := by simpa using h
      split <;> omega
  · obtain ⟨hi0, rfl, cs, rfl, hc, hp⟩ := hI
    exact ⟨few_le (by decide), q _ ⟨0, 1234567891, 0, cs, rfl, by decide, by decide, by decide, by decide, by decide, by omega, hp⟩⟩
/-- the same, and shown the same -/
def S_alike : Sd
  | [x, y], Q => (x = y ∧ Fine x) ∧ Q (.bool true)
  | _, _ => False
theorem m_alike : MonoP S_alike := fun xs Q Q' hq h => by
  unfold S_alike at h ⊢
  split at h
  · exact ⟨h.1, hq _ h.2⟩
  · exact h.elim
theorem rd_alike {xs : List PyData} {Q : PyData → Prop} (hS : S_alike xs Q) :
    dRet (dAndV (dOp fEq (dVar 0) (dVar 1)) (dOp fEqS (dCB fRepr (dCons (dVar 0) dNil)) (dCB fRepr (dCons (dVar 1) dNil)))) { nx := fun _ => Q .none, rt := fun r ρ => retP r ρ Q } (rhoP 2 [.ro, .ro] xs) := by
  unfold S_alike at hS
  split at hS
  · rename_i x y
    obtain ⟨⟨rfl, hf⟩, q⟩ := hS
    have e : rhoP 2 [.ro, .ro] [x, x] = [some (.ro x), some (.ro x)] := rfl
    rw [e]
    simp only [dSeq, dAsg, dCB, dCons, dNil, dVar, onVs, vals, val, slot, setR, fGcd, dIfS, dTV, dOp, dBin, onV2, fLt, fLe, fGt, fGe, fAdd, fSub, fMul, fDiv, fMod, fI0, dC, dUn, onV, fNeg, dNext, dRet, dTup, onD, dats, fDivZ, fI, fPow, Few, retP, fAbs, fInt, fMax, fMin, fLen, fSqrt, fEq, fNe, dNot, dAnd, dOr, dAndV, dOrV, dNotV, dIfE, dDrop, dRetN, dPar, noO, dSetL, dLst, dOfL, dOwnM, onOwn, onDat, kAppend, kInsert, dSetItem, dAddItem, dIx, onItems, items, onInt, dNoPart, dPart, dSlice, onL, litems, dSlL, dCat, onM, mitems, dTupOf, dSeqI, dRng1, dRng2, dCallP, dCallB, dCallF, noSelf, onArgs, dats2, dIsi, tyName, dYes, dgTup, dgCons, dgNil, retB, dBreak, dCont, ne_eq, not_false_eq_true, true_and, and_true, List.getElem?_cons_zero, List.getElem?_cons_succ, List.set_cons_zero, List.set_cons_succ, Option.map, List.length_cons, List.length_nil, fRepr, fEqS, hf.shaped, hf.refl, if_pos]
    exact ⟨hf.plain, hf.plain, by simpa only [decide_true] using q⟩
  · exact hS.elim
theorem law_args {K : PySem.W.Frag} {T : List (Addr × Str)} {H : Hp} {a : Addr} {ns : List Int} {n : Nat} {S : Sd} {E : XK} (tb : Tabs T H) (hl : ns.length ≤ n) (hS : SqL K H a (ns.map V.int)) (hm : MonoP S) (h : ∀ ns : List Int, ns.length ≤ n → S [.list (ns.map .int)] fun z => z = .bool true) :
    spP K T [.ro] S [.ref a] H (fun v _ => v = .bl true) E := by
  refine ⟨fun _ => False, [.list (ns.map .int)], tb, fun a z => z.elim, ?_, hm _ _ _ (fun z hz v H' _ _ im => ?_) (h ns hl)⟩
  · simp only [ArgsOk]
    refine ⟨.ref a, [], rfl, .inr ⟨a, ns.map .int, ns.map .int, rfl, rfl, ?_, ImAll.ints ns⟩, rfl⟩
    rcases hS with h | h
    · exact .inl ⟨h, fun z => z⟩
    · exact .inr (.inr h)
  · subst hz
    exact Im.bool_iff.mp im
end DV
namespace DV
open PySem PySem.Spec PyProof.Rows L2
open LamX (ExtN TabS Tabs CodeO)
section
variable {X : Cx} {F : Fm} {a b c e : Expr} {es : List Expr} {ta tb tc te : TE} {da db dc de : TDE} {pos : Pos} {t : TA} {d : TDA}
def isNo : PyData → Bool
  | .none => true
  | _ => false
theorem isNo_of {K : PySem.W.Frag} {H : Hp} {v : V} {x : PyData} (h : Dp K H v x) : decide (v = .non) = isNo x := by
  cases h <;> rfl
def dIsN (te : TDE) : TDE := fun ρ Q => te ρ fun r ρ1 => onV ρ1 r fun x => Q (.d (.bool (isNo x))) ρ1
def dNotN (te : TDE) : TDE := fun ρ Q => te ρ fun r ρ1 => onV ρ1 r fun x => Q (.d (.bool (!isNo x))) ρ1
theorem de_notN (he : DE F te de) : DE F (tNotN te) (dNotN de) := by
  constructor
  · intro pins ρ σ H Q O h
    refine he.run pins ρ σ H _ O (he.mono _ _ _ (fun r ρ1 h1 v H1 O1 R1 => ?_) h)
    obtain ⟨x, e1, h2⟩ := onV_of h1
    rw [isNo_of (val_dp O1 R1 e1)]
    exact h2 _ _ O1 (.sc .bool)
  · intro ρ Q Q' hq h
    exact he.mono _ _ _ (fun r ρ1 h1 => onV_mono h1 fun x h2 => hq _ _ h2) h
theorem pt_notN {j p2} (he : PD X F e te de) : PDT X F (.Compare e [.IsNot] [.Constant .none j p2] pos) (tB (tNotN te)) (dTV (dNotN de)) := ⟨pt_cmp (pc_notN he.pe), dt_tv (k := tB) (fun _ => rfl) (de_notN he.de)⟩
def fNotInD : F2
  | x, .list ds, Q => (SeqAt.shaped x = true ∧ SeqAt.shaped (.list ds) = true) ∧ Q (.bool (!ds.any fun z => PyData.eqv z x))
  | _, _, _ => False
def dAug (i : Nat) (f : Int → Int → Int) (te : TDE) : TDS := fun DD ρ => onInt ρ (.o i) fun n => te ρ fun r ρ1 => onInt ρ1 r fun m => DD.nx (ρ1.set i (some (.d (.int (f n m)))))
theorem ds_aug {i : Nat} {f : Int → Int → Int} {op : Operator} {x : Str} {p2 : Pos} (hN : X.N.Nodup) (he : PD X F e te de) (ho : PIp X op (ipI f)) (hf : ¬ F.fix i) (hi : X.N[i]? = some x := by rfl) (hx : Loc X.env.scope x := by first | exact Or.inl rfl | exact Or.inr rfl) (hfn : X.fn x = true ∨ X.env.scope.names.lookup x = some .local := by first | exact .inl rfl | exact .inr rfl) :
    PDS X F (.AugAssign (.Name x p2) op e pos) (tAug i te (ipI f)) (dAug i f de) := by
  refine ⟨ps_aug hN hi hx he.pe ho hfn, fun pins ρ σ H D DD O S R h => ?_⟩
  obtain ⟨n, e1, h⟩ := onInt_of h
  have e1 : slot ρ i = some (.int n) := e1
  have hs : ∃ v, σ[i]? = some (some v) := by
    unfold slot at e1
    split at e1
    · rename_i y q
      obtain ⟨v, h1, _⟩ := O.ent i _ q; exact ⟨v, h1⟩
    · cases e1
    · rename_i y q
      obtain ⟨v, h1, _⟩ := O.ent i _ q; exact ⟨v, h1⟩
    · cases e1
  obtain ⟨v, hv⟩ := hs
  cases dp_int (slot_dp O hv e1)
  refine ⟨.int n, hv, ?_⟩
  refine he.de.run pins ρ σ H _ O (he.de.mono _ _ _ (fun r ρ1 h1 u H1 O1 R1 => ?_) h)
  obtain ⟨m, e2, h2⟩ := onInt_of h1
  cases dp_int (val_dp O1 R1 e2)
  exact ⟨n, m, rfl, rfl, R.nx _ _ _ (O1.put (S.fr hf) (fun _ z => by cases z; exact id) fun g e => by cases e; exact ⟨_, rfl, by simp only [EntOk, Im]⟩) h2⟩
def asInts : List PyData → Option (List Int)
  | [] => some []
  | .int i :: xs => (asInts xs).map (i :: ·)
  | _ :: _ => none
def dListOf (t : TDA) : TDL := fun ρ Q => t ρ fun rs ρ1 => match rs with
  | [r] => onItems ρ1 r fun xs => Q xs ρ1
  | _ => False
def titems : R → Option (List PyData)
  | .d (.tuple xs) => some xs
  | _ => none
def onT (r : R) (f : List PyData → Prop) : Prop := match titems r with
  | some xs => f xs
  | _ => False
theorem onT_of {r : R} {f : List PyData → Prop} (h : onT r f) : ∃ xs, r = .d (.tuple xs) ∧ f xs := by
  unfold onT at h
  split at h
  · rename_i xs e
    cases r <;> first | cases e | skip
    rename_i x
    cases x <;> first | cases e | skip
    exact ⟨_, rfl, h⟩
  · exact h.elim
theorem onT_mono {r : R} {f g : List PyData → Prop} (h : onT r f) (k : ∀ xs, f xs → g xs) : onT r g := by
  unfold onT at h ⊢
  split at h
  · exact k _ h
  · exact h.elim
theorem im_tup {A : Addr → Prop} {H : Hp} {xs : List PyData} {v : V} (h : Im F.K A H (.tuple xs) v) : ∃ a vs, v = .ref a ∧ SqT F.K H a vs ∧ ImAll F.K A H xs vs := by
  simp only [Im] at h
  obtain ⟨a, vs, e, l, t⟩ := h
  exact ⟨a, vs, e, l.sq, t⟩
def dCatT (ta tb : TDE) : TDE := dBin ta tb fun r s ρ Q => onT r fun xs => onT s fun ys => Few (xs.length + ys.length) ∧ Q (.d (.tuple (xs ++ ys))) ρ
theorem pd_catT (ha : PD X F a ta da) (hb : PD X F b tb db) (hK : X.K = F.K := by rfl) : PD X F (.BinOp a .Add b pos) (tOp (rCatA F.K) ta tb) (dCatT da db) := by
  refine ⟨?_, de_bin ha.de hb.de (fun pins ρ σ H x y r s Q O R1 R2 h => ?_) fun r s ρ Q Q' hq h => onT_mono h fun xs h => onT_mono h fun ys h => ⟨h.1, hq _ _ h.2⟩⟩
  · have := pe_op (pos := pos) op_catA ha.pe hb.pe
    rw [hK] at this
    exact this
  obtain ⟨xs, e1, h2⟩ := onT_of h
  subst e1
  obtain ⟨ys, e2, hl, q⟩ := onT_of h2
  subst e2
  have i1 : Im F.K (Av F pins ρ σ) H (.tuple xs) x := R1
  have i2 : Im F.K (Av F pins ρ σ) H (.tuple ys) y := R2
  obtain ⟨p, vs, rfl, l1, im1⟩ := im_tup i1
  obtain ⟨p2, us, rfl, l2, im2⟩ := im_tup i2
  refine ⟨p, p2, vs, us, rfl, rfl, l1, l2, by rw [im1.length, im2.length]; exact hl, fun hz => ?_, fun _ hz => ?_, fun _ _ p' hp => ?_⟩
  · have : xs = [] := List.length_eq_zero_iff.mp (by rw [← im1.length, hz]; rfl)
    subst this
    exact q _ _ O i2
  · have : ys = [] := List.length_eq_zero_iff.mp (by rw [← im2.length, hz]; rfl)
    subst this
    rw [List.append_nil] at q
    exact q _ _ O i1
  · obtain ⟨O2, i3⟩ := newTup O hp (im1.append im2)
    exact q _ _ O2 i3
variable {lo hi : Option Expr} {tl th : TO} {dlo dhi : TDO} {p2 : Pos}
def dSlT (te : TDE) (tl th : TDO) : TDE := fun ρ Q => dSlice te tl th (fun r lo hi ρ3 => onT r fun xs => Q (.d (.tuple (cutD xs lo hi))) ρ3) ρ
theorem pd_sliceT (he : PD X F e te de) (hl : PDO X F lo tl dlo) (hh : PDO X F hi th dhi) (hK : X.K = F.K := by rfl) : PD X F (.Subscript e (.Slice lo hi none p2) pos) (tSl (rSlA F.K) te tl th) (dSlT de dlo dhi) := by
  refine ⟨?_, fun pins ρ σ H Q O h => ?_, fun ρ Q Q' hq h => he.de.mono _ _ _ (fun r ρ1 h1 => hl.d.mono _ _ _ (fun l ρ2 h2 => hh.d.mono _ _ _ (fun u ρ3 h3 => onT_mono h3 fun xs => hq _ _) h2) h1) h⟩
  · have := pe_slice (pos := pos) (p2 := p2) sl_tupA he.pe hl.po hh.po
    rw [hK] at this
    exact this
  refine he.de.run pins ρ σ H _ O (he.de.mono _ _ _ (fun r ρ1 h1 v H1 O1 R1 => ?_) h)
  refine hl.d.run (.val v r :: pins) ρ1 σ H1 _ (O1.push R1) (hl.d.mono _ _ _ (fun l ρ2 h2 H2 O2 => ?_) h1)
  refine hh.d.run (.val v r :: pins) ρ2 σ H2 _ O2 (hh.d.mono _ _ _ (fun u ρ3 h3 H3 O3 => ?_) h2)
  obtain ⟨O4, R4⟩ := O3.popV
  obtain ⟨xs, rfl, q⟩ := onT_of h3
  have i1 : Im F.K (Av F pins ρ3 σ) H3 (.tuple xs) v := R4
  obtain ⟨p, vs, rfl, sq, im⟩ := im_tup i1
  refine ⟨p, vs, rfl, sq, fun hw => ?_, fun _ p' hp => ?_⟩
  · have : cutD xs l u = xs := by
      unfold cutD
      rw [← im.length, hw.1, hw.2, List.drop_zero, Nat.sub_zero, im.length, List.take_length]
    rw [this] at q
    exact q _ _ O4 i1
  · obtain ⟨O5, i3⟩ := newTup O4 hp (im.cut l u)
    exact q _ _ O5 i3
end
end DV
namespace DV
open PySem PySem.Spec PyProof.Rows L2
open LamX (ExtN TabS Tabs CodeO)
section
variable {X : Cx} {F : Fm} {tg e e2 a b c : Expr} {te te2 ta tb tc : TE} {de de2 da db dc : TDE} {pos p : Pos} {t : TA} {d : TDA} {dl : TDL}
theorem units65 {k : Nat} {A : Around} (r : Room k A) : A.units + 65 < cLine := by have := r.un; omega
def dPar3 (i j l : Nat) (t : TDA) : TDS := fun DD ρ => t ρ fun rs ρ1 => match rs with
  | [r, s, u] => noO s ∧ noO u ∧ setR i r ρ1 fun ρ2 => setR j s ρ2 fun ρ3 => setR l u ρ3 DD.nx
  | _ => False
theorem fr_val {pins : List Pin} {v : V} {r : R} {i : Nat} (h : Fr pins i) (hn : noO r) : Fr (.val v r :: pins) i := by
  intro u l hp
  rcases List.mem_cons.mp hp with z | z
  · cases z; exact hn.elim
  · exact h u l z
theorem ds_par3 {i j l : Nat} {x y z : Str} {px py pz pt : Pos} {pt2 : Pos} {kt' k2'} (hc : X.calm = true) (hN : X.N.Nodup) (ha : PDA X F [a, b, c] t d) (hfi : ¬ F.fix i) (hfj : ¬ F.fix j) (hfl : ¬ F.fix l) (hij : i ≠ j := by decide) (hil : i ≠ l := by decide) (hjl : j ≠ l := by decide) (hi : X.N[i]? = some x := by rfl) (hj : X.N[j]? = some y := by rfl) (hl : X.N[l]? = some z := by rfl)
    (hx : X.env.scope.names.lookup x = some .local := by rfl) (hy : X.env.scope.names.lookup y = some .local := by rfl) (hz : X.env.scope.names.lookup z = some .local := by rfl)
    (hw : swappedStores [.Tuple [.Name x px, .Name y py, .Name z pz] kt' pt] (.Tuple [a, b, c] k2' pt2) X.env = pure (some [x, y, z]) := by rfl)
    (hs : swapsWithSole [.Tuple [.Name x px, .Name y py, .Name z pz] kt' pt] (.Tuple [a, b, c] k2' pt2) pos.line X.env = pure false := by rfl) :
    PDS X F (.Assign [.Tuple [.Name x px, .Name y py, .Name z pz] kt' pt] (.Tuple [a, b, c] k2' pt2) pos) (tPar3 i j l t) (dPar3 i j l d) := by
  refine ⟨ps_par3 hc hN hi hj hl hij hil hjl hx hy hz ha.pa hw hs, fun pins ρ σ H D DD O S R h => ?_⟩
  refine ha.da.run pins ρ σ H _ O (ha.da.mono _ _ _ (fun rs ρ1 h1 vs H1 O1 R1 => ?_) h)
  split at h1
  · rename_i r s q
    simp only [ROks] at R1
    obtain ⟨v, us, rfl, r1, w, us2, rfl, r2, g, us3, rfl, r3, rfl⟩ := R1
    refine ⟨v, w, g, rfl, ?_⟩
    have O2 := (O1.push r3).push (v := w) (r := s) r2
    have g1 : gName i v σ H1 fun σ2 H2 => gName j w σ2 H2 fun σ3 H3 => gName l g σ3 H3 fun σ4 H4 => D.nx σ4 H4 := by
      refine (dg_name (F := F) i).run (.val w s :: .val g q :: pins) ρ1 σ H1 v r _ _ O2 (fun k hk => ?_) (by exact r1) h1.2.2 fun ρ2 σ2 H2 O3 _ q2 => ?_
      · rw [List.mem_singleton.mp hk]
        exact fr_val (fr_val (S.fr hfi) h1.2.1) h1.1
      · obtain ⟨O4, r4⟩ := O3.popV
        refine (dg_name (F := F) j).run (.val g q :: pins) ρ2 σ2 H2 w s _ _ O4 (fun k hk => ?_) r4 q2 fun ρ4 σ4 H4 O5 _ q3 => ?_
        · rw [List.mem_singleton.mp hk]
          exact fr_val (S.fr hfj) h1.2.1
        · obtain ⟨O6, r6⟩ := O5.popV
          exact (dg_name (F := F) l).run pins ρ4 σ4 H4 g q _ _ O6 (fun k hk => by rw [List.mem_singleton.mp hk]; exact S.fr hfl) r6 q3 fun ρ6 σ6 H6 O7 _ q4 => R.nx _ _ _ O7 q4
    exact g1
  · exact h1.elim
theorem de_l (h : DL F te dl) : DE F te (dOfL dl) := by
  refine ⟨?_, ?_⟩
  · intro pins ρ σ H Q O hq
    refine h.run pins ρ σ H _ O (h.mono _ _ _ (fun xs ρ1 h1 p H1 O1 => ?_) hq)
    obtain ⟨O2, i2⟩ := O1.popL
    exact h1 _ _ O2 i2
  · intro ρ Q Q' hq hh
    exact h.mono _ _ _ (fun xs ρ1 h1 => hq _ _ h1) hh
def dRetL (tl : TDL) : TDS := fun DD ρ => tl ρ DD.rl
end
theorem ds_setLc {X : Cx} {F : Fm} {i : Nat} {y : Str} {py : Pos} {elt tg iter : Expr} {ifs : List Expr} {scope : Scope} {own : List (Str × Nat)} {pos spos : Pos} {wi : TI} {dw : TDI} {g : TG} {dg : TDGt} {tt : TT} {dt : TDT} {te : TE} {de : TDE} (hc : X.calm = true) (hN : X.N.Nodup) (hi : PDI X F tg iter wi dw) (ok : BlkOk X.N X.env.scope scope own)
    (hg : ∀ (s : Shared) (H : Hp) (C : Addr) (cl : List (Str × Addr)) (fp : List Addr), PDG (X.blk s H scope (compEnvC scope cl C X.env) fp) F tg g dg (own.map (·.2))) (ht : ∀ (s : Shared) (H : Hp) (C : Addr) (cl : List (Str × Addr)) (fp : List Addr), PDTs (X.blk s H scope (compEnvC scope cl C X.env) fp) F ifs tt dt)
    (he : ∀ (s : Shared) (H : Hp) (C : Addr) (cl : List (Str × Addr)) (fp : List Addr), PD (X.blk s H scope (compEnvC scope cl C X.env) fp) F elt te de) (hf : ¬ F.fix i)
    (hs : ∀ x, foldedSetIterable iter X.env x = pure x := by intro _; rfl) (hy : X.N[i]? = some y := by rfl) (hyl : X.env.scope.names.lookup y = some .local := by rfl)
    (hsw : swapsWith (.ListComp elt [⟨tg, iter, ifs, 0⟩] scope pos) (some (.Name y py)) spos.line X.env = pure true := by rfl) :
    PDS X F (.Assign [.Name y py] (.ListComp elt [⟨tg, iter, ifs, 0⟩] scope pos) spos) (tAsg (tLc wi g tt te (own.map (·.2))) (gName i)) (dAsg (dOfL (dLc dw dg dt de (own.map (·.2)))) (setR i)) := by
  refine ⟨ps_setLc hc hN hy hyl hsw hi.pi ok (fun s H C cl fp => (hg s H C cl fp).pg) (fun s H C cl fp => (ht s H C cl fp).pts) (fun s H C cl fp => (he s H C cl fp).pe) hs, ?_⟩
  exact dsa (de_l (dl_lc hi.di (hg (PySem.start X.prog).1 (fun _ => none) 0 [] []).dg (ht (PySem.start X.prog).1 (fun _ => none) 0 [] []).dt (he (PySem.start X.prog).1 (fun _ => none) 0 [] []).de)) (dg_name i) fun j hj => by rw [List.mem_singleton.mp hj]; exact hf
end DV
namespace DV
open PySem PySem.Spec PyProof.Rows L2
open LamX (ExtN TabS Tabs CodeO)
/-- a list stands at a while the values pl are in mind -/
def LstAt (F : Fm) (pl : List Pin) (a : Addr) (xs : List PyData) : Prop := ∀ (pins : List Pin) (ρ : Rho) (σ : L2.St) (H : Hp), (∀ q ∈ pl, q ∈ pins) → Ok F pins ρ σ H → ∃ vs, SqL F.K H a vs ∧ ImAll F.K (Av F pins ρ σ) H xs vs
def TupAt (F : Fm) (pl : List Pin) (a : Addr) (xs : List PyData) : Prop := ∀ (pins : List Pin) (ρ : Rho) (σ : L2.St) (H : Hp), (∀ q ∈ pl, q ∈ pins) → Ok F pins ρ σ H → ∃ vs, SqT F.K H a vs ∧ ImAll F.K (Av F pins ρ σ) H xs vs
section
variable {X : Cx} {F : Fm} {tg e e2 a b c : Expr} {te te2 ta tb tc : TE} {de de2 da db dc : TDE} {pos p tpos : Pos} {t : TA} {d : TDA} {dl : TDL} {elts : List Expr} {kk : Nat}
theorem LstAt.up {pl pm : List Pin} {a : Addr} {xs : List PyData} (h : LstAt F pl a xs) (k : ∀ q ∈ pl, q ∈ pm) : LstAt F pm a xs := fun pins ρ σ H hp O => h pins ρ σ H (fun q hq => hp q (k q hq)) O
theorem TupAt.up {pl pm : List Pin} {a : Addr} {xs : List PyData} (h : TupAt F pl a xs) (k : ∀ q ∈ pl, q ∈ pm) : TupAt F pm a xs := fun pins ρ σ H hp O => h pins ρ σ H (fun q hq => hp q (k q hq)) O
def isD (pl : List Pin) : Prop := ∀ p ∈ pl, IsV p
/-- what is walked or zipped: a list, or a tuple -/
def seqs (ρ : Rho) : R → Option (Bool × List PyData)
  | .d (.list xs) => some (false, xs)
  | .d (.tuple xs) => some (true, xs)
  | .o i => match ρ[i]? with
    | some (some (.ro (.list xs))) => some (false, xs)
    | some (some (.ro (.tuple xs))) => some (true, xs)
    | _ => none
  | _ => none
theorem seqs_ok {pins : List Pin} {ρ : Rho} {σ : L2.St} {H : Hp} (O : Ok F pins ρ σ H) {r : R} {v : V} {k : Bool} {xs : List PyData} (h : ROk F (Av F pins ρ σ) ρ σ H r v) (e : seqs ρ r = some (k, xs)) :
    ∃ a pl, v = .ref a ∧ isD pl ∧ Ok F (pl ++ pins) ρ σ H ∧ Av F (pl ++ pins) ρ σ = Av F pins ρ σ ∧ (if k = true then TupAt F pl a xs else LstAt F pl a xs) := by
  have lst : ∀ {ys : List PyData}, Im F.K (Av F pins ρ σ) H (.list ys) v → ∃ a pl, v = .ref a ∧ isD pl ∧ Ok F (pl ++ pins) ρ σ H ∧ Av F (pl ++ pins) ρ σ = Av F pins ρ σ ∧ LstAt F pl a ys := by
    intro ys im
    have im2 := im
    simp only [Im] at im2
    obtain ⟨a, vs, rfl, l, _⟩ := im2
    refine ⟨a, [.val (.ref a) (.d (.list ys))], rfl, fun p hp => ?_, O.push (v := .ref a) (r := .d (.list ys)) im, rfl, fun pins2 ρ2 σ2 H2 hp O2 => ?_⟩
    · rcases List.mem_cons.mp hp with z | z
      · exact .inl ⟨_, _, z⟩
      · cases z
    · have h : Im F.K (Av F pins2 ρ2 σ2) H2 (.list ys) (.ref a) := O2.pin _ (hp _ (List.mem_cons_self ..))
      simp only [Im] at h
      obtain ⟨q, vs, e, l, im⟩ := h
      cases e
      exact ⟨vs, l.sq, im⟩
  have tup : ∀ {ys : List PyData}, Im F.K (Av F pins ρ σ) H (.tuple ys) v → ∃ a pl, v = .ref a ∧ isD pl ∧ Ok F (pl ++ pins) ρ σ H ∧ Av F (pl ++ pins) ρ σ = Av F pins ρ σ ∧ TupAt F pl a ys := by
    intro ys im
    have im2 := im
    simp only [Im] at im2
    obtain ⟨a, vs, rfl, l, _⟩ := im2
    refine ⟨a, [.val (.ref a) (.d (.tuple ys))], rfl, fun p hp => ?_, O.push (v := .ref a) (r := .d (.tuple ys)) im, rfl, fun pins2 ρ2 σ2 H2 hp O2 => ?_⟩
    · rcases List.mem_cons.mp hp with z | z
      · exact .inl ⟨_, _, z⟩
      · cases z
    · have h : Im F.K (Av F pins2 ρ2 σ2) H2 (.tuple ys) (.ref a) := O2.pin _ (hp _ (List.mem_cons_self ..))
      simp only [Im] at h
      obtain ⟨q, vs, e, l, im⟩ := h
      cases e
      exact ⟨vs, l.sq, im⟩
  unfold seqs at e
  split at e
  · cases e
    simpa using lst h
  · cases e
    simpa using tup h
  · rename_i i
    have g0 := h.1
    split at e
    · rename_i ys q
      cases e
      obtain ⟨u, g1, g2⟩ := O.ent i _ q
      rw [g0] at g1; cases g1
      rcases g2 with im | ⟨a, us, zs, rfl, e1, l, t⟩
      · simpa using lst im
      · cases e1
        refine ⟨a, pinsOf us xs, rfl, fun p hp => mem_pinsOf hp, (O.pushAll t).1, (O.pushAll t).2, ?_⟩
        rw [if_neg (by decide)]
        exact fun pins2 ρ2 σ2 H2 hp O2 => ⟨us, l.sq O2, all_pinsOf O2 t.length hp⟩
    · rename_i ys q
      cases e
      obtain ⟨u, g1, g2⟩ := O.ent i _ q
      rw [g0] at g1; cases g1
      rcases g2 with im | ⟨a, us, zs, rfl, e1, l, t⟩
      · simpa using tup im
      · cases e1
    · cases e
  · cases e
theorem getL {vs : List V} {i : Nat} (h : i < vs.length) : vs[i]? = some (vs[i]'h) := List.getElem?_eq_getElem h
def zipD (xs ys : List PyData) : List PyData := List.zipWith (fun x y => .tuple [x, y]) xs ys
theorem zipD_len {xs ys : List PyData} : (zipD xs ys).length = min xs.length ys.length := List.length_zipWith
theorem zipD_at {xs ys : List PyData} {i : Nat} {x y : PyData} (h : xs[i]? = some x) (k : ys[i]? = some y) : (zipD xs ys)[i]? = some (.tuple [x, y]) := by
  unfold zipD
  rw [List.getElem?_zipWith, h, k]
theorem im_pair {A : Addr → Prop} {H : Hp} {x y : PyData} {u v : V} {T : Addr} (hT : H T = none) (h1 : Im F.K A H x u) (h2 : Im F.K A H y v) (hA : ¬ A T) : Im F.K A (upd H T (.tup [u, v])) (.tuple [x, y]) (.ref T) := by
  have G : Go A A H (upd H T (.tup [u, v])) := ⟨fun a o _ h _ => grow_new hT a o h, fun a h => .inl h⟩
  simp only [Im]
  exact ⟨T, [u, v], rfl, .inl ⟨.inl upd_same, hA⟩, .cons (h1.go G) (.cons (h2.go G) .nil)⟩
theorem wok_zipL {pl : List Pin} {p q : Addr} {xs ys : List PyData} (h1 : LstAt F pl p xs) (h2 : LstAt F pl q ys) : WOk F (Itz F.K p q) (zipD xs ys) pl := by
  refine ⟨fun i pins ρ σ H hp hi O => ?_, fun pins ρ σ H hp O => ?_, fun i pins ρ σ H x H' hp hi O y => ?_⟩
  · obtain ⟨us, a1, a2⟩ := h1 pins ρ σ H hp O
    obtain ⟨vs, b1, b2⟩ := h2 pins ρ σ H hp O
    rw [zipD_len] at hi
    have l1 := a2.length
    have l2 := b2.length
    exact ⟨us, vs, _, _, a1, b1, getL (by omega), getL (by omega)⟩
  · obtain ⟨us, a1, a2⟩ := h1 pins ρ σ H hp O
    obtain ⟨vs, b1, b2⟩ := h2 pins ρ σ H hp O
    refine ⟨us, vs, a1, b1, ?_⟩
    rw [zipD_len, a2.length, b2.length]
    omega
  · obtain ⟨us, a1, a2⟩ := h1 pins ρ σ H hp O
    obtain ⟨vs, b1, b2⟩ := h2 pins ρ σ H hp O
    obtain ⟨T, u, v, rfl, hT, rfl, f1, f2⟩ := y
    obtain ⟨x, e1, i1⟩ := a2.getV (f1 us a1)
    obtain ⟨y, e2, i2⟩ := b2.getV (f2 vs b1)
    refine ⟨_, zipD_at e1 e2, O.new hT, im_pair hT i1 i2 fun z => ?_⟩
    obtain ⟨o, z⟩ := O.avH z
    rw [hT] at z; cases z
theorem wok_zipT {pl : List Pin} {p q : Addr} {xs ys : List PyData} (h1 : TupAt F pl p xs) (h2 : TupAt F pl q ys) : WOk F (RZ.ItzT F.K p q) (zipD xs ys) pl := by
  refine ⟨fun i pins ρ σ H hp hi O => ?_, fun pins ρ σ H hp O => ?_, fun i pins ρ σ H x H' hp hi O y => ?_⟩
  · obtain ⟨us, a1, a2⟩ := h1 pins ρ σ H hp O
    obtain ⟨vs, b1, b2⟩ := h2 pins ρ σ H hp O
    rw [zipD_len] at hi
    have l1 := a2.length
    have l2 := b2.length
    exact ⟨us, vs, _, _, a1, b1, getL (by omega), getL (by omega)⟩
  · obtain ⟨us, a1, a2⟩ := h1 pins ρ σ H hp O
    obtain ⟨vs, b1, b2⟩ := h2 pins ρ σ H hp O
    refine ⟨us, vs, a1, b1, ?_⟩
    rw [zipD_len, a2.length, b2.length]
    omega
  · obtain ⟨us, a1, a2⟩ := h1 pins ρ σ H hp O
    obtain ⟨vs, b1, b2⟩ := h2 pins ρ σ H hp O
    obtain ⟨T, u, v, rfl, hT, rfl, f1, f2⟩ := y
    obtain ⟨x, e1, i1⟩ := a2.getV (f1 us a1)
    obtain ⟨y, e2, i2⟩ := b2.getV (f2 vs b1)
    refine ⟨_, zipD_at e1 e2, O.new hT, im_pair hT i1 i2 fun z => ?_⟩
    obtain ⟨o, z⟩ := O.avH z
    rw [hT] at z; cases z
def dZip (t : TDA) : TDI := fun ρ Q => t ρ fun rs ρ1 => match rs with
  | [r, s] => match seqs ρ1 r, seqs ρ1 s with
    | some (k, xs), some (l, ys) => k = l ∧ Q (zipD xs ys) ρ1
    | _, _ => False
  | _ => False
theorem pdi_zip (hg : Gl X "zip") (hm : X.mg "zip" = none) (ha : PDA X F [e, e2] t d) (hK : X.K = F.K := by rfl)
    (hs : starEach [e, e2] X.env = (false, eval e X.env) :: starEach [e2] X.env := by rfl) (hpl : (backTo pos (starEach [e2] X.env)).any (·.1) = false := by rfl) :
    PDI X F (.Tuple elts kk tpos) (.Call (.Name "zip" p) [e, e2] [] pos) (RZ.iZipA F.K t) (dZip d) := by
  refine ⟨?_, fun pins ρ σ H R O h => ?_, fun ρ Q Q' hq h => ?_⟩
  · have := RZ.pi_zipA (elts := elts) (kk := kk) (tpos := tpos) (p := p) (pos := pos) hg hm ha.pa hs hpl
    rw [hK] at this
    exact this
  · refine ha.da.run pins ρ σ H _ O (ha.da.mono _ _ _ (fun rs ρ1 h1 vs H1 O1 R1 => ?_) h)
    split at h1
    · rename_i r s
      split at h1
      · rename_i k xs l ys e1 e2
        obtain ⟨rfl, h1⟩ := h1
        simp only [ROks] at R1
        obtain ⟨v, _, rfl, r1, w, _, rfl, r2, rfl⟩ := R1
        obtain ⟨a, pl, rfl, d1, O2, av2, k1⟩ := seqs_ok O1 r1 e1
        have r2' : ROk F (Av F (pl ++ pins) ρ1 σ) ρ1 σ H1 s w := by rw [av2]; exact r2
        obtain ⟨b, pm, rfl, d2, O3, av3, k2⟩ := seqs_ok O2 r2' e2
        have dd : isD (pm ++ pl) := fun q hq => by
          rcases List.mem_append.mp hq with z | z
          · exact d2 q z
          · exact d1 q z
        have O4 : Ok F ((pm ++ pl) ++ pins) ρ1 σ H1 := by rw [List.append_assoc]; exact O3
        have in1 : ∀ q ∈ pl, q ∈ pm ++ pl := fun q hq => List.mem_append_right _ hq
        have in2 : ∀ q ∈ pm, q ∈ pm ++ pl := fun q hq => List.mem_append_left _ hq
        have in3 : ∀ q ∈ pm ++ pl, q ∈ (pm ++ pl) ++ pins := fun q hq => List.mem_append_left _ hq
        cases k with
        | false =>
          have k1 : LstAt F pl a xs := by simpa using k1
          have k2 : LstAt F pm b ys := by simpa using k2
          obtain ⟨us, a1, _⟩ := k1.up in1 _ _ _ _ in3 O4
          obtain ⟨vs, b1, _⟩ := k2.up in2 _ _ _ _ in3 O4
          exact ⟨a, b, us, vs, rfl, .inl ⟨a1, b1, h1 _ H1 (pm ++ pl) (wok_zipL (k1.up in1) (k2.up in2)) dd O4⟩⟩
        | true =>
          have k1 : TupAt F pl a xs := by simpa using k1
          have k2 : TupAt F pm b ys := by simpa using k2
          obtain ⟨us, a1, _⟩ := k1.up in1 _ _ _ _ in3 O4
          obtain ⟨vs, b1, _⟩ := k2.up in2 _ _ _ _ in3 O4
          exact ⟨a, b, us, vs, rfl, .inr ⟨a1, b1, h1 _ H1 (pm ++ pl) (wok_zipT (k1.up in1) (k2.up in2)) dd O4⟩⟩
      · exact h1.elim
    · exact h1.elim
  · refine ha.da.mono _ _ _ (fun rs ρ1 h1 => ?_) h
    revert h1
    split
    · split
      · exact fun h1 => ⟨h1.1, hq _ _ h1.2⟩
      · exact fun h1 => h1
    · exact fun h1 => h1
def enumD (xs : List PyData) : List PyData := zipD (rng 0 xs.length) xs
theorem enumD_len {xs : List PyData} : (enumD xs).length = xs.length := by
  unfold enumD
  rw [zipD_len, rng_len]; omega
theorem enumD_at {xs : List PyData} {i : Nat} {x : PyData} (h : xs[i]? = some x) : (enumD xs)[i]? = some (.tuple [.int (i : Nat), x]) := by
  have hi : i < xs.length := by
    rcases Nat.lt_or_ge i xs.length with z | z
    · exact z
    · rw [List.getElem?_eq_none z] at h; cases h
  have := zipD_at (rng_at (lo := 0) hi) h
  rw [Int.zero_add] at this
  exact this
theorem wok_enumL {pl : List Pin} {p : Addr} {xs : List PyData} (h1 : LstAt F pl p xs) : WOk F (Ite F.K p) (enumD xs) pl := by
  refine ⟨fun i pins ρ σ H hp hi O => ?_, fun pins ρ σ H hp O => ?_, fun i pins ρ σ H x H' hp hi O y => ?_⟩
  · obtain ⟨us, a1, a2⟩ := h1 pins ρ σ H hp O
    rw [enumD_len] at hi
    have l1 := a2.length
    exact ⟨us, _, a1, getL (by omega)⟩
  · obtain ⟨us, a1, a2⟩ := h1 pins ρ σ H hp O
    refine ⟨us, a1, ?_⟩
    rw [enumD_len, a2.length]
    exact Nat.le_refl _
  · obtain ⟨us, a1, a2⟩ := h1 pins ρ σ H hp O
    obtain ⟨T, u, rfl, hT, rfl, f1⟩ := y
    obtain ⟨x, e1, i1⟩ := a2.getV (f1 us a1)
    refine ⟨_, enumD_at e1, O.new hT, im_pair hT .int i1 fun z => ?_⟩
    obtain ⟨o, z⟩ := O.avH z
    rw [hT] at z; cases z
end
end DV
namespace DV
open PySem PySem.Spec PyProof.Rows L2
open LamX (ExtN TabS Tabs CodeO)
open AutoSeq1 (wpAny_loadPart')
theorem meets_enumerate_newT (l : Addr) (items : Array Value) (n : Nat) (dct : Option Addr) (sl : Array (Option Value)) :
    Meets (Builtin.«enumerate.__new__» ⟨[.type "enumerate", .ref l], []⟩) (fun _ R s => s.heap.get? l = some { cls := .type "tuple", dict := dct, data := .seq items n, slots := sl } ∧
      R (.ok (.ret (.ref (s.heap.push { cls := .type "tuple_iterator", data := .fields #[.ref l, .int 0 0] }).objs.size)))
        { s with heap := (s.heap.push { cls := .type "tuple_iterator", data := .fields #[.ref l, .int 0 0] }).push { cls := .type "enumerate", data := .fields #[.none, .bool false, .ref s.heap.objs.size, rawInt 0, .none, .none] } }) :=
  .of_wp fun prog w A R s h => by
    obtain ⟨hp, g, d, tk, os⟩ := s; obtain ⟨hl, h⟩ := h
    have hsub := sub_enumerate
    have hL : Heap.IsTuple (Shared.heap ⟨hp, g, d, tk, os⟩) l items := ⟨_, hl, rfl, n, rfl⟩
    wp_walk using wpAny_loadPart' hl
    refine wpAny_stack_any fun st => wpAny_pure ?_
    split
    · rename_i c _ _ _ _ _
      cases (c == Value.type "enumerate")
      · wp_walk using wpAny_loadPart' hl, wpAny_pyIter_tuple hL
        exact ⟨_, rfl, h⟩
      · wp_walk using wpAny_loadPart' hl, wpAny_pyIter_tuple hL
        exact ⟨_, rfl, h⟩
    · wp_walk using wpAny_loadPart' hl, wpAny_pyIter_tuple hL
      exact ⟨_, rfl, h⟩
section
variable {prog : Program} {w : World} {A : Around} {E : Value → Shared → Prop} {s : Shared}
theorem call_enumerate_tuple {l : Addr} {items : Array Value} {Q : Value → Shared → Prop} (hL : s.heap.IsTuple l items)
    (h : ∀ h', IsEnum h' (s.heap.objs.size + 1) s.heap.objs.size 0 .none → h'.IsTupleIter s.heap.objs.size l 0 → h'.objs.size = s.heap.objs.size + 2 →
      (∀ b o, s.heap.get? b = some o → h'.get? b = some o) → Q (.ref (s.heap.objs.size + 1)) { s with heap := h' }) :
    wpAny (model prog w) A (call (.type "enumerate") [.ref l]) Q E s := by
  obtain ⟨⟨c, dct, dt, sl⟩, hl, hc, n, hd⟩ := hL
  replace hc : c = .type "tuple" := hc
  replace hd : dt = .seq items n := hd
  subst hc hd
  refine callType_new F.called_enumerate (by decide) (F.typeCall_enumerate_1 _) (F.newCall_enumerate_1 _) (fun obj => F.args_object_init_2 obj _) F.entry_enumerate_new
    (meets_enumerate_newT l items n dct sl) ⟨hl, ?_⟩
  have hz : (s.heap.push { cls := .type "tuple_iterator", data := .fields #[.ref l, .int 0 0] }).objs.size = s.heap.objs.size + 1 := Heap.size_push ..
  show _ ∧ _
  rw [hz]
  have he : IsEnum ((s.heap.push { cls := .type "tuple_iterator", data := .fields #[.ref l, .int 0 0] }).push
      { cls := .type "enumerate", data := .fields #[.none, .bool false, .ref s.heap.objs.size, rawInt 0, .none, .none] }) (s.heap.objs.size + 1) s.heap.objs.size 0 .none := by
    have := Heap.get?_push_size (s.heap.push { cls := .type "tuple_iterator", data := .fields #[.ref l, .int 0 0] })
      (o := { cls := .type "enumerate", data := .fields #[.none, .bool false, .ref s.heap.objs.size, rawInt 0, .none, .none] }) rfl
    rw [hz] at this; exact this
  refine ⟨⟨_, he, rfl⟩, h _ he ⟨_, Heap.get?_push_of_some _ (Heap.get?_push_size _ rfl), rfl, rfl⟩ (by rw [Heap.size_push, hz]) fun b o x => Heap.get?_push_of_some _ (Heap.get?_push_of_some _ x)⟩
end
def IteT (K : PySem.W.Frag) (a : Addr) : It :=
  ⟨fun i H => ∃ (xs : List V) (x : V), SqT K H a xs ∧ xs[i]? = some x, fun i H v H' => ∃ T x, v = .ref T ∧ H T = none ∧ H' = upd H T (.tup [.int (i : Nat), x]) ∧ ∀ xs, SqT K H a xs → xs[i]? = some x, fun i H => ∃ xs : List V, SqT K H a xs ∧ xs.length ≤ i⟩
theorem turn_enumT {P : Program} {w : World} {K : PySem.W.Frag} {elts : List Expr} {kk : Nat} {tpos : Pos} (a e it : Addr) (hae : e ≠ a) (hai : a ≠ it) :
    Turn P w K (.Tuple elts kk tpos) (IteT K a) [e, it] e (fun i h => (∃ old, IsEnum h e it ((i : Nat) : Int) old) ∧ h.IsTupleIter it a i ∧ e ≠ it) where
  mem := by simp
  obj := fun i h st b hb => by
    obtain ⟨⟨old, he⟩, ⟨o, ho, hc, hd⟩, _⟩ := st
    have e' : b = e ∨ b = it := by simpa using hb
    rcases e' with z | z
    · rw [z]; exact ⟨_, he, fun v q => nomatch q⟩
    · rw [z]; exact ⟨o, ho, fun v q => by rw [hd] at q; cases q⟩
  keep := fun i h h' st k => let ⟨⟨old, he⟩, hi, hne⟩ := st; ⟨⟨old, k e (by simp) _ he⟩, hi.at fun o q => k it (by simp) o q, hne⟩
  item := by
    intro X hP hw hK hc i pins s σ H E I hf st hg
    subst hP hw hK
    obtain ⟨⟨old, he⟩, hit, hne⟩ := st
    obtain ⟨xs, x, hq, hx⟩ := hg
    obtain ⟨its, rv, p, hz⟩ := I.tuple hq
    obtain ⟨u, hu, ru⟩ := rv.get hx
    have hel : e < s.heap.objs.size := Heap.lt_size he
    have hil : it < s.heap.objs.size := by obtain ⟨_, q, _⟩ := hit; exact Heap.lt_size q
    have hu' : its.toArray[i]? = some u := by simpa using hu
    have hlt : i < its.toArray.size := by
      rcases Nat.lt_or_ge i its.toArray.size with z | z
      · exact z
      · rw [Array.getElem?_eq_none z] at hu'; cases hu'
    refine wpAny_pyNext_enum_itemD (Draws.tuple (show X.A.in1.handled = none from I.ok.hd hc) it a hai its.toArray) he ⟨hit, show s.heap.IsTuple a its.toArray from p⟩ hlt hne (by simp [hne, hae]) fun x' h' tk hx' ho hst' hT hsz hk => ?_
    have ex : x' = u := by
      have z : its.toArray[i]? = some x' := hx'
      rw [hu'] at z; cases z; rfl
    subst ex
    obtain ⟨hit', _⟩ := hst'
    refine ⟨_, rfl, wpAny_letOwnedTupleGo_enum (s := { s with heap := h', toks := tk + 1 }) ho fun h'' he' sb => ?_⟩
    have hT2 : h''.get? s.heap.objs.size = some { cls := .type "tuple", data := .seq #[.int i tk, x'] } := (sb.2 _ (Nat.ne_of_gt hel)).trans hT
    have new : ObjOk X.prog X.w (upd H s.heap.objs.size (.tup [.int (i : Nat), x])) h'' s.heap.objs.size (.tup [.int (i : Nat), x]) :=
      ⟨by show 2 ≤ sizeLine; decide, [.int i tk, x'], .cons ⟨_, rfl⟩ (.cons ru .nil), ⟨_, hT2, rfl, _, rfl⟩⟩
    have I1 : Inv X pins σ (upd H s.heap.objs.size (.tup [.int (i : Nat), x])) { s with heap := h'', toks := tk + 1 } :=
      I.turnedNew (ch := [e, it]) (fun b ob hb q => (sb.2 b (fun z => hb (by simp [z]))).trans (hk b ob (fun z => hb (by simp [z])) (fun z => hb (by simp [z])) q)) hf (Nat.le_refl _) new
    refine ⟨.ref s.heap.objs.size, _, I1, rfl, ⟨_, x, rfl, I.hok.fresh (Nat.le_refl _), rfl, fun ys hy => by rw [I.tuple_inj hy hq]; exact hx⟩, ⟨⟨x', ?_⟩, hit'.at fun o q => (sb.2 it (Ne.symm hne)).trans q, hne⟩, fun b hb => ?_⟩
    · have e1 : ((i + 1 : Nat) : Int) = (i : Int) + 1 := by omega
      rw [e1]; exact he'
    · have hb' : b < s.heap.objs.size := by
        have e' : b = e ∨ b = it := by simpa using hb
        rcases e' with z | z
        · rw [z]; exact hel
        · rw [z]; exact hil
      rw [upd_ne (Nat.ne_of_lt hb')]
      exact (hf b hb).1
  done := by
    intro X hP hw hK hc i pins s σ H E I hf st hg
    subst hP hw hK
    obtain ⟨⟨old, he⟩, hit, hne⟩ := st
    obtain ⟨xs, hq, hx⟩ := hg
    obtain ⟨its, rv, p, hz⟩ := I.tuple hq
    obtain ⟨f0, f1, f2, f3, f4, f5⟩ := hf it (by simp)
    have hl := rv.length
    have hh : X.A.in1.handled = none := I.ok.hd hc
    have hge : its.toArray[i]? = none := by simp; omega
    have hT : s.TypeIs (.ref e) "enumerate" := ⟨_, he, rfl⟩
    unfold pyNext
    refine wpAny_bind (wpAny_attempt (wpAny_callSpecial?_slot (name := Str.ofString "__next__") hT F.slot_enumerate_next
      (wpAny_call_entry F.slot_enumerate_next hT F.entry_enumerate_next ?_ (F.args_enumerate_next_1 _))))
    show wpAny _ _ (field (.ref e) 2 >>= _) _ _ _
    refine wpAny_bind (wpAny_field he rfl (x := .ref it) rfl ?_)
    refine wpAny_bind (wpAny_nextOf_tuple_end hh hit (show s.heap.IsTuple a its.toArray from p) hge fun h' x eb hx' => ?_)
    obtain ⟨o, ho, hc⟩ := hx'
    refine wpAny_bind (wpAny_isInstance (T := "StopIteration") (b := true) ⟨o, ho, hc⟩ isSubtype_stop ?_)
    exact wpAny_pure ⟨rfl, I.turned (t' := s.toks) (fun b o hb q => eb b o hb q) f0 f1 f3 f4 f5⟩
  self := fun A i s Q E st h => let ⟨⟨_, he⟩, _⟩ := st; wpAny_pyIter_enum he h
def iEnumA (K : PySem.W.Frag) (ta : TA) : TI := fun σ H R => ta σ H fun vs H1 => ∃ a xs, vs = [.ref a] ∧ ((SqL K H1 a xs ∧ R (Ite K a) H1) ∨ (SqT K H1 a xs ∧ R (IteT K a) H1))
theorem pi_enumA {X : Cx} {e : Expr} {ta : TA} {p pos tpos : Pos} {elts : List Expr} {kk : Nat} (hg : Gl X "enumerate") (hm : X.mg "enumerate" = none) (ha : PA X [e] ta) (hs : starEach [e] X.env = [(false, eval e X.env)] := by rfl) :
    PI X (.Tuple elts kk tpos) (.Call (.Name "enumerate" p) [e] [] pos) (iEnumA X.K ta) := by
  refine ⟨fun pins s σ H R I h => ?_⟩
  refine Call_ (ld_blt I hg hm boot_enumerate (PyProof.Rows.callWith_type1 (thn (ha.run pos pins s σ H _ I h) fun us s1 ⟨vs, H1, I1, r1, q1⟩ => ?_) hs rfl))
  obtain ⟨a, xs, ex, q⟩ := q1
  subst ex
  cases r1 with
  | cons r rr =>
    cases rr
    cases r
    have fr : ∀ b ∈ [s1.heap.objs.size + 1, s1.heap.objs.size], FpOk X pins H1 b := fun b hb => by
      have e' : b = s1.heap.objs.size + 1 ∨ b = s1.heap.objs.size := by simpa using hb
      have hle : s1.heap.objs.size ≤ b := by
        rcases e' with z | z
        · rw [z]; exact Nat.le_add_right _ _
        · rw [z]; exact Nat.le_refl _
      exact I1.fpOk hle (I1.hok.fresh hle)
    rcases q with ⟨hq, q⟩ | ⟨hq, q⟩
    · obtain ⟨its, rv, p', hz⟩ := I1.list hq
      refine call_enumerate_list p'.isList fun h' he hit hsz hk => wpAny_pyIter_enum he ?_
      have I2 : Inv X pins σ H1 { s1 with heap := h' } := I1.kept (t' := s1.toks) hk
      exact ⟨s1.heap.objs.size + 1, [s1.heap.objs.size + 1, s1.heap.objs.size], _, _, H1, rfl, I2, turn_enum a (s1.heap.objs.size + 1) s1.heap.objs.size, ⟨⟨.none, he⟩, hit, Nat.succ_ne_self _⟩, fr, q⟩
    · obtain ⟨its, rv, p', hz⟩ := I1.tuple hq
      obtain ⟨o1, ho1, _⟩ := id p'
      have hlt := Heap.lt_size ho1
      refine call_enumerate_tuple (show s1.heap.IsTuple a its.toArray from p') fun h' he hit hsz hk => wpAny_pyIter_enum he ?_
      have I2 : Inv X pins σ H1 { s1 with heap := h' } := I1.kept (t' := s1.toks) hk
      exact ⟨s1.heap.objs.size + 1, [s1.heap.objs.size + 1, s1.heap.objs.size], _, _, H1, rfl, I2, turn_enumT a (s1.heap.objs.size + 1) s1.heap.objs.size (Nat.ne_of_gt (Nat.lt_succ_of_lt hlt)) (Nat.ne_of_lt hlt), ⟨⟨.none, he⟩, hit, Nat.succ_ne_self _⟩, fr, q⟩
section
variable {X : Cx} {F : Fm} {tg e e2 a b c : Expr} {te te2 ta tb tc : TE} {de de2 da db dc : TDE} {pos p tpos : Pos} {t : TA} {d : TDA} {elts : List Expr} {kk : Nat}
theorem wok_enumT {pl : List Pin} {p : Addr} {xs : List PyData} (h1 : TupAt F pl p xs) : WOk F (IteT F.K p) (enumD xs) pl := by
  refine ⟨fun i pins ρ σ H hp hi O => ?_, fun pins ρ σ H hp O => ?_, fun i pins ρ σ H x H' hp hi O y => ?_⟩
  · obtain ⟨us, a1, a2⟩ := h1 pins ρ σ H hp O
    rw [enumD_len] at hi
    have l1 := a2.length
    exact ⟨us, _, a1, getL (by omega)⟩
  · obtain ⟨us, a1, a2⟩ := h1 pins ρ σ H hp O
    refine ⟨us, a1, ?_⟩
    rw [enumD_len, a2.length]
    exact Nat.le_refl _
  · obtain ⟨us, a1, a2⟩ := h1 pins ρ σ H hp O
    obtain ⟨T, u, rfl, hT, rfl, f1⟩ := y
    obtain ⟨x, e1, i1⟩ := a2.getV (f1 us a1)
    refine ⟨_, enumD_at e1, O.new hT, im_pair hT .int i1 fun z => ?_⟩
    obtain ⟨o, z⟩ := O.avH z
    rw [hT] at z; cases z
def dEnum (t : TDA) : TDI := fun ρ Q => t ρ fun rs ρ1 => match rs with
  | [r] => match seqs ρ1 r with
    | some (_, xs) => Q (enumD xs) ρ1
    | _ => False
  | _ => False
theorem pdi_enum (hg : Gl X "enumerate") (hm : X.mg "enumerate" = none) (ha : PDA X F [e] t d) (hK : X.K = F.K := by rfl)
    (hs : starEach [e] X.env = [(false, eval e X.env)] := by rfl) :
    PDI X F (.Tuple elts kk tpos) (.Call (.Name "enumerate" p) [e] [] pos) (iEnumA F.K t) (dEnum d) := by
  refine ⟨?_, fun pins ρ σ H R O h => ?_, fun ρ Q Q' hq h => ?_⟩
  · have := pi_enumA (elts := elts) (kk := kk) (tpos := tpos) (p := p) (pos := pos) hg hm ha.pa hs
    rw [hK] at this
    exact this
  · refine ha.da.run pins ρ σ H _ O (ha.da.mono _ _ _ (fun rs ρ1 h1 vs H1 O1 R1 => ?_) h)
    split at h1
    · rename_i r
      split at h1
      · rename_i k xs e1
        simp only [ROks] at R1
        obtain ⟨v, _, rfl, r1, rfl⟩ := R1
        obtain ⟨a, pl, rfl, d1, O2, av2, k1⟩ := seqs_ok O1 r1 e1
        have in1 : ∀ q ∈ pl, q ∈ pl ++ pins := fun q hq => List.mem_append_left _ hq
        cases k with
        | false =>
          have k1 : LstAt F pl a xs := by simpa using k1
          obtain ⟨us, a1, _⟩ := k1 _ _ _ _ in1 O2
          exact ⟨a, us, rfl, .inl ⟨a1, h1 _ H1 pl (wok_enumL k1) d1 O2⟩⟩
        | true =>
          have k1 : TupAt F pl a xs := by simpa using k1
          obtain ⟨us, a1, _⟩ := k1 _ _ _ _ in1 O2
          exact ⟨a, us, rfl, .inr ⟨a1, h1 _ H1 pl (wok_enumT k1) d1 O2⟩⟩
      · exact h1.elim
    · exact h1.elim
  · refine ha.da.mono _ _ _ (fun rs ρ1 h1 => ?_) h
    revert h1
    split
    · split
      · exact hq _ _
      · exact fun h1 => h1
    · exact fun h1 => h1
end
end DV
set_option maxHeartbeats 4000000
namespace DV
open PySem PySem.Spec PyProof.Rows L2
open LamX (ExtN TabS Tabs CodeO)
abbrev Pr := Int × Int
def lle (p q : Pr) : Prop := p.1 < q.1 ∨ (p.1 = q.1 ∧ p.2 ≤ q.2)
inductive All2 {α β : Type} (R : α → β → Prop) : List α → List β → Prop
  | nil : All2 R [] []
  | cons {a b as bs} : R a b → All2 R as bs → All2 R (a :: as) (b :: bs)
def encP (p : Pr) : PyData := .tuple [.int p.1, .int p.2]
def asPairs : List PyData → Option (List Pr)
  | [] => some []
  | .tuple [.int x, .int y] :: xs => (asPairs xs).map ((x, y) :: ·)
  | _ :: _ => none
theorem All2.len {α β : Type} {R : α → β → Prop} : ∀ {as : List α} {bs : List β}, All2 R as bs → as.length = bs.length
  | _, _, .nil => rfl
  | _, _, .cons _ h => by rw [List.length_cons, List.length_cons, h.len]
/-- a sorted rearrangement -/
def Sortd (ps qs : List Pr) : Prop := qs.Perm ps ∧ qs.Pairwise lle
def SortdI (ps qs : List Int) : Prop := qs.Perm ps ∧ qs.Pairwise (· ≤ ·)
section
variable {X : Cx} {F : Fm} {e : Expr} {t : TA} {d : TDA} {pos : Pos}
def dSort (t : TDA) : TDL := fun ρ Q => t ρ fun rs ρ1 => match rs with
  | [r] => onL ρ1 r fun xs => (∃ ps, asPairs xs = some ps ∧ ∀ qs, Sortd ps qs → Q (qs.map encP) ρ1) ∨ (∃ ns, asInts xs = some ns ∧ ∀ ms, SortdI ns ms → Q (ms.map .int) ρ1)
  | _ => False
end
end DV
set_option maxHeartbeats 4000000
namespace DV
open PySem PySem.Spec PyProof.Rows L2
open LamX (ExtN TabS Tabs CodeO)
/-- each pair once, in order -/
def SortdS (ps qs : List Pr) : Prop := qs.Nodup ∧ qs.Pairwise lle ∧ ∀ p, p ∈ qs ↔ p ∈ ps
section
variable {X : Cx} {F : Fm} {e : Expr} {t : TA} {d : TDA} {pos : Pos}
def dSortSet (t : TDA) : TDL := fun ρ Q => t ρ fun rs ρ1 => match rs with
  | [r] => onL ρ1 r fun xs => ∃ ps, asPairs xs = some ps ∧ ps.length < 64 ∧ ∀ qs, SortdS ps qs → Q (qs.map encP) ρ1
  | _ => False
end
end DV
namespace DV
open PySem PySem.Spec PyProof.Rows L2
open LamX (ExtN TabS Tabs CodeO)
end DV
namespace DV
open PySem PySem.Spec PyProof.Rows L2
open LamX (ExtN TabS Tabs CodeO)
end DV
namespace DV
open PySem PySem.Spec PyProof.Rows L2
section
variable {X : Cx} {F : Fm} {e e2 : Expr} {es : List Expr} {t : TA} {d : TDA} {pos p vpos apos cpos : Pos} {te : TE} {de : TDE} {i : Nat} {x : Str}
def dExtend (i : Nat) (t : TDA) : TDE := fun ρ Q => onOwn ρ i fun _ => t ρ fun rs ρ1 => match rs with
  | [r] => onM ρ1 r fun zs => onOwn ρ1 i fun xs => Few (xs.length + zs.length) ∧ Q (.d .none) (ρ1.set i (some (.own (xs ++ zs))))
  | _ => False
end
end DV
namespace DV
open PySem PySem.Spec PyProof.Rows L2
open LamX (ExtN TabS Tabs CodeO)
abbrev sortD (ds : List PyData) : List PyData := ds.mergeSort (PySem.W.dataLe false id)
theorem each_zip {xs : List V} {us : List Value} {ds : List PyData} : Vals xs us → xs.length = ds.length → PySem.W.EachIs (fun u d => ∃ v, RelV v u ∧ (v, d) ∈ xs.zip ds) us ds := by
  have key : ∀ (xs : List V) (us : List Value) (ds : List PyData) (Z : List (V × PyData)), Vals xs us → xs.length = ds.length → (∀ z ∈ xs.zip ds, z ∈ Z) → PySem.W.EachIs (fun u d => ∃ v, RelV v u ∧ (v, d) ∈ Z) us ds := by
    intro xs
    induction xs with
    | nil =>
      intro us ds Z r hl _
      cases r
      cases ds with
      | nil => exact .nil
      | cons d ds => cases hl
    | cons x xs ih =>
      intro us ds Z r hl hz
      cases ds with
      | nil => cases hl
      | cons d ds =>
        cases r with
        | cons r1 r2 =>
          refine .cons ⟨x, r1, hz _ (by rw [List.zip_cons_cons]; exact List.mem_cons_self ..)⟩ (ih _ _ _ r2 (by simpa using hl) fun z hm => hz z (by rw [List.zip_cons_cons]; exact List.mem_cons_of_mem _ hm))
  exact fun r hl => key xs us ds _ r hl fun z h => h
theorem back_zip {Z : List (V × PyData)} : ∀ {us : List Value} {ds : List PyData}, PySem.W.EachIs (fun u d => ∃ v, RelV v u ∧ (v, d) ∈ Z) us ds → ∃ L : List (V × PyData), (∀ x ∈ L, x ∈ Z) ∧ L.map (·.2) = ds ∧ Vals (L.map (·.1)) us
  | _, _, .nil => ⟨[], (fun x h => absurd h List.not_mem_nil), rfl, Paired.nil⟩
  | _, _, .cons (b := d) ⟨v, h1, h2⟩ t => by
    obtain ⟨L, a, b, c⟩ := back_zip t
    refine ⟨(v, d) :: L, fun x hx => ?_, by rw [List.map_cons, b], by rw [List.map_cons]; exact .cons h1 c⟩
    rcases List.mem_cons.mp hx with e | hx
    · rw [e]; exact h2
    · exact a x hx
theorem dpAll_len {K : PySem.W.Frag} {H : Hp} : ∀ {vs : List V} {ds : List PyData}, DpAll K H vs ds → vs.length = ds.length
  | _, _, .nil => rfl
  | _, _, .cons _ h => by rw [List.length_cons, List.length_cons, dpAll_len h]
section
variable {X : Cx} {pins : List (Addr × Obj)} {σ : L2.St} {H : Hp} {s : Shared}
theorem each_reads (I : L2.Inv X pins σ H s) : ∀ {xs : List V} {us : List Value} {ds : List PyData}, DpAll X.K H xs ds → Vals xs us → PySem.W.EachIs (fun u d => ∃ as, Reads s.heap u d as) us ds
  | _, _, _, .nil, r => by cases r; exact .nil
  | _, _, _, .cons h1 h2, r => by
    cases r with
    | cons r1 r2 => exact .cons (Dp.reads I _ _ _ h1 r1) (each_reads I h2 r2)
end
theorem im_of_zipD {K : PySem.W.Frag} {N : Addr → Prop} {H : Hp} : ∀ {L : List (V × PyData)}, (∀ x ∈ L, Im K N H x.2 x.1) → ImAll K N H (L.map (·.2)) (L.map (·.1))
  | [], _ => .nil
  | x :: L, h => by
    rw [List.map_cons, List.map_cons]
    exact .cons (h x (List.mem_cons_self ..)) (im_of_zipD fun y hy => h y (List.mem_cons_of_mem _ hy))
/-- what can be sorted -/
structure CanSort (ds : List PyData) : Prop where
  al : PySem.W.AllAlike ds
  so : PySem.W.Sortable ds
  dp : ∀ d ∈ ds, d.depth ≤ 50
section
variable {X : Cx} {F : Fm} {e : Expr} {t : TA} {d : TDA} {pos : Pos}
def dSortD (t : TDA) : TDL := fun ρ Q => t ρ fun rs ρ1 => match rs with
  | [r] => onL ρ1 r fun xs => CanSort xs ∧ Q (sortD xs) ρ1
  | _ => False
end
end DV
namespace DV
open PySem PySem.Spec PyProof.Rows L2
open LamX (ExtN TabS Tabs CodeO)
section
variable {X : Cx} {F : Fm} {e e2 : Expr} {t : TA} {d : TDA} {pos p kpos : Pos} {te : TE} {de : TDE}
def dMaxDf (t : TDA) (te : TDE) : TDE := fun ρ Q => t ρ fun rs ρ1 => match rs with
  | [r] => te ρ1 fun s ρ2 => match s, seqs ρ2 r with
    | .d (.int k), some (_, xs) => ∃ ns, asInts xs = some ns ∧ (ns = [] → Q (.d (.int k)) ρ2) ∧ ∀ m, m ∈ ns → (∀ y ∈ ns, y ≤ m) → Q (.d (.int m)) ρ2
    | _, _ => False
  | _ => False
end
end DV
namespace DV
open PySem PySem.Spec PyProof.Rows L2
open LamX (ExtN TabS Tabs CodeO)
open AutoSeq1 (wpAny_loadPart')
section
variable {X : Cx} {F : Fm} {a b : Expr} {ta tb : TE} {da db : TDE} {pos : Pos}
def repD (k : Int) (xs : List PyData) : List PyData := (List.replicate k.toNat xs).flatten
theorem ImAll.rep {K : PySem.W.Frag} {N : Addr → Prop} {H : Hp} {xs : List PyData} {vs : List V} (h : ImAll K N H xs vs) : ∀ n, ImAll K N H (List.replicate n xs).flatten (List.replicate n vs).flatten
  | 0 => .nil
  | n + 1 => by
    rw [List.replicate_succ, List.replicate_succ, List.flatten_cons, List.flatten_cons]
    exact h.append (ImAll.rep h n)
def dRepT (ta tb : TDE) : TDE := dBin ta tb fun r s ρ Q => onT r fun xs => onInt ρ s fun k => (xs ≠ [] ∧ 1 ≤ k ∧ k ≤ 1000 ∧ xs.length ≤ 1000) ∧ Q (.d (.tuple (repD k xs))) ρ
end
end DV
namespace DV
open PySem PySem.Spec PyProof.Rows L2
open LamX (ExtN TabS Tabs CodeO)
section
variable {X : Cx} {F : Fm} {e e2 : Expr} {te te2 : TE} {de de2 : TDE} {pos p p2 pos2 : Pos}
def dRg1 (te : TDE) (k : Int → Int → Rho → Prop) : Rho → Prop := fun ρ => te ρ fun r ρ1 => onInt ρ1 r fun n => RgOk 0 n ∧ k 0 n ρ1
def dRg2 (te te2 : TDE) (k : Int → Int → Rho → Prop) : Rho → Prop := fun ρ => te ρ fun r ρ1 => te2 ρ1 fun s ρ2 => onInt ρ2 r fun a => onInt ρ2 s fun b => RgOk a b ∧ k a b ρ2
def dLstRg (d : (Int → Int → Rho → Prop) → Rho → Prop) : TDL := fun ρ Q => d (fun a b ρ1 => Q (rng a (b - a).toNat) ρ1) ρ
def dTupRg (d : (Int → Int → Rho → Prop) → Rho → Prop) : TDE := fun ρ Q => d (fun a b ρ1 => Q (.d (.tuple (rng a (b - a).toNat))) ρ1) ρ
end
end DV
namespace DV
open PySem PySem.Spec PyProof.Rows L2
open LamX (ExtN TabS Tabs CodeO)
open scoped Rat
def Bd (k : Nat) (i : Int) : Prop := i.natAbs < 2 ^ k
theorem Bd.up {j k : Nat} {i : Int} (h : Bd j i) (z : j ≤ k) : Bd k i := Nat.lt_of_lt_of_le h (Nat.pow_le_pow_right (by decide) z)
theorem Bd.mul {j k : Nat} {x y : Int} (h : Bd j x) (h2 : Bd k y) : Bd (j + k) (x * y) := wide_lt h h2
theorem Bd.add {j k : Nat} {x y : Int} (h : Bd j x) (h2 : Bd k y) : Bd (j + k + 1) (x + y) := by
  have h := h.up (show j ≤ j + k by omega)
  have h2 := h2.up (show k ≤ j + k by omega)
  unfold Bd at *
  have := Int.natAbs_add_le x y
  rw [Nat.pow_succ]; omega
theorem Bd.neg {k : Nat} {x : Int} (h : Bd k x) : Bd k (-x) := by unfold Bd at *; omega
theorem Bd.sub {j k : Nat} {x y : Int} (h : Bd j x) (h2 : Bd k y) : Bd (j + k + 1) (x - y) := by
  rw [Int.sub_eq_add_neg]; exact h.add h2.neg
/-- of one size -/
theorem Bd.add1 {k : Nat} {x y : Int} (h : Bd k x) (h2 : Bd k y) : Bd (k + 1) (x + y) := by
  unfold Bd at *
  have := Int.natAbs_add_le x y
  rw [Nat.pow_succ]; omega
theorem Bd.sub1 {k : Nat} {x y : Int} (h : Bd k x) (h2 : Bd k y) : Bd (k + 1) (x - y) := by
  rw [Int.sub_eq_add_neg]; exact h.add1 h2.neg
theorem Bd.of {k : Nat} {i : Int} (h : -(2 ^ k) < i) (h2 : i < 2 ^ k) : Bd k i := by
  unfold Bd
  have e : ((2 ^ k : Nat) : Int) = 2 ^ k := by simp
  omega
theorem cmb {j k : Nat} {x y : Int} (h : Bd j x) (h2 : Bd k y) (h3 : j + k < 999000 := by decide) : CMulW x y :=
  wide_mul (h.up (Nat.le_succ j)) (h2.up (Nat.le_max_left k 1)) (Nat.succ_pos _) (by omega) (by rcases Nat.le_total k 1 with z | z <;> omega)
theorem cdz {k : Nat} {x y : Int} (h : y ≠ 0) (h2 : Bd k y) (h3 : k ≤ 9000 := by decide) : CDivZ x y := by
  refine ⟨h, ?_⟩
  have h0 : y.natAbs ≠ 0 := by omega
  exact Nat.lt_of_lt_of_le ((Nat.log2_lt h0).mpr h2) h3
theorem cdwB {x y : Int} {k : Nat} (h : 0 < y) (hb : Bd k y) (h9 : k ≤ 8999 := by decide) : CDivW x y := wide_div h (hb.up (Nat.le_succ k)) (Nat.succ_pos _) (by omega)
def fr (q : Rat) : PyData := .tuple [.int q.num, .int (q.den : Int)]
theorem den_pos (q : Rat) : (0 : Int) < q.den := by have := q.den_nz; omega
structure Sz (k : Nat) (q : Rat) : Prop where
  n : Bd k q.num
  d : Bd k (q.den : Int)
theorem Sz.up {j k : Nat} {q : Rat} (h : Sz j q) (z : j ≤ k) : Sz k q := ⟨h.n.up z, h.d.up z⟩
theorem Sz.pos {k : Nat} {q : Rat} (h : Sz k q) : 0 < k := by
  have := h.d; unfold Bd at this
  rcases Nat.eq_zero_or_pos k with rfl | z
  · have := q.den_nz; omega
  · exact z
theorem ediv_bd {k : Nat} {x : Int} {g : Int} (h : Bd k x) (hg : 0 ≤ g) : Bd k (x / g) := by
  unfold Bd at *
  exact Nat.lt_of_le_of_lt (Int.natAbs_ediv_le_natAbs x g) h
theorem sz_divInt {j k : Nat} {n d : Int} (h : Bd j n) (h2 : Bd k d) (hd : d ≠ 0) : Sz (max j k) (n /. d) := by
  constructor
  · rw [Rat.num_divInt]
    refine (ediv_bd (k := j) ?_ (by omega)).up (Nat.le_max_left ..)
    unfold Bd at *
    rw [Int.natAbs_mul]
    have : d.sign.natAbs = 1 := by rw [Int.natAbs_sign_of_ne_zero hd]
    rw [this]; omega
  · rw [Rat.den_divInt, if_neg hd]
    refine Bd.up (j := k) ?_ (Nat.le_max_right ..)
    unfold Bd at *
    rw [Int.natAbs_natCast]
    exact Nat.lt_of_le_of_lt (Nat.div_le_self _ _) h2
theorem rat_ndi (q : Rat) : q = q.num /. (q.den : Int) := (Rat.num_divInt_den q).symm
theorem add_ndi (p q : Rat) : p + q = (p.num * q.den + q.num * p.den) /. (p.den * q.den) := by
  conv => lhs; rw [rat_ndi p, rat_ndi q]
  exact Rat.divInt_add_divInt _ _ (Int.ne_of_gt (den_pos p)) (Int.ne_of_gt (den_pos q))
theorem sub_ndi (p q : Rat) : p - q = (p.num * q.den - q.num * p.den) /. (p.den * q.den) := by
  conv => lhs; rw [rat_ndi p, rat_ndi q]
  exact Rat.divInt_sub_divInt _ _ (Int.ne_of_gt (den_pos p)) (Int.ne_of_gt (den_pos q))
theorem mul_ndi (p q : Rat) : p * q = (p.num * q.num) /. (p.den * q.den) := by
  conv => lhs; rw [rat_ndi p, rat_ndi q]
  exact Rat.divInt_mul_divInt _ _
theorem dd_ne (p q : Rat) : (p.den : Int) * q.den ≠ 0 := Int.ne_of_gt (Int.mul_pos (den_pos p) (den_pos q))
theorem Sz.add {j k : Nat} {p q : Rat} (h : Sz j p) (h2 : Sz k q) : Sz (j + k + 1) (p + q) := by
  rw [add_ndi]
  refine (sz_divInt ((h.n.mul h2.d).add1 ((h2.n.mul h.d).up (show k + j ≤ j + k by omega))) (h.d.mul h2.d) (dd_ne p q)).up (by omega)
theorem Sz.sub {j k : Nat} {p q : Rat} (h : Sz j p) (h2 : Sz k q) : Sz (j + k + 1) (p - q) := by
  rw [sub_ndi]
  refine (sz_divInt ((h.n.mul h2.d).sub1 ((h2.n.mul h.d).up (show k + j ≤ j + k by omega))) (h.d.mul h2.d) (dd_ne p q)).up (by omega)
theorem Sz.mul {j k : Nat} {p q : Rat} (h : Sz j p) (h2 : Sz k q) : Sz (j + k) (p * q) := by
  rw [mul_ndi]
  refine (sz_divInt (h.n.mul h2.n) (h.d.mul h2.d) (dd_ne p q)).up (by omega)
theorem Sz.neg {k : Nat} {p : Rat} (h : Sz k p) : Sz k (-p) := ⟨h.n.neg, h.d⟩
theorem Sz.int {k : Nat} {a : Int} (h : Bd k a) : Sz (max k 1) (a : Rat) := ⟨h.up (Nat.le_max_left ..), Bd.up (j := 1) (by unfold Bd; show (1 : Int).natAbs < 2 ^ 1; decide) (Nat.le_max_right ..)⟩
theorem Sz.int1 {k : Nat} {a : Int} (h : Bd k a) (hk : 0 < k := by decide) : Sz k (a : Rat) := (Sz.int h).up (by omega)
/-- what gcd and // make -/
theorem red_num {n d g : Int} (hd : d ≠ 0) (hg : g = if d < 0 then -((Nat.gcd n.natAbs d.natAbs : Nat) : Int) else ((Nat.gcd n.natAbs d.natAbs : Nat) : Int)) : n.fdiv g = (n /. d).num ∧ d.fdiv g = ((n /. d).den : Int) ∧ g ≠ 0 ∧ g.natAbs ≤ d.natAbs := by
  have hgp : 0 < Nat.gcd n.natAbs d.natAbs := Nat.gcd_pos_of_pos_right _ (by omega)
  have hgl : Nat.gcd n.natAbs d.natAbs ≤ d.natAbs := Nat.gcd_le_right _ (by omega)
  have e : d.gcd n = Nat.gcd n.natAbs d.natAbs := by rw [Int.gcd_comm]; rfl
  have dn : ((Nat.gcd n.natAbs d.natAbs : Nat) : Int) ∣ n := Int.natAbs_dvd_natAbs.mp (Nat.gcd_dvd_left _ _)
  have dd : ((Nat.gcd n.natAbs d.natAbs : Nat) : Int) ∣ d := Int.natAbs_dvd_natAbs.mp (Nat.gcd_dvd_right _ _)
  rw [Rat.num_divInt, Rat.den_divInt, if_neg hd, e]
  have fneg : ∀ {x c : Int}, 0 < c → c ∣ x → x.fdiv (-c) = -x / c := by
    intro x c hc ⟨k, hk⟩
    have e1 : x = (-c) * (-k) := by rw [hk, Int.neg_mul_neg]
    have e2 : -x = c * (-k) := by rw [hk, Int.mul_neg]
    rw [e2, Int.mul_ediv_cancel_left _ (by omega)]
    conv => lhs; rw [e1]
    rw [Int.mul_fdiv_cancel_left _ (by omega)]
  generalize hG : Nat.gcd n.natAbs d.natAbs = G at *
  by_cases hn : d < 0
  · rw [if_pos hn] at hg
    subst hg
    refine ⟨?_, ?_, by omega, by omega⟩
    · rw [fneg (by omega) dn, Int.sign_eq_neg_one_of_neg hn, Int.neg_mul, Int.one_mul]
    · rw [fneg (by omega) dd, Int.natCast_ediv]
      congr 1; omega
  · rw [if_neg hn] at hg
    subst hg
    refine ⟨?_, ?_, by omega, by omega⟩
    · rw [Int.fdiv_eq_ediv_of_nonneg _ (by omega), Int.sign_eq_one_of_pos (by omega), Int.one_mul]
    · rw [Int.fdiv_eq_ediv_of_nonneg _ (by omega), Int.natCast_ediv]
      congr 1; omega
def SpE {α : Type} (arg : α → List PyData) (pre : α → Prop) (res : α → PyData) : Sd := fun xs Q => ∃ a, xs = arg a ∧ pre a ∧ Q (res a)
theorem m_SpE {α : Type} {arg : α → List PyData} {pre : α → Prop} {res : α → PyData} : MonoP (SpE arg pre res) := fun xs Q Q' hq ⟨a, h1, h2, h3⟩ => ⟨a, h1, h2, hq _ h3⟩
def SpR {α : Type} (arg : α → List PyData) (pre : α → Prop) (post : α → PyData → Prop) : Sd := fun xs Q => ∃ a, xs = arg a ∧ pre a ∧ ∀ z, post a z → Q z
theorem m_SpR {α : Type} {arg : α → List PyData} {pre : α → Prop} {post : α → PyData → Prop} : MonoP (SpR arg pre post) := fun xs Q Q' hq ⟨a, h1, h2, h3⟩ => ⟨a, h1, h2, fun z hz => hq _ (h3 z hz)⟩
/-- with draws: at most n of them -/
def SpB {α : Type} (n : Nat) (arg : α → List PyData) (pre : α → Prop) (post : α → PyData → Prop) : Sb := fun bag xs Q => ∃ a m, Bag m bag ∧ m + n < 2 ^ 60 ∧ xs = arg a ∧ pre a ∧ ∀ z bag', post a z → Bag (m + n) bag' → Q z bag'
theorem m_SpB {α : Type} {n : Nat} {arg : α → List PyData} {pre : α → Prop} {post : α → PyData → Prop} : MonoB (SpB n arg pre post) := fun bag xs Q Q' hq ⟨a, m, h1, h2, h3, h4, h5⟩ => ⟨a, m, h1, h2, h3, h4, fun z b hz hb => hq _ _ (h5 z b hz hb)⟩
theorem SpE.mk {α : Type} {arg : α → List PyData} {pre : α → Prop} {res : α → PyData} {xs : List PyData} {Q : PyData → Prop} (a : α) (h1 : xs = arg a) (h2 : pre a) (h3 : Q (res a)) : SpE arg pre res xs Q := ⟨a, h1, h2, h3⟩
theorem SpR.mk {α : Type} {arg : α → List PyData} {pre : α → Prop} {post : α → PyData → Prop} {xs : List PyData} {Q : PyData → Prop} (a : α) (h1 : xs = arg a) (h2 : pre a) (h3 : ∀ z, post a z → Q z) : SpR arg pre post xs Q := ⟨a, h1, h2, h3⟩
def cmpR (p q : Rat) : Int := if p < q then -1 else if q < p then 1 else 0
def clipR (p : Rat) : Rat := if p < 0 then 0 else if 1 < p then 1 else p
theorem lt_fr {p q : Rat} : p.num * (q.den : Int) < q.num * (p.den : Int) ↔ p < q := (Rat.lt_iff p q).symm
end DV
namespace DV
open PySem PySem.Spec PyProof.Rows L2
open LamX (ExtN TabS Tabs CodeO)
open scoped Rat
structure Lg where
  ax : Int
  ay : Int
  bx : Int
  by' : Int
def pr (a b : Int) : PyData := .tuple [.int a, .int b]
def eL (l : Lg) : PyData := .tuple [pr l.ax l.ay, pr l.bx l.by']
structure LB (k : Nat) (l : Lg) : Prop where
  ax : Bd k l.ax
  ay : Bd k l.ay
  bx : Bd k l.bx
  by' : Bd k l.by'
def px (l : Lg) (s : Rat) : Rat := (l.ax : Rat) + s * ((l.bx - l.ax : Int) : Rat)
def py (l : Lg) (s : Rat) : Rat := (l.ay : Rat) + s * ((l.by' - l.ay : Int) : Rat)
def gx (l o : Lg) (s t : Rat) : Rat := px o t - px l s
def gy (l o : Lg) (s t : Rat) : Rat := py o t - py l s
def gsq (l o : Lg) (s t : Rat) : Rat := gx l o s t * gx l o s t + gy l o s t * gy l o s t
abbrev Cn := Rat × Rat
def lexLt (a b : Cn) : Prop := if a.1 ≠ b.1 then a.1 < b.1 else a.2 < b.2
instance (a b : Cn) : Decidable (lexLt a b) := by unfold lexLt; infer_instance
def crn (rho : Rat) : List Cn := [(0, 0), (rho, 0), (1, 1 - rho), (1, 1), (1 - rho, 1), (0, rho)]
def clipP (l o : Lg) (a b : Cn) : Rat :=
  let f1 := gx l o a.1 a.2
  let f2 := gy l o a.1 a.2
  let r1 := gx l o b.1 b.2 - f1
  let r2 := gy l o b.1 b.2 - f2
  let st := r1 * r1 + r2 * r2
  clipR (if st ≠ 0 then ((-1 : Int) : Rat) * (f1 * r1 + f2 * r2) / st else if lexLt b a then 1 else 0)
def onS (l o : Lg) (a b : Cn) : Rat := a.1 + clipP l o a b * (b.1 - a.1)
def onT' (l o : Lg) (a b : Cn) : Rat := a.2 + clipP l o a b * (b.2 - a.2)
abbrev Row3 := Rat × Rat × Rat
def edge (l o : Lg) (a b : Cn) : Row3 := (gsq l o (onS l o a b) (onT' l o a b), onS l o a b, onT' l o a b)
def turnI (l o : Lg) : Int := (l.bx - l.ax) * (o.by' - o.ay) - (l.by' - l.ay) * (o.bx - o.ax)
def inS (l o : Lg) : Rat := ((o.ax - l.ax) * (o.by' - o.ay) - (o.ay - l.ay) * (o.bx - o.ax)) /. turnI l o
def inT (l o : Lg) : Rat := ((o.ax - l.ax) * (l.by' - l.ay) - (o.ay - l.ay) * (l.bx - l.ax)) /. turnI l o
def rabs (q : Rat) : Rat := if q < 0 then -q else q
def okIn (s t rho : Rat) : Prop := ¬ (s < 0 ∨ t < 0 ∨ 1 < s ∨ 1 < t ∨ rho < rabs (s - t))
instance (s t rho : Rat) : Decidable (okIn s t rho) := by unfold okIn; infer_instance
def inner (l o : Lg) (rho : Rat) : List Row3 := if turnI l o = 0 then [] else if okIn (inS l o) (inT l o) rho then [(0, inS l o, inT l o)] else []
def rowLt (a b : Row3) : Prop := a.1 < b.1 ∨ (a.1 = b.1 ∧ lexLt a.2 b.2)
instance (a b : Row3) : Decidable (rowLt a b) := by unfold rowLt; infer_instance
def bestOf : List Row3 → Option Row3
  | rows => rows.foldl (fun best row => match best with
    | none => some row
    | some b => if rowLt row b then some row else some b) none
def edges (l o : Lg) (rho : Rat) : List Row3 := List.zipWith (edge l o) (crn rho) ((crn rho).drop 1 ++ (crn rho).take 1)
def rowsL (l o : Lg) (rho : Rat) : List Row3 := inner l o rho ++ edges l o rho
def nearL (l o : Lg) (rho : Rat) : Row3 := (bestOf (rowsL l o rho)).getD (0, 0, 0)
structure CnOk (d : Int) (c : Cn) : Prop where
  ex : ∃ x y : Int, c = (x /. d, y /. d) ∧ Bd 101 x ∧ Bd 101 y
structure DOk (d : Int) : Prop where
  pos : 0 < d
  bd : Bd 100 d
theorem CnOk.t {d : Int} {c : Cn} (h : CnOk d c) (hd : DOk d) : Sz 101 c.2 := by
  obtain ⟨x, y, rfl, hx, hy⟩ := h.ex
  exact (sz_divInt hy hd.bd (Int.ne_of_gt hd.pos)).up (by decide)
theorem rat_ne {d : Int} (h : d ≠ 0) : (d : Rat) ≠ 0 := fun e => h (by
  have := congrArg Rat.num e
  simpa using this)
end DV
namespace DV
open PySem PySem.Spec PyProof.Rows L2
open LamX (ExtN TabS Tabs CodeO)
open scoped Rat
end DV
namespace DV
open PySem PySem.Spec PyProof.Rows L2
open LamX (ExtN TabS Tabs CodeO)
section
variable {X : Cx} {F : Fm} {a b c e : Expr} {es : List Expr} {ta tb tc te : TE} {da db dc de : TDE} {pos : Pos} {t : TA} {d : TDA}
theorem ImAll.reverse {K : PySem.W.Frag} {N : Addr → Prop} {H : Hp} : ∀ {ds : List PyData} {vs : List V}, ImAll K N H ds vs → ImAll K N H ds.reverse vs.reverse
  | [], _, h => by simp only [ImAll] at h; subst h; exact .nil
  | d :: ds, _, h => by
    simp only [ImAll] at h
    obtain ⟨x, xs, rfl, l, t⟩ := h
    rw [List.reverse_cons, List.reverse_cons]
    exact t.reverse.append (.cons l .nil)
def dRevT (te : TDE) : TDE := fun ρ Q => te ρ fun r ρ1 => onT r fun xs => Q (.d (.tuple xs.reverse)) ρ1
end
end DV
namespace DV
open PySem PySem.Spec PyProof.Rows L2
open LamX (ExtN TabS Tabs CodeO)
open scoped Rat
theorem u_take {m : Nat} {n : Int} {bag : List PyData} {Q : PyData → List PyData → Prop} (hb : Bag m bag) (hm : m + 1 < 2 ^ 60) (h0 : 0 < n) (h1 : n ≤ 1000000000) (q : ∀ v bag', 0 ≤ v → v < n → Bag (m + 1) bag' → Q (.int v) bag') : S_take bag [.int n] Q :=
  ⟨m, n, hb, by omega, rfl, h0, Nat.lt_of_lt_of_le (show n.natAbs < 2 ^ 30 by omega) (Nat.pow_le_pow_right (by decide) (by decide)), q⟩
theorem u_some {m : Nat} {ys : List PyData} {bag : List PyData} {Q : PyData → List PyData → Prop} (hb : Bag m bag) (hm : m + 1 < 2 ^ 60) (h0 : 0 < ys.length) (h1 : ys.length ≤ 100000) (q : ∀ y ∈ ys, ∀ bag', Bag (m + 1) bag' → Q y bag') : S_some bag [.list ys] Q :=
  ⟨m, ys, hb, by omega, .inl rfl, h0, h1, fun y b h => q y h b⟩
theorem u_alike {x : PyData} {Q : PyData → Prop} (h : Fine x) (q : Q (.bool true)) : S_alike [x, x] Q := ⟨⟨rfl, h⟩, q⟩
def isI (lo hi : Int) : PyData → Bool
  | .int d => decide (lo ≤ d) && decide (d ≤ hi)
  | _ => false
theorem of_isI {lo hi : Int} {y : PyData} (h : isI lo hi y = true) : ∃ d : Int, y = .int d ∧ lo ≤ d ∧ d ≤ hi := by
  cases y <;> first | cases h | skip
  rename_i d
  simp only [isI, Bool.and_eq_true, decide_eq_true_eq] at h
  exact ⟨d, rfl, h⟩
theorem of_all {lo hi : Int} {ys : List PyData} (h : ys.all (isI lo hi) = true) : ∀ y ∈ ys, ∃ d : Int, y = .int d ∧ lo ≤ d ∧ d ≤ hi := fun y hy => of_isI (List.all_eq_true.mp h y hy)
theorem bd_of {k : Nat} {i : Int} (b : Int) (h1 : -b ≤ i) (h2 : i ≤ b) (hb : b.natAbs < 2 ^ k := by decide) : Bd k i := by unfold Bd; omega
end DV
namespace DV
open PySem PySem.Spec PyProof.Rows L2
open LamX (ExtN TabS Tabs CodeO)
open scoped Rat
def lcIn (g : TDGt) (tt : TDT) (te : TDE) (vs : List Nat) (Q : List PyData → Rho → Prop) (xs : List PyData) (ρ1 : Rho) : Prop :=
  (∀ i ∈ vs, ρ1[i]? = some none) ∧ ∃ I : Nat → List PyData → Rho → Prop, I 0 [] ρ1 ∧
  (∀ i x acc ρ, xs[i]? = some x → I i acc ρ → g (.d x) ρ fun ρ2 => tt ρ2 fun k ρ3 => if k = true then te ρ3 fun r ρ4 => onDat r fun y => Few (acc.length + 1) ∧ I (i + 1) (acc ++ [y]) (wipeR ρ4 vs) else I (i + 1) acc (wipeR ρ3 vs)) ∧
  ∀ acc ρ, I xs.length acc ρ → Q acc (wipeR ρ vs)
theorem dLc_eq {wi : TDI} {g : TDGt} {tt : TDT} {te : TDE} {vs : List Nat} : dLc wi g tt te vs = fun ρ Q => wi ρ fun xs ρ1 => lcIn g tt te vs Q xs ρ1 := rfl
def forIn1 (g : TDGt) (tb : TDS) (DD : DEnds) (xs : List PyData) (ρ1 : Rho) : Prop := ∃ I : Nat → Rho → Prop, I 0 ρ1 ∧
  (∀ i x ρ, xs[i]? = some x → I i ρ → g (.d x) ρ fun ρ2 => tb { DD with nx := I (i + 1), ct := I (i + 1), bk := DD.nx } ρ2) ∧ ∀ ρ, I xs.length ρ → DD.nx ρ
theorem dFor_eq {wi : TDI} {g : TDGt} {tb : TDS} : dFor wi g tb = fun DD ρ => wi ρ fun xs ρ1 => forIn1 g tb DD xs ρ1 := rfl
section
variable {g : TDGt} {tt : TDT} {te : TDE} {tb : TDS} {DD : DEnds} {vs : List Nat} {Q : List PyData → Rho → Prop} {ρ : Rho}
theorem take_succ_some {α : Type} {as : List α} {i : Nat} {a : α} (h : as[i]? = some a) : as.take (i + 1) = as.take i ++ [a] := by
  rw [List.take_succ, h]; rfl
/-- every item is tested and made; nothing else changes -/
theorem lc_fm {α : Type} (as : List α) (enc : α → PyData) (f : α → Option PyData) (hv : ∀ i ∈ vs, ρ[i]? = some none) (hl : as.length ≤ 100000)
    (turn : ∀ (i : Nat) (a : α), as[i]? = some a → ∀ (C1 : PyData → Rho → Prop) (C2 : Rho → Prop) (n : Nat), Few n → (∀ y, f a = some y → C1 y ρ) → (f a = none → C2 ρ) →
      g (.d (enc a)) ρ fun ρ2 => tt ρ2 fun k ρ3 => if k = true then te ρ3 fun r ρ4 => onDat r fun y => Few n ∧ C1 y (wipeR ρ4 vs) else C2 (wipeR ρ3 vs))
    (q : Q (as.filterMap f) (wipeR ρ vs)) : lcIn g tt te vs Q (as.map enc) ρ := by
  refine ⟨hv, fun i acc ρ' => ρ' = ρ ∧ acc = (as.take i).filterMap f, ⟨rfl, rfl⟩, ?_, ?_⟩
  · rintro i x acc _ hx ⟨rfl, rfl⟩
    rw [List.getElem?_map] at hx
    cases ha : as[i]? with
    | none => rw [ha] at hx; cases hx
    | some a =>
      rw [ha] at hx
      cases hx
      have hi := (List.getElem?_eq_some_iff.mp ha).1
      refine turn i a ha (fun y ρ2 => ρ2 = _ ∧ _ = (as.take (i + 1)).filterMap f) (fun ρ2 => ρ2 = _ ∧ _ = (as.take (i + 1)).filterMap f) _ ?_ (fun y hy => ⟨rfl, ?_⟩) fun hn => ⟨rfl, ?_⟩
      · refine few_le ?_
        have := List.length_filterMap_le f (as.take i)
        rw [List.length_take] at this
        omega
      · rw [take_succ_some ha, List.filterMap_append, List.filterMap_cons, hy]; rfl
      · rw [take_succ_some ha, List.filterMap_append, List.filterMap_cons, hn]; exact (List.append_nil _).symm
  · rintro acc _ ⟨rfl, rfl⟩
    rw [List.length_map, List.take_length]
    exact q
theorem lc_map {α : Type} (as : List α) (enc : α → PyData) (f : α → PyData) (hv : ∀ i ∈ vs, ρ[i]? = some none) (hl : as.length ≤ 100000)
    (turn : ∀ (i : Nat) (a : α), as[i]? = some a → ∀ (C1 : PyData → Rho → Prop) (C2 : Rho → Prop) (n : Nat), Few n → C1 (f a) ρ →
      g (.d (enc a)) ρ fun ρ2 => tt ρ2 fun k ρ3 => if k = true then te ρ3 fun r ρ4 => onDat r fun y => Few n ∧ C1 y (wipeR ρ4 vs) else C2 (wipeR ρ3 vs))
    (q : Q (as.map f) (wipeR ρ vs)) : lcIn g tt te vs Q (as.map enc) ρ := by
  refine lc_fm as enc (fun a => some (f a)) hv hl (fun i a ha C1 C2 n hn h1 _ => turn i a ha C1 C2 n hn (h1 _ rfl)) ?_
  rw [show as.filterMap (fun a => some (f a)) = as.map f from by rw [← List.filterMap_eq_map]; rfl]
  exact q
/-- every item is drawn anew -/
theorem lc_draw {n : Nat} (xs : List PyData) (st : List PyData → Rho) (P : PyData → Prop) (bag : List PyData) (m : Nat) (hb : Bag m bag) (e : ρ = st bag) (hv : ∀ bag, ∀ i ∈ vs, (st bag)[i]? = some none) (hl : xs.length ≤ 100000)
    (turn : ∀ (i : Nat) (x : PyData), xs[i]? = some x → ∀ (m' : Nat) (bag' : List PyData), m ≤ m' → m' + n ≤ m + n * xs.length → Bag m' bag' → ∀ (C1 : PyData → Rho → Prop) (C2 : Rho → Prop) (k : Nat), Few k → (∀ y bag2, P y → Bag (m' + n) bag2 → C1 y (st bag2)) →
      g (.d x) (st bag') fun ρ2 => tt ρ2 fun k' ρ3 => if k' = true then te ρ3 fun r ρ4 => onDat r fun y => Few k ∧ C1 y (wipeR ρ4 vs) else C2 (wipeR ρ3 vs))
    (q : ∀ zs bag', zs.length = xs.length → (∀ z ∈ zs, P z) → Bag (m + n * xs.length) bag' → Q zs (wipeR (st bag') vs)) : lcIn g tt te vs Q xs ρ := by
  subst e
  refine ⟨hv bag, fun i acc ρ' => acc.length = i ∧ i ≤ xs.length ∧ (∀ z ∈ acc, P z) ∧ ∃ bag', Bag (m + n * i) bag' ∧ ρ' = st bag', ⟨rfl, Nat.zero_le _, (by intro z hz; cases hz), bag, by simpa using hb, rfl⟩, ?_, ?_⟩
  · rintro i x acc _ hx ⟨hal, hi0, hP, bag', hb', rfl⟩
    have hi := (List.getElem?_eq_some_iff.mp hx).1
    have hmul : n * i + n ≤ n * xs.length := by
      have := Nat.mul_le_mul_left n (show i + 1 ≤ xs.length by omega)
      rwa [Nat.mul_succ] at this
    refine turn i x hx _ bag' (Nat.le_add_right ..) (by omega) hb' (fun y ρ2 => (acc ++ [y]).length = i + 1 ∧ i + 1 ≤ xs.length ∧ (∀ z ∈ acc ++ [y], P z) ∧ ∃ bag', Bag (m + n * (i + 1)) bag' ∧ ρ2 = st bag') (fun ρ2 => acc.length = i + 1 ∧ i + 1 ≤ xs.length ∧ (∀ z ∈ acc, P z) ∧ ∃ bag', Bag (m + n * (i + 1)) bag' ∧ ρ2 = st bag') (acc.length + 1) (few_le (by omega)) (fun y bag2 hy hb2 => ⟨by rw [List.length_append, hal]; rfl, by omega, fun z hz => ?_, bag2, by rw [Nat.mul_succ]; exact hb2.up (by omega), rfl⟩)
    rcases List.mem_append.mp hz with hz | hz
    · exact hP z hz
    · have : z = y := by simpa using hz
      rw [this]; exact hy
  · rintro acc _ ⟨hal, _, hP, bag', hb', rfl⟩
    exact q acc bag' hal hP hb'
/-- a loop by what holds between its turns: the state is made of s -/
theorem for_st {α S : Type} (as : List α) (enc : α → PyData) (mk : S → Rho) (I : Nat → S → Prop) (s0 : S) (e : ρ = mk s0) (h0 : I 0 s0)
    (turn : ∀ (i : Nat) (a : α) (s : S), as[i]? = some a → I i s → ∀ C : Rho → Prop, (∀ s', I (i + 1) s' → C (mk s')) → g (.d (enc a)) (mk s) fun ρ2 => tb { DD with nx := C, ct := C, bk := DD.nx } ρ2)
    (fin : ∀ s, I as.length s → DD.nx (mk s)) : forIn1 g tb DD (as.map enc) ρ := by
  refine ⟨fun i ρ' => ∃ s, ρ' = mk s ∧ I i s, ⟨s0, e, h0⟩, ?_, ?_⟩
  · rintro i x _ hx ⟨s, rfl, hI⟩
    rw [List.getElem?_map] at hx
    cases ha : as[i]? with
    | none => rw [ha] at hx; cases hx
    | some a =>
      rw [ha] at hx
      cases hx
      exact turn i a s ha hI _ fun s' h' => ⟨s', rfl, h'⟩
  · rintro _ ⟨s, rfl, hI⟩
    rw [List.length_map] at hI
    exact fin s hI
theorem rng_map {lo : Int} {n : Nat} : rng lo n = (List.range n).map fun k => PyData.int (lo + (k : Nat)) := rfl
theorem for_rng {S : Type} (lo : Int) (n : Nat) (mk : S → Rho) (I : Nat → S → Prop) (s0 : S) (e : ρ = mk s0) (h0 : I 0 s0)
    (turn : ∀ (i : Nat) (s : S), i < n → I i s → ∀ C : Rho → Prop, (∀ s', I (i + 1) s' → C (mk s')) → g (.d (.int (lo + (i : Nat)))) (mk s) fun ρ2 => tb { DD with nx := C, ct := C, bk := DD.nx } ρ2)
    (fin : ∀ s, I n s → DD.nx (mk s)) : forIn1 g tb DD (rng lo n) ρ := by
  rw [rng_map]
  refine for_st (List.range n) _ mk I s0 e h0 (fun i a s ha hI C hC => ?_) fun s hs => fin s (by rwa [List.length_range] at hs)
  obtain ⟨hi, e⟩ := List.getElem?_eq_some_iff.mp ha
  rw [List.getElem_range] at e
  subst e
  rw [List.length_range] at hi
  exact turn _ s hi hI C hC
end
end DV
namespace DV
open PySem PySem.Spec PyProof.Rows L2
open LamX (ExtN TabS Tabs CodeO)
open scoped Rat
def within (s t rho : Rat) : Prop := 0 ≤ s ∧ s ≤ 1 ∧ 0 ≤ t ∧ t ≤ 1 ∧ rabs (s - t) ≤ rho
instance (s t rho : Rat) : Decidable (within s t rho) := by unfold within; infer_instance
end DV
namespace DV
open PySem PySem.Spec PyProof.Rows L2
open LamX (ExtN TabS Tabs CodeO)
section
variable {F : Fm} {tt tt1 : TT} {dt dt1 : TDT} {te : TE} {de : TDE}
def dLc2 (wi : TDI) (g : TDGt) (tt : TDT) (wi1 : TDI) (g1 : TDGt) (tt1 : TDT) (te : TDE) (vs vs1 : List Nat) : TDL := fun ρ Q => wi ρ fun xs ρ1 => (∀ i ∈ vs, ρ1[i]? = some none) ∧ ∃ I : Nat → List PyData → Rho → Prop, I 0 [] ρ1 ∧
  (∀ i x acc ρ, xs[i]? = some x → I i acc ρ → g (.d x) ρ fun ρ2 => tt ρ2 fun k ρ3 => if k = true then wi1 ρ3 fun ys ρ4 => (∀ i ∈ vs1, ρ4[i]? = some none) ∧ ∃ J : Nat → List PyData → Rho → Prop, J 0 acc ρ4 ∧
      (∀ j y acc ρ, ys[j]? = some y → J j acc ρ → g1 (.d y) ρ fun ρ5 => tt1 ρ5 fun k ρ6 => if k = true then te ρ6 fun r ρ7 => onDat r fun z => Few (acc.length + 1) ∧ J (j + 1) (acc ++ [z]) (wipeR ρ7 vs1) else J (j + 1) acc (wipeR ρ6 vs1)) ∧
      ∀ acc ρ, J ys.length acc ρ → I (i + 1) acc (wipeR ρ vs)
    else I (i + 1) acc (wipeR ρ3 vs)) ∧
  ∀ acc ρ, I xs.length acc ρ → Q acc (wipeR ρ vs)
theorem wipeR_id {ρ : Rho} : ∀ {vs : List Nat}, (∀ i ∈ vs, ρ[i]? = some none) → wipeR ρ vs = ρ
  | [], _ => rfl
  | k :: ks, hk => by
    show (wipeR ρ ks).set k none = ρ
    rw [wipeR_id fun i hi => hk i (List.mem_cons_of_mem _ hi)]
    apply List.ext_getElem?
    intro n
    by_cases e : k = n
    · subst e
      have := hk k (List.mem_cons_self ..)
      have hl : k < ρ.length := by
        rcases Nat.lt_or_ge k ρ.length with z | z
        · exact z
        · rw [List.getElem?_eq_none z] at this; cases this
      rw [List.getElem?_set_self hl, this]
    · rw [List.getElem?_set_ne e]
theorem wipe_at {σ : L2.St} {k : Nat} : ∀ {ws : List Nat}, k ∈ ws → k < σ.length → (wipe σ ws)[k]? = some none
  | [], h, _ => by cases h
  | w :: ws, h, hl => by
    show ((wipe σ ws).set w none)[k]? = some none
    by_cases e : w = k
    · subst e
      rw [List.getElem?_set_self (by rw [wipe_length]; exact hl)]
    · rw [List.getElem?_set_ne e]
      rcases List.mem_cons.mp h with z | z
      · exact absurd z.symm e
      · exact wipe_at z hl
theorem set_id {σ : L2.St} {k : Nat} (h : σ[k]? = some none ∨ σ.length ≤ k) : σ.set k none = σ := by
  apply List.ext_getElem?
  intro n
  by_cases e : k = n
  · subst e
    rcases h with h | h
    · have hl := (List.getElem?_eq_some_iff.mp h).1
      rw [List.getElem?_set_self hl, h]
    · rw [List.getElem?_eq_none (by rw [List.length_set]; exact h), List.getElem?_eq_none h]
  · rw [List.getElem?_set_ne e]
/-- what is wiped in the outer list may be wiped ahead or behind -/
theorem wipe_sub {σ : L2.St} {vs : List Nat} : ∀ {us : List Nat}, (∀ i ∈ us, i ∈ vs) → wipe (wipe σ vs) us = wipe σ vs
  | [], _ => rfl
  | k :: ks, hk => by
    show (wipe (wipe σ vs) ks).set k none = wipe σ vs
    rw [wipe_sub fun i hi => hk i (List.mem_cons_of_mem _ hi)]
    refine set_id ?_
    by_cases hl : k < σ.length
    · exact .inl (wipe_at (hk k (List.mem_cons_self ..)) hl)
    · exact .inr (by rw [wipe_length]; omega)
theorem wipe_nth {σ : L2.St} {vs : List Nat} {n : Nat} : (wipe σ vs)[n]? = if n ∈ vs ∧ n < σ.length then some none else σ[n]? := by
  induction vs with
  | nil => simp [wipe]
  | cons k ks ih =>
    show ((wipe σ ks).set k none)[n]? = _
    by_cases e : k = n
    · subst e
      by_cases hl : k < σ.length
      · rw [List.getElem?_set_self (by rw [wipe_length]; exact hl), if_pos ⟨List.mem_cons_self .., hl⟩]
      · rw [List.getElem?_eq_none (by rw [List.length_set, wipe_length]; omega), if_neg (fun z => hl z.2), List.getElem?_eq_none (by omega)]
    · rw [List.getElem?_set_ne e, ih]
      have : (n ∈ k :: ks) ↔ n ∈ ks := by simp [List.mem_cons, Ne.symm e]
      simp only [this]
end
theorem DG.up {F : Fm} {g : TG} {dg : TDGt} {sl sm : List Nat} (h : DG F g dg sl) (k : ∀ i ∈ sl, i ∈ sm) : DG F g dg sm :=
  ⟨fun pins ρ σ H v r Q P O fr ro d q => h.run pins ρ σ H v r Q P O (fun i hi => fr i (k i hi)) ro d fun ρ' σ' H' O' so p => q ρ' σ' H' O' (fun vs hv => so vs fun i hi => hv i (k i hi)) p, h.mono⟩
end DV
namespace DV
open PySem PySem.Spec PyProof.Rows L2
open LamX (ExtN TabS Tabs CodeO)
open scoped Rat
theorem nodup_le {α : Type} : ∀ {xs ys : List α}, xs.Nodup → (∀ x ∈ xs, x ∈ ys) → xs.length ≤ ys.length
  | [], _, _, _ => Nat.zero_le _
  | x :: xs, ys, h, k => by
    obtain ⟨l, r, rfl⟩ := List.append_of_mem (k x (List.mem_cons_self ..))
    obtain ⟨h1, h2⟩ := List.nodup_cons.mp h
    have := nodup_le (xs := xs) (ys := l ++ r) h2 fun y hy => by
      have hm := k y (List.mem_cons_of_mem _ hy)
      simp only [List.mem_append, List.mem_cons] at hm ⊢
      rcases hm with z | z | z
      · exact .inl z
      · subst z; exact absurd hy h1
      · exact .inr z
    simp only [List.length_append, List.length_cons] at this ⊢
    omega
def pf3 (r : DV.Row3) : PyData := .tuple [fr r.1, fr r.2.1, fr r.2.2]
theorem fw_of {n : Nat} (h : n ≤ 100000) : (n ≤ sizeLine) = True := eq_true (few_le h)
theorem fw0 : ((0 : Nat) ≤ sizeLine) = True := fw_of (by decide)
theorem fw1 : ((0 : Nat) + 1 ≤ sizeLine) = True := fw_of (by decide)
theorem fw2 : ((0 : Nat) + 1 + 1 ≤ sizeLine) = True := fw_of (by decide)
theorem fw3 : ((0 : Nat) + 1 + 1 + 1 ≤ sizeLine) = True := fw_of (by decide)
theorem fw4 : ((0 : Nat) + 1 + 1 + 1 + 1 ≤ sizeLine) = True := fw_of (by decide)
theorem fw5 : ((0 : Nat) + 1 + 1 + 1 + 1 + 1 ≤ sizeLine) = True := fw_of (by decide)
theorem fw6 : ((0 : Nat) + 1 + 1 + 1 + 1 + 1 + 1 ≤ sizeLine) = True := fw_of (by decide)
theorem fw7 : ((0 : Nat) + 1 + 1 + 1 + 1 + 1 + 1 + 1 ≤ sizeLine) = True := fw_of (by decide)
theorem fw8 : ((0 : Nat) + 1 + 1 + 1 + 1 + 1 + 1 + 1 + 1 ≤ sizeLine) = True := fw_of (by decide)
theorem fw9 : ((0 : Nat) + 1 + 1 + 1 + 1 + 1 + 1 + 1 + 1 + 1 ≤ sizeLine) = True := fw_of (by decide)
theorem fw10 : ((0 : Nat) + 1 + 1 + 1 + 1 + 1 + 1 + 1 + 1 + 1 + 1 ≤ sizeLine) = True := fw_of (by decide)
theorem fw11 : ((0 : Nat) + 1 + 1 + 1 + 1 + 1 + 1 + 1 + 1 + 1 + 1 + 1 ≤ sizeLine) = True := fw_of (by decide)
theorem fw12 : ((0 : Nat) + 1 + 1 + 1 + 1 + 1 + 1 + 1 + 1 + 1 + 1 + 1 + 1 ≤ sizeLine) = True := fw_of (by decide)
theorem fw13 : ((0 : Nat) + 1 + 1 + 1 + 1 + 1 + 1 + 1 + 1 + 1 + 1 + 1 + 1 + 1 ≤ sizeLine) = True := fw_of (by decide)
theorem fw14 : ((0 : Nat) + 1 + 1 + 1 + 1 + 1 + 1 + 1 + 1 + 1 + 1 + 1 + 1 + 1 + 1 ≤ sizeLine) = True := fw_of (by decide)
theorem fw15 : ((0 : Nat) + 1 + 1 + 1 + 1 + 1 + 1 + 1 + 1 + 1 + 1 + 1 + 1 + 1 + 1 + 1 ≤ sizeLine) = True := fw_of (by decide)
theorem ite_nt {c : Prop} [Decidable c] {A B : Prop} (h : ¬ c) (k : A) : if (!decide c) = true then A else B := by rw [decide_eq_false h, if_pos (by rfl)]; exact k
theorem ite_nf {c : Prop} [Decidable c] {A B : Prop} (h : c) (k : B) : if (!decide c) = true then A else B := by rw [decide_eq_true h, if_neg (by decide)]; exact k
theorem ite_nb {c : Prop} [Decidable c] {A B : Prop} (k : ¬ c → A) (m : c → B) : if (!decide c) = true then A else B := by
  by_cases h : c
  · exact ite_nf h (m h)
  · exact ite_nt h (k h)
theorem hv1 {ρ : Rho} {i : Nat} (h : ρ[i]? = some none) : ∀ j ∈ [i], ρ[j]? = some none := fun j hj => by
  have : j = i := by simpa using hj
  rw [this]; exact h
theorem hv2 {ρ : Rho} {i k : Nat} (h : ρ[i]? = some none) (h2 : ρ[k]? = some none) : ∀ j ∈ [i, k], ρ[j]? = some none := fun j hj => by
  have : j = i ∨ j = k := by simpa using hj
  rcases this with e | e <;> rw [e] <;> assumption
theorem zipD_map {α β : Type} (f : α → PyData) (g : β → PyData) (xs : List α) (ys : List β) : zipD (xs.map f) (ys.map g) = (List.zip xs ys).map fun p => .tuple [f p.1, g p.2] := by
  unfold zipD
  rw [List.zipWith_map, List.zip, List.map_zipWith]
end DV
namespace DV
open PySem PySem.Spec PyProof.Rows L2
open LamX (ExtN TabS Tabs CodeO)
section
variable {X : Cx} {F : Fm} {st : Stmt} {ts : TS} {ds : TDS} {tt : TT} {dt : TDT} {te : TE} {de : TDE}
def dFrz (i : Nat) (t : TDS) : TDS := fun DD ρ => onOwn ρ i fun xs => t DD (ρ.set i (some (.d (.list xs))))
def lcO (k : Nat) (g : TDGt) (tt : TDT) (te : TDE) (vs : List Nat) (Q : List PyData → Rho → Prop) (xs : List PyData) (ρ1 : Rho) : Prop :=
  ((∀ i ∈ vs, ρ1[i]? = some none) ∧ k ∉ vs) ∧ ∃ I : Nat → List PyData → Rho → Prop, I 0 [] ρ1 ∧
  (∀ i x acc ρ, xs[i]? = some x → I i acc ρ → ρ[k]? = some (some (.own xs)) → g (.d x) ρ fun ρ2 => tt ρ2 fun b ρ3 => if b = true then te ρ3 fun r ρ4 => onDat r fun y => Few (acc.length + 1) ∧ ρ4[k]? = some (some (.own xs)) ∧ I (i + 1) (acc ++ [y]) (wipeR ρ4 vs) else ρ3[k]? = some (some (.own xs)) ∧ I (i + 1) acc (wipeR ρ3 vs)) ∧
  ∀ acc ρ, I xs.length acc ρ → ρ[k]? = some (some (.own xs)) → Q acc (wipeR ρ vs)
def dLcO (k : Nat) (g : TDGt) (tt : TDT) (te : TDE) (vs : List Nat) : TDL := fun ρ Q => onOwn ρ k fun xs => lcO k g tt te vs Q xs ρ
theorem wipeR_nth {ρ : Rho} {vs : List Nat} {n : Nat} (h : n ∉ vs) : (wipeR ρ vs)[n]? = ρ[n]? := by
  induction vs with
  | nil => rfl
  | cons k ks ih =>
    show ((wipeR ρ ks).set k none)[n]? = _
    rw [List.getElem?_set_ne (fun e => h (by rw [e]; exact List.mem_cons_self ..)), ih fun z => h (List.mem_cons_of_mem _ z)]
end
open scoped Rat
def oR : Option DV.Row3 → PyData
  | none => .none
  | some r => pf3 r
end DV
namespace DV
open PySem PySem.Spec PyProof.Rows L2
open LamX (ExtN TabS Tabs CodeO)
open scoped Rat
structure Shp (k : Nat) (d : PyData) : Prop where
  lay : d.canLay0 = true
  deep : d.depth ≤ k
theorem Shp.up {j k : Nat} {d : PyData} (h : Shp j d) (z : j ≤ k) : Shp k d := ⟨h.lay, Nat.le_trans h.deep z⟩
theorem Shp.shaped {k : Nat} {d : PyData} (h : Shp k d) (z : k ≤ 64 := by decide) : SeqAt.shaped d = true := by
  unfold SeqAt.shaped
  rw [Bool.and_eq_true, decide_eq_true_eq]
  exact ⟨h.lay, Nat.le_trans h.deep z⟩
theorem Shp.int {i : Int} : Shp 0 (.int i) := ⟨by simp [PyData.canLay0], by simp [PyData.depth]⟩
theorem Shp.bool {i : Bool} : Shp 0 (.bool i) := ⟨by simp [PyData.canLay0], by simp [PyData.depth]⟩
theorem Shp.none : Shp 0 .none := ⟨by simp [PyData.canLay0], by simp [PyData.depth]⟩
theorem shps {k : Nat} : ∀ {xs : List PyData}, (∀ x ∈ xs, Shp k x) → PyData.canLayAll0 xs = true ∧ PyData.depthAll xs ≤ k
  | [], _ => ⟨by simp [PyData.canLayAll0], by simp [PyData.depthAll]⟩
  | x :: xs, h => by
    have a := h x (List.mem_cons_self ..)
    have b := shps (xs := xs) fun y hy => h y (List.mem_cons_of_mem _ hy)
    simp only [PyData.canLayAll0, PyData.depthAll, Bool.and_eq_true]
    exact ⟨⟨a.lay, b.1⟩, Nat.max_le.mpr ⟨a.deep, b.2⟩⟩
theorem Shp.tuple {k : Nat} {xs : List PyData} (h : ∀ x ∈ xs, Shp k x) : Shp (k + 1) (.tuple xs) := by
  have := shps h
  exact ⟨by simp only [PyData.canLay0]; exact this.1, by simp only [PyData.depth]; omega⟩
theorem Shp.list {k : Nat} {xs : List PyData} (h : ∀ x ∈ xs, Shp k x) : Shp (k + 1) (.list xs) := by
  have := shps h
  exact ⟨by simp only [PyData.canLay0]; exact this.1, by simp only [PyData.depth]; omega⟩
theorem Shp.map {α : Type} {k : Nat} {f : α → PyData} {xs : List α} (h : ∀ x ∈ xs, Shp k (f x)) : ∀ y ∈ xs.map f, Shp k y := fun y hy => by
  obtain ⟨x, hx, rfl⟩ := List.mem_map.mp hy
  exact h x hx
theorem all2 {P : PyData → Prop} {a b : PyData} (h : P a) (k : P b) : ∀ x ∈ [a, b], P x := fun x hx => by
  have : x = a ∨ x = b := by simpa using hx
  rcases this with e | e <;> rw [e] <;> assumption
theorem all3 {P : PyData → Prop} {a b c : PyData} (h : P a) (k : P b) (l : P c) : ∀ x ∈ [a, b, c], P x := fun x hx => by
  have : x = a ∨ x = b ∨ x = c := by simpa using hx
  rcases this with e | e | e <;> rw [e] <;> assumption
theorem all4 {P : PyData → Prop} {a b c d : PyData} (h : P a) (k : P b) (l : P c) (m : P d) : ∀ x ∈ [a, b, c, d], P x := fun x hx => by
  have : x = a ∨ x = b ∨ x = c ∨ x = d := by simpa using hx
  rcases this with e | e | e | e <;> rw [e] <;> assumption
theorem shp_fr {q : Rat} : Shp 1 (fr q) := .tuple (all2 .int .int)
/-- as Fine, with numbers -/
structure Fn (k c : Nat) (d : PyData) : Prop where
  ok : okd d = true
  deep : d.depth ≤ k
  few : cost d ≤ c
theorem Fn.up {j k b c : Nat} {d : PyData} (h : Fn j b d) (z : j ≤ k) (y : b ≤ c) : Fn k c d := ⟨h.ok, Nat.le_trans h.deep z, Nat.le_trans h.few y⟩
theorem Fn.fine {k c : Nat} {d : PyData} (h : Fn k c d) (z : k ≤ 60 := by decide) (y : c ≤ 16000000 := by decide) : Fine d := ⟨h.ok, Nat.le_trans h.deep z, Nat.le_trans h.few y⟩
theorem Fn.int {i : Int} {k : Nat} (h : Bd k i) (z : k ≤ 1000 := by decide) : Fn 0 1001 (.int i) := by
  refine ⟨?_, by simp [PyData.depth], by simp [cost]⟩
  simp only [okd, decide_eq_true_eq]
  by_cases h0 : i.natAbs = 0
  · rw [h0]; decide
  · exact Nat.lt_of_lt_of_le ((Nat.log2_lt h0).mpr h) z
theorem Fn.bool {b : Bool} : Fn 0 5 (.bool b) := ⟨by simp [okd], by simp [PyData.depth], by simp [cost]⟩
theorem Fn.none : Fn 0 5 .none := ⟨by simp [okd], by simp [PyData.depth], by simp [cost]⟩
theorem fas {k c : Nat} : ∀ {xs : List PyData}, (∀ x ∈ xs, Fn k c x) → okds xs = true ∧ PyData.depthAll xs ≤ k ∧ costs xs ≤ xs.length * (c + 2)
  | [], _ => ⟨by simp [okds], by simp [PyData.depthAll], by simp [costs]⟩
  | x :: xs, h => by
    have a := h x (List.mem_cons_self ..)
    have b := fas (xs := xs) fun y hy => h y (List.mem_cons_of_mem _ hy)
    simp only [okds, PyData.depthAll, costs, Bool.and_eq_true, List.length_cons]
    have := a.few
    refine ⟨⟨a.ok, b.1⟩, Nat.max_le.mpr ⟨a.deep, b.2.1⟩, ?_⟩
    rw [Nat.succ_mul]
    omega
theorem Fn.tuple {k c n : Nat} {xs : List PyData} (h : ∀ x ∈ xs, Fn k c x) (hn : xs.length ≤ n) : Fn (k + 1) (n * (c + 2) + 3) (.tuple xs) := by
  obtain ⟨a, b, d⟩ := fas h
  have := Nat.mul_le_mul_right (c + 2) hn
  exact ⟨by simp only [okd]; exact a, by simp only [PyData.depth]; omega, by simp only [cost]; omega⟩
theorem Fn.list {k c n : Nat} {xs : List PyData} (h : ∀ x ∈ xs, Fn k c x) (hn : xs.length ≤ n) : Fn (k + 1) (n * (c + 2) + 3) (.list xs) := by
  obtain ⟨a, b, d⟩ := fas h
  have := Nat.mul_le_mul_right (c + 2) hn
  exact ⟨by simp only [okd]; exact a, by simp only [PyData.depth]; omega, by simp only [cost]; omega⟩
theorem Fn.map {α : Type} {k c : Nat} {f : α → PyData} {xs : List α} (h : ∀ x ∈ xs, Fn k c (f x)) : ∀ y ∈ xs.map f, Fn k c y := fun y hy => by
  obtain ⟨x, hx, rfl⟩ := List.mem_map.mp hy
  exact h x hx
theorem fa_fr {q : Rat} {k : Nat} (h : Sz k q) (z : k ≤ 1000 := by decide) : Fn 1 2009 (fr q) := Fn.tuple (n := 2) (all2 (Fn.int h.n z) (Fn.int h.d z)) (Nat.le_refl _)
abbrev P2 := Int × Int
def enc2 (p : P2) : PyData := pr p.1 p.2
/-- within so much of 0 -/
def Inb (b : Int) (p : P2) : Prop := -b ≤ p.1 ∧ p.1 ≤ b ∧ -b ≤ p.2 ∧ p.2 ≤ b
end DV
namespace DV
open PySem PySem.Spec PyProof.Rows L2
open LamX (ExtN TabS Tabs CodeO)
section
variable {X : Cx} {F : Fm} {e e2 : Expr} {t : TA} {d : TDA} {pos p : Pos}
def dMin2D (t : TDA) : TDE := fun ρ Q => t ρ fun rs ρ1 => match rs with
  | [.d x, .d y] => (PySem.W.AlikeAll [x, y] ∧ PyData.depthAll [x, y] ≤ 50) ∧ Q (.d (if PySem.W.dataLt y x = true then y else x)) ρ1
  | _ => False
end
end DV
namespace DV
open PySem PySem.Spec PyProof.Rows L2
open LamX (ExtN TabS Tabs CodeO)
open scoped Rat
/-- what leads from one place to the other, as it depends on both parts -/
structure Lin (l o : Lg) (ux uy vx vy mx my : Rat) : Prop where
  x : ∀ s t, gx l o s t = ux + t * vx - s * mx
  y : ∀ s t, gy l o s t = uy + t * vy - s * my
  D : ((turnI l o : Int) : Rat) = mx * vy - my * vx
  S : turnI l o ≠ 0 → inS l o * (mx * vy - my * vx) = ux * vy - uy * vx
  T : turnI l o ≠ 0 → inT l o * (mx * vy - my * vx) = ux * my - uy * mx
theorem lin (l o : Lg) : ∃ ux uy vx vy mx my, Lin l o ux uy vx vy mx my := by
  refine ⟨(o.ax : Rat) - l.ax, (o.ay : Rat) - l.ay, (o.bx : Rat) - o.ax, (o.by' : Rat) - o.ay, (l.bx : Rat) - l.ax, (l.by' : Rat) - l.ay, ?_, ?_, ?_, ?_, ?_⟩
  · intro s t; unfold gx px; simp only [Rat.intCast_sub]; grind
  · intro s t; unfold gy py; simp only [Rat.intCast_sub]; grind
  · unfold turnI; simp only [Rat.intCast_sub, Rat.intCast_mul]
  · intro h
    have h' := rat_ne h
    have e : ((turnI l o : Int) : Rat) = ((l.bx : Rat) - l.ax) * ((o.by' : Rat) - o.ay) - ((l.by' : Rat) - l.ay) * ((o.bx : Rat) - o.ax) := by unfold turnI; simp only [Rat.intCast_sub, Rat.intCast_mul]
    rw [← e]
    unfold inS
    rw [Rat.divInt_eq_div]
    simp only [Rat.intCast_sub, Rat.intCast_mul]
    grind
  · intro h
    have h' := rat_ne h
    have e : ((turnI l o : Int) : Rat) = ((l.bx : Rat) - l.ax) * ((o.by' : Rat) - o.ay) - ((l.by' : Rat) - l.ay) * ((o.bx : Rat) - o.ax) := by unfold turnI; simp only [Rat.intCast_sub, Rat.intCast_mul]
    rw [← e]
    unfold inT
    rw [Rat.divInt_eq_div]
    simp only [Rat.intCast_sub, Rat.intCast_mul]
    grind
end DV
namespace DV
open PySem PySem.Spec PyProof.Rows L2
open LamX (ExtN TabS Tabs CodeO)
open scoped Rat
end DV
namespace DV
open PySem PySem.Spec PyProof.Rows L2
open LamX (ExtN TabS Tabs CodeO)
open scoped Rat
end DV
namespace DV
open PySem PySem.Spec PyProof.Rows L2
open LamX (ExtN TabS Tabs CodeO)
open scoped Rat
end DV
namespace DV
open PySem PySem.Spec PyProof.Rows L2
open LamX (ExtN TabS Tabs CodeO)
open scoped Rat
def crI (p q : P2) : Int := p.1 * q.2 - p.2 * q.1
def sideOk (p q : P2) (least : Int) : Prop :=
  let x := q.1 - p.1
  let y := q.2 - p.2
  let along := -(p.1 * x + p.2 * y)
  if along ≤ 0 then least ≤ p.1 * p.1 + p.2 * p.2 else if x * x + y * y ≤ along then least ≤ q.1 * q.1 + q.2 * q.2 else least * (x * x + y * y) ≤ crI p q * crI p q
instance (p q : P2) (least : Int) : Decidable (sideOk p q least) := by unfold sideOk; infer_instance
end DV
namespace DV
open PySem PySem.Spec PyProof.Rows L2
open LamX (ExtN TabS Tabs CodeO)
open scoped Rat
end DV
namespace DV
open PySem PySem.Spec PyProof.Rows L2
open LamX (ExtN TabS Tabs CodeO)
open scoped Rat
def Bd2 (k : Nat) (p : P2) : Prop := Bd k p.1 ∧ Bd k p.2
theorem Bd2.up {j k : Nat} {p : P2} (h : Bd2 j p) (z : j ≤ k) : Bd2 k p := ⟨h.1.up z, h.2.up z⟩
theorem on_nat {xs : List PyData} {n : Nat} {x : PyData} {f : PyData → Prop} (h : xs[n]? = some x) : onAt xs (n : Int) f = f x := by
  have hl := (List.getElem?_eq_some_iff.mp h).1
  unfold onAt
  have : atI xs (n : Int) = some x := by
    unfold atI ixN
    rw [if_pos (by omega), if_pos (by omega)]
    exact h
  rw [this]
theorem on4 {a b c d x : PyData} {xs : List PyData} {f : PyData → Prop} : onAt (a :: b :: c :: d :: x :: xs) 4 f = f x := on_nat (n := 4) rfl
theorem on5 {a b c d e x : PyData} {xs : List PyData} {f : PyData → Prop} : onAt (a :: b :: c :: d :: e :: x :: xs) 5 f = f x := on_nat (n := 5) rfl
end DV
namespace DV
open PySem PySem.Spec PyProof.Rows L2
open LamX (ExtN TabS Tabs CodeO)
open scoped Rat
def lexI (p q : P2) : Prop := p.1 < q.1 ∨ (p.1 = q.1 ∧ p.2 < q.2)
instance (p q : P2) : Decidable (lexI p q) := by unfold lexI; infer_instance
theorem cmp_neg {p q : Rat} : cmpR p q < 0 ↔ p < q := by
  unfold cmpR
  by_cases h : p < q
  · rw [if_pos h]; exact ⟨fun _ => h, fun _ => by decide⟩
  · rw [if_neg h]
    by_cases h2 : q < p
    · rw [if_pos h2]; exact ⟨fun z => absurd z (by decide), fun z => absurd z h⟩
    · rw [if_neg h2]; exact ⟨fun z => absurd z (by decide), fun z => absurd z h⟩
end DV
namespace DV
open PySem PySem.Spec PyProof.Rows L2
open LamX (ExtN TabS Tabs CodeO)
open scoped Rat
theorem lb_up {j k : Nat} {l : Lg} (h : LB j l) (z : j ≤ k := by decide) : LB k l := ⟨h.ax.up z, h.ay.up z, h.bx.up z, h.by'.up z⟩
instance {l : Lg} : Coe (LB 20 l) (LB 110 l) := ⟨fun h => lb_up h⟩
instance {q : Rat} : Coe (Sz 20 q) (Sz 100 q) := ⟨fun h => h.up (by decide)⟩
end DV
namespace DV
open PySem PySem.Spec PyProof.Rows L2
open LamX (ExtN TabS Tabs CodeO)
open scoped Rat
inductive Paper
  | near (p q : Rat)
  | away (a b : Int)
/-- how far a corner lies in a direction -/
def far (l o : Lg) (a b : Int) (c : Cn) : Rat := (a : Rat) * gx l o c.1 c.2 + (b : Rat) * gy l o c.1 c.2
def farOk (l o : Lg) (r : Int) (a b : Int) (c : Cn) : Prop := 0 < far l o a b c ∧ ((r * r * (a * a + b * b) : Int) : Rat) ≤ far l o a b c * far l o a b c
instance (l o : Lg) (r a b : Int) (c : Cn) : Decidable (farOk l o r a b c) := by unfold farOk; infer_instance
def paperOk (l o : Lg) (rho : Rat) (r : Int) : Paper → Prop
  | .near p q => gsq l o p q < ((r * r : Int) : Rat) ∧ within p q rho
  | .away a b => ¬ (a = 0 ∧ b = 0) ∧ ∀ c ∈ crn rho, farOk l o r a b c
instance (l o : Lg) (rho : Rat) (r : Int) (w : Paper) : Decidable (paperOk l o rho r w) := by
  cases w <;> unfold paperOk <;> infer_instance
end DV
namespace DV
open PySem PySem.Spec PyProof.Rows L2
open LamX (ExtN TabS Tabs CodeO)
open scoped Rat
section
variable {X : Cx} {F : Fm} {a b c e : Expr} {es : List Expr} {ta tb tc te : TE} {da db dc de : TDE} {pos : Pos}
def fIsB : F2
  | .bool a, .bool b, Q => Q (.bool (decide (a = b)))
  | _, _, _ => False
def fNotB : F2
  | .bool a, .bool b, Q => Q (.bool (!decide (a = b)))
  | _, _, _ => False
variable {k : Bool} {j : Nat} {p2 : Pos}
end
end DV
namespace DV
open PySem PySem.Spec PyProof.Rows L2
open LamX (ExtN TabS Tabs CodeO)
open scoped Rat
section
variable {X : Cx} {F : Fm} {st : Stmt} {ts : TS} {ds : TDS}
def dFgt (i : Nat) (t : TDS) : TDS := fun DD ρ => t DD (ρ.set i none)
theorem ds_fgt {i : Nat} (h : PDS X F st ts ds) (hf : ¬ F.fix i) : PDS X F st ts (dFgt i ds) := by
  refine ⟨h.ps, fun pins ρ σ H D DD O S R k => ?_⟩
  have O2 := O.wipe (vs := [i]) (fun j hj => by rw [List.mem_singleton.mp hj]; exact S.fr hf)
  have O3 : Ok F pins (wipeR ρ [i]) σ H := Ok.unwipe (vs := [i]) O2 fun j hj => by
    rw [List.mem_singleton.mp hj]
    by_cases hl : i < ρ.length
    · exact .inl (wipeR_none (List.mem_singleton.mpr rfl) hl)
    · exact .inr (List.getElem?_eq_none (by rw [wipeR_len]; omega))
  exact h.ds pins _ σ H D DD O3 S R k
end
end DV
namespace DV
open PySem PySem.Spec PyProof.Rows L2
open LamX (ExtN TabS Tabs CodeO)
structure Zp where
  z : Addr
  TI : Addr
  TO : Addr
  i1 : Addr
  i2 : Addr
  l1 : Addr
  l2 : Addr
  xs : Array Value
  ys : Array Value
def Zp.n (p : Zp) : Nat := min p.xs.size p.ys.size
structure Zp.St (p : Zp) (b : Nat) (i : Nat) (h : Heap) : Prop where
  ti : PySem.IsPair h p.TI (Value.ref p.i1) (Value.ref p.i2)
  a1 : h.IsListIter p.i1 p.l1 i
  a2 : h.IsListIter p.i2 p.l2 i
  m1 : h.IsList p.l1 p.xs
  m2 : h.IsList p.l2 p.ys
  zip : (PySem.IsZip h p.z p.TI p.TO .none ∧ ∃ a c, PySem.IsPair h p.TO a c) ∨ ∃ T f oT, PySem.IsZipHeld h p.z p.TI p.TO T f ∧ h.get? T = some oT ∧ b ≤ (T : Nat)
structure Zp.Ps (p : Zp) (b : Nat) (i : Nat) (acc : Array Value) (h : Heap) : Prop where
  sz : acc.size = i
  at' : ∀ j : Nat, j < i → ∃ T x y, acc[j]? = some (Value.ref T) ∧ p.xs[j]? = some x ∧ p.ys[j]? = some y ∧ PySem.IsPair h T x y ∧ b ≤ (T : Nat)
  inc : ∀ (j k : Nat) (T U : Addr), j < k → acc[j]? = some (Value.ref T) → acc[k]? = some (Value.ref U) → (T : Nat) < (U : Nat)
end DV
namespace DV
open PySem PySem.Spec PyProof.Rows L2
open LamX (ExtN TabS Tabs CodeO)
section
variable {prog : Program} {w : World} {A : Around} {E : Value → Shared → Prop} {s : Shared}
structure Zp.In (p : Zp) (h : Heap) : Prop where
  D : ZipApart p.z p.TI p.TO p.i1 p.i2 p.l1 p.l2
  n : p.n ≤ 2 ^ 24
  z : PySem.IsZip h p.z p.TI p.TO .none
  TI : PySem.IsPair h p.TI (Value.ref p.i1) (Value.ref p.i2)
  TO : ∃ a c, PySem.IsPair h p.TO a c
  i1 : h.IsListIter p.i1 p.l1 0
  i2 : h.IsListIter p.i2 p.l2 0
  l1 : h.IsList p.l1 p.xs
  l2 : h.IsList p.l2 p.ys
end
def refOf : Value → Addr
  | .ref T => T
  | _ => 0
theorem Zp.Ps.list {p : Zp} {b n : Nat} {acc : Array Value} {h : Heap} (s : p.Ps b n acc h) : ∃ Ts : List Addr, acc.toList = Ts.map Value.ref ∧ Ts.length = n ∧ Ts.Nodup ∧ ∀ (j : Nat) (T : Addr), Ts[j]? = some T → ∃ x y, p.xs[j]? = some x ∧ p.ys[j]? = some y ∧ PySem.IsPair h T x y ∧ b ≤ (T : Nat) := by
  have hl : acc.toList.length = n := by rw [Array.length_toList]; exact s.sz
  have at2 : ∀ j : Nat, j < n → ∃ T x y, acc.toList[j]? = some (Value.ref T) ∧ p.xs[j]? = some x ∧ p.ys[j]? = some y ∧ PySem.IsPair h T x y ∧ b ≤ (T : Nat) := fun j hj => by
    obtain ⟨T, x, y, e1, r⟩ := s.at' j hj
    exact ⟨T, x, y, by rw [Array.getElem?_toList]; exact e1, r⟩
  refine ⟨acc.toList.map refOf, ?_, by rw [List.length_map, hl], ?_, fun j T hT => ?_⟩
  · rw [List.map_map]
    refine List.ext_getElem? fun j => ?_
    rw [List.getElem?_map]
    by_cases hj : j < n
    · obtain ⟨T, x, y, e, _⟩ := at2 j hj
      rw [e]; rfl
    · rw [List.getElem?_eq_none (by omega)]; rfl
  · refine List.nodup_iff_pairwise_ne.mpr (List.pairwise_iff_getElem.mpr fun j k hj hk hjk => ?_)
    rw [List.length_map] at hj hk
    obtain ⟨T, _, _, e, _⟩ := at2 j (by omega)
    obtain ⟨U, _, _, e', _⟩ := at2 k (by omega)
    have := s.inc j k T U hjk (by rw [← Array.getElem?_toList]; exact e) (by rw [← Array.getElem?_toList]; exact e')
    rw [List.getElem_map, List.getElem_map]
    rw [List.getElem?_eq_getElem hj] at e
    rw [List.getElem?_eq_getElem hk] at e'
    rw [Option.some.inj e, Option.some.inj e']
    exact Nat.ne_of_lt this
  · rw [List.getElem?_map] at hT
    by_cases hj : j < n
    · obtain ⟨T', x, y, e, r⟩ := at2 j hj
      rw [e] at hT
      cases hT
      exact ⟨x, y, r⟩
    · rw [List.getElem?_eq_none (by omega)] at hT; cases hT
end DV
namespace DV
open PySem PySem.Spec PyProof.Rows L2
open LamX (ExtN TabS Tabs CodeO)
section
variable {X : Cx} {F : Fm} {e e2 : Expr} {t : TA} {d : TDA} {p p2 pos pos2 : Pos}
def dTupZip (t : TDA) : TDE := fun ρ Q => t ρ fun rs ρ1 => match rs with
  | [r, s] => match seqs ρ1 r, seqs ρ1 s with
    | some (false, xs), some (false, ys) => Q (.d (.tuple (zipD xs ys))) ρ1
    | _, _ => False
  | _ => False
end
end DV
namespace DV
open PySem PySem.Spec PyProof.Rows L2
open LamX (ExtN TabS Tabs CodeO)
section
variable {X : Cx} {F : Fm} {k : Expr} {tk : TE} {dk : TDE} {i : Nat} {x : Str} {vpos spos : Pos}
def dgSet (i : Nat) (tk : TDE) : TDGt := fun r ρ P => onDat r fun y => onOwn ρ i fun _ => tk ρ fun s ρ2 => onV ρ2 s fun k => onOwn ρ2 i fun xs => match k with
  | .int k => (0 ≤ k ∧ k < xs.length) ∧ P (ρ2.set i (some (.own (xs.set k.toNat y))))
  | _ => False
end
end DV
namespace DV
open PySem PySem.Spec PyProof.Rows L2
open LamX (ExtN TabS Tabs CodeO)
section
variable {X : Cx} {F : Fm} {o e : Expr} {to : TE} {dl : TDL} {t : TA} {d : TDA} {apos cpos : Pos}
def dAppX (dl : TDL) (d : TDA) : TDE := fun ρ Q => dl ρ fun xs ρ1 => d ρ1 fun rs ρ2 => match rs with
  | [.d y] => Few (xs.length + 1) ∧ Q (.d .none) ρ2
  | _ => False
end
end DV
namespace DV
open PySem PySem.Spec PyProof.Rows L2
open LamX (ExtN TabS Tabs CodeO)
section
variable {g g1 : TDGt} {tt tt1 : TDT} {te : TDE} {wi1 : TDI} {vs vs1 : List Nat} {Q : List PyData → Rho → Prop} {ρ : Rho}
def lc2In (g : TDGt) (tt : TDT) (wi1 : TDI) (g1 : TDGt) (tt1 : TDT) (te : TDE) (vs vs1 : List Nat) (Q : List PyData → Rho → Prop) (xs : List PyData) (ρ1 : Rho) : Prop := (∀ i ∈ vs, ρ1[i]? = some none) ∧ ∃ I : Nat → List PyData → Rho → Prop, I 0 [] ρ1 ∧
  (∀ i x acc ρ, xs[i]? = some x → I i acc ρ → g (.d x) ρ fun ρ2 => tt ρ2 fun k ρ3 => if k = true then wi1 ρ3 fun ys ρ4 => (∀ i ∈ vs1, ρ4[i]? = some none) ∧ ∃ J : Nat → List PyData → Rho → Prop, J 0 acc ρ4 ∧
      (∀ j y acc ρ, ys[j]? = some y → J j acc ρ → g1 (.d y) ρ fun ρ5 => tt1 ρ5 fun k ρ6 => if k = true then te ρ6 fun r ρ7 => onDat r fun z => Few (acc.length + 1) ∧ J (j + 1) (acc ++ [z]) (wipeR ρ7 vs1) else J (j + 1) acc (wipeR ρ6 vs1)) ∧
      ∀ acc ρ, J ys.length acc ρ → I (i + 1) acc (wipeR ρ vs)
    else I (i + 1) acc (wipeR ρ3 vs)) ∧
  ∀ acc ρ, I xs.length acc ρ → Q acc (wipeR ρ vs)
theorem dLc2_eq {wi : TDI} : dLc2 wi g tt wi1 g1 tt1 te vs vs1 = fun ρ Q => wi ρ fun xs ρ1 => lc2In g tt wi1 g1 tt1 te vs vs1 Q xs ρ1 := rfl
end
theorem enumD_map {α : Type} (as : List α) (enc : α → PyData) : enumD (as.map enc) = as.zipIdx.map fun p => PyData.tuple [.int (p.2 : Int), enc p.1] := by
  apply List.ext_getElem?
  intro n
  cases h : as[n]? with
  | none =>
    have hl := List.getElem?_eq_none_iff.mp h
    rw [List.getElem?_eq_none (by rw [enumD_len, List.length_map]; exact hl), List.getElem?_eq_none (by rw [List.length_map, List.length_zipIdx]; exact hl)]
  | some a =>
    rw [enumD_at (x := enc a) (by rw [List.getElem?_map, h]; rfl), List.getElem?_map, List.getElem?_zipIdx, h]
    simp
theorem rng_zero {n : Nat} : rng 0 n = (List.range n).map fun k : Nat => PyData.int (k : Int) := by rw [rng_map]; simp
theorem perm_of_map {α : Type} {f : α → PyData} {zs ws : List PyData} (h : zs.Perm ws) : ∀ {ys : List α}, ws = ys.map f → ∃ ts : List α, zs = ts.map f ∧ ts.Perm ys := by
  induction h with
  | nil => intro ys e; cases ys with
    | nil => exact ⟨[], rfl, .nil⟩
    | cons y ys => cases e
  | cons x p ih => intro ys e; cases ys with
    | nil => cases e
    | cons y ys =>
      simp only [List.map_cons, List.cons.injEq] at e
      obtain ⟨ts, e1, p1⟩ := ih e.2
      exact ⟨y :: ts, by rw [e1, e.1]; rfl, p1.cons y⟩
  | swap x y l => intro ys e; cases ys with
    | nil => cases e
    | cons a ys => cases ys with
      | nil => cases e
      | cons b ys =>
        simp only [List.map_cons, List.cons.injEq] at e
        obtain ⟨e1, e2, rfl⟩ := e
        exact ⟨b :: a :: ys, by rw [e1, e2]; rfl, .swap a b ys⟩
  | trans p q ih1 ih2 => intro ys e
                         obtain ⟨ts, e1, p1⟩ := ih2 e
                         obtain ⟨us, e2, p2⟩ := ih1 e1
                         exact ⟨us, e2, p2.trans p1⟩
def seqD (b : Bool) (xs : List PyData) : PyData := if b = true then .tuple xs else .list xs
theorem on_map {α : Type} {xs : List α} {g : α → PyData} {n : Nat} {x : α} {f : PyData → Prop} {k : Int} (h : xs[n]? = some x) (hk : k = (n : Int)) : onAt (xs.map g) k f = f (g x) := by
  rw [hk]
  exact on_nat (by rw [List.getElem?_map, h]; rfl)
end DV
namespace DV
open PySem PySem.Spec PyProof.Rows L2
open LamX (ExtN TabS Tabs CodeO)
section
variable {X : Cx} {F : Fm} {a b : Expr} {ta tb : TE} {da db : TDE} {pos : Pos}
def fNeS : F2
  | .str x, .str y, Q => Q (.bool (!decide (x = y)))
  | _, _, _ => False
theorem so_NeS {K : PySem.W.Frag} : SO K rNe fNeS := by
  constructor
  · intro H x y dx dy Q h1 h2 q
    cases dx <;> cases dy <;> first | exact q.elim | skip
    cases h1; cases h2
    refine ⟨rfl, q _ ?_⟩
    rw [dec_str, ← Bool.beq_eq_decide_eq]
    exact .bool
  · intro x y Q Q' hq q
    cases x <;> cases y <;> first | exact q.elim | skip
    exact hq _ q
theorem pt_neS (ha : PD X F a ta da) (hb : PD X F b tb db) : PDT X F (.Compare a [.NotEq] [b] pos) (tTest (tOp rNe ta tb)) (dTV (dOp fNeS da db)) := pt_cmpD op_ne (nomark _) so_NeS ha hb
def dRepL (ta tb : TDE) : TDL := fun ρ Q => ta ρ fun r ρ1 => tb ρ1 fun s ρ2 => onM ρ2 r fun xs => onInt ρ2 s fun k => (-(2 ^ 62) ≤ k ∧ k < 2 ^ 62 ∧ Few (xs.length * k.toNat)) ∧ Q (repD k xs) ρ2
theorem pl_repL (ha : PD X F a ta da) (hb : PD X F b tb db) : PDL X F (.BinOp a .Mult b pos) (tOp rRep ta tb) (dRepL da db) := by
  refine ⟨pe_op op_rep ha.pe hb.pe, fun pins ρ σ H Q O h => ?_, fun ρ Q Q' hq h => ha.de.mono _ _ _ (fun r ρ1 h1 => hb.de.mono _ _ _ (fun s ρ2 h2 => onM_mono h2 fun xs h3 => onInt_mono h3 fun ys h4 => ⟨h4.1, hq _ _ h4.2⟩) h1) h⟩
  refine ha.de.run pins ρ σ H _ O (ha.de.mono _ _ _ (fun r ρ1 h1 x H1 O1 R1 => ?_) h)
  refine hb.de.run (.val x r :: pins) ρ1 σ H1 _ (O1.push R1) (hb.de.mono _ _ _ (fun s ρ2 h2 y H2 O2 R2 => ?_) h1)
  obtain ⟨O3, R3⟩ := O2.popV
  obtain ⟨xs, e1, h3⟩ := onM_of h2
  obtain ⟨k, e2, ⟨k1, k2, k3⟩, q⟩ := onInt_of h3
  obtain ⟨p, vs, rfl, g1, i1⟩ := mitems_ok O3 R3 e1
  cases dp_int (val_dp O3 R2 e2)
  refine ⟨p, k, vs, rfl, rfl, g1, by omega, by omega, by rw [i1.length]; exact k3, fun p' hp => q p' _ (O3.pushL hp (i1.rep k.toNat))⟩
end
end DV
namespace DV
open PySem PySem.Spec PyProof.Rows L2
open LamX (ExtN TabS Tabs CodeO)
open scoped Rat
structure Bn where
  sp : Int
  near : Int
  wind : Int
  clk : Int
  fall : Int
  way : Int
  sil : Int
  cuts : Int
  deep : Int
def eB (b : Bn) : PyData := .tuple [.int b.sp, .int b.near, .int b.wind, .int b.clk, .int b.fall, .int b.way, .int b.sil, .int b.cuts, .int b.deep]
def Bn.r (b : Bn) : Int := b.near + 2 * b.wind
def Bn.lag (b : Bn) : Int := b.fall + 2 * b.clk
/-- so large at most -/
structure BnB (k : Nat) (b : Bn) : Prop where
  sp : Bd k b.sp
  near : Bd k b.near
  wind : Bd k b.wind
  clk : Bd k b.clk
  fall : Bd k b.fall
  way : Bd k b.way
theorem BnB.r {k : Nat} {b : Bn} (h : BnB k b) : Bd (k + 3) b.r := (h.near.up (show k ≤ k + 2 by omega)).add1 (((show Bd 2 2 by unfold Bd; decide).mul h.wind).up (by omega))
theorem BnB.lag {k : Nat} {b : Bn} (h : BnB k b) : Bd (k + 3) b.lag := (h.fall.up (show k ≤ k + 2 by omega)).add1 (((show Bd 2 2 by unfold Bd; decide).mul h.clk).up (by omega))
structure BnOk (b : Bn) : Prop where
  sp0 : 1 ≤ b.sp
  sp1 : b.sp ≤ 100
  near0 : 1 ≤ b.near
  near1 : b.near ≤ 100
  wind0 : 0 ≤ b.wind
  wind1 : b.wind ≤ 20
  clk0 : 0 ≤ b.clk
  clk1 : b.clk ≤ 5
  fall0 : 0 ≤ b.fall
  fall1 : b.fall ≤ 20
  way0 : b.sp ≤ b.way
  way1 : b.way ≤ 700
  sil0 : 1 ≤ b.sil
  sil1 : b.sil ≤ 3
  cuts0 : 0 ≤ b.cuts
  cuts1 : b.cuts ≤ 2
  deep0 : 1 ≤ b.deep
  deep1 : b.deep ≤ 6
theorem BnOk.bd {b : Bn} (h : BnOk b) : BnB 10 b := by
  obtain ⟨h1, h2, h3, h4, h5, h6, h7, h8, h9, h10, h11, h12, _⟩ := h
  exact ⟨bd_of 700 (by omega) (by omega), bd_of 700 (by omega) (by omega), bd_of 700 (by omega) (by omega), bd_of 700 (by omega) (by omega), bd_of 700 (by omega) (by omega), bd_of 700 (by omega) (by omega)⟩
theorem BnOk.r0 {b : Bn} (h : BnOk b) : 1 ≤ b.r ∧ b.r ≤ 140 := by have := h.near0; have := h.near1; have := h.wind0; have := h.wind1; unfold Bn.r; omega
theorem BnOk.lag0 {b : Bn} (h : BnOk b) : 0 ≤ b.lag ∧ b.lag ≤ 30 := by have := h.clk0; have := h.clk1; have := h.fall0; have := h.fall1; unfold Bn.lag; omega
def rhoT (b : Bn) (t : Int) : Rat := b.lag /. t
theorem rd_some_r {bag xs : List PyData} {Q : PyData → List PyData → Prop} (hS : S_some bag xs Q) :
    dRet (dIx (dVar 1) (dCallB [Kd.d] S_take (dCons (dVar 0) (dCons (dCB fLen (dCons (dVar 1) dNil)) dNil)))) { nx := fun ρ => retB (.d .none) ρ Q, rt := fun r ρ => retB r ρ Q } (some (.own bag) :: rhoP 1 [.ro] xs) := by
  obtain ⟨m, ys, hb, hm, hx, h0, h1, q⟩ := hS
  have key : ∀ n : Int, n = (ys.length : Nat) → S_take bag [.int n] fun z bag' => ∃ v : Int, z = .int v ∧ 0 ≤ v ∧ v < ys.length ∧ Bag (m + 1) bag' := fun n hn =>
    ⟨m, n, hb, hm, rfl, by omega, Nat.lt_of_lt_of_le (by omega : n.natAbs < 2 ^ 17) (Nat.pow_le_pow_right (by decide) (by decide)), fun v bag' a1 a2 a3 => ⟨v, rfl, a1, by omega, a3⟩⟩
  rcases hx with rfl | rfl
  · have e : (some (.own bag) :: rhoP 1 [.ro] [.list ys] : Rho) = [some (.own bag), some (.ro (.list ys))] := rfl
    rw [e]
    simp only [dSeq, dAsg, dCB, dCons, dNil, dVar, onVs, vals, val, slot, setR, fGcd, dIfS, dTV, dOp, dBin, onV2, fLt, fLe, fGt, fGe, fAdd, fSub, fMul, fDiv, fMod, fI0, dC, dUn, onV, fNeg, dNext, dRet, dTup, onD, dats, fDivZ, fI, fPow, Few, retP, fAbs, fInt, fMax, fMin, fLen, fSqrt, fEq, fNe, dNot, dAnd, dOr, dAndV, dOrV, dNotV, dIfE, dDrop, dRetN, dPar, noO, dSetL, dLst, dOfL, dOwnM, onOwn, onDat, kAppend, kInsert, dSetItem, dAddItem, dIx, onItems, items, onInt, dNoPart, dPart, dSlice, onL, litems, dSlL, dCat, onM, mitems, dTupOf, dSeqI, dRng1, dRng2, dCallP, dCallB, dCallF, noSelf, onArgs, dats2, dIsi, tyName, dYes, dgTup, dgCons, dgNil, retB, dBreak, dCont, ne_eq, not_false_eq_true, true_and, and_true, List.getElem?_cons_zero, List.getElem?_cons_succ, List.set_cons_zero, List.set_cons_succ, Option.map, List.length_cons, List.length_nil, dLc_eq, dLc2_eq, dFor_eq, dSortSet, dSort, dListOf, dIsN, dNotN, isNo, dAug, dCatT, dSlT, onT, titems, dEnum, dZip, seqs, dRetL, dPar3, dRevT, dLstRg, dTupRg, dRg1, dRg2, dChainLe, List.nil_append, List.cons_append, if_true, if_false, dFrz, dLcO, dMin2D, dAppX, dRepL, fNeS, fEqS, dgSet, dTupZip, dFgt, fIsB, fNotB, List.map_cons, List.map_nil, fw0, fw1, fw2, fw3, fw4, fw5, fw6, fw7, fw8, fw9, fw10, fw11, fw12, fw13, fw14, fw15]
    refine m_take _ _ _ _ (fun z bag' h => ?_) (key _ rfl)
    obtain ⟨v, rfl, a1, a2, a3⟩ := h
    exact onAt_mem a1 a2 fun y hy => q y bag' hy a3
  · have e : (some (.own bag) :: rhoP 1 [.ro] [.tuple ys] : Rho) = [some (.own bag), some (.ro (.tuple ys))] := rfl
    rw [e]
    simp only [dSeq, dAsg, dCB, dCons, dNil, dVar, onVs, vals, val, slot, setR, fGcd, dIfS, dTV, dOp, dBin, onV2, fLt, fLe, fGt, fGe, fAdd, fSub, fMul, fDiv, fMod, fI0, dC, dUn, onV, fNeg, dNext, dRet, dTup, onD, dats, fDivZ, fI, fPow, Few, retP, fAbs, fInt, fMax, fMin, fLen, fSqrt, fEq, fNe, dNot, dAnd, dOr, dAndV, dOrV, dNotV, dIfE, dDrop, dRetN, dPar, noO, dSetL, dLst, dOfL, dOwnM, onOwn, onDat, kAppend, kInsert, dSetItem, dAddItem, dIx, onItems, items, onInt, dNoPart, dPart, dSlice, onL, litems, dSlL, dCat, onM, mitems, dTupOf, dSeqI, dRng1, dRng2, dCallP, dCallB, dCallF, noSelf, onArgs, dats2, dIsi, tyName, dYes, dgTup, dgCons, dgNil, retB, dBreak, dCont, ne_eq, not_false_eq_true, true_and, and_true, List.getElem?_cons_zero, List.getElem?_cons_succ, List.set_cons_zero, List.set_cons_succ, Option.map, List.length_cons, List.length_nil, dLc_eq, dLc2_eq, dFor_eq, dSortSet, dSort, dListOf, dIsN, dNotN, isNo, dAug, dCatT, dSlT, onT, titems, dEnum, dZip, seqs, dRetL, dPar3, dRevT, dLstRg, dTupRg, dRg1, dRg2, dChainLe, List.nil_append, List.cons_append, if_true, if_false, dFrz, dLcO, dMin2D, dAppX, dRepL, fNeS, fEqS, dgSet, dTupZip, dFgt, fIsB, fNotB, List.map_cons, List.map_nil, fw0, fw1, fw2, fw3, fw4, fw5, fw6, fw7, fw8, fw9, fw10, fw11, fw12, fw13, fw14, fw15]
    refine m_take _ _ _ _ (fun z bag' h => ?_) (key _ rfl)
    obtain ⟨v, rfl, a1, a2, a3⟩ := h
    exact onAt_mem a1 a2 fun y hy => q y bag' hy a3
abbrev NR := Rat × Int × Int × Rat × Rat
def eN : Option NR → PyData
  | none => .none
  | some r => .tuple [fr r.1, .int r.2.1, .int r.2.2.1, fr r.2.2.2.1, fr r.2.2.2.2]
def pc (ls : List Lg) (rho : Rat) (i j : Nat) : Option NR := match ls[i]?, ls[j]? with
  | some l, some o => some ((nearL l o rho).1, (i : Int), (j : Int), (nearL l o rho).2.1, (nearL l o rho).2.2)
  | _, _ => none
def apartAll (ls : List Lg) (rho : Rat) (r : Int) : Prop := ∀ (i j : Nat) (l o : Lg), i < j → ls[i]? = some l → ls[j]? = some o → ((r * r : Int) : Rat) ≤ (nearL l o rho).1
noncomputable instance {ls : List Lg} {rho : Rat} {r : Int} : Decidable (apartAll ls rho r) := Classical.propDecidable _
theorem cut_drop {xs : List PyData} {c : Int} (h : 0 ≤ c) : DV.cutD xs (some c) none = xs.drop c.toNat := by
  unfold DV.cutD HT.sIx
  simp only
  rw [if_neg (by omega)]
  apply List.ext_getElem?
  intro n
  simp only [List.getElem?_take, List.getElem?_drop]
  by_cases hn : c.toNat + n < xs.length
  · rw [if_pos (by omega)]
    congr 1
    omega
  · rw [List.getElem?_eq_none (by omega)]
    rw [List.getElem?_eq_none (by omega)]
    split <;> rfl
end DV
namespace DV
open PySem PySem.Spec PyProof.Rows L2
open LamX (ExtN TabS Tabs CodeO)
open scoped Rat
def d2 (a b : P2) : Int := (a.1 - b.1) * (a.1 - b.1) + (a.2 - b.2) * (a.2 - b.2)
theorem d2_comm (a b : P2) : d2 a b = d2 b a := by unfold d2; grind
def SpP (sp : Int) (cs : List P2) : Prop := cs.Pairwise fun a b => sp * sp ≤ d2 a b
theorem SpP.perm {sp : Int} {cs ds : List P2} (h : SpP sp cs) (p : cs.Perm ds) : SpP sp ds := (p.pairwise_iff (fun {a b} h => by rw [d2_comm]; exact h)).mp h
theorem SpP.take {sp : Int} {cs : List P2} (h : SpP sp cs) (n : Nat) : SpP sp (cs.take n) := h.sublist (List.take_sublist n cs)
theorem SpP.snoc {sp : Int} {cs : List P2} {c : P2} (h : SpP sp cs) (k : ∀ a ∈ cs, sp * sp ≤ d2 a c) : SpP sp (cs ++ [c]) := by
  unfold SpP
  rw [List.pairwise_append]
  refine ⟨h, List.pairwise_singleton .., fun a ha b hb => ?_⟩
  rw [List.mem_singleton.mp hb]
  exact k a ha
theorem SpP.at {sp : Int} {cs : List P2} (h : SpP sp cs) {i j : Nat} {a b : P2} (hij : i < j) (ha : cs[i]? = some a) (hb : cs[j]? = some b) : sp * sp ≤ d2 a b := by
  obtain ⟨hi, rfl⟩ := List.getElem?_eq_some_iff.mp ha
  obtain ⟨hj, rfl⟩ := List.getElem?_eq_some_iff.mp hb
  exact (List.pairwise_iff_getElem.mp h) i j hi hj hij
end DV
namespace DV
open PySem PySem.Spec PyProof.Rows L2
open LamX (ExtN TabS Tabs CodeO)
section
variable {F : Fm} {ρ : Rho} {σ : L2.St} {H : Hp}
theorem accs_perm {a : Addr} {ps qs : List Pin} (h : ps.Perm qs) : a ∈ accs ps ↔ a ∈ accs qs := by
  rw [mem_accs, mem_accs]
  exact ⟨fun ⟨xs, z⟩ => ⟨xs, h.mem_iff.mp z⟩, fun ⟨xs, z⟩ => ⟨xs, h.mem_iff.mpr z⟩⟩
theorem Ok.swap {p q : Pin} {pins : List Pin} (O : Ok F (p :: q :: pins) ρ σ H) : Ok F (q :: p :: pins) ρ σ H := by
  have hp : (p :: q :: pins).Perm (q :: p :: pins) := .swap ..
  have e : Av F (q :: p :: pins) ρ σ = Av F (p :: q :: pins) ρ σ := by
    funext a
    unfold Av
    rw [accs_perm hp]
  refine ⟨O.len, by rw [e]; exact O.ent, O.own, fun r hr => by rw [e]; exact O.pin r (hp.mem_iff.mpr hr), ?_, O.fr, O.nh, O.ln, O.h0, O.lf, O.tb⟩
  have := O.acs
  cases p <;> cases q <;> simp only [accs] at this ⊢ <;> try exact this
  simp only [List.nodup_cons, List.mem_cons, not_or] at this ⊢
  exact ⟨⟨fun z => this.1.1 z.symm, this.2.1⟩, this.1.2, this.2.2⟩
end
section
variable {X : Cx} {F : Fm} {a b : Expr} {ta tb : TE} {da db : TDE} {dl dm : TDL} {pos : Pos}
def dParL (i j : Nat) (tl : TDL) (te : TDE) : TDS := fun DD ρ => tl ρ fun xs ρ1 => te ρ1 fun r ρ2 => onDat r fun y => DD.nx ((ρ2.set i (some (.own xs))).set j (some (.d y)))
/-- both -/
def dParLL (i j : Nat) (tl tm : TDL) : TDS := fun DD ρ => tl ρ fun xs ρ1 => tm ρ1 fun ys ρ2 => DD.nx ((ρ2.set i (some (.own xs))).set j (some (.own ys)))
end
end DV
namespace DV
open PySem PySem.Spec PyProof.Rows L2
open LamX (ExtN TabS Tabs CodeO)
open scoped Rat
def flw (b : Bn) : Int := b.lag * b.lag * (2 * b.way * b.way - b.sp * b.sp)
def lft (b : Bn) (t : Int) : Int := t * t * (b.sp * b.sp - 2 * b.r * b.r) - flw b
def enough (b : Bn) (t : Int) : Prop := 0 ≤ lft b t ∧ 8 * b.r * b.r * t * t * flw b ≤ lft b t * lft b t
instance {b : Bn} {t : Int} : Decidable (enough b t) := by unfold enough; infer_instance
theorem isq_nn (x : Int) : 0 ≤ x * x := by
  rcases Int.le_total 0 x with h | h
  · exact Int.mul_nonneg h h
  · exact Int.mul_nonneg_of_nonpos_of_nonpos h h
theorem sq_le {x y : Int} (h0 : 0 ≤ x) (h : x ≤ y) : x * x ≤ y * y := Int.mul_le_mul h h h0 (by omega)
theorem enough_alg {a c f : Int} (hc : 0 < c) (hf : 0 ≤ f) : (0 ≤ a - c - f ∧ 4 * (c * f) ≤ (a - c - f) * (a - c - f)) ↔ (c ≤ a ∧ 0 ≤ a + c - f ∧ 4 * (a * c) ≤ (a + c - f) * (a + c - f)) := by
  have id1 : (a - c - f) * (a - c - f) - 4 * (c * f) = (a + c - f) * (a + c - f) - 4 * (a * c) := by grind
  constructor
  · rintro ⟨h1, h2⟩
    exact ⟨by omega, by omega, by omega⟩
  · rintro ⟨h1, h2, h3⟩
    have h4 : 4 * (c * f) ≤ (a - c - f) * (a - c - f) := by omega
    refine ⟨?_, h4⟩
    by_cases h : a - c - f < 0
    · exfalso
      have e : (a - c - f) * (a - c - f) = (c + f - a) * (c + f - a) := by grind
      rw [e] at h4
      have p1 := sq_le (x := c + f - a) (y := f) (by omega) (by omega)
      have p2 := sq_le (x := c + f - a) (y := 2 * c) (by omega) (by omega)
      have f4 : 4 * c ≤ f := by
        have : f * (4 * c) ≤ f * f := by grind
        exact Int.le_of_mul_le_mul_left this (by omega)
      have c4 : f ≤ c := by
        have : c * f ≤ c * c := by grind
        exact Int.le_of_mul_le_mul_left this hc
      omega
    · omega
theorem flw_nn {b : Bn} (h0 : 0 ≤ b.sp) (h1 : b.sp ≤ b.way) : 0 ≤ flw b := by
  unfold flw
  have := sq_le h0 h1
  have := isq_nn b.way
  exact Int.mul_nonneg (isq_nn _) (by grind)
theorem enough_law {b : Bn} {t : Int} (ht : 1 ≤ t) (hr : 1 ≤ b.r) (h0 : 0 ≤ b.sp) (h1 : b.sp ≤ b.way) : enough b t ↔ (2 * b.r * b.r ≤ b.sp * b.sp ∧ 0 ≤ (b.sp * b.sp + 2 * b.r * b.r) * t * t - flw b ∧
    8 * b.sp * b.sp * b.r * b.r * t * t * t * t ≤ ((b.sp * b.sp + 2 * b.r * b.r) * t * t - flw b) * ((b.sp * b.sp + 2 * b.r * b.r) * t * t - flw b)) := by
  have tp : 0 < t * t := Int.mul_pos (by omega) (by omega)
  have rp : 0 < b.r * b.r := Int.mul_pos (by omega) (by omega)
  have cp : 0 < 2 * b.r * b.r * (t * t) := Int.mul_pos (by grind) tp
  have key := enough_alg (a := b.sp * b.sp * (t * t)) (c := 2 * b.r * b.r * (t * t)) (f := flw b) cp (flw_nn h0 h1)
  unfold enough
  have e1 : lft b t = b.sp * b.sp * (t * t) - 2 * b.r * b.r * (t * t) - flw b := by unfold lft; grind
  have e2 : 8 * b.r * b.r * t * t * flw b = 4 * (2 * b.r * b.r * (t * t) * flw b) := by grind
  have e3 : (b.sp * b.sp + 2 * b.r * b.r) * t * t - flw b = b.sp * b.sp * (t * t) + 2 * b.r * b.r * (t * t) - flw b := by grind
  have e4 : 8 * b.sp * b.sp * b.r * b.r * t * t * t * t = 4 * (b.sp * b.sp * (t * t) * (2 * b.r * b.r * (t * t))) := by grind
  rw [e1, e2, e3, e4, key]
  refine and_congr_left fun _ => ⟨fun h => Int.le_of_mul_le_mul_right h tp, fun h => Int.mul_le_mul_of_nonneg_right h (Int.le_of_lt tp)⟩
theorem enough_mono {b : Bn} {t u : Int} (ht : 1 ≤ t) (h0 : 0 ≤ b.sp) (h1 : b.sp ≤ b.way) (h : enough b t) (htu : t ≤ u) : enough b u := by
  obtain ⟨g1, g2⟩ := h
  have hf := flw_nn h0 h1
  have tp : 0 < t * t := Int.mul_pos (by omega) (by omega)
  have tu : t * t ≤ u * u := sq_le (by omega) htu
  have e1 : lft b t = t * t * (b.sp * b.sp - 2 * b.r * b.r) - flw b := rfl
  have e2 : lft b u = u * u * (b.sp * b.sp - 2 * b.r * b.r) - flw b := rfl
  have e3 : 8 * b.r * b.r * t * t * flw b = 8 * (b.r * b.r) * (t * t) * flw b := by grind
  have e4 : 8 * b.r * b.r * u * u * flw b = 8 * (b.r * b.r) * (u * u) * flw b := by grind
  unfold enough
  rw [e4]
  rw [e3] at g2
  generalize hP : t * t = P at *
  generalize hU : u * u = U at *
  generalize lft b t = g at *
  generalize lft b u = k at *
  generalize flw b = f at *
  generalize b.sp * b.sp - 2 * b.r * b.r = w at *
  have rr := isq_nn b.r
  generalize b.r * b.r = R at *
  have a1 : U * g ≤ P * k := by
    have : P * f ≤ U * f := Int.mul_le_mul_of_nonneg_right tu hf
    subst e1; subst e2
    grind
  have a0 : 0 ≤ U * g := Int.mul_nonneg (by omega) g1
  have k0 : 0 ≤ k := by
    have : P * 0 ≤ P * k := by omega
    exact Int.le_of_mul_le_mul_left this tp
  refine ⟨k0, ?_⟩
  have a2 := sq_le a0 a1
  have a3 : U * U * (8 * R * P * f) ≤ U * U * (g * g) := Int.mul_le_mul_of_nonneg_left g2 (isq_nn U)
  have a4 : P * P * (8 * R * U * f) ≤ U * U * (8 * R * P * f) := by
    have b1 : 0 ≤ 8 * R * f * (P * U) := Int.mul_nonneg (Int.mul_nonneg (by omega) hf) (Int.mul_nonneg (by omega) (by omega))
    have b2 := Int.mul_le_mul_of_nonneg_left tu b1
    grind
  have a5 : P * P * (8 * R * U * f) ≤ P * P * (k * k) := by grind
  exact Int.le_of_mul_le_mul_left a5 (Int.mul_pos tp tp)
end DV
namespace DV
open PySem PySem.Spec PyProof.Rows L2
open LamX (ExtN TabS Tabs CodeO)
open scoped Rat
theorem SpP.sub {sp : Int} {cs ds : List P2} (h : SpP sp cs) (k : ds.Sublist cs) : SpP sp ds := List.Pairwise.sublist k h
def apartTo (ls : List Lg) (rho : Rat) (r : Int) (n : Nat) : Prop := ∀ (i j : Nat) (l o : Lg), i < j → j < n → ls[i]? = some l → ls[j]? = some o → ((r * r : Int) : Rat) ≤ (nearL l o rho).1
noncomputable instance {ls : List Lg} {rho : Rat} {r : Int} {n : Nat} : Decidable (apartTo ls rho r n) := Classical.propDecidable _
end DV
namespace DV
open PySem PySem.Spec PyProof.Rows L2
open LamX (ExtN TabS Tabs CodeO)
/-- what a sort of sequence has to tell of its iterator -/
structure Sk where
  It : Heap → Addr → Addr → Nat → Prop
  Sq : Heap → Addr → Array Value → Prop
  itE : ∀ {g g' : Heap} {a b l : Addr} {i : Nat}, It g a l i → Heap.ExtBut b g g' → a ≠ b → It g' a l i
  sqE : ∀ {g g' : Heap} {a b : Addr} {xs : Array Value}, Sq g a xs → Heap.ExtBut b g g' → a ≠ b → Sq g' a xs
  itA : ∀ {g g' : Heap} {a l : Addr} {i : Nat}, It g a l i → (∀ o, g.get? a = some o → g'.get? a = some o) → It g' a l i
  ob : ∀ {g : Heap} {a l : Addr} {i : Nat}, It g a l i → ∃ o fs, g.get? a = some o ∧ o.data = .fields fs
  item : ∀ {pg : Program} {w : World} {A : Around} {E : Value → Shared → Prop} {s : Shared} {it l : Addr} {i : Nat} {xs : Array Value} {x : Value} {Q : Value → Shared → Prop},
    It s.heap it l i → Sq s.heap l xs → xs[i]? = some x → (∀ g', It g' it l (i + 1) → Heap.SameBut it s.heap g' → Q x { s with heap := g' }) → wpAny (model pg w) A (Builtin.SmallTypes.nextOf (.ref it)) Q E s
  fin : ∀ {pg : Program} {w : World} {A : Around} {E : Value → Shared → Prop} {s : Shared} {it l : Addr} {i : Nat} {xs : Array Value} {Q : Value → Shared → Prop},
    A.handled = none → It s.heap it l i → Sq s.heap l xs → xs[i]? = none → (∀ g' e, Heap.ExtBut it s.heap g' → (∃ o, g'.get? e = some o ∧ o.cls = .type "StopIteration") → E (.ref e) { s with heap := g' }) →
      wpAny (model pg w) A (Builtin.SmallTypes.nextOf (.ref it)) Q E s
def skL : Sk where
  It g a l i := g.IsListIter a l i
  Sq g a xs := g.IsList a xs
  itE x y z := x.extBut y z
  sqE x y z := x.extBut y z
  itA x y := x.at y
  ob x := let ⟨o, e, _, d⟩ := x; ⟨o, _, e, d⟩
  item a b c d := wpAny_nextOf_list_item a b c d
  fin a b c d e := wpAny_nextOf_list_end a b c d e
def skT : Sk where
  It g a l i := g.IsTupleIter a l i
  Sq g a xs := g.IsTuple a xs
  itE x y z := x.extBut y z
  sqE x y z := x.extBut y z
  itA x y := x.at y
  ob x := let ⟨o, e, _, d⟩ := x; ⟨o, _, e, d⟩
  item a b c d := RZ.nextOf_tuple_item a b c d
  fin a b c d e := RZ.nextOf_tuple_end a b c d e
section
variable {pg : Program} {w : World} {A : Around} {E : Value → Shared → Prop} {s : Shared} {u v : Sk}
theorem zipK_item {z P O a b l m : Addr} {j k : Nat} {xs ys : Array Value} {x y p q : Value} {Q : Value → Shared → Prop} (ap : ZipApart z P O a b l m)
    (iz : IsZip s.heap z P O .none) (iP : IsPair s.heap P (.ref a) (.ref b)) (iO : IsPair s.heap O p q) (ia : u.It s.heap a l j) (ib : v.It s.heap b m k) (sl : u.Sq s.heap l xs) (sm : v.Sq s.heap m ys) (ex : xs[j]? = some x) (ey : ys[k]? = some y)
    (kQ : ∀ g, IsZip g z P O (rawInt s.heap.objs.size) → IsPair g O x y → u.It g a l (j + 1) → v.It g b m (k + 1) → IsPair g s.heap.objs.size x y → g.objs.size = s.heap.objs.size + 1 →
      (∀ c o, c ≠ z → c ≠ O → c ≠ a → c ≠ b → s.heap.get? c = some o → g.get? c = some o) → Q (.ref s.heap.objs.size) { s with heap := g }) :
    wpAny (model pg w) A (Builtin.«zip.__next__» ⟨[.ref z], []⟩) (fun f t => ∃ r, f = .done (.ret r) ∧ Q r t) E s := by
  show wpAny _ _ (field (Value.ref z) 2 >>= _) _ _ s
  refine wpAny_bind (wpAny_field iz rfl (x := Value.bool false) rfl ?_)
  show wpAny _ _ (field (Value.ref z) 3 >>= _) _ _ s
  refine wpAny_bind (wpAny_field iz rfl (x := Value.ref P) rfl (wpAny_bind (wpAny_seqItems iP rfl ?_)))
  show wpAny _ _ (Builtin.SmallTypes.ownedTupleIsFree (Value.ref z) >>= _) _ _ s
  refine wpAny_bind ?_; unfold Builtin.SmallTypes.ownedTupleIsFree
  refine wpAny_bind (wpAny_field iz rfl (x := Value.none) rfl (wpAny_pure ?_)); simp only [if_true]
  refine wpAny_bind (wpAny_rule (wpAny_bind (wpAny_field iz rfl (x := Value.ref O) rfl (wpAny_bind (wpAny_setField_rec iz (by simp) fun g1 z1 n1 => ?_)))))
  replace z1 : IsZip g1 z P O Value.ellipsis := z1
  refine wpAny_bind ?_; simp only [List.forIn_cons, List.forIn_nil, List.zipIdx_cons, List.zipIdx_nil]
  refine wpAny_bind (wpAny_bind (wpAny_onRaise ?_)); show wpAny _ _ (Builtin.SmallTypes.nextOf (Value.ref a) >>= _) _ _ _
  refine wpAny_bind (u.item (u.itE ia n1.extBut ap.i1z) (u.sqE sl n1.extBut ap.l1z) ex fun g2 a2 n2 => wpAny_pure ?_)
  have O2 : IsPair g2 O p q := n2.extBut _ _ ap.TOi1 (n1.extBut _ _ ap.TOz iO)
  refine wpAny_bind (wpAny_seqItems O2 rfl (wpAny_bind (wpAny_updateSeq_pair O2 fun g3 O3 n3 => ?_)))
  replace O3 : IsPair g3 O x q := O3
  refine wpAny_bind (wpAny_letGo (wpAny_pure (wpAny_bind (wpAny_bind (wpAny_onRaise ?_))))); show wpAny _ _ (Builtin.SmallTypes.nextOf (Value.ref b) >>= _) _ _ _
  refine wpAny_bind (v.item (v.itE (v.itE (v.itE ib n1.extBut ap.i2z) n2.extBut ap.i12.symm) n3.extBut ap.TOi2.symm) (v.sqE (v.sqE (v.sqE sm n1.extBut ap.l2z) n2.extBut ap.l2i1) n3.extBut ap.l2TO) ey fun g4 b4 n4 => wpAny_pure ?_)
  have O4 : IsPair g4 O x q := n4.extBut _ _ ap.TOi2 O3
  refine wpAny_bind (wpAny_seqItems O4 rfl (wpAny_bind (wpAny_updateSeq_pair O4 fun g5 O5 n5 => ?_)))
  replace O5 : IsPair g5 O x y := O5
  refine wpAny_bind (wpAny_letGo (wpAny_pure (wpAny_pure (wpAny_bind (wpAny_seqItems O5 rfl (wpAny_bind (wpAny_newTuple ?_)))))))
  have size : g5.objs.size = s.heap.objs.size := by rw [n5.1, n4.1, n3.1, n2.1, n1.1]
  have z5 : IsZip g5 z P O Value.ellipsis := n5.extBut _ _ ap.TOz.symm (n4.extBut _ _ ap.i2z.symm (n3.extBut _ _ ap.TOz.symm (n2.extBut _ _ ap.i1z.symm z1)))
  have stay : ∀ c o, c ≠ z → c ≠ O → c ≠ a → c ≠ b → s.heap.get? c = some o → g5.get? c = some o := fun c o d1 d2 d3 d4 e =>
    n5.extBut _ _ d2 (n4.extBut _ _ d4 (n3.extBut _ _ d2 (n2.extBut _ _ d3 (n1.extBut _ _ d1 e))))
  have a5 : u.It g5 a l (j + 1) := u.itE (u.itE (u.itE a2 n3.extBut ap.TOi1.symm) n4.extBut ap.i12) n5.extBut ap.TOi1.symm
  have b5 : v.It g5 b m (k + 1) := v.itE b4 n5.extBut ap.TOi2.symm
  have zl : z < g5.objs.size := Heap.lt_size z5
  show wpAny _ _ (Builtin.SmallTypes.ownedTupleHandOut (Value.ref z) (Value.ref g5.objs.size) >>= _) _ _ _
  refine wpAny_bind ?_; unfold Builtin.SmallTypes.ownedTupleHandOut
  have z6 : IsZip (g5.push { cls := Value.type "tuple", data := Data.seq #[x, y] }) z P O Value.ellipsis := Heap.get?_push_of_some _ z5
  refine wpAny_bind (wpAny_setField_rec z6 (by simp) fun g7 z7 n7 => ?_)
  replace z7 : IsZip g7 z P O (rawInt g5.objs.size) := z7
  refine wpAny_setField_rec z7 (by simp) fun g8 z8 n8 => ?_
  replace z8 : IsZip g8 z P O (rawInt g5.objs.size) := z8
  have up : ∀ c o, c ≠ z → g5.get? c = some o → g8.get? c = some o := fun c o d e => n8.extBut _ _ d (n7.extBut _ _ d (Heap.get?_push_of_some _ e))
  have T8 : IsPair g8 g5.objs.size x y := n8.extBut _ _ (Nat.ne_of_gt zl) (n7.extBut _ _ (Nat.ne_of_gt zl) (Heap.get?_push_size _ rfl))
  have s8 : g8.objs.size = g5.objs.size + 1 := by rw [n8.1, n7.1, Heap.size_push]
  rw [size] at z8 T8 s8
  refine wpAny_pure ⟨_, rfl, ?_⟩; show Q (Value.ref g5.objs.size) _; rw [size]
  exact kQ g8 z8 (up _ _ ap.TOz O5) (u.itA a5 fun o e => up _ o ap.i1z e) (v.itA b5 fun o e => up _ o ap.i2z e) T8 s8 fun c o d1 d2 d3 d4 e => up c o d1 (stay c o d1 d2 d3 d4 e)
theorem zipK_end {z P O a b l m : Addr} {j k : Nat} {xs ys : Array Value} {p q : Value} {Q : Fin → Shared → Prop} (free : A.handled = none) (ap : ZipApart z P O a b l m)
    (iz : IsZip s.heap z P O .none) (iP : IsPair s.heap P (.ref a) (.ref b)) (iO : IsPair s.heap O p q) (ia : u.It s.heap a l j) (ib : v.It s.heap b m k) (sl : u.Sq s.heap l xs) (sm : v.Sq s.heap m ys) (over : xs[j]? = none ∨ ys[k]? = none)
    (kE : ∀ g e, (∀ c o, c ≠ z → c ≠ O → c ≠ a → c ≠ b → s.heap.get? c = some o → g.get? c = some o) → (∃ o, g.get? e = some o ∧ o.cls = .type "StopIteration") → E (.ref e) { s with heap := g }) :
    wpAny (model pg w) A (Builtin.«zip.__next__» ⟨[.ref z], []⟩) Q E s := by
  show wpAny _ _ (field (Value.ref z) 2 >>= _) _ _ s
  refine wpAny_bind (wpAny_field iz rfl (x := Value.bool false) rfl ?_)
  show wpAny _ _ (field (Value.ref z) 3 >>= _) _ _ s
  refine wpAny_bind (wpAny_field iz rfl (x := Value.ref P) rfl (wpAny_bind (wpAny_seqItems iP rfl ?_)))
  show wpAny _ _ (Builtin.SmallTypes.ownedTupleIsFree (Value.ref z) >>= _) _ _ s
  refine wpAny_bind ?_; unfold Builtin.SmallTypes.ownedTupleIsFree
  refine wpAny_bind (wpAny_field iz rfl (x := Value.none) rfl (wpAny_pure ?_)); simp only [if_true]
  refine wpAny_bind (wpAny_rule (wpAny_bind (wpAny_field iz rfl (x := Value.ref O) rfl (wpAny_bind (wpAny_setField_rec iz (by simp) fun g1 z1 n1 => ?_)))))
  replace z1 : IsZip g1 z P O Value.ellipsis := z1
  refine wpAny_bind ?_; simp only [List.forIn_cons, List.forIn_nil, List.zipIdx_cons, List.zipIdx_nil]
  refine wpAny_bind (wpAny_bind (wpAny_onRaise ?_)); show wpAny _ _ (Builtin.SmallTypes.nextOf (Value.ref a) >>= _) _ _ _
  cases ex : xs[j]? with
  | none =>
    refine wpAny_bind (u.fin free (u.itE ia n1.extBut ap.i1z) (u.sqE sl n1.extBut ap.l1z) ex fun g2 e n2 ⟨oe, ge, ce⟩ => ?_)
    have z2 : IsZip g2 z P O Value.ellipsis := n2 _ _ ap.i1z.symm z1
    have ne : e ≠ z := fun h => by subst h; rw [z2] at ge; cases ge; simp at ce
    exact wpAny_setField_rec z2 (by simp) fun g3 _ n3 => kE g3 e (fun c o d1 _ d3 _ h => n3.extBut _ _ d1 (n2 _ _ d3 (n1.extBut _ _ d1 h))) ⟨oe, n3.extBut _ _ ne ge, ce⟩
  | some x =>
    have ey : ys[k]? = none := over.resolve_left fun h => by rw [ex] at h; cases h
    refine wpAny_bind (u.item (u.itE ia n1.extBut ap.i1z) (u.sqE sl n1.extBut ap.l1z) ex fun g2 a2 n2 => wpAny_pure ?_)
    have O2 : IsPair g2 O p q := n2.extBut _ _ ap.TOi1 (n1.extBut _ _ ap.TOz iO)
    refine wpAny_bind (wpAny_seqItems O2 rfl (wpAny_bind (wpAny_updateSeq_pair O2 fun g3 O3 n3 => ?_)))
    refine wpAny_bind (wpAny_letGo (wpAny_pure (wpAny_bind (wpAny_bind (wpAny_onRaise ?_))))); show wpAny _ _ (Builtin.SmallTypes.nextOf (Value.ref b) >>= _) _ _ _
    refine wpAny_bind (v.fin free (v.itE (v.itE (v.itE ib n1.extBut ap.i2z) n2.extBut ap.i12.symm) n3.extBut ap.TOi2.symm) (v.sqE (v.sqE (v.sqE sm n1.extBut ap.l2z) n2.extBut ap.l2i1) n3.extBut ap.l2TO) ey fun g4 e n4 ⟨oe, ge, ce⟩ => ?_)
    have z4 : IsZip g4 z P O Value.ellipsis := n4 _ _ ap.i2z.symm (n3.extBut _ _ ap.TOz.symm (n2.extBut _ _ ap.i1z.symm z1))
    have ne : e ≠ z := fun h => by subst h; rw [z4] at ge; cases ge; simp at ce
    exact wpAny_setField_rec z4 (by simp) fun g5 _ n5 => kE g5 e (fun c o d1 d2 d3 d4 h => n5.extBut _ _ d1 (n4 _ _ d4 (n3.extBut _ _ d2 (n2.extBut _ _ d3 (n1.extBut _ _ d1 h))))) ⟨oe, n5.extBut _ _ ne ge, ce⟩
end
end DV
namespace DV
open PySem PySem.Spec PyProof.Rows L2
open LamX (ExtN TabS Tabs CodeO)
abbrev zm1 (g : Heap) (l : Addr) : Heap := g.push { cls := Value.type "tuple_iterator", data := Data.fields #[Value.ref l, Value.int 0 0] }
abbrev zm2 (g : Heap) (l m : Addr) : Heap := (zm1 g l).push { cls := Value.type "list_iterator", data := Data.fields #[Value.ref m, Value.int 0 0] }
abbrev zm3 (g : Heap) (l m : Addr) : Heap := (zm2 g l m).push { cls := Value.type "tuple", data := Data.seq #[Value.ref g.objs.size, Value.ref (zm1 g l).objs.size] }
abbrev zm4 (g : Heap) (l m : Addr) : Heap := (zm3 g l m).push { cls := Value.type "tuple", data := Data.seq #[Value.none, Value.none] }
abbrev zm5 (g : Heap) (l m : Addr) : Heap := (zm4 g l m).push { cls := Value.type "zip", data := Data.fields #[Value.none, Value.bool false, Value.bool false, Value.ref (zm2 g l m).objs.size, Value.ref (zm3 g l m).objs.size] }
theorem new_zipM (l m : Addr) (xs ys : Array Value) :
    Meets (Builtin.«zip.__new__» ⟨[.type "zip", .ref l, .ref m], []⟩) (fun _ R s => s.heap.IsTuple l xs ∧ s.heap.IsList m ys ∧ R (.ok (.ret (.ref (zm4 s.heap l m).objs.size))) { s with heap := zm5 s.heap l m }) :=
  .of_wp fun pg w A R s hyp => by
    obtain ⟨hp, g, d, tk, os⟩ := s
    obtain ⟨j1, j2, hyp⟩ := hyp
    have isz := sub_zip
    have k1 : Heap.IsTuple (Shared.heap ⟨hp, g, d, tk, os⟩) l xs := j1
    have k2 : Heap.IsList (Shared.heap ⟨zm1 hp l, g, d, tk, os⟩) m ys := Heap.IsList.push j2 _
    wp_walk using wpAny_pyIter_tuple k1, wpAny_pyIter_list k2
    exact ⟨_, rfl, hyp⟩
section
variable {pg : Program} {w : World} {A : Around} {E : Value → Shared → Prop} {s : Shared}
theorem call_zipM {l m : Addr} {xs ys : Array Value} {Q : Value → Shared → Prop} (j1 : s.heap.IsTuple l xs) (j2 : s.heap.IsList m ys)
    (h : ∀ g, IsZip g (s.heap.objs.size + 4) (s.heap.objs.size + 2) (s.heap.objs.size + 3) .none → IsPair g (s.heap.objs.size + 2) (.ref s.heap.objs.size) (.ref (s.heap.objs.size + 1)) →
      IsPair g (s.heap.objs.size + 3) .none .none → g.IsTupleIter s.heap.objs.size l 0 → g.IsListIter (s.heap.objs.size + 1) m 0 → g.objs.size = s.heap.objs.size + 5 →
      (∀ c o, s.heap.get? c = some o → g.get? c = some o) → Q (.ref (s.heap.objs.size + 4)) { s with heap := g }) :
    wpAny (model pg w) A (call (.type "zip") [.ref l, .ref m]) Q E s := by
  refine callType_new F.called_zip (by decide) (F.typeCall_zip_2 _ _) (F.newCall_zip_2 _ _) (fun o => F.args_object_init_3 o _ _) F.entry_zip_new (new_zipM l m xs ys) ⟨j1, j2, ?_⟩
  have n1 : (zm1 s.heap l).objs.size = s.heap.objs.size + 1 := Heap.size_push ..
  have n2 : (zm2 s.heap l m).objs.size = s.heap.objs.size + 2 := by rw [Heap.size_push, n1]
  have n3 : (zm3 s.heap l m).objs.size = s.heap.objs.size + 3 := by rw [Heap.size_push, n2]
  have n4 : (zm4 s.heap l m).objs.size = s.heap.objs.size + 4 := by rw [Heap.size_push, n3]
  have n5 : (zm5 s.heap l m).objs.size = s.heap.objs.size + 5 := by rw [Heap.size_push, n4]
  have up : ∀ {c o}, (zm4 s.heap l m).get? c = some o → (zm5 s.heap l m).get? c = some o := fun e => Heap.get?_push_of_some _ e
  have a5 : (zm5 s.heap l m).get? (zm4 s.heap l m).objs.size = some _ := Heap.get?_push_size _ rfl
  have a4 : (zm5 s.heap l m).get? (zm3 s.heap l m).objs.size = some _ := up (Heap.get?_push_size _ rfl)
  have a3 : (zm5 s.heap l m).get? (zm2 s.heap l m).objs.size = some _ := up (Heap.get?_push_of_some _ (Heap.get?_push_size _ rfl))
  have a2 : (zm5 s.heap l m).get? (zm1 s.heap l).objs.size = some _ := up (Heap.get?_push_of_some _ (Heap.get?_push_of_some _ (Heap.get?_push_size _ rfl)))
  have a1 : (zm5 s.heap l m).get? s.heap.objs.size = some _ := up (Heap.get?_push_of_some _ (Heap.get?_push_of_some _ (Heap.get?_push_of_some _ (Heap.get?_push_size _ rfl))))
  show _ ∧ _
  rw [n2, n3, n4] at a5; rw [n1, n2] at a3; rw [n3] at a4; rw [n1] at a2; rw [n4]
  exact ⟨⟨_, a5, rfl⟩, h _ a5 a3 a4 ⟨_, a1, rfl, rfl⟩ ⟨_, a2, rfl, rfl⟩ n5 fun c o e => up (Heap.get?_push_of_some _ (Heap.get?_push_of_some _ (Heap.get?_push_of_some _ (Heap.get?_push_of_some _ e))))⟩
variable {u v : Sk}
theorem nextK_item {z P O a b l m : Addr} {j k : Nat} {xs ys : Array Value} {x y p q : Value} {Q : Option Value → Shared → Prop} (ap : ZipApart z P O a b l m)
    (iz : IsZip s.heap z P O .none) (iP : IsPair s.heap P (.ref a) (.ref b)) (iO : IsPair s.heap O p q) (ia : u.It s.heap a l j) (ib : v.It s.heap b m k) (sl : u.Sq s.heap l xs) (sm : v.Sq s.heap m ys) (ex : xs[j]? = some x) (ey : ys[k]? = some y)
    (kQ : ∀ g, IsZip g z P O (rawInt s.heap.objs.size) → IsPair g O x y → u.It g a l (j + 1) → v.It g b m (k + 1) → IsPair g s.heap.objs.size x y → g.objs.size = s.heap.objs.size + 1 →
      (∀ c o, c ≠ z → c ≠ O → c ≠ a → c ≠ b → s.heap.get? c = some o → g.get? c = some o) → Q (some (.ref s.heap.objs.size)) { s with heap := g }) : wpAny (model pg w) A (pyNext (.ref z)) Q E s := by
  have ty : s.TypeIs (.ref z) "zip" := ⟨_, iz, rfl⟩
  unfold pyNext
  refine wpAny_bind (wpAny_attempt (wpAny_callSpecial?_slot (name := Str.ofString "__next__") ty F.slot_zip_next (wpAny_call_entry F.slot_zip_next ty F.entry_zip_next ?_ (F.args_zip_next_1 _))))
  exact zipK_item ap iz iP iO ia ib sl sm ex ey fun g b1 b2 b3 b4 b5 b6 b7 => wpAny_pure (kQ g b1 b2 b3 b4 b5 b6 b7)
theorem nextK_end {z P O a b l m : Addr} {j k : Nat} {xs ys : Array Value} {p q : Value} {Q : Option Value → Shared → Prop} (free : A.handled = none) (ap : ZipApart z P O a b l m)
    (iz : IsZip s.heap z P O .none) (iP : IsPair s.heap P (.ref a) (.ref b)) (iO : IsPair s.heap O p q) (ia : u.It s.heap a l j) (ib : v.It s.heap b m k) (sl : u.Sq s.heap l xs) (sm : v.Sq s.heap m ys) (over : xs[j]? = none ∨ ys[k]? = none)
    (kQ : ∀ g, (∀ c o, c ≠ z → c ≠ O → c ≠ a → c ≠ b → s.heap.get? c = some o → g.get? c = some o) → Q none { s with heap := g }) : wpAny (model pg w) A (pyNext (.ref z)) Q E s := by
  have ty : s.TypeIs (.ref z) "zip" := ⟨_, iz, rfl⟩
  unfold pyNext
  refine wpAny_bind (wpAny_attempt (wpAny_callSpecial?_slot (name := Str.ofString "__next__") ty F.slot_zip_next (wpAny_call_entry F.slot_zip_next ty F.entry_zip_next ?_ (F.args_zip_next_1 _))))
  exact zipK_end free ap iz iP iO ia ib sl sm over fun g e st ⟨o, ho, hc⟩ => wpAny_bind (wpAny_isInstance (T := "StopIteration") (b := true) ⟨o, ho, hc⟩ isSubtype_stop (wpAny_pure (kQ _ st)))
end
/-- the tuple at a and the list at b as they stand at each turn, the items in new pairs -/
def ItM (K : PySem.W.Frag) (a b : Addr) : It :=
  ⟨fun i H => ∃ (xs ys : List V) (x y : V), SqT K H a xs ∧ SqL K H b ys ∧ xs[i]? = some x ∧ ys[i]? = some y,
    fun i H r H' => ∃ T x y, r = .ref T ∧ H T = none ∧ H' = upd H T (.tup [x, y]) ∧ (∀ xs, SqT K H a xs → xs[i]? = some x) ∧ ∀ ys, SqL K H b ys → ys[i]? = some y,
    fun i H => ∃ xs ys : List V, SqT K H a xs ∧ SqL K H b ys ∧ (xs.length ≤ i ∨ ys.length ≤ i)⟩
theorem turn_zipM {P : Program} {w : World} {K : PySem.W.Frag} {elts : List Expr} {kk : Nat} {tpos : Pos} {a b z T O i j : Addr} (ap : ZipApart z T O i j a b) :
    Turn P w K (.Tuple elts kk tpos) (ItM K a b) [z, T, O, i, j] z (fun n g => IsZip g z T O .none ∧ IsPair g T (.ref i) (.ref j) ∧ (∃ x y, IsPair g O x y) ∧ g.IsTupleIter i a n ∧ g.IsListIter j b n) where
  mem := by simp
  obj := fun n g st c hc => by
    obtain ⟨iz, iT, ⟨x, y, iO⟩, ⟨o1, e1, _, d1⟩, ⟨o2, e2, _, d2⟩⟩ := st
    have which : c = z ∨ c = T ∨ c = O ∨ c = i ∨ c = j := by simpa using hc
    rcases which with r | r | r | r | r <;> rw [r]
    · exact ⟨_, iz, fun v q => nomatch q⟩
    · exact ⟨_, iT, fun v q => nomatch q⟩
    · exact ⟨_, iO, fun v q => nomatch q⟩
    · exact ⟨o1, e1, fun v q => by rw [d1] at q; cases q⟩
    · exact ⟨o2, e2, fun v q => by rw [d2] at q; cases q⟩
  keep := fun n g g' st k => by
    obtain ⟨iz, iT, ⟨x, y, iO⟩, i1, i2⟩ := st
    exact ⟨k z (by simp) _ iz, k T (by simp) _ iT, ⟨x, y, k O (by simp) _ iO⟩, i1.at fun o r => k i (by simp) o r, i2.at fun o r => k j (by simp) o r⟩
  item := by
    intro X eP ew eK hc n pins s σ H E I hf st hg
    subst eP ew eK
    obtain ⟨iz, iT, ⟨x0, y0, iO⟩, i1, i2⟩ := st
    obtain ⟨xs, ys, x, y, qx, qy, hx, hy⟩ := hg
    obtain ⟨as, rv, p, _⟩ := I.tuple qx
    obtain ⟨bs, rv2, p2, _⟩ := I.list qy
    obtain ⟨u, hu, ru⟩ := rv.get hx
    obtain ⟨u2, hu2, ru2⟩ := rv2.get hy
    have zl : z < s.heap.objs.size := Heap.lt_size iz
    refine nextK_item (u := skT) (v := skL) ap iz iT iO i1 i2 p p2.isList (x := u) (y := u2) (by simpa using hu) (by simpa using hu2) fun g z' O' i1' i2' hT sz hk => ?_
    refine ⟨_, rfl, wpAny_letOwnedTupleGo_zip (s := { s with heap := g }) z' fun g2 z2 sb => ?_⟩
    have hT2 : g2.get? s.heap.objs.size = some { cls := .type "tuple", data := .seq #[u, u2] } := (sb.2 _ (Nat.ne_of_gt zl)).trans hT
    have fresh : ObjOk X.prog X.w (upd H s.heap.objs.size (.tup [x, y])) g2 s.heap.objs.size (.tup [x, y]) := ⟨(show 2 ≤ sizeLine by decide), [u, u2], .cons ru (.cons ru2 .nil), ⟨_, hT2, rfl, _, rfl⟩⟩
    have out : ∀ {c : Addr}, c ∉ [z, T, O, i, j] → c ≠ z ∧ c ≠ T ∧ c ≠ O ∧ c ≠ i ∧ c ≠ j := fun h => by simpa only [List.mem_cons, List.not_mem_nil, or_false, not_or] using h
    have I1 : Inv X pins σ (upd H s.heap.objs.size (.tup [x, y])) { s with heap := g2 } :=
      I.turnedNew (t' := s.toks) (ch := [z, T, O, i, j]) (fun c o hb q => (sb.2 c (out hb).1).trans (hk c o (out hb).1 (out hb).2.2.1 (out hb).2.2.2.1 (out hb).2.2.2.2 q)) hf (Nat.le_refl _) fresh
    refine ⟨.ref s.heap.objs.size, _, I1, rfl, ⟨_, x, y, rfl, I.hok.fresh (Nat.le_refl _), rfl, fun l hl => by rw [I.tuple_inj hl qx]; exact hx, fun l hl => by rw [I.list_inj hl qy]; exact hy⟩, ⟨z2, ?_, ⟨u, u2, ?_⟩, ?_, ?_⟩, fun c hcm => ?_⟩
    · exact (sb.2 _ ap.TIz).trans (hk _ _ ap.TIz ap.TITO ap.TIi1 ap.TIi2 iT)
    · exact (sb.2 _ ap.TOz).trans O'
    · exact Heap.IsTupleIter.at i1' fun o q => (sb.2 _ ap.i1z).trans q
    · exact Heap.IsListIter.at i2' fun o q => (sb.2 _ ap.i2z).trans q
    · have lt : c < s.heap.objs.size := by
        have which : c = z ∨ c = T ∨ c = O ∨ c = i ∨ c = j := by simpa using hcm
        rcases which with r | r | r | r | r <;> rw [r]
        · exact zl
        · exact Heap.lt_size iT
        · exact Heap.lt_size iO
        · obtain ⟨_, e1, _⟩ := i1; exact Heap.lt_size e1
        · obtain ⟨_, e2, _⟩ := i2; exact Heap.lt_size e2
      rw [upd_ne (Nat.ne_of_lt lt)]
      exact (hf c hcm).1
  done := by
    intro X eP ew eK hc n pins s σ H E I hf st hg
    subst eP ew eK
    obtain ⟨iz, iT, ⟨x0, y0, iO⟩, i1, i2⟩ := st
    obtain ⟨xs, ys, qx, qy, over⟩ := hg
    obtain ⟨as, rv, p, _⟩ := I.tuple qx
    obtain ⟨bs, rv2, p2, _⟩ := I.list qy
    have l1 := rv.length
    have l2 := rv2.length
    have out : ∀ {c : Addr}, c ∉ [z, T, O, i, j] → c ≠ z ∧ c ≠ T ∧ c ≠ O ∧ c ≠ i ∧ c ≠ j := fun h => by simpa only [List.mem_cons, List.not_mem_nil, or_false, not_or] using h
    have he : as.toArray[n]? = none ∨ bs.toArray[n]? = none := over.imp (fun q => by simp; omega) fun q => by simp; omega
    exact nextK_end (u := skT) (v := skL) (I.ok.hd hc) ap iz iT iO i1 i2 p p2.isList he fun g hk => ⟨rfl, I.turnedL (t' := s.toks) (ch := [z, T, O, i, j]) (fun c o hb q => hk c o (out hb).1 (out hb).2.2.1 (out hb).2.2.2.1 (out hb).2.2.2.2 q) hf⟩
  self := fun A n s Q E st h => wpAny_pyIter_zip st.1 h
section
variable {X : Cx} {F : Fm} {e e2 : Expr} {pos p tpos : Pos} {t : TA} {d : TDA} {elts : List Expr} {kk : Nat}
def dZipM (t : TDA) : TDI := fun ρ Q => t ρ fun rs ρ1 => match rs with
  | [r, s] => match seqs ρ1 r, seqs ρ1 s with
    | some (true, xs), some (false, ys) => Q (zipD xs ys) ρ1
    | _, _ => False
  | _ => False
end
end DV
namespace DV
open PySem PySem.Spec PyProof.Rows L2
open LamX (ExtN TabS Tabs CodeO)
open scoped Rat
end DV
namespace DV
open PySem PySem.Spec PyProof.Rows L2
open LamX (ExtN TabS Tabs CodeO)
open scoped Rat
def xI (b : Bn) (n : Int) : Int := n * n * (2 * b.way * b.way - b.sp * b.sp)
def leadI (b : Bn) (n : Int) : Int := ((Float64.isqrt (xI b n).toNat : Nat) : Int)
def wleg (b : Bn) (n : Int) : Lg := ⟨0, 0, n * b.sp - leadI b n, -(n * b.sp) - leadI b n⟩
def woth (b : Bn) (n : Int) : Lg := ⟨2 * n * b.sp, 0, n * b.sp - leadI b n, n * b.sp - leadI b n⟩
def lesR (p q : Rat) : Rat := if q < p then q else p
def wah (b : Bn) (t n : Int) : Rat := lesR (rhoT b t) ((n * b.sp) /. leadI b n)
def hlf : Rat := 1 /. 2
def wS (b : Bn) (t n : Int) : Rat := hlf * (1 - wah b t n)
def wT (b : Bn) (t n : Int) : Rat := hlf * (1 + wah b t n)
def wOk (b : Bn) (t n : Int) : Prop := gsq (wleg b n) (woth b n) (wS b t n) (wT b t n) < ((2 * n * b.r * (2 * n * b.r) : Int) : Rat)
instance {b : Bn} {t n : Int} : Decidable (wOk b t n) := by unfold wOk; infer_instance
structure WsOk (b : Bn) (t n : Int) : Prop where
  ok : BnOk b
  t0 : 1 ≤ t
  t1 : b.lag ≤ t
  t2 : t ≤ 1000000
  n0 : 1 ≤ n
  n1 : n < 2 ^ 95
theorem f0_pos {b : Bn} (ok : BnOk b) : 1 ≤ 2 * b.way * b.way - b.sp * b.sp ∧ 2 * b.way * b.way - b.sp * b.sp ≤ 980000 := by
  have s0 := ok.sp0
  have w0 := ok.way0
  have a := sq_le (x := b.sp) (y := b.way) (by omega) w0
  have c : 0 < b.sp * b.sp := Int.mul_pos (by omega) (by omega)
  have d := sq_le (x := b.way) (y := 700) (by omega) ok.way1
  have e : 2 * b.way * b.way = 2 * (b.way * b.way) := by grind
  omega
theorem WsOk.x0 {b : Bn} {t n : Int} (h : WsOk b t n) : 1 ≤ xI b n := by
  have f := (f0_pos h.ok).1
  have n0 := h.n0
  have nn : 0 < n * n := Int.mul_pos (by omega) (by omega)
  have := Int.mul_pos nn (show 0 < 2 * b.way * b.way - b.sp * b.sp by omega)
  unfold xI; omega
theorem wd1 (b : Bn) (n : Int) : d2 ((wleg b n).ax, (wleg b n).ay) ((woth b n).ax, (woth b n).ay) = 2 * n * b.sp * (2 * n * b.sp) := by
  unfold d2 wleg woth; dsimp only; grind
end DV
namespace DV
open PySem PySem.Spec PyProof.Rows L2
open LamX (ExtN TabS Tabs CodeO)
section
variable {X : Cx} {F : Fm} {e : Expr} {te : TE} {de : TDE} {pos : Pos}
def dMulA (i : Nat) (te : TDE) : TDS := fun DD ρ => onInt ρ (.o i) fun n => te ρ fun r ρ1 => onInt ρ1 r fun m => CMulW n m ∧ DD.nx (ρ1.set i (some (.d (.int (n * m)))))
end
end DV
namespace DV
open PySem PySem.Spec PyProof.Rows L2
open LamX (ExtN TabS Tabs CodeO)
section
variable {X : Cx} {F : Fm} {pos : Pos}
def dgUnl (n : Nat) (gs : List PyData → Rho → (Rho → Prop) → Prop) : TDGt := fun r ρ P => match r with
  | .d (.list xs) => xs.length = n ∧ gs xs ρ P
  | _ => False
end
end DV
namespace DV
open PySem PySem.Spec PyProof.Rows L2
open LamX (ExtN TabS Tabs CodeO)
theorem filter_mono {α : Type} {p q : α → Bool} (h : ∀ x, p x = true → q x = true) : ∀ xs : List α, (xs.filter p).length ≤ (xs.filter q).length
  | [] => Nat.le_refl _
  | x :: xs => by
    have ih := filter_mono h xs
    rw [List.filter_cons, List.filter_cons]
    cases hp : p x with
    | true => rw [h x hp]; simpa using ih
    | false =>
      simp only [Bool.false_eq_true, if_false]
      split
      · rw [List.length_cons]; omega
      · exact ih
def win (xs : List Int) (sp y : Int) : List Int := xs.filter fun x => decide (y ≤ x ∧ x < y + sp)
def HasC (xs : List Int) (sp : Int) (n : Nat) : Prop := ∃ y, n ≤ (win xs sp y).length
/-- rows for the xs: below k, unlike where the later x is less than sp behind -/
structure ColL (xs : List Int) (sp : Int) (k : Nat) (rs : List Int) : Prop where
  len : rs.length = xs.length
  rng : ∀ r ∈ rs, 0 ≤ r ∧ r < k
  un : ∀ (i j : Nat) (a b p q : Int), i < j → xs[i]? = some a → xs[j]? = some b → rs[i]? = some p → rs[j]? = some q → b - a < sp → p ≠ q
theorem HasC.zero {xs : List Int} {sp : Int} : HasC xs sp 0 := ⟨0, Nat.zero_le _⟩
theorem HasC.le {xs : List Int} {sp : Int} {m n : Nat} (h : HasC xs sp n) (k : m ≤ n) : HasC xs sp m := by obtain ⟨y, h⟩ := h; exact ⟨y, by omega⟩
theorem HasC.size {xs : List Int} {sp : Int} {n : Nat} (h : HasC xs sp n) : n ≤ xs.length := by
  obtain ⟨y, h⟩ := h
  exact Nat.le_trans h (List.length_filter_le ..)
theorem HasC.sub {xs ys : List Int} {sp : Int} {n : Nat} (h : HasC xs sp n) (k : xs.Sublist ys) : HasC ys sp n := by
  obtain ⟨y, h⟩ := h
  exact ⟨y, Nat.le_trans h (k.filter _).length_le⟩
theorem HasC.perm {xs ys : List Int} {sp : Int} {n : Nat} (h : HasC xs sp n) (k : xs.Perm ys) : HasC ys sp n := by
  obtain ⟨y, h⟩ := h
  exact ⟨y, by unfold win at *; rw [← (k.filter _).length_eq]; exact h⟩
theorem HasC.map {xs : List Int} {sp : Int} {n : Nat} {f : Int → Int} (g : Int → Int) (hf : ∀ x y, y ≤ x ∧ x < y + sp → g y ≤ f x ∧ f x < g y + sp) (h : HasC xs sp n) : HasC (xs.map f) sp n := by
  obtain ⟨y, h⟩ := h
  refine ⟨g y, Nat.le_trans h ?_⟩
  unfold win
  rw [List.filter_map, List.length_map]
  exact filter_mono (fun x hx => by
    rw [decide_eq_true_eq] at hx
    exact decide_eq_true (hf x y hx)) xs
theorem nodup_small {k : Nat} : ∀ {xs : List Int}, xs.Nodup → (∀ x ∈ xs, 0 ≤ x ∧ x < k) → xs.length ≤ k := fun {xs} h hx => by
  have := nodup_le (xs := xs) (ys := (List.range k).map fun i : Nat => (i : Int)) h fun x hm => by
    have := hx x hm
    exact List.mem_map.mpr ⟨x.toNat, List.mem_range.mpr (by omega), by omega⟩
  rw [List.length_map, List.length_range] at this
  exact this
/-- colours for all make no window too full -/
theorem col_has {xs rs : List Int} {sp : Int} {k n : Nat} (c : ColL xs sp k rs) (h : HasC xs sp n) : n ≤ k := by
  obtain ⟨y, h⟩ := h
  let zs := (List.zip xs rs).filter fun p => decide (y ≤ p.1 ∧ p.1 < y + sp)
  have e : (zs.map (·.1)) = win xs sp y := by
    show (((List.zip xs rs).filter fun p => decide (y ≤ p.1 ∧ p.1 < y + sp)).map (·.1)) = xs.filter _
    have := List.filter_map (f := (fun p : Int × Int => p.1)) (p := fun x => decide (y ≤ x ∧ x < y + sp)) (l := List.zip xs rs)
    rw [List.map_fst_zip (by rw [c.len]; exact Nat.le_refl _)] at this
    rw [this]; rfl
  have hn : n ≤ (zs.map (·.2)).length := by
    rw [List.length_map, ← List.length_map (f := fun p : Int × Int => p.1), e]; exact h
  refine Nat.le_trans hn (nodup_small ?_ fun r hr => ?_)
  · rw [List.Nodup, List.pairwise_map]
    have hp : (List.zip xs rs).Pairwise fun p q => q.1 - p.1 < sp → p.2 ≠ q.2 := by
      rw [List.pairwise_iff_getElem]
      intro i j hi hj hij hlt
      rw [List.length_zip] at hi hj
      have l1 := c.len
      have i1 : i < xs.length := by omega
      have j1 : j < xs.length := by omega
      have i2 : i < rs.length := by omega
      have j2 : j < rs.length := by omega
      have := c.un i j xs[i] xs[j] rs[i] rs[j] hij (List.getElem?_eq_getElem i1) (List.getElem?_eq_getElem j1) (List.getElem?_eq_getElem i2) (List.getElem?_eq_getElem j2)
      simp only [List.getElem_zip] at hlt ⊢
      exact this hlt
    have hp2 := hp.filter fun p => decide (y ≤ p.1 ∧ p.1 < y + sp)
    refine List.Pairwise.imp_of_mem (fun {p q} hpm hqm hpq => hpq ?_) hp2
    have a := (List.mem_filter.mp hpm).2
    have b := (List.mem_filter.mp hqm).2
    rw [decide_eq_true_eq] at a b
    omega
  · obtain ⟨p, hp, rfl⟩ := List.mem_map.mp hr
    exact c.rng _ (List.of_mem_zip (List.mem_filter.mp hp).1).2
structure RowsI (xs : List Int) (sp : Int) (j : Nat) (rows free : List Int) (freed many : Nat) : Prop where
  len : rows.length = j
  le : freed ≤ j
  perm : (free ++ rows.drop freed).Perm ((List.range many).map fun i : Nat => (i : Int))
  rng : ∀ r ∈ rows, 0 ≤ r ∧ r < many
  past : ∀ (i : Nat) (a b : Int), i < freed → xs[i]? = some a → xs[j]? = some b → a + sp ≤ b
  un : ∀ (i l : Nat) (a b p q : Int), i < l → l < j → xs[i]? = some a → xs[l]? = some b → rows[i]? = some p → rows[l]? = some q → b - a < sp → p ≠ q
  has : HasC xs sp many
theorem RowsI.start (xs : List Int) (sp : Int) : RowsI xs sp 0 [] [] 0 0 :=
  ⟨rfl, Nat.le_refl _, by simp, fun _ h => (by cases h), fun _ _ _ h => absurd h (Nat.not_lt_zero _), fun _ _ _ _ _ _ _ h => absurd h (Nat.not_lt_zero _), .zero⟩
/-- a row becomes free -/
theorem RowsI.free {xs : List Int} {sp : Int} {j : Nat} {rows free ms : List Int} {freed many : Nat} {r a b : Int} (h : RowsI xs sp j rows free freed many) (hr : rows[freed]? = some r) (ha : xs[freed]? = some a) (hb : xs[j]? = some b) (hab : a + sp ≤ b) (hm : ms.Perm (r :: free)) :
    RowsI xs sp j rows ms (freed + 1) many := by
  have hl := (List.getElem?_eq_some_iff.mp hr).1
  have l := h.len
  refine ⟨h.len, by omega, ?_, h.rng, fun i a' b' hi h1 h2 => ?_, h.un, h.has⟩
  · refine List.Perm.trans ?_ h.perm
    have e : rows.drop freed = r :: rows.drop (freed + 1) := by
      obtain ⟨hi, rfl⟩ := List.getElem?_eq_some_iff.mp hr
      exact List.drop_eq_getElem_cons hi
    rw [e]
    exact (hm.append_right _).trans (by simpa using (List.perm_middle (a := r) (l₁ := free) (l₂ := rows.drop (freed + 1))).symm)
  · by_cases z : i = freed
    · subst z
      rw [ha] at h1; cases h1
      rw [hb] at h2; cases h2
      exact hab
    · exact h.past i a' b' (by omega) h1 h2
/-- a free one is taken -/
theorem RowsI.take {xs : List Int} {sp : Int} {j : Nat} {rows free ms : List Int} {freed many : Nat} {r b : Int} (h : RowsI xs sp j rows free freed many) (hs : xs.Pairwise fun a b => a ≤ b) (hb : xs[j]? = some b) (hm : (r :: ms).Perm free) :
    RowsI xs sp (j + 1) (rows ++ [r]) ms freed many := by
  have l := h.len
  have hle := h.le
  have p : (r :: ms ++ rows.drop freed).Perm ((List.range many).map fun i : Nat => (i : Int)) := (hm.append_right _).trans h.perm
  have nd : (r :: ms ++ rows.drop freed).Nodup := by
    refine p.nodup_iff.mpr ?_
    rw [List.Nodup, List.pairwise_map]
    exact List.Pairwise.imp (fun {a b} hne e => hne (by omega)) List.nodup_range
  have hr : 0 ≤ r ∧ r < many := by
    have := p.mem_iff.mp (List.mem_append_left _ (List.mem_cons_self ..))
    obtain ⟨i, hi, rfl⟩ := List.mem_map.mp this
    have := List.mem_range.mp hi
    omega
  have rnot : r ∉ rows.drop freed := fun z => by
    rw [List.cons_append, List.nodup_cons] at nd
    exact nd.1 (List.mem_append_right _ z)
  refine ⟨by rw [List.length_append, l]; rfl, by omega, ?_, fun q hq => ?_, fun i a b' hi h1 h2 => ?_, fun i k a c q s hik hk h1 h2 h3 h4 hlt => ?_, h.has⟩
  · rw [List.drop_append_of_le_length (by omega)]
    refine List.Perm.trans ?_ p
    rw [← List.append_assoc]
    exact List.perm_append_comm
  · rcases List.mem_append.mp hq with hq | hq
    · exact h.rng q hq
    · rw [List.mem_singleton.mp hq]; exact hr
  · obtain ⟨hj1, e1⟩ := List.getElem?_eq_some_iff.mp h2
    obtain ⟨hj0, e0⟩ := List.getElem?_eq_some_iff.mp hb
    have := h.past i a b hi h1 hb
    have : b ≤ b' := by
      rw [← e1, ← e0]
      exact List.pairwise_iff_getElem.mp hs j (j + 1) hj0 hj1 (by omega)
    omega
  · rw [List.getElem?_append] at h3 h4
    rw [if_pos (by omega)] at h3
    by_cases z : k < j
    · rw [if_pos (by omega)] at h4
      exact h.un i k a c q s hik z h1 h2 h3 h4 hlt
    · have e : k = j := by omega
      subst e
      rw [if_neg (by omega), l, Nat.sub_self] at h4
      simp at h4
      subst h4
      rw [hb] at h2; cases h2
      intro e
      by_cases zf : i < freed
      · have := h.past i a b zf h1 hb
        omega
      · refine rnot (e ▸ List.mem_iff_getElem?.mpr ⟨i - freed, ?_⟩)
        rw [List.getElem?_drop, show freed + (i - freed) = i by omega]
        exact h3
end DV
namespace DV
open PySem PySem.Spec PyProof.Rows L2
open LamX (ExtN TabS Tabs CodeO)
structure Lmp where
  x : Int
  z : Int
  sh : List Str
  w : Int
def eLm (l : Lmp) : PyData := .tuple [.int l.x, .int l.z, .tuple (l.sh.map .str), .int l.w]
def eP (ls : List Lmp) : PyData := .tuple (ls.map eLm)
def lxs (ls : List Lmp) : List Int := ls.map Lmp.x
def UpL (xs : List Int) : Prop := xs.Pairwise fun a b => a ≤ b
theorem UpL.at {xs : List Int} (h : UpL xs) {i k : Nat} {a c : Int} (hik : i ≤ k) (h1 : xs[i]? = some a) (h2 : xs[k]? = some c) : a ≤ c := by
  by_cases e : i = k
  · subst e
    rw [h1] at h2; cases h2; omega
  · obtain ⟨hi, rfl⟩ := List.getElem?_eq_some_iff.mp h1
    obtain ⟨hk, rfl⟩ := List.getElem?_eq_some_iff.mp h2
    exact List.pairwise_iff_getElem.mp h i k hi hk (by omega)
theorem lxs_at {ls : List Lmp} {i : Nat} {l : Lmp} (h : ls[i]? = some l) : (lxs ls)[i]? = some l.x := by
  unfold lxs; rw [List.getElem?_map, h]; rfl
theorem lxs_len (ls : List Lmp) : (lxs ls).length = ls.length := List.length_map ..
theorem as_enc {α : Type} (enc : α → PyData) (P : Nat → α → Prop) : ∀ (zs : List PyData), (∀ i z, zs[i]? = some z → ∃ a, z = enc a ∧ P i a) → ∃ as : List α, zs = as.map enc ∧ ∀ i a, as[i]? = some a → P i a := by
  intro zs
  induction zs generalizing P with
  | nil => exact fun _ => ⟨[], rfl, fun i a h => by simp at h⟩
  | cons z zs ih =>
    intro h
    obtain ⟨a, rfl, p⟩ := h 0 z rfl
    obtain ⟨as, rfl, q⟩ := ih (fun i => P (i + 1)) fun i z hz => h (i + 1) z (by simpa using hz)
    refine ⟨a :: as, rfl, fun i b hb => ?_⟩
    cases i with
    | zero => simp at hb; subst hb; exact p
    | succ i => exact q i b (by simpa using hb)
theorem win_last {xs : List Int} {sp y : Int} {n : Nat} (hs : UpL xs) (n0 : 1 ≤ n) (h : n ≤ (win xs sp y).length) : ∃ b, xs[n - 1]? = some b ∧ b < y + sp := by
  have e : win xs sp y = (xs.take (n - 1)).filter (fun x => decide (y ≤ x ∧ x < y + sp)) ++ (xs.drop (n - 1)).filter (fun x => decide (y ≤ x ∧ x < y + sp)) := by
    rw [← List.filter_append, List.take_append_drop]; rfl
  rw [e, List.length_append] at h
  have h1 : ((xs.take (n - 1)).filter fun x => decide (y ≤ x ∧ x < y + sp)).length ≤ n - 1 := Nat.le_trans (List.length_filter_le ..) (by rw [List.length_take]; omega)
  obtain ⟨c, hc⟩ := List.exists_mem_of_length_pos (show 0 < ((xs.drop (n - 1)).filter fun x => decide (y ≤ x ∧ x < y + sp)).length by omega)
  obtain ⟨hc1, hc2⟩ := List.mem_filter.mp hc
  rw [decide_eq_true_eq] at hc2
  obtain ⟨i, hi⟩ := List.mem_iff_getElem?.mp hc1
  rw [List.getElem?_drop] at hi
  have hl := (List.getElem?_eq_some_iff.mp hi).1
  have hb := List.getElem?_eq_getElem (show n - 1 < xs.length by omega)
  have := hs.at (show n - 1 ≤ n - 1 + i by omega) hb hi
  exact ⟨_, hb, by omega⟩
theorem win_first {sp y : Int} {n : Nat} (n0 : 1 ≤ n) : ∀ {xs : List Int}, UpL xs → n ≤ (win xs sp y).length → ∃ j a b, xs[j]? = some a ∧ xs[j + (n - 1)]? = some b ∧ b < a + sp
  | [], _, h => by
    have : (win [] sp y).length = 0 := rfl
    omega
  | x :: xs, hs, h => by
    by_cases hx : y ≤ x ∧ x < y + sp
    · obtain ⟨b, hb, hlt⟩ := win_last hs n0 h
      exact ⟨0, x, b, rfl, by rw [Nat.zero_add]; exact hb, by omega⟩
    · have e : win (x :: xs) sp y = win xs sp y := by
        unfold win
        rw [List.filter_cons, if_neg (by rw [decide_eq_true_eq]; exact hx)]
      rw [e] at h
      obtain ⟨j, a, b, h1, h2, h3⟩ := win_first n0 (List.pairwise_cons.mp hs).2 h
      exact ⟨j + 1, a, b, by simpa using h1, by rw [show j + 1 + (n - 1) = (j + (n - 1)) + 1 by omega]; simpa using h2, h3⟩
/-- the most abreast, told place by place -/
structure Abr (xs : List Int) (sp : Int) (i : Nat) (m last : Nat) : Prop where
  has : HasC xs sp m
  le : last ≤ xs.length
  lo : i ≤ last
  z0 : i = 0 → last = 0
  low : ∀ k a b, k < last → 0 < i → xs[k]? = some a → xs[i - 1]? = some b → a < b + sp
  all : ∀ (j l : Nat) (a b : Int), j < i → j ≤ l → xs[j]? = some a → xs[l]? = some b → b < a + sp → l + 1 - j ≤ m
theorem Abr.most {xs : List Int} {sp : Int} {m last n : Nat} (h : Abr xs sp xs.length m last) (hs : UpL xs) (k : HasC xs sp n) : n ≤ m := by
  by_cases z : n = 0
  · omega
  obtain ⟨y, k⟩ := k
  obtain ⟨j, a, b, h1, h2, h3⟩ := win_first (by omega) hs k
  have := h.all j (j + (n - 1)) a b (List.getElem?_eq_some_iff.mp h1).1 (by omega) h1 h2 h3
  omega
theorem Abr.start (xs : List Int) (sp : Int) : Abr xs sp 0 0 0 := ⟨.zero, Nat.zero_le _, Nat.le_refl _, fun _ => rfl, fun _ _ _ h => absurd h (Nat.not_lt_zero _), fun _ _ _ _ h => absurd h (Nat.not_lt_zero _)⟩
end DV
namespace DV
open PySem PySem.Spec PyProof.Rows L2
open LamX (ExtN TabS Tabs CodeO)
theorem dataLe_total (a b : PyData) : (PySem.W.dataLe false id a b || PySem.W.dataLe false id b a) = true := by
  show ((!PySem.W.dataLt b a) || (!PySem.W.dataLt a b)) = true
  cases h : PySem.W.dataLt b a with
  | false => rfl
  | true =>
    cases h2 : PySem.W.dataLt a b with
    | false => rfl
    | true =>
      exfalso
      have t := (PyProof.Rows.listOrd PyProof.Rows.itemOrd).trans (a := PySem.W.keyToks a) (b := PySem.W.keyToks b) (c := PySem.W.keyToks a) h2 h
      rw [(PyProof.Rows.listOrd PyProof.Rows.itemOrd).irrefl] at t
      cases t
theorem dataLe_trans (a b c : PyData) (h1 : PySem.W.dataLe false id a b = true) (h2 : PySem.W.dataLe false id b c = true) : PySem.W.dataLe false id a c = true := by
  have h1 : (!PySem.W.dataLt b a) = true := h1
  have h2 : (!PySem.W.dataLt c b) = true := h2
  show (!PySem.W.dataLt c a) = true
  rw [Bool.not_eq_true'] at *
  cases h : PySem.W.dataLt c a with
  | false => rfl
  | true =>
    exfalso
    rcases (PyProof.Rows.listOrd PyProof.Rows.itemOrd).negTrans (a := PySem.W.keyToks c) (b := PySem.W.keyToks b) (c := PySem.W.keyToks a) h with z | z
    · rw [show PySem.W.dataLt c b = true from z] at h2; cases h2
    · rw [show PySem.W.dataLt b a = true from z] at h1; cases h1
structure PreL (xs : List Int) (sp : Int) (k : Nat) (p : List Int) : Prop where
  len : p.length ≤ xs.length
  rng : ∀ r ∈ p, 0 ≤ r ∧ r < k
  un : ∀ (i j : Nat) (a b q s : Int), i < j → xs[i]? = some a → xs[j]? = some b → p[i]? = some q → p[j]? = some s → b - a < sp → q ≠ s
theorem PreL.nil {xs : List Int} {sp : Int} {k : Nat} : PreL xs sp k [] := ⟨Nat.zero_le _, fun _ h => (by cases h), fun _ _ _ _ _ _ _ _ _ h => (by simp at h)⟩
theorem any_int (xs : List Int) (x : Int) : ((xs.map PyData.int).any fun z => PyData.eqv z (.int x)) = decide (x ∈ xs) := by
  rw [List.any_map, Bool.eq_iff_iff, List.any_eq_true, decide_eq_true_eq]
  constructor
  · rintro ⟨y, h1, h2⟩
    rw [Function.comp, eqv_int, decide_eq_true_eq] at h2
    subst h2
    exact h1
  · exact fun h => ⟨x, h, by rw [Function.comp, eqv_int]; exact decide_eq_true rfl⟩
theorem RowsI.few {xs : List Int} {sp : Int} {j : Nat} {rows free : List Int} {freed many : Nat} (h : RowsI xs sp j rows free freed many) : free.length ≤ xs.length := by
  have a := h.perm.length_eq
  rw [List.length_append, List.length_map, List.length_range] at a
  have := h.has.size
  omega
/-- the number of rows is told by the xs alone -/
def Rown (xs : List Int) (sp : Int) (n : Nat) : Prop := HasC xs sp n ∧ ∀ m, HasC xs sp m → m ≤ n
theorem Rown.of {xs rs : List Int} {sp : Int} {n : Nat} (c : ColL xs sp n rs) (h : HasC xs sp n) : Rown xs sp n := ⟨h, fun m k => col_has c k⟩
theorem UpL.sub {xs ys : List Int} (h : UpL ys) (k : xs.Sublist ys) : UpL xs := List.Pairwise.sublist k h
theorem sh_intsL (xs : List Int) : SeqAt.shaped (PyData.list (xs.map .int)) = true := (Shp.list (k := 0) (Shp.map fun p _ => .int)).shaped
theorem sh_nilL : SeqAt.shaped (PyData.list []) = true := sh_intsL []
end DV
namespace DV
open PySem PySem.Spec PyProof.Rows PySem.Calls PySem.W
end DV
namespace DV
open PySem PySem.Spec PyProof.Rows L2
open LamX (ExtN TabS Tabs CodeO)
section
variable {X : Cx} {F : Fm} {e : Expr} {t : TA} {d : TDA} {pos : Pos}
def dSortDT (t : TDA) : TDL := fun ρ Q => t ρ fun rs ρ1 => match rs with
  | [r] => onT r fun xs => CanSort xs ∧ Q (sortD xs) ρ1
  | _ => False
def dDead : TDS := fun _ _ => False
end
end DV
namespace DV
open PySem PySem.Spec PyProof.Rows L2
open LamX (ExtN TabS Tabs CodeO)
section
variable {X : Cx} {F : Fm} {a b : Expr} {ta tb : TE} {da db : TDE} {dl dm : TDL} {pos : Pos}
def dParR (i j : Nat) (te : TDE) (tl : TDL) : TDS := fun DD ρ => te ρ fun r ρ1 => onDat r fun y => tl ρ1 fun xs ρ2 => DD.nx ((ρ2.set i (some (.d y))).set j (some (.own xs)))
end
def le2 (p q : P2) : Prop := p.1 < q.1 ∨ (p.1 = q.1 ∧ p.2 ≤ q.2)
theorem alike_prs (a b c d : Int) : PySem.W.alike (pr a b) (pr c d) = true := by simp [pr, PySem.W.alike, PySem.W.alikeAll]
theorem lt_pr (a b c d : Int) : PySem.W.dataLt (pr a b) (pr c d) = decide (a < c ∨ (a = c ∧ b < d)) := PySem.W.dataLt_ii a b c d
theorem le2_of {p q : P2} (h : PySem.W.dataLe false id (enc2 p) (enc2 q) = true) : le2 p q := by
  have h : (!PySem.W.dataLt (pr q.1 q.2) (pr p.1 p.2)) = true := h
  rw [lt_pr] at h
  rw [Bool.not_eq_true', decide_eq_false_iff_not] at h
  unfold le2
  omega
theorem can_sort {α : Type} (enc : α → PyData) (h : ∀ a b, PySem.W.alike (enc a) (enc b) = true) (t : ∀ a, ∃ x r, enc a = .tuple (x :: r)) (d : ∀ a, (enc a).depth ≤ 50) (xs : List α) : CanSort (xs.map enc) where
  al := fun x hx y hy => by
    obtain ⟨a, _, rfl⟩ := List.mem_map.mp hx
    obtain ⟨b, _, rfl⟩ := List.mem_map.mp hy
    exact h a b
  so := .inl fun x hx => by
    obtain ⟨a, _, rfl⟩ := List.mem_map.mp hx
    exact t a
  dp := fun x hx => by
    obtain ⟨a, _, rfl⟩ := List.mem_map.mp hx
    exact d a
theorem can_sort_cols (ps : List P2) : CanSort (ps.map enc2) := can_sort enc2 (fun a b => alike_prs ..) (fun a => ⟨_, _, rfl⟩) (fun a => by simp [enc2, pr, PyData.depth, PyData.depthAll]) ps
theorem sort_by {α : Type} {enc : α → PyData} {le : α → α → Prop} (hle : ∀ a b, PySem.W.dataLe false id (enc a) (enc b) = true → le a b) (xs : List α) : ∃ ms : List α, sortD (xs.map enc) = ms.map enc ∧ ms.Perm xs ∧ ms.Pairwise le := by
  obtain ⟨ms, e, hp⟩ := perm_of_map (List.mergeSort_perm (xs.map enc) (PySem.W.dataLe false id)) rfl
  refine ⟨ms, e, hp, ?_⟩
  have hs := List.pairwise_mergeSort (le := PySem.W.dataLe false id) dataLe_trans dataLe_total (xs.map enc)
  rw [e, List.pairwise_map] at hs
  exact hs.imp fun h => hle _ _ h
theorem sort_cols (ps : List P2) : ∃ qs : List P2, sortD (ps.map enc2) = qs.map enc2 ∧ qs.Perm ps ∧ qs.Pairwise le2 := sort_by (fun _ _ => le2_of) ps
theorem filterMap_if {α β : Type} (p : α → Bool) (f : α → β) : ∀ xs : List α, (xs.filterMap fun c => if p c = true then some (f c) else none) = (xs.filter p).map f
  | [] => rfl
  | x :: xs => by
    rw [List.filterMap_cons, List.filter_cons]
    cases h : p x with
    | true => simp only [if_true, List.map_cons, filterMap_if p f xs]
    | false => simp only [Bool.false_eq_true, if_false, filterMap_if p f xs]
def fMax3 : FA
  | [.int i, .int j, .int k], Q => Q (.int (if k > (if j > i then j else i) then k else (if j > i then j else i)))
  | _, _ => False
end DV
namespace DV
open PySem PySem.Spec PyProof.Rows L2
open LamX (ExtN TabS Tabs CodeO)
section
variable {F : Fm} {pins : List Pin} {ρ : Rho} {σ : L2.St} {H : Hp}
theorem Ok.newDic (O : Ok F pins ρ σ H) {i : Nat} {p : Addr} (hp : H p = none) (hi : Fr pins i) :
    Ok F pins (ρ.set i (some (.dic []))) (σ.set i (some (.ref p))) (upd H p (.dT [])) := by
  have nAv : ¬ Av F pins ρ σ p := fun h => by obtain ⟨o, h⟩ := O.avH h; rw [hp] at h; cases h
  have h00 : F.H0 p = none := by
    cases e : F.H0 p with
    | none => rfl
    | some o =>
      by_cases hl : F.L p
      · exact absurd (.inl (O.ln p hl)) nAv
      · exact absurd hp (O.fr0 p o hl e)
  have O1 := O.new (o := .dT []) hp
  have nAv1 : ¬ ∃ j, OwnAt ρ σ j p := fun ⟨j, h⟩ => nAv (.inr (.inl ⟨j, h⟩))
  have ow : ∀ j b, OwnAt (ρ.set i (some (.dic []))) (σ.set i (some (.ref p))) j b → (j = i ∧ b = p) ∨ (j ≠ i ∧ OwnAt ρ σ j b) := fun j b h => by
    obtain ⟨⟨ys, h1, hm⟩, h2⟩ := h
    rcases getset h1 with ⟨rfl, q, hl⟩ | ⟨ne, q⟩
    · rw [List.getElem?_set_self (by rw [O.len]; exact hl)] at h2
      cases h2; exact .inl ⟨rfl, rfl⟩
    · rw [List.getElem?_set_ne (fun z => ne z.symm)] at h2
      exact .inr ⟨ne, ⟨ys, q, hm⟩, h2⟩
  have G : Go (Av F pins ρ σ) (Av F pins (ρ.set i (some (.dic []))) (σ.set i (some (.ref p)))) H (upd H p (.dT [])) := by
    refine ⟨fun a o _ h _ => grow_new hp a o h, fun a h => ?_⟩
    rcases h with h | ⟨j, h⟩ | h
    · exact .inl (.inl h)
    · rcases ow j a h with ⟨_, rfl⟩ | ⟨_, h⟩
      · exact .inr hp
      · exact .inl (.inr (.inl ⟨j, h⟩))
    · exact .inl (.inr (.inr h))
  have g := grow_new (o := .dT []) hp
  refine ⟨by rw [List.length_set, List.length_set]; exact O.len, fun j f hj => ?_, fun j k b z1 z2 => ?_, fun q hq => ?_, O.acs, fun a o n h m => g _ _ (O.fr a o n h m), fun a h => ?_, O.ln, O.h0, fun j b z hL => ?_, O.tb.ext g⟩
  · rcases getset hj with ⟨rfl, q, hl⟩ | ⟨ne, q⟩
    · cases q
      exact ⟨.ref p, by rw [List.getElem?_set_self (by rw [O.len]; exact hl)], p, [], rfl, upd_same, rfl, .nil, h00⟩
    · obtain ⟨v, h3, h4⟩ := O.ent j f q
      exact ⟨v, by rw [List.getElem?_set_ne (fun z => ne z.symm)]; exact h3, EntOk.go G h4 fun b o _ z _ => g _ _ z⟩
  · rcases ow j b z1 with ⟨e1, e2⟩ | ⟨n1, y1⟩
    · rcases ow k b z2 with ⟨e3, _⟩ | ⟨n2, y2⟩
      · rw [e1, e3]
      · rw [e2] at y2; exact absurd ⟨k, y2⟩ nAv1
    · rcases ow k b z2 with ⟨e3, e4⟩ | ⟨n2, y2⟩
      · rw [e4] at y1; exact absurd ⟨j, y1⟩ nAv1
      · exact O.own j k b y1 y2
  · have h := O.pin q hq
    cases q with
    | val v r =>
      cases r with
      | d x => exact Im.go G h
      | o j =>
        have ne := hi v j hq
        obtain ⟨h1, x, h2⟩ := h
        exact ⟨by rw [List.getElem?_set_ne (fun z => ne z.symm)]; exact h1, x, by rw [slot_ne ne]; exact h2⟩
      | raw u => exact h
    | acc b ys =>
      obtain ⟨us, h3, h4, h5, h6⟩ := h
      refine ⟨us, g _ _ h3, h4.go G, h5, fun ⟨j, z⟩ => ?_⟩
      rcases ow j b z with ⟨_, rfl⟩ | ⟨_, z⟩
      · exact nAv (.inr (.inr (mem_accs.mpr ⟨ys, hq⟩)))
      · exact h6 ⟨j, z⟩
    | frz b o =>
      obtain ⟨u, h1⟩ := h
      exact ⟨u, g _ _ h1⟩
  · obtain ⟨o, h, m⟩ := O.nh a h
    exact ⟨o, g _ _ h, m⟩
  · rcases ow j b z with ⟨_, rfl⟩ | ⟨_, z⟩
    · obtain ⟨o, h⟩ := O.h0 b (O.ln b hL)
      rw [h00] at h; cases h
    · exact O.lf j b z hL
end
section
variable {X : Cx} {F : Fm} {pos : Pos}
def dNewDic (i : Nat) : TDS := fun DD ρ => DD.nx (ρ.set i (some (.dic [])))
/-- d = {} -/
theorem ds_newDic {i : Nat} {x : Str} {pos' p2 : Pos} (hN : X.N.Nodup) (hf : ¬ F.fix i) (hi : X.N[i]? = some x := by rfl) (hx : Loc X.env.scope x := by first | exact Or.inl rfl | exact Or.inr rfl) (hs : swapsWith (.Dict [] [] p2) (some (.Name x pos')) pos.line X.env = pure false := by rfl) (hfn : X.fn x = true ∨ X.env.scope.names.lookup x = some .local := by first | exact .inl rfl | exact .inr rfl) :
    PDS X F (.Assign [.Name x pos'] (.Dict [] [] p2) pos) (tAsg tDNewT (gName i)) (dNewDic i) :=
  ⟨ps_set hN hi hx pe_dnewT hs hfn, fun pins ρ σ H D DD O S R h => fun p hp => R.nx _ _ _ (O.newDic hp (S.fr hf)) h⟩
end
end DV
namespace DV
open PySem PySem.Spec PyProof.Rows L2
open LamX (ExtN TabS Tabs CodeO)
def putD (kvs : List (List L2.Key × PyData)) (k : List L2.Key) (y : PyData) : List (List L2.Key × PyData) :=
  if (kvs.any fun kv => decide (kv.1 = k)) = true then kvs.map (fun kv => if kv.1 = k then (kv.1, y) else kv) else kvs ++ [(k, y)]
theorem any_keys {α β : Type} (k : List L2.Key) : ∀ {xs : List (List L2.Key × α)} {ys : List (List L2.Key × β)}, xs.map (·.1) = ys.map (·.1) → (xs.any fun kv => decide (kv.1 = k)) = ys.any fun kv => decide (kv.1 = k)
  | [], [], _ => rfl
  | [], _ :: _, h => by cases h
  | _ :: _, [], h => by cases h
  | x :: xs, y :: ys, h => by
    rw [List.map_cons, List.map_cons, List.cons.injEq] at h
    rw [List.any_cons, List.any_cons, h.1, any_keys k h.2]
section
variable {K : PySem.W.Frag} {N : Addr → Prop} {H : Hp}
theorem put_repl {k : List L2.Key} {y : PyData} {v : V} (hy : Im K N H y v) : ∀ {vs : List (List L2.Key × V)} {kvs : List (List L2.Key × PyData)}, vs.map (·.1) = kvs.map (·.1) → ImAll K N H (kvs.map (·.2)) (vs.map (·.2)) →
    (vs.map fun kv => if kv.1 = k then (kv.1, v) else kv).map (·.1) = (kvs.map fun kv => if kv.1 = k then (kv.1, y) else kv).map (·.1) ∧ ImAll K N H ((kvs.map fun kv => if kv.1 = k then (kv.1, y) else kv).map (·.2)) ((vs.map fun kv => if kv.1 = k then (kv.1, v) else kv).map (·.2))
  | [], [], _, _ => ⟨rfl, .nil⟩
  | [], _ :: _, h, _ => by cases h
  | _ :: _, [], h, _ => by cases h
  | x :: xs, p :: ps, h, im => by
    rw [List.map_cons, List.map_cons, List.cons.injEq] at h
    rw [List.map_cons, List.map_cons] at im
    simp only [ImAll] at im
    obtain ⟨w, ws, e, h1, h2⟩ := im
    rw [List.cons.injEq] at e
    obtain ⟨rfl, rfl⟩ := e
    obtain ⟨i1, i2⟩ := put_repl (k := k) hy h.2 h2
    simp only [List.map_cons]
    by_cases z : p.1 = k
    · rw [if_pos z, if_pos (h.1.trans z)]
      exact ⟨by rw [i1, h.1], .cons hy i2⟩
    · rw [if_neg z, if_neg (fun q => z (h.1.symm.trans q))]
      exact ⟨by rw [i1, h.1], .cons h1 i2⟩
theorem put_rel {k : List L2.Key} {y : PyData} {v : V} (hy : Im K N H y v) {vs : List (List L2.Key × V)} {kvs : List (List L2.Key × PyData)} (h : vs.map (·.1) = kvs.map (·.1)) (im : ImAll K N H (kvs.map (·.2)) (vs.map (·.2))) :
    (putK vs k v).map (·.1) = (putD kvs k y).map (·.1) ∧ ImAll K N H ((putD kvs k y).map (·.2)) ((putK vs k v).map (·.2)) := by
  unfold putK putD
  rw [any_keys k h]
  by_cases z : (kvs.any fun kv => decide (kv.1 = k)) = true
  · rw [if_pos z, if_pos z]
    exact put_repl hy h im
  · rw [if_neg z, if_neg z, List.map_append, List.map_append, List.map_append, List.map_append]
    exact ⟨by rw [h]; rfl, im.append (.cons hy .nil)⟩
end
section
variable {F : Fm} {pins : List Pin} {ρ : Rho} {σ : L2.St} {H : Hp}
theorem setMine_iff {i : Nat} {a : Addr} {f : Ent} (hf : f.mine) (h : OwnAt ρ σ i a) (j : Nat) (b : Addr) : OwnAt (ρ.set i (some f)) σ j b ↔ OwnAt ρ σ j b := by
  obtain ⟨⟨ys, h1, hm⟩, h2⟩ := h
  have hi : i < ρ.length := by
    rcases Nat.lt_or_ge i ρ.length with z | z
    · exact z
    · rw [List.getElem?_eq_none z] at h1; cases h1
  by_cases e : i = j
  · subst e
    constructor
    · rintro ⟨_, h3⟩; exact ⟨⟨ys, h1, hm⟩, h3⟩
    · rintro ⟨_, h3⟩; exact ⟨⟨f, by simp [hi], hf⟩, h3⟩
  · unfold OwnAt
    rw [List.getElem?_set_ne e]
theorem Ok.setDic (O : Ok F pins ρ σ H) {i : Nat} {a : Addr} {kvs0 kvs : List (List L2.Key × PyData)} {vs : List (List L2.Key × V)} (h0 : ρ[i]? = some (some (.dic kvs0))) (h : OwnAt ρ σ i a) (hk : vs.map (·.1) = kvs.map (·.1)) (hx : ImAll F.K (Av F pins ρ σ) H (kvs.map (·.2)) (vs.map (·.2))) :
    Ok F pins (ρ.set i (some (.dic kvs))) σ (upd H a (.dT vs)) := by
  have oe := setMine_iff (f := .dic kvs) trivial h
  have ae : Av F pins (ρ.set i (some (.dic kvs))) σ = Av F pins ρ σ := by
    funext b
    unfold Av
    simp only [oe]
  have aa : Av F pins ρ σ a := .inr (.inl ⟨i, h⟩)
  have G : Go (Av F pins ρ σ) (Av F pins ρ σ) H (upd H a (.dT vs)) := ⟨fun b o n e _ => by
    have hb : b ≠ a := fun z => n (by rw [z]; exact aa)
    rw [upd_ne hb]; exact e, fun b z => .inl z⟩
  obtain ⟨v0, s0, a0, vs0, e0, _, _, _, h00⟩ := O.ent i _ h0
  have e1 : v0 = .ref a := by have := h.2; rw [this] at s0; cases s0; rfl
  rw [e1] at e0
  cases e0
  obtain ⟨o0, hH, hl⟩ := O.ownL h
  have hi : i < ρ.length := by
    rcases Nat.lt_or_ge i ρ.length with z | z
    · exact z
    · rw [List.getElem?_eq_none z] at h0; cases h0
  refine ⟨by rw [List.length_set]; exact O.len, fun j e hj => ?_, fun j k b z1 z2 => O.own j k b ((oe j b).mp z1) ((oe k b).mp z2), fun p hp => ?_, O.acs, fun b o n e m => ?_, fun b z => ?_, O.ln, O.h0, fun j b z => O.lf j b ((oe j b).mp z), ?_⟩
  · rw [ae]
    by_cases e2 : i = j
    · subst e2
      rw [List.getElem?_set_self hi] at hj
      cases hj
      exact ⟨.ref a, h.2, a, vs, rfl, upd_same, hk, hx.go G, h00⟩
    · rw [List.getElem?_set_ne e2] at hj
      obtain ⟨v, h3, h4⟩ := O.ent j e hj
      refine ⟨v, h3, EntOk.go G h4 fun b us ev hb ex => ?_⟩
      subst ev
      rw [upd_ne (fun z => e2 (O.own i j a h (by subst z; exact ⟨⟨e, hj, ex⟩, h3⟩)))]
      exact hb
  · rw [ae]
    have hq := O.pin p hp
    cases p with
    | val v r =>
      cases r with
      | d x => exact Im.go G hq
      | o j =>
        obtain ⟨g1, x, g2⟩ := hq
        have ne : j ≠ i := fun z => by
          subst z
          unfold slot at g2
          rw [h0] at g2
          cases g2
        exact ⟨g1, x, by rw [slot_ne ne]; exact g2⟩
      | raw u => exact hq
    | acc b ys =>
      obtain ⟨us, h3, h4, h5, h6⟩ := hq
      have hb : b ≠ a := fun z => h6 ⟨i, by rw [z]; exact h⟩
      exact ⟨us, by rw [upd_ne hb]; exact h3, h4.go G, h5, fun ⟨j, z⟩ => h6 ⟨j, (oe j b).mp z⟩⟩
    | frz b o =>
      obtain ⟨u, h1⟩ := hq
      refine ⟨u, ?_⟩
      rw [upd_ne (fun z => ?_)]
      · exact h1
      · subst z
        obtain ⟨w, g1, g2, _⟩ := O.ownM h
        rw [h1] at g1; cases g1; exact g2.elim
  · have hb : b ≠ a := fun z => by
      subst z
      rw [h00] at e; cases e
    rw [upd_ne hb]
    exact O.fr b o n e m
  · by_cases hb : b = a
    · rw [hb]; exact ⟨_, upd_same, trivial⟩
    · obtain ⟨o, e, m⟩ := O.nh b z
      exact ⟨o, by rw [upd_ne hb]; exact e, m⟩
  · obtain ⟨o1, e1, m1⟩ := O.avM aa
    exact O.tb.upd e1 m1
end
section
variable {X : Cx} {F : Fm} {pos : Pos} {es : List Expr} {t : TA} {d : TDA} {value : Expr} {tv : TE} {dv : TDE}
def onDic (ρ : Rho) (i : Nat) (f : List (List L2.Key × PyData) → Prop) : Prop := match ρ[i]? with
  | some (some (.dic kvs)) => f kvs
  | _ => False
theorem onDic_of {ρ : Rho} {i : Nat} {f : List (List L2.Key × PyData) → Prop} (h : onDic ρ i f) : ∃ kvs, ρ[i]? = some (some (.dic kvs)) ∧ f kvs := by
  unfold onDic at h
  split at h
  · exact ⟨_, by assumption, h⟩
  · exact h.elim
/-- d[x, z] = v -/
def dDicPut (i : Nat) (t : TDA) (tv : TDE) : TDS := fun DD ρ => tv ρ fun r ρ1 => onDat r fun y => onDic ρ1 i fun _ => t ρ1 fun rs ρ2 => onD rs fun ds => match ds with
  | [.int x, .int z] => onDic ρ2 i fun kvs => kvs.length + 1 ≤ 100000 ∧ DD.nx (ρ2.set i (some (.dic (putD kvs [.inl x, .inl z] y))))
  | _ => False
theorem ds_dicPut {i : Nat} {x : Str} {vpos p2 spos : Pos} {x1} (hu : X.A.units + 1 < cLine) (ht : PDA X F es t d) (hv : PD X F value tv dv) (hN : X.N[i]? = some x := by rfl) (hvis : Vis X.env.scope x := by first | exact Or.inl rfl | exact Or.inr (Or.inl rfl) | exact Or.inr (Or.inr rfl)) (hd : (x == ("__debug__" : Str)) = false := by decide)
    (hcd : (x == ("__classdict__" : Str)) = false := by decide) (hs : swapsWith value (some (.Subscript (.Name x vpos) (.Tuple es x1 p2) spos)) pos.line X.env = pure false := by rfl) :
    PDS X F (.Assign [.Subscript (.Name x vpos) (.Tuple es x1 p2) spos] value pos) (sDPut (tVar i) (tTup t) tv) (dDicPut i d dv) := by
  refine ⟨ps_dput hu (pe_var hN hvis hd hcd) (pe_tup ht.pa) hv.pe hs, fun pins ρ σ H D DD O S R h => ?_⟩
  refine hv.de.run pins ρ σ H _ O (hv.de.mono _ _ _ (fun r ρ1 h1 v H1 O1 R1 => ?_) h)
  cases r with
  | o k => exact h1.elim
  | raw u => exact h1.elim
  | d y =>
    obtain ⟨kvs0, e0, h2⟩ := onDic_of h1
    have O2 := O1.push R1
    obtain ⟨va, sa, a, vs0, rfl, _⟩ := O2.ent i _ e0
    refine ⟨.ref a, sa, ?_⟩
    refine ht.da.run (.val v (.d y) :: pins) ρ1 σ H1 _ O2 (ht.da.mono _ _ _ (fun rs ρ2 h3 us H2 O3 R3 => ?_) h2)
    obtain ⟨ds, ed, h4⟩ := onD_of h3
    have im := dats_im R3 ed
    split at h4
    · rename_i x z
      have eu : us = [.int x, .int z] := by
        simp only [ImAll, Im] at im
        obtain ⟨v1, w1, rfl, rfl, v2, w2, rfl, rfl, rfl⟩ := im
        rfl
      subst eu
      obtain ⟨kvs, e5, hl, h6⟩ := onDic_of h4
      refine ⟨few_le (show 2 ≤ 100000 by decide), fun p hp => ?_⟩
      obtain ⟨O4, _⟩ := newTup O3 hp im
      obtain ⟨vb, sb, b, vs, rfl, hb, hk, him, h00⟩ := O4.ent i _ e5
      have eb : b = a := by rw [sa] at sb; cases sb; rfl
      subst eb
      obtain ⟨O5, R5⟩ := O4.popV
      have len : vs.length = kvs.length := by have := congrArg List.length hk; rwa [List.length_map, List.length_map] at this
      have own : OwnAt ρ2 σ i b := ⟨⟨_, e5, trivial⟩, sb⟩
      have pr := put_rel (k := [.inl x, .inl z]) (show Im F.K (Av F pins ρ2 σ) _ y v from R5) hk him
      have fw : vs.length < sizeLine := by rw [len, sizeLine_eq]; omega
      exact ⟨b, _, rfl, DPut.t (k := [.inl x, .inl z]) hb upd_same fw, R.nx _ _ _ (O5.setDic e5 own pr.1 pr.2) h6⟩
    · exact h4.elim
end
end DV
namespace DV
open PySem PySem.Spec PyProof.Rows PySem.Calls PySem.W
section
variable {prog : Program} {w : World} {A : Around} {E : Value → Shared → Prop} {s : Shared}
/-- what is collected, and that the heap has grown -/
theorem collect_grown {T : String} {r d : Addr} {n : Nat} {P : Nat → Value → Prop} {OK : Heap → Prop} {R : List Value → Shared → Prop} (K : KdlSrc prog w T r d n P OK) (hh : A.handled = none) (hok : OK s.heap) (hn : n ≤ sizeLine)
    (h : ∀ (h' : Heap) (tk : Nat) (acc : Array Value), s.heap.objs.size < h'.objs.size → (∀ b o, s.heap.get? b = some o → h'.get? b = some o) → ItemsOf P acc n → R acc.toList { s with heap := h', toks := tk }) :
    wpAny (model prog w) A (collect (.ref r)) R E s := by
  have hlt := K.there _ hok
  unfold collect
  refine wpAny_bind (wpAny_runValue (codeAny_builtin entry_proto_collect' ?_))
  rw [Around.under_plainId PySem.F.plain_proto_collect _]
  show wpAny _ A.in1 (newList [] >>= fun l => again (.builtin "list.__iadd__" ⟨[l, .ref r], []⟩)) _ _ s
  refine wpAny_bind (wpAny_newObj_type ?_)
  refine wpAny_pure ⟨plainId_quiet PySem.F.plain_list_iadd _, codeAny_builtin entry_list_iadd' ?_⟩
  rw [Around.under_plainId PySem.F.plain_list_iadd _]
  have hS₁ : (s.heap.push { cls := .type "list", data := .seq ([] : List Value).toArray }).get? s.heap.objs.size = some { cls := .type "list", data := .seq #[] } := Heap.get?_push_size _ rfl
  show wpAny _ A.in1 (Builtin.List.listExtendWith (.ref s.heap.objs.size) (.ref r) (.ref s.heap.objs.size)) _ _ _
  have key := kdl_extend (A := A) (s := { s with heap := s.heap.push { cls := .type "list", data := .seq ([] : List Value).toArray } })
    (R := fun (q : Result) (s' : Shared) => ∃ (h' : Heap) (tk : Nat) (acc' : Array Value) (c' : Nat), q = .ok (.ret (.ref s.heap.objs.size)) ∧ s' = { s with heap := h', toks := tk } ∧
      (∀ b o, s.heap.get? b = some o → h'.get? b = some o) ∧ h'.get? s.heap.objs.size = some { cls := .type "list", dict := none, data := .seq acc' c', slots := #[] } ∧ ItemsOf P acc' n)
    K hh (K.keep _ _ hok fun b _ o e => Heap.get?_push_of_some _ e) s.heap.objs.size (Nat.ne_of_gt hlt.1) (Nat.ne_of_gt hlt.2) (.ref s.heap.objs.size) 0 hS₁
    (fun h' tk acc' c' hk hS' hacc => ⟨h', tk, acc', c', rfl, rfl, fun b o e => hk b o (Nat.ne_of_lt (Heap.lt_size e)) (Heap.get?_push_of_some _ e), hS', hacc⟩) hn
  refine wpAny_mono key (fun fin s' x => ?_) fun e s' x => ?_
  · cases fin with
    | done f =>
      obtain ⟨h', tk, acc', c', e, rfl, hk, hS', hacc⟩ := x
      cases e
      show wpAny _ A (load s.heap.objs.size >>= _) _ _ _
      refine wpAny_bind (wpAny_load hS' ?_)
      exact wpAny_pure (h h' tk acc' (Heap.lt_size hS') hk hacc)
    | again c₁ =>
      refine ⟨x.1, codeAny_mono x.2 fun q s₂ y => ?_⟩
      obtain ⟨h', tk, acc', c', rfl, rfl, hk, hS', hacc⟩ := y
      show wpAny _ A (load s.heap.objs.size >>= _) _ _ _
      refine wpAny_bind (wpAny_load hS' ?_)
      exact wpAny_pure (h h' tk acc' (Heap.lt_size hS') hk hacc)
  · obtain ⟨_, _, _, _, e', _⟩ := x
    cases e'
theorem sorted_raw {β : Type} {d : Addr} {es : Array DictEntry} {ep : Nat} {ks : List Value} {bs : List β} {enc : β → PyData} {R : Value → β → Prop} {Q : Value → Shared → Prop} (lo : (d == sysModules) = false) (hh : A.handled = none) (hm : s.heap.DictRaw d es ep)
    (hks : ks = es.toList.map (·.key)) (hn : es.size ≤ sizeLine) (e : EachIs R ks bs) (er : EachIs (fun v b => ∃ as, Reads s.heap v (enc b) as) ks bs) (hal : AllAlike (bs.map enc)) (hsk : Sortable (bs.map enc)) (hu : ∀ b, b ∈ bs → A.units + 2 + (enc b).depth < cLine)
    (h : ∀ (p : Addr) (h' : Heap) (tk : Nat) (out : List Value), s.heap.objs.size ≤ p → (∀ b o, s.heap.get? b = some o → h'.get? b = some o) → (∃ c, h'.get? p = some (seqObj "list" out.toArray c)) → out.length = bs.length → EachIs R out (bs.mergeSort (dataLe false enc)) → Q (.ref p) { s with heap := h', toks := tk }) :
    wpAny (model prog w) A (call (.builtin "sorted") [.ref d]) Q E s := by
  refine call_function_entry_kw kind_sorted plain_sorted entry_sorted (args_sorted1 _) ?_
  unfold Builtin.«sorted»
  refine wpAny_bind (m := checkCount "sorted" 1 1 _) (wpAny_pure ?_)
  refine wpAny_bind (collect_grown (A := A.in1) (KdlSrc.rawDict (es := es) (ep := ep) lo) hh hm hn fun h' tk acc grown hk hacc => ?_)
  have ea : acc.toList = ks := by
    rw [hks]
    refine List.ext_getElem (by rw [Array.length_toList, List.length_map, Array.length_toList]; exact hacc.1) fun j h1 h2 => ?_
    have hj : j < acc.size := by rw [Array.length_toList] at h1; exact h1
    obtain ⟨hi, e2⟩ := hacc.2 j acc[j] (Array.getElem?_eq_getElem hj)
    rw [List.getElem_map, Array.getElem_toList, Array.getElem_toList]
    exact e2
  have hL : ks.length ≤ sizeLine := by rw [hks, List.length_map, Array.length_toList]; exact hn
  rw [ea]
  refine wpAny_bind (wpAny_newList ?_ hL)
  have hat : (h'.push (seqObj "list" ks.toArray 0)).get? h'.objs.size = some (seqObj "list" ks.toArray 0) := Heap.get?_push_size _ rfl
  have old : ∀ b o, s.heap.get? b = some o → b ≠ h'.objs.size ∧ (h'.push (seqObj "list" ks.toArray 0)).get? b = some o := fun b o eb => ⟨Nat.ne_of_lt (Heap.lt_size (hk b o eb)), Heap.get?_push_of_some _ (hk b o eb)⟩
  refine wpAny_bind (wpAny_holding (wpAny_call_entry_kw slot_list_sort ⟨_, hat, rfl⟩ entry_list_sort ?body (args_list_sort _)))
  case body =>
    show wpAny (model prog w) A.in1.in1 (Builtin.«list.sort» ⟨[.ref h'.objs.size], []⟩) _ _ _
    have er' : EachIs (fun v b => ∃ as, Reads (sortingHeap (h'.push (seqObj "list" ks.toArray 0)) h'.objs.size ks) v (enc b) as) ks bs := er.mono fun _ _ ⟨as, r⟩ => ⟨as, PyProof.Rows.Reads.keeps (fun b o eb => sortingHeap_old (old b _ eb).1 (old b _ eb).2) r⟩
    have S := SortsAt.data (prog := prog) (w := w) (A := A.in1.in1) (s := { s with heap := sortingHeap (h'.push (seqObj "list" ks.toArray 0)) h'.objs.size ks, toks := tk }) (each_map (R := fun v d => ∃ as, Reads (sortingHeap (h'.push (seqObj "list" ks.toArray 0)) h'.objs.size ks) v d as) enc er') hal hsk (bound_map hu)
    refine wpAny_mono (list_sort_vals (s := { s with heap := h'.push (seqObj "list" ks.toArray 0), toks := tk }) (P := fun f s' => f = .done (.ret .none) ∧ Q (.ref h'.objs.size) s') hat S hL ⟨rfl, ?_⟩) (fun f s' hf => ?_) fun _ _ z => z
    · refine h _ _ _ (sortVals _ false ks ks) ?_ (fun b o eb => ?_) ?_ ?_ (sortVals_data false e er' hal)
      · exact Nat.le_of_lt grown
      · rw [sortedHeap_old (old b o eb).1 (by rw [size_push']; exact Nat.lt_succ_of_lt (Heap.lt_size (hk b o eb)))]
        exact (old b o eb).2
      · exact sortedHeap_at hat
      · rw [sortVals_length false rfl]; exact e.length
    · obtain ⟨rfl, hq⟩ := hf
      exact ⟨_, rfl, wpAny_pure ⟨_, rfl, hq⟩⟩
end
end DV
namespace DV
open PySem PySem.Spec PyProof.Rows L2
open LamX (ExtN TabS Tabs CodeO)
def keyD (k : List L2.Key) : PyData := .tuple (k.map kD)
theorem dp_key {K : PySem.W.Frag} {H : Hp} : ∀ k : List L2.Key, DpAll K H (k.map kV) (k.map kD)
  | [] => .nil
  | .inl i :: r => .cons (.int i) (dp_key r)
  | .inr x :: r => .cons (.str x) (dp_key r)
theorem im_key {K : PySem.W.Frag} {N : Addr → Prop} {H : Hp} : ∀ k : List L2.Key, ImAll K N H (k.map kD) (k.map kV)
  | [] => .nil
  | .inl i :: r => .cons (by simp only [kD, kV, Im]) (im_key r)
  | .inr x :: r => .cons (by simp only [kD, kV, Im]) (im_key r)
def rSortDic (K : PySem.W.Frag) : List V → Hp → VK → Prop := fun vs H Q => ∃ (a : Addr) (kvs : List (List L2.Key × V)), vs = [V.ref a] ∧ H a = some (.dT kvs) ∧ PySem.W.AllAlike (kvs.map fun kv => keyD kv.1) ∧ PySem.W.Sortable (kvs.map fun kv => keyD kv.1) ∧ (∀ kv ∈ kvs, (keyD kv.1).depth ≤ 50) ∧
  ∀ (L : List (V × PyData)) (p : Addr), (∀ x ∈ L, ∃ (b : Addr) (k : List L2.Key), x = (.ref b, keyD k) ∧ H b = some (.tup (k.map kV))) → L.map (·.2) = sortD (kvs.map fun kv => keyD kv.1) → H p = none → Q (.ref p) (upd H p (.lst (L.map (·.1))))
theorem kt_vals {K : PySem.W.Frag} {H : Hp} : ∀ {kvs : List (List L2.Key × V)} {xs : List (List L2.Key × Addr × Value)}, KT H kvs xs →
    DpAll K H (xs.map fun x => V.ref x.2.1) (kvs.map fun kv => keyD kv.1) ∧ Vals (xs.map fun x => V.ref x.2.1) (xs.map fun x => Value.ref x.2.1) ∧ ∀ z ∈ (xs.map fun x => V.ref x.2.1).zip (kvs.map fun kv => keyD kv.1), ∃ (b : Addr) (k : List L2.Key), z = (.ref b, keyD k) ∧ H b = some (.tup (k.map kV))
  | _, _, .nil => ⟨.nil, .nil, fun z hz => nomatch hz⟩
  | _, _, .cons (a := p) (b := q) h t => by
    obtain ⟨h1, h2, h3⟩ := h
    obtain ⟨a, b, c⟩ := kt_vals t
    refine ⟨.cons (.tup (.of h2) (dp_key _)) a, .cons rfl b, fun z hz => ?_⟩
    rw [List.map_cons, List.map_cons, List.zip_cons_cons] at hz
    rcases List.mem_cons.mp hz with e | hz
    · exact ⟨_, _, e, h2⟩
    · exact c z hz
section
variable {X : Cx}
theorem cr_sortDic (hc : X.calm = true) (hu : X.A.units + 64 < cLine) : CallR X (.builtin "sorted") (rSortDic X.K) := by
  intro pins s σ H vs us Q I r h
  obtain ⟨a, kvs, rfl, ha, hal, hk, hdp, q⟩ := h
  rw [Vals.ref1 r]
  obtain ⟨hz, lo, xs, kt, o, es, ep, g1, g2, g3, g4, _, _⟩ := dt_of I.hok ha
  obtain ⟨dp, rv, hzip⟩ := kt_vals (K := X.K) kt
  have hlen := dpAll_len dp
  have hl2 : xs.length = kvs.length := by simpa using hlen
  have hes : es.size = xs.length := by rw [← Array.length_toList, g4, List.length_map]
  have hks : (xs.map fun x => Value.ref x.2.1) = es.toList.map (·.key) := by rw [g4, List.map_map]; rfl
  refine sorted_raw (enc := id) (es := es) (ep := ep) lo (I.ok.hd hc) ⟨o, g1, g2, g3⟩ hks (by rw [hes, hl2]; exact hz) (each_zip rv hlen) (each_reads I dp rv) (by rw [List.map_id]; exact hal) (by rw [List.map_id]; exact hk) (fun b hb => ?_) fun p h' tk out hp hold hat ho he => ?_
  · obtain ⟨kv, hkv, rfl⟩ := List.mem_map.mp hb
    have := hdp kv hkv
    show X.A.units + 2 + (keyD kv.1).depth < cLine
    omega
  · obtain ⟨L, h1, h2, h3⟩ := back_zip he
    obtain ⟨c, he'⟩ := hat
    have hll : (L.map (·.1)).length ≤ sizeLine := by
      rw [h3.length, ho, List.length_map]
      exact hz
    exact ⟨.ref _, upd H p (.lst (L.map (·.1))), I.laid (t' := tk) hold hp ⟨hll, out, c, h3, he'⟩, rfl, q L _ (fun x hx => hzip x (h1 x hx)) h2 (I.hok.fresh hp)⟩
end
section
variable {X : Cx} {F : Fm} {pos : Pos}
def dSortDic (i : Nat) : TDL := fun ρ Q => onDic ρ i fun kvs => CanSort (kvs.map fun kv => keyD kv.1) ∧ Q (sortD (kvs.map fun kv => keyD kv.1)) ρ
theorem pl_sortDic {i : Nat} {x : Str} {p vpos : Pos} (hc : X.calm = true) (hu : X.A.units + 64 < cLine) (hg : Gl X "sorted") (hm : X.mg "sorted" = none) (hK : X.K = F.K := by rfl) (hN : X.N[i]? = some x := by rfl) (hvis : Vis X.env.scope x := by first | exact Or.inl rfl | exact Or.inr (Or.inl rfl) | exact Or.inr (Or.inr rfl)) (hd : (x == ("__debug__" : Str)) = false := by decide)
    (hcd : (x == ("__classdict__" : Str)) = false := by decide) (he : starEach [Expr.Name x vpos] X.env = (false, eval (.Name x vpos) X.env) :: starEach [] X.env := by rfl) (hpl : (backTo pos (starEach [] X.env)).any (·.1) = false := by rfl) :
    PDL X F (.Call (.Name "sorted" p) [.Name x vpos] [] pos) (tCB (rSortDic F.K) (tCons (tVar i) tNil)) (dSortDic i) := by
  refine ⟨?_, fun pins ρ σ H Q O h => ?_, fun ρ Q Q' hq h => ?_⟩
  · have := pe_callB (p := p) (pos := pos) (cr_sortDic hc hu) hg hm (by decide +kernel) (pa_cons (pe_var (pos := vpos) hN hvis hd hcd) pa_nil he) (by decide) (by decide) he hpl
    rw [hK] at this
    exact this
  · obtain ⟨kvs, e0, cs, q⟩ := onDic_of h
    obtain ⟨v, s0, a, vs, rfl, hH, hk, him, h00⟩ := O.ent i _ e0
    have ek : (vs.map fun kv => keyD kv.1) = kvs.map fun kv => keyD kv.1 := by
      have := congrArg (List.map keyD) hk
      rw [List.map_map, List.map_map] at this
      exact this
    refine ⟨.ref a, s0, a, vs, rfl, hH, by rw [ek]; exact cs.al, by rw [ek]; exact cs.so, fun kv hkv => cs.dp _ (by rw [← ek]; exact List.mem_map_of_mem (f := fun kv : List L2.Key × V => keyD kv.1) hkv), fun L p' hL e2 hp => ?_⟩
    rw [ek] at e2
    refine q _ _ ?_
    rw [← e2]
    refine O.pushL hp (im_of_zipD fun x hx => ?_)
    obtain ⟨b, k, rfl, hb⟩ := hL x hx
    simp only [keyD, Im]
    refine ⟨b, _, rfl, .inl ⟨.inl hb, fun z => ?_⟩, im_key k⟩
    obtain ⟨o, e, m⟩ := O.avM z
    rw [hb] at e
    cases e
    exact m
  · obtain ⟨kvs, e0, cs, q⟩ := onDic_of h
    unfold dSortDic onDic
    rw [e0]
    exact ⟨cs, hq _ _ q⟩
end
end DV
namespace DV
open PySem PySem.Spec PyProof.Rows L2
open LamX (ExtN TabS Tabs CodeO)
def DGetT (K : PySem.W.Frag) (H : Hp) (a : Addr) (y : V) (v : V) : Prop := ∃ kvs k b, H a = some (.dT kvs) ∧ y = .ref b ∧ SqT K H b (k.map kV) ∧ valV kvs k = some v
def tDGetT (K : PySem.W.Frag) (td ty : TE) : TE := fun σ H Q => td σ H fun x H1 => ty σ H1 fun y H2 => ∃ a v, x = .ref a ∧ DGetT K H2 a y v ∧ Q v H2
section
variable {X : Cx} {o i : Expr} {pos : Pos} {td ty : TE} {pins : List (Addr × Obj)} {σ : L2.St} {H : Hp} {s : Shared}
theorem key_ofT {k : List L2.Key} {b : Addr} (I : L2.Inv X pins σ H s) (e : SqT X.K H b (k.map kV)) : (PySem.tupleKind (mixKind X.prog X.w)).is s.heap k b := by
  obtain ⟨its, rv, hl, _⟩ := I.tuple e
  obtain ⟨o, h1, h2, n, h3⟩ := hl
  exact ⟨o, its.toArray, n, h1, h2, h3, by simpa using items_are rv⟩
theorem d_getItemT {A : Around} {E : Value → Shared → Prop} {a : Addr} {y v : V} {u : Value} {Q : Value → Shared → Prop} (hu : A.units + 1 < cLine) (I : L2.Inv X pins σ H s) (g : DGetT X.K H a y v) (ry : RelV y u) (h : ∀ w' s', L2.Inv X pins σ H s' → RelV v w' → Q w' s') :
    wpAny (model X.prog X.w) A (getItem (.ref a) u) Q E s := by
  obtain ⟨kvs, k, b, e, ey, eb, l⟩ := g
  subst ey
  cases (show u = Value.ref b from ry)
  obtain ⟨z, hd, xs, rel, dd⟩ := dt_of I.hok e
  obtain ⟨w', hw, rw'⟩ := RelO.some_of (v := v) (o := (atKey xs k).map (·.2)) (by rw [← l]; exact rel.val k)
  obtain ⟨p, hp, hp2⟩ := Option.map_eq_some_iff.mp hw
  refine wpAny_getItem_heap (tupleKind_room_in1 hu) (key_ofT I eb) dd hp ?_
  rw [hp2]
  exact h w' _ (I.tok _) rw'
theorem pe_dgetT (hu : X.A.units + 1 < cLine) (ho : PE X o td) (hi : PE X i ty) (hs : NoSl i) : PE X (.Subscript o i pos) (tDGetT X.K td ty) := by
  refine ⟨fun pins s σ H Q I h => ?_⟩
  refine subD_of PySem.F.slot_dict_getitem.lookup hs (L2.thn (ho.run pins s σ H _ I h) fun u s1 ⟨x, H1, I1, rx, q1⟩ => L2.thn (hi.run pins s1 σ H1 _ I1 q1) fun iv s2 ⟨y, H2, I2, ry, a, v, ex, g, q2⟩ => ?_)
  subst ex
  obtain rfl : u = Value.ref a := rx
  obtain ⟨kvs, k, b, e, _⟩ := id g
  obtain ⟨_, _, xs, _, dd⟩ := dt_of I2.hok e
  exact ⟨dd.typeIs, d_getItemT hu I2 g ry fun w' s3 I3 rw' => ⟨v, H2, I3, rw', q2⟩⟩
end
def valD (kvs : List (List L2.Key × PyData)) (k : List L2.Key) : Option PyData := (kvs.find? fun kv => decide (kv.1 = k)).map (·.2)
theorem val_rel {K : PySem.W.Frag} {N : Addr → Prop} {H : Hp} {k : List L2.Key} : ∀ {vs : List (List L2.Key × V)} {kvs : List (List L2.Key × PyData)}, vs.map (·.1) = kvs.map (·.1) → ImAll K N H (kvs.map (·.2)) (vs.map (·.2)) → ∀ {y : PyData}, valD kvs k = some y → ∃ v, valV vs k = some v ∧ Im K N H y v
  | [], [], _, _, _, h => by cases h
  | [], _ :: _, h, _, _, _ => by cases h
  | _ :: _, [], h, _, _, _ => by cases h
  | x :: xs, p :: ps, h, im, y, hy => by
    rw [List.map_cons, List.map_cons, List.cons.injEq] at h
    rw [List.map_cons, List.map_cons] at im
    simp only [ImAll] at im
    obtain ⟨w, ws, e, h1, h2⟩ := im
    rw [List.cons.injEq] at e
    obtain ⟨rfl, rfl⟩ := e
    by_cases z : p.1 = k
    · have : valD (p :: ps) k = some p.2 := by simp [valD, List.find?_cons, z]
      rw [this] at hy
      cases hy
      exact ⟨x.2, valV_pos (h.1.trans z), h1⟩
    · have : valD (p :: ps) k = valD ps k := by simp [valD, List.find?_cons, z]
      rw [this] at hy
      rw [valV_neg (fun q => z (h.1.symm.trans q))]
      exact val_rel h.2 h2 hy
section
variable {X : Cx} {F : Fm} {pos : Pos} {e : Expr} {te : TE} {de : TDE}
def onKey (r : R) (f : List L2.Key → Prop) : Prop := match r with
  | .d (.tuple [.int x, .int z]) => f [.inl x, .inl z]
  | _ => False
def dDicGet (i : Nat) (dk : TDE) : TDE := fun ρ Q => onDic ρ i fun _ => dk ρ fun r ρ1 => onKey r fun k => onDic ρ1 i fun kvs => match valD kvs k with
  | some y => Q (.d y) ρ1
  | none => False
theorem pd_dicGet {i : Nat} {x : Str} {vpos : Pos} (hu : X.A.units + 1 < cLine) (hk : PD X F e te de) (hs : NoSl e) (hK : X.K = F.K := by rfl) (hN : X.N[i]? = some x := by rfl) (hvis : Vis X.env.scope x := by first | exact Or.inl rfl | exact Or.inr (Or.inl rfl) | exact Or.inr (Or.inr rfl)) (hd : (x == ("__debug__" : Str)) = false := by decide)
    (hcd : (x == ("__classdict__" : Str)) = false := by decide) : PD X F (.Subscript (.Name x vpos) e pos) (tDGetT F.K (tVar i) te) (dDicGet i de) := by
  refine ⟨?_, fun pins ρ σ H Q O h => ?_, fun ρ Q Q' hq h => ?_⟩
  · have := pe_dgetT (pos := pos) hu (pe_var (pos := vpos) hN hvis hd hcd) hk.pe hs
    rw [hK] at this
    exact this
  · obtain ⟨kvs0, e0, h1⟩ := onDic_of h
    obtain ⟨v, s0, a, vs0, rfl, _⟩ := O.ent i _ e0
    refine ⟨.ref a, s0, ?_⟩
    refine hk.de.run pins ρ σ H _ O (hk.de.mono _ _ _ (fun r ρ1 h2 u H1 O1 R1 => ?_) h1)
    unfold onKey at h2
    split at h2
    · rename_i k1 k2
      obtain ⟨kvs, e1, h3⟩ := onDic_of h2
      obtain ⟨v1, s1, a1, vs, rfl, hH, hkk, him, _⟩ := O1.ent i _ e1
      have ea : a1 = a := by rw [s0] at s1; cases s1; rfl
      subst ea
      split at h3
      · rename_i y hy
        obtain ⟨w, hw, iw⟩ := val_rel hkk him hy
        have i1 : Im F.K (Av F pins ρ1 σ) H1 (.tuple [.int k1, .int k2]) u := R1
        obtain ⟨p, us, rfl, l, im⟩ := im_tup i1
        have eu : us = [.int k1, .int k2] := by
          simp only [ImAll, Im] at im
          obtain ⟨v1, w1, rfl, rfl, v2, w2, rfl, rfl, rfl⟩ := im
          rfl
        subst eu
        exact ⟨a1, w, rfl, ⟨vs, [.inl k1, .inl k2], p, hH, rfl, l, hw⟩, h3 _ _ O1 iw⟩
      · exact h3.elim
    · exact h2.elim
  · obtain ⟨kvs0, e0, h1⟩ := onDic_of h
    unfold dDicGet onDic
    rw [e0]
    refine hk.de.mono _ _ _ (fun r ρ1 h2 => ?_) h1
    unfold onKey at h2 ⊢
    split at h2
    · obtain ⟨kvs, e1, h3⟩ := onDic_of h2
      rw [e1]
      split at h3
      · rename_i y hy
        dsimp only
        rw [hy]
        exact hq _ _ h3
      · exact h3.elim
    · exact h2.elim
end
theorem units1 {n : Nat} (h : n + 64 < cLine) : n + 1 < cLine := by omega
end DV
namespace DV
open PySem PySem.Spec PyProof.Rows L2
open LamX (ExtN TabS Tabs CodeO)
/-- each of rs is the least row that no near earlier one has -/
def LeastR (xs : List Int) (sp : Int) (rs : List Int) : Prop := ∀ (j : Nat) (r b : Int), rs[j]? = some r → xs[j]? = some b →
  0 ≤ r ∧ (∀ (i : Nat) (a q : Int), i < j → xs[i]? = some a → rs[i]? = some q → b - a < sp → q ≠ r) ∧ ∀ s, 0 ≤ s → s < r → ∃ (i : Nat) (a : Int), i < j ∧ xs[i]? = some a ∧ rs[i]? = some s ∧ b - a < sp
theorem LeastR.nil {xs : List Int} {sp : Int} : LeastR xs sp [] := fun j r b h => by simp at h
/-- there is but one such list -/
theorem LeastR.unique {xs rs ss : List Int} {sp : Int} (h : LeastR xs sp rs) (k : LeastR xs sp ss) (h1 : rs.length = xs.length) (h2 : ss.length = xs.length) : rs = ss := by
  have key : ∀ n j, j < n → j < xs.length → rs[j]? = ss[j]? := by
    intro n
    induction n with
    | zero => intro j hj; omega
    | succ n ih =>
      intro j hj hx
      have er := List.getElem?_eq_getElem (show j < rs.length by omega)
      have es := List.getElem?_eq_getElem (show j < ss.length by omega)
      have eb := List.getElem?_eq_getElem hx
      generalize rs[j] = r at er
      generalize ss[j] = s at es
      generalize xs[j] = b at eb
      obtain ⟨r0, r1, r2⟩ := h j r b er eb
      obtain ⟨s0, s1, s2⟩ := k j s b es eb
      have same : ∀ i, i < j → rs[i]? = ss[i]? := fun i hi => ih i (by omega) (by omega)
      rcases Int.lt_trichotomy r s with z | z | z
      · obtain ⟨i, a, hi, ha, hq, hlt⟩ := s2 r r0 z
        exact absurd rfl (r1 i a r hi ha (by rw [same i hi]; exact hq) hlt)
      · rw [er, es, z]
      · obtain ⟨i, a, hi, ha, hq, hlt⟩ := r2 s s0 z
        exact absurd rfl (s1 i a s hi ha (by rw [← same i hi]; exact hq) hlt)
  refine List.ext_getElem? fun j => ?_
  by_cases z : j < xs.length
  · exact key (j + 1) j (Nat.lt_succ_self _) z
  · rw [List.getElem?_eq_none (by omega), List.getElem?_eq_none (by omega)]
/-- the next row -/
theorem LeastR.snoc {xs rs : List Int} {sp r b : Int} (h : LeastR xs sp rs) (hb : xs[rs.length]? = some b) (r0 : 0 ≤ r) (h1 : ∀ (i : Nat) (a q : Int), i < rs.length → xs[i]? = some a → rs[i]? = some q → b - a < sp → q ≠ r)
    (h2 : ∀ s, 0 ≤ s → s < r → ∃ (i : Nat) (a : Int), i < rs.length ∧ xs[i]? = some a ∧ rs[i]? = some s ∧ b - a < sp) : LeastR xs sp (rs ++ [r]) := by
  intro j q c hq hc
  have low : ∀ i, i < rs.length → (rs ++ [r])[i]? = rs[i]? := fun i hi => by rw [List.getElem?_append, if_pos hi]
  rw [List.getElem?_append] at hq
  by_cases z : j < rs.length
  · rw [if_pos z] at hq
    obtain ⟨a1, a2, a3⟩ := h j q c hq hc
    refine ⟨a1, fun i a p hi ha hp hlt => a2 i a p hi ha (by rw [← low i (by omega)]; exact hp) hlt, fun s s0 hs => ?_⟩
    obtain ⟨i, a, hi, ha, hp, hlt⟩ := a3 s s0 hs
    exact ⟨i, a, hi, ha, by rw [low i (by omega)]; exact hp, hlt⟩
  · rw [if_neg z] at hq
    have hj : j - rs.length = 0 := by
      have := (List.getElem?_eq_some_iff.mp hq).1
      simp at this
      omega
    rw [hj] at hq
    simp at hq
    subst hq
    have e : j = rs.length := by omega
    subst e
    rw [hb] at hc; cases hc
    refine ⟨r0, fun i a p hi ha hp hlt => h1 i a p hi ha (by rw [← low i hi]; exact hp) hlt, fun s s0 hs => ?_⟩
    obtain ⟨i, a, hi, ha, hp, hlt⟩ := h2 s s0 hs
    exact ⟨i, a, hi, ha, by rw [low i hi]; exact hp, hlt⟩
/-- lamps as a tuple or as a list -/
def seqP (c : Bool) (ls : List Lmp) : PyData := if c = true then .tuple (ls.map eLm) else .list (ls.map eLm)
theorem seqP_t {ls : List Lmp} : seqP true ls = .tuple (ls.map eLm) := rfl
theorem seqP_f {ls : List Lmp} : seqP false ls = .list (ls.map eLm) := rfl
end DV
namespace DV
open PySem PySem.Spec PyProof.Rows L2
open LamX (ExtN TabS Tabs CodeO)
section
variable {F : Fm}
/-- what is walked: J gives the items, while the values pl are in mind and the own list ys stands in slot k at b -/
structure WOkO (F : Fm) (J : It) (items : List PyData) (pl : List Pin) (k : Nat) (b : Addr) (ys : List PyData) : Prop where
  goes : ∀ (i : Nat) (pins : List Pin) (ρ : Rho) (σ : L2.St) (H : Hp), (∀ p ∈ pl, p ∈ pins) → i < items.length → Ok F pins ρ σ H → ρ[k]? = some (some (.own ys)) → σ[k]? = some (some (.ref b)) → J.go i H
  stops : ∀ (pins : List Pin) (ρ : Rho) (σ : L2.St) (H : Hp), (∀ p ∈ pl, p ∈ pins) → Ok F pins ρ σ H → ρ[k]? = some (some (.own ys)) → σ[k]? = some (some (.ref b)) → J.stop items.length H
  yld : ∀ (i : Nat) (pins : List Pin) (ρ : Rho) (σ : L2.St) (H : Hp) (x : V) (H' : Hp), (∀ p ∈ pl, p ∈ pins) → i < items.length → Ok F pins ρ σ H → ρ[k]? = some (some (.own ys)) → σ[k]? = some (some (.ref b)) → J.yld i H x H' → ∃ y, items[i]? = some y ∧ Ok F pins ρ σ H' ∧ Im F.K (Av F pins ρ σ) H' y x
abbrev TDW := Rho → (List PyData → List PyData → Rho → Prop) → Prop
structure DIO (F : Fm) (wi : TI) (dw : TDW) (k : Nat) : Prop where
  run : ∀ (pins : List Pin) (ρ : Rho) (σ : L2.St) (H : Hp) (R : It → Hp → Prop), Ok F pins ρ σ H →
    dw ρ (fun items ys ρ' => ∀ J H' pl b, WOkO F J items pl k b ys → (∀ p ∈ pl, IsV p) → Ok F (pl ++ pins) ρ' σ H' → ρ'[k]? = some (some (.own ys)) → σ[k]? = some (some (.ref b)) → R J H') → wi σ H R
  mono : ∀ ρ Q Q', (∀ r ys ρ', Q r ys ρ' → Q' r ys ρ') → dw ρ Q → dw ρ Q'
def lcW (k : Nat) (g : TDGt) (tt : TDT) (te : TDE) (vs : List Nat) (Q : List PyData → Rho → Prop) (items ys : List PyData) (ρ1 : Rho) : Prop :=
  ((∀ i ∈ vs, ρ1[i]? = some none) ∧ k ∉ vs) ∧ ∃ I : Nat → List PyData → Rho → Prop, I 0 [] ρ1 ∧
  (∀ i x acc ρ, items[i]? = some x → I i acc ρ → ρ[k]? = some (some (.own ys)) → g (.d x) ρ fun ρ2 => tt ρ2 fun b ρ3 => if b = true then te ρ3 fun r ρ4 => onDat r fun y => Few (acc.length + 1) ∧ ρ4[k]? = some (some (.own ys)) ∧ I (i + 1) (acc ++ [y]) (wipeR ρ4 vs) else ρ3[k]? = some (some (.own ys)) ∧ I (i + 1) acc (wipeR ρ3 vs)) ∧
  ∀ acc ρ, I items.length acc ρ → ρ[k]? = some (some (.own ys)) → Q acc (wipeR ρ vs)
def dLcW (k : Nat) (dw : TDW) (g : TDGt) (tt : TDT) (te : TDE) (vs : List Nat) : TDL := fun ρ Q => dw ρ fun items ys ρ1 => lcW k g tt te vs Q items ys ρ1
theorem dl_lcW {wi : TI} {dw : TDW} {k : Nat} {g : TG} {dg : TDGt} {vs : List Nat} {tt : TT} {dt : TDT} {te : TE} {de : TDE} (hi : DIO F wi dw k) (hg : DG F g dg vs) (ht : DT F tt dt) (he : DE F te de) : DL F (tLc wi g tt te vs) (dLcW k dw dg dt de vs) := by
  constructor
  · intro pins ρ σ H Q O h
    refine hi.run pins ρ σ H _ O (hi.mono _ _ _ (fun xs ys ρ1 h1 J H1 pl b W hpl O1 ek hs D hD => ?_) h)
    obtain ⟨⟨hno, hk⟩, I, h0, hturn, hend⟩ := h1
    have hfr : ∀ {p : List Pin}, (∀ q ∈ p, q ∈ pl ++ pins ∨ ∃ a ys, q = .acc a ys) → ∀ i ∈ vs, Fr p i := fun {p} hp i hi v j hm e => by
      subst e
      rcases hp _ hm with z | ⟨a, ys, z⟩
      · obtain ⟨_, x, hx⟩ := O1.pin _ z
        unfold slot at hx
        rw [hno j hi] at hx
        cases hx
      · cases z
    have hin : ∀ acc, ∀ p ∈ pl, p ∈ (Pin.acc D acc :: (pl ++ pins)) := fun acc p hp => List.mem_cons_of_mem _ (List.mem_append_left _ hp)
    have hfr2 : ∀ acc, ∀ i ∈ vs, Fr (Pin.acc D acc :: (pl ++ pins)) i := fun acc => hfr fun q hq => by
      rcases List.mem_cons.mp hq with z | z
      · exact .inr ⟨_, _, z⟩
      · exact .inl z
    have hs2 : (wipe σ vs)[k]? = some (some (.ref b)) := by rw [wipe_nth, if_neg (fun z => hk z.1)]; exact hs
    have start : Ok F (.acc D [] :: (pl ++ pins)) ρ1 σ (upd H1 D (.lst [])) := O1.pushL hD .nil
    have start2 : Ok F (.acc D [] :: (pl ++ pins)) ρ1 (wipe σ vs) (upd H1 D (.lst [])) := by
      have := start.wipe (hfr2 [])
      rw [wipeR_id hno] at this
      exact this
    refine ⟨fun i m H => ∃ acc ρ, Ok F (.acc D acc :: (pl ++ pins)) ρ (wipe σ vs) H ∧ I i acc ρ ∧ ρ[k]? = some (some (.own ys)) ∧ i ≤ xs.length ∧ m = xs.length - i, ⟨_, [], ρ1, start2, h0, ek, Nat.zero_le _, rfl⟩, ?_⟩
    rintro i m H2 ⟨acc, ρ2, O2, i2, e2, hle, rfl⟩
    by_cases hlt : i < xs.length
    · refine .inr ⟨W.goes i _ ρ2 _ H2 (hin acc) hlt O2 e2 hs2, fun H' => ∃ acc ρ, Ok F (.acc D acc :: (pl ++ pins)) ρ (wipe σ vs) H' ∧ I (i + 1) acc ρ ∧ ρ[k]? = some (some (.own ys)), fun H' ⟨acc', ρ', O', i', e'⟩ => ⟨xs.length - (i + 1), by omega, acc', ρ', O', i', e', by omega, rfl⟩, fun x H3 hy => ?_⟩
      obtain ⟨y, ey, O3, im⟩ := W.yld i _ ρ2 _ H2 x H3 (hin acc) hlt O2 e2 hs2 hy
      refine hg.run _ ρ2 _ H3 x (.d y) _ _ O3 (hfr2 acc) im (hturn i y acc ρ2 ey i2 e2) fun ρ4 σ4 H4 O4 so q => ?_
      have hw4 : wipe σ4 vs = wipe σ vs := by
        have := so vs fun _ h => h
        rw [this]
        exact wipe_sub fun _ h => h
      refine ⟨hw4, ?_⟩
      refine ht.run _ ρ4 σ4 H4 _ O4 (ht.mono _ _ _ (fun b ρ5 h5 H5 O5 => ?_) q)
      cases b with
      | false =>
        have := O5.wipe (hfr2 acc)
        rw [hw4] at this
        exact ⟨acc, _, this, h5.2, by rw [wipeR_nth hk]; exact h5.1⟩
      | true =>
        refine he.run _ ρ5 σ4 H5 _ O5 (he.mono _ _ _ (fun r ρ6 h6 w H6 O6 R6 => ?_) h5)
        cases r with
        | o j => exact h6.elim
        | raw u => exact h6.elim
        | d z =>
          obtain ⟨vsD, hHD, hiD, _, _⟩ := O6.pin _ (List.mem_cons_self ..)
          refine ⟨vsD, hHD, ?_, acc ++ [z], wipeR ρ6 vs, ?_, h6.2.2, by rw [wipeR_nth hk]; exact h6.2.1⟩
          · have := h6.1
            unfold Few at this
            rw [hiD.length]; omega
          · have O7 := (O6.setAcc (hiD.append (.cons R6 .nil))).wipe (hfr2 (acc ++ [z]))
            rw [hw4] at O7
            exact O7
    · have e : i = xs.length := by omega
      subst e
      refine .inl ⟨W.stops _ ρ2 _ H2 (hin acc) O2 e2 hs2, ?_⟩
      have hq := hend acc ρ2 i2 e2
      refine hq D H2 ?_
      have O3 := (O2.popAV hpl).wipe (vs := vs) (fun i hi => hfr (p := .acc D acc :: pins) (fun q hq => by
        rcases List.mem_cons.mp hq with z | z
        · exact .inr ⟨_, _, z⟩
        · exact .inl (List.mem_append_right _ z)) i hi)
      refine Ok.unwipe (vs := vs) (Ok.unwipe (vs := vs) O3 ?_) ?_
      all_goals
        intro i hi
        by_cases hl : i < ρ2.length
        · exact .inl (wipeR_none hi hl)
        · exact .inr (List.getElem?_eq_none (by rw [wipeR_len]; omega))
  · intro ρ Q Q' hq h
    refine hi.mono _ _ _ (fun xs ys ρ1 h => ?_) h
    obtain ⟨hno, I, h0, hturn, hend⟩ := h
    exact ⟨hno, I, h0, hturn, fun acc ρ i e => hq _ _ (hend acc ρ i e)⟩
end
end DV
namespace DV
open PySem PySem.Spec PyProof.Rows L2
open LamX (ExtN TabS Tabs CodeO)
def iZipX (K : PySem.W.Frag) (ta : TA) : TI := fun σ H R => ta σ H fun vs H1 => ∃ a b xs ys, vs = [.ref a, .ref b] ∧ SqL K H1 b ys ∧ ((SqT K H1 a xs ∧ R (ItM K a b) H1) ∨ (SqL K H1 a xs ∧ R (Itz K a b) H1))
theorem pi_zipX {X : Cx} {e e2 : Expr} {ta : TA} {p pos tpos : Pos} {elts : List Expr} {kk : Nat} (hg : Gl X "zip") (hm : X.mg "zip" = none) (ha : PA X [e, e2] ta)
    (hs : starEach [e, e2] X.env = (false, eval e X.env) :: starEach [e2] X.env := by rfl) (hpl : (backTo pos (starEach [e2] X.env)).any (·.1) = false := by rfl) :
    PI X (.Tuple elts kk tpos) (.Call (.Name "zip" p) [e, e2] [] pos) (iZipX X.K ta) := by
  refine ⟨fun pins s σ H R I h => Call_ (ld_blt I hg hm PyProof.Rows.boot_zip (PyProof.Rows.callWith_type1 (thn (ha.run pos pins s σ H _ I h) fun us s1 ⟨vs, H1, I1, r1, q1⟩ => ?_) hs hpl))⟩
  obtain ⟨a, b, xs, ys, rfl, qy, q1⟩ := q1
  obtain ⟨v1, v2, rfl, c1, c2⟩ : ∃ v1 v2, us = [v1, v2] ∧ RelV (.ref a) v1 ∧ RelV (.ref b) v2 := by
    cases r1 with
    | cons r rr => cases rr with
      | cons r' rr => cases rr; exact ⟨_, _, rfl, r, r'⟩
  cases c1
  cases c2
  have ok5 : ∀ c, c ∈ [s1.heap.objs.size + 4, s1.heap.objs.size + 2, s1.heap.objs.size + 3, s1.heap.objs.size, s1.heap.objs.size + 1] → FpOk X pins H1 c := fun c hcm => by
    have hle : s1.heap.objs.size ≤ c := by
      simp only [List.mem_cons, List.not_mem_nil, or_false] at hcm
      rcases hcm with r | r | r | r | r <;> rw [r]
      · exact Nat.le_add_right _ _
      · exact Nat.le_add_right _ _
      · exact Nat.le_add_right _ _
      · exact Nat.le_refl _
      · exact Nat.le_add_right _ _
    exact I1.fpOk hle (I1.hok.fresh hle)
  obtain ⟨bs, rv2, p2, _⟩ := I1.list qy
  rcases q1 with ⟨qx, q⟩ | ⟨qx, q⟩
  · obtain ⟨as, rv, p1, _⟩ := I1.tuple qx
    obtain ⟨o1, ho1, _⟩ := id p1
    refine call_zipM (show s1.heap.IsTuple a as.toArray from p1) p2.isList fun g iz iT iO i1 i2 sz hk => wpAny_pyIter_zip iz ?_
    have I2 : Inv X pins σ H1 { s1 with heap := g } := I1.kept (t' := s1.toks) hk
    exact ⟨s1.heap.objs.size + 4, [s1.heap.objs.size + 4, s1.heap.objs.size + 2, s1.heap.objs.size + 3, s1.heap.objs.size, s1.heap.objs.size + 1], _, _, H1, rfl, I2, turn_zipM (PySem.W.ktu_apart s1.heap.objs.size a b (Heap.lt_size ho1) p2.lt), ⟨iz, iT, ⟨_, _, iO⟩, i1, i2⟩, ok5, q⟩
  · obtain ⟨as, rv, p1, _⟩ := I1.list qx
    refine call_zip_2 p1.isList p2.isList fun h' hz hTI hTO h1 h2 hsz hk => wpAny_pyIter_zip hz ?_
    have I2 : Inv X pins σ H1 { s1 with heap := h' } := I1.kept (t' := s1.toks) hk
    exact ⟨s1.heap.objs.size + 4, [s1.heap.objs.size + 4, s1.heap.objs.size + 2, s1.heap.objs.size + 3, s1.heap.objs.size, s1.heap.objs.size + 1], _, _, H1, rfl, I2, turn_zip (PySem.W.ktu_apart s1.heap.objs.size a b p1.lt p2.lt), ⟨hz, hTI, ⟨_, _, hTO⟩, h1, h2⟩, ok5, q⟩
section
variable {F : Fm}
theorem own_at {pins : List Pin} {ρ : Rho} {σ : L2.St} {H : Hp} {k : Nat} {b : Addr} {ys : List PyData} (O : Ok F pins ρ σ H) (h1 : ρ[k]? = some (some (.own ys))) (h2 : σ[k]? = some (some (.ref b))) : ∃ vs, SqL F.K H b vs ∧ ImAll F.K (Av F pins ρ σ) H ys vs := by
  obtain ⟨v, e, a, vs, rfl, hH, im, _⟩ := O.ent k _ h1
  rw [h2] at e
  cases e
  exact ⟨vs, .of hH, im⟩
theorem woko_zipM {pl : List Pin} {a b : Addr} {k : Nat} {xs ys : List PyData} (h1 : TupAt F pl a xs) : WOkO F (ItM F.K a b) (zipD xs ys) pl k b ys := by
  refine ⟨fun i pins ρ σ H hp hi O e1 e2 => ?_, fun pins ρ σ H hp O e1 e2 => ?_, fun i pins ρ σ H x H' hp hi O e1 e2 y => ?_⟩
  all_goals
    obtain ⟨us, a1, a2⟩ := h1 pins ρ σ H hp O
    obtain ⟨vs, b1, b2⟩ := own_at O e1 e2
    have l1 := a2.length
    have l2 := b2.length
  · rw [zipD_len] at hi
    exact ⟨us, vs, _, _, a1, b1, getL (by omega), getL (by omega)⟩
  · refine ⟨us, vs, a1, b1, ?_⟩
    rw [zipD_len, l1, l2]
    omega
  · obtain ⟨T, u, v, rfl, hT, rfl, f1, f2⟩ := y
    obtain ⟨x, e1, i1⟩ := a2.getV (f1 us a1)
    obtain ⟨y, e2, i2⟩ := b2.getV (f2 vs b1)
    refine ⟨_, zipD_at e1 e2, O.new hT, im_pair hT i1 i2 fun z => ?_⟩
    obtain ⟨o, z⟩ := O.avH z
    rw [hT] at z; cases z
theorem woko_zipL {pl : List Pin} {a b : Addr} {k : Nat} {xs ys : List PyData} (h1 : LstAt F pl a xs) : WOkO F (Itz F.K a b) (zipD xs ys) pl k b ys := by
  refine ⟨fun i pins ρ σ H hp hi O e1 e2 => ?_, fun pins ρ σ H hp O e1 e2 => ?_, fun i pins ρ σ H x H' hp hi O e1 e2 y => ?_⟩
  all_goals
    obtain ⟨us, a1, a2⟩ := h1 pins ρ σ H hp O
    obtain ⟨vs, b1, b2⟩ := own_at O e1 e2
    have l1 := a2.length
    have l2 := b2.length
  · rw [zipD_len] at hi
    exact ⟨us, vs, _, _, a1, b1, getL (by omega), getL (by omega)⟩
  · refine ⟨us, vs, a1, b1, ?_⟩
    rw [zipD_len, l1, l2]
    omega
  · obtain ⟨T, u, v, rfl, hT, rfl, f1, f2⟩ := y
    obtain ⟨x, e1, i1⟩ := a2.getV (f1 us a1)
    obtain ⟨y, e2, i2⟩ := b2.getV (f2 vs b1)
    refine ⟨_, zipD_at e1 e2, O.new hT, im_pair hT i1 i2 fun z => ?_⟩
    obtain ⟨o, z⟩ := O.avH z
    rw [hT] at z; cases z
def dZipX (k : Nat) (te : TDE) : TDW := fun ρ Q => te ρ fun r ρ1 => onOwn ρ1 k fun ys => match seqs ρ1 r with
  | some (_, xs) => Q (zipD xs ys) ys ρ1
  | none => False
theorem dio_zipX {k : Nat} {te : TE} {de : TDE} (h : DE F te de) : DIO F (iZipX F.K (tCons te (tCons (tVar k) tNil))) (dZipX k de) k := by
  refine ⟨fun pins ρ σ H R O q => ?_, fun ρ Q Q' hq q => ?_⟩
  · refine h.run pins ρ σ H _ O (h.mono _ _ _ (fun r ρ1 h1 v H1 O1 R1 => ?_) q)
    obtain ⟨ys, ek, h2⟩ := onOwn_of h1
    obtain ⟨w, sk, b, ws, rfl, hH, _, _⟩ := O1.ent k _ ek
    refine ⟨.ref b, sk, ?_⟩
    split at h2
    · rename_i c xs e1
      obtain ⟨a, pl, rfl, d1, O2, av2, k1⟩ := seqs_ok O1 R1 e1
      have in1 : ∀ q ∈ pl, q ∈ pl ++ pins := fun q hq => List.mem_append_left _ hq
      cases c with
      | true =>
        have k1 : TupAt F pl a xs := by simpa using k1
        obtain ⟨us, a1, _⟩ := k1 _ _ _ _ in1 O2
        exact ⟨a, b, us, ws, rfl, .of hH, .inl ⟨a1, h2 _ H1 pl b (woko_zipM k1) d1 O2 ek sk⟩⟩
      | false =>
        have k1 : LstAt F pl a xs := by simpa using k1
        obtain ⟨us, a1, _⟩ := k1 _ _ _ _ in1 O2
        exact ⟨a, b, us, ws, rfl, .of hH, .inr ⟨a1, h2 _ H1 pl b (woko_zipL k1) d1 O2 ek sk⟩⟩
    · exact h2.elim
  · refine h.mono _ _ _ (fun r ρ1 h1 => onOwn_mono h1 fun ys h2 => ?_) q
    split at h2
    · exact hq _ _ _ h2
    · exact h2.elim
end
theorem pl_lcX {X : Cx} {F : Fm} {elt e : Expr} {elts : List Expr} {kk : Nat} {tpos p zpos vpos : Pos} {x : Str} {ifs : List Expr} {scope : Scope} {own : List (Str × Nat)} {pos : Pos} {k : Nat} {te1 : TE} {de1 : TDE} {g : TG} {dg : TDGt} {tt : TT} {dt : TDT} {te : TE} {de : TDE} (hc : X.calm = true) (hN : X.N.Nodup) (hz : Gl X "zip") (hm : X.mg "zip" = none) (h1 : PD X F e te1 de1) (ok : BlkOk X.N X.env.scope scope own)
    (hg : ∀ (s : Shared) (H : Hp) (C : Addr) (cl : List (Str × Addr)) (fp : List Addr), PDG (X.blk s H scope (compEnvC scope cl C X.env) fp) F (.Tuple elts kk tpos) g dg (own.map (·.2))) (ht : ∀ (s : Shared) (H : Hp) (C : Addr) (cl : List (Str × Addr)) (fp : List Addr), PDTs (X.blk s H scope (compEnvC scope cl C X.env) fp) F ifs tt dt)
    (he : ∀ (s : Shared) (H : Hp) (C : Addr) (cl : List (Str × Addr)) (fp : List Addr), PD (X.blk s H scope (compEnvC scope cl C X.env) fp) F elt te de) (hK : X.K = F.K := by rfl)
    (hi : X.N[k]? = some x := by rfl) (hv : Vis X.env.scope x := by first | exact Or.inl rfl | exact Or.inr (Or.inl rfl) | exact Or.inr (Or.inr rfl)) (hd : (x == ("__debug__" : Str)) = false := by decide) (hcd : (x == ("__classdict__" : Str)) = false := by decide)
    (hs1 : starEach [e, .Name x vpos] X.env = (false, eval e X.env) :: starEach [.Name x vpos] X.env := by rfl) (hs2 : starEach [Expr.Name x vpos] X.env = (false, eval (.Name x vpos) X.env) :: starEach [] X.env := by rfl) (hpl : (backTo zpos (starEach [Expr.Name x vpos] X.env)).any (·.1) = false := by rfl)
    (hs : ∀ v, foldedSetIterable (.Call (.Name "zip" p) [e, .Name x vpos] [] zpos) X.env v = pure v := by intro _; rfl) :
    PDL X F (.ListComp elt [⟨.Tuple elts kk tpos, .Call (.Name "zip" p) [e, .Name x vpos] [] zpos, ifs, 0⟩] scope pos) (tLc (iZipX F.K (tCons te1 (tCons (tVar k) tNil))) g tt te (own.map (·.2))) (dLcW k (dZipX k de1) dg dt de (own.map (·.2))) := by
  refine ⟨?_, ?_⟩
  · have := pe_lc (pos := pos) hc hN (pi_zipX (elts := elts) (kk := kk) (tpos := tpos) (p := p) (pos := zpos) hz hm (pa_cons h1.pe (pa_cons (pe_var (pos := vpos) hi hv hd hcd) pa_nil hs2) hs1) hs1 hpl) ok (fun s H C cl fp => (hg s H C cl fp).pg) (fun s H C cl fp => (ht s H C cl fp).pts) (fun s H C cl fp => (he s H C cl fp).pe) hs
    rw [hK] at this
    exact this
  · exact dl_lcW (dio_zipX h1.de) (hg (PySem.start X.prog).1 (fun _ => none) 0 [] []).dg (ht (PySem.start X.prog).1 (fun _ => none) 0 [] []).dt (he (PySem.start X.prog).1 (fun _ => none) 0 [] []).de
section
variable {g : TDGt} {tt : TDT} {te : TDE} {vs : List Nat} {Q : List PyData → Rho → Prop} {ρ : Rho} {k : Nat} {ys : List PyData}
theorem lcW_fm {α : Type} (as : List α) (enc : α → PyData) (f : α → Option PyData) (hv : ∀ i ∈ vs, ρ[i]? = some none) (hk : k ∉ vs) (ho : ρ[k]? = some (some (.own ys))) (hl : as.length ≤ 100000)
    (turn : ∀ (i : Nat) (a : α), as[i]? = some a → ∀ (C1 : PyData → Rho → Prop) (C2 : Rho → Prop) (n : Nat), Few n → (∀ y, f a = some y → C1 y ρ) → (f a = none → C2 ρ) →
      g (.d (enc a)) ρ fun ρ2 => tt ρ2 fun b ρ3 => if b = true then te ρ3 fun r ρ4 => onDat r fun y => Few n ∧ ρ4[k]? = some (some (.own ys)) ∧ C1 y (wipeR ρ4 vs) else ρ3[k]? = some (some (.own ys)) ∧ C2 (wipeR ρ3 vs))
    (q : Q (as.filterMap f) (wipeR ρ vs)) : lcW k g tt te vs Q (as.map enc) ys ρ := by
  refine ⟨⟨hv, hk⟩, fun i acc ρ' => ρ' = ρ ∧ acc = (as.take i).filterMap f, ⟨rfl, rfl⟩, ?_, ?_⟩
  · rintro i x acc _ hx ⟨rfl, rfl⟩ _
    rw [List.getElem?_map] at hx
    cases ha : as[i]? with
    | none => rw [ha] at hx; cases hx
    | some a =>
      rw [ha] at hx
      cases hx
      have hi := (List.getElem?_eq_some_iff.mp ha).1
      refine turn i a ha (fun y ρ2 => ρ2 = _ ∧ _ = (as.take (i + 1)).filterMap f) (fun ρ2 => ρ2 = _ ∧ _ = (as.take (i + 1)).filterMap f) _ ?_ (fun y hy => ⟨rfl, ?_⟩) fun hn => ⟨rfl, ?_⟩
      · refine few_le ?_
        have := List.length_filterMap_le f (as.take i)
        rw [List.length_take] at this
        omega
      · rw [take_succ_some ha, List.filterMap_append, List.filterMap_cons, hy]; rfl
      · rw [take_succ_some ha, List.filterMap_append, List.filterMap_cons, hn]; exact (List.append_nil _).symm
  · rintro acc _ ⟨rfl, rfl⟩ _
    rw [List.length_map, List.take_length]
    exact q
end
end DV
namespace DV
open PySem PySem.Spec PyProof.Rows L2
open LamX (ExtN TabS Tabs CodeO)
theorem range_first (p : Nat → Bool) : ∀ (m : Nat) (s : Nat), (∃ r, s ≤ r ∧ r < s + m ∧ p r = true) → ∃ r rest, (List.range' s m).filter p = r :: rest ∧ p r = true ∧ s ≤ r ∧ r < s + m ∧ ∀ t, s ≤ t → t < r → p t = false
  | 0, s, ⟨r, h1, h2, _⟩ => by omega
  | m + 1, s, ⟨r, h1, h2, h3⟩ => by
    rw [List.range'_succ, List.filter_cons]
    cases hp : p s with
    | true => exact ⟨s, _, by rw [if_pos rfl], hp, Nat.le_refl _, by omega, fun t a b => by omega⟩
    | false =>
      have hne : r ≠ s := fun e => by subst e; rw [hp] at h3; cases h3
      obtain ⟨q, rest, e, a, b, c, d⟩ := range_first p m (s + 1) ⟨r, by omega, by omega, h3⟩
      refine ⟨q, rest, by rw [if_neg (by decide)]; exact e, a, by omega, by omega, fun t ht hq => ?_⟩
      by_cases z : t = s
      · rw [z]; exact hp
      · exact d t (by omega) hq
theorem fm_first (p : Nat → Bool) (m : Nat) (h : ∃ r, r < m ∧ p r = true) : ∃ (r : Nat) (rest : List Nat), (List.range m).filter p = r :: rest ∧ p r = true ∧ r < m ∧ ∀ t, t < r → p t = false := by
  obtain ⟨r, h1, h2⟩ := h
  obtain ⟨q, rest, e, a, _, c, d⟩ := range_first p m 0 ⟨r, Nat.zero_le _, by omega, h2⟩
  exact ⟨q, rest, by rw [List.range_eq_range']; exact e, a, by omega, fun t ht => d t (Nat.zero_le _) ht⟩
/-- among m + 1 numbers one is not in a list of m -/
theorem some_free (xs : List Int) (m : Nat) (h : xs.length ≤ m) : ∃ r : Nat, r < m + 1 ∧ ¬ (r : Int) ∈ xs := by
  refine Classical.byContradiction fun z => ?_
  have all : ∀ r : Nat, r < m + 1 → (r : Int) ∈ xs := fun r hr => Classical.byContradiction fun q => z ⟨r, hr, q⟩
  have := nodup_le (xs := (List.range (m + 1)).map fun i : Nat => (i : Int)) (ys := xs) (by
    rw [List.Nodup, List.pairwise_map]
    exact List.Pairwise.imp (fun {a b} hne e => hne (by omega)) List.nodup_range) fun x hx => by
    obtain ⟨i, hi, rfl⟩ := List.mem_map.mp hx
    exact all i (List.mem_range.mp hi)
  rw [List.length_map, List.length_range] at this
  omega
def takenL (ls : List Lmp) (rs : List Int) (x sp : Int) : List Int := (List.zip ls rs).filterMap fun p => if ((p.1.x - x).natAbs : Int) < sp then some p.2 else none
theorem taken_len {ls : List Lmp} {rs : List Int} {x sp : Int} : (takenL ls rs x sp).length ≤ rs.length := by
  refine Nat.le_trans (List.length_filterMap_le _ _) ?_
  rw [List.length_zip]
  exact Nat.min_le_right _ _
theorem mem_taken {ls : List Lmp} {rs : List Int} {x sp r : Int} : r ∈ takenL ls rs x sp ↔ ∃ (i : Nat) (l : Lmp), ls[i]? = some l ∧ rs[i]? = some r ∧ ((l.x - x).natAbs : Int) < sp := by
  unfold takenL
  rw [List.mem_filterMap]
  constructor
  · rintro ⟨⟨l, q⟩, h1, h2⟩
    split at h2
    · rename_i hlt
      cases h2
      obtain ⟨i, hi⟩ := List.mem_iff_getElem?.mp h1
      rw [List.getElem?_zip_eq_some] at hi
      exact ⟨i, l, hi.1, hi.2, hlt⟩
    · cases h2
  · rintro ⟨i, l, h1, h2, h3⟩
    exact ⟨(l, r), List.mem_iff_getElem?.mpr ⟨i, List.getElem?_zip_eq_some.mpr ⟨h1, h2⟩⟩, by simp only [if_pos h3]⟩
/-- the law's next row is the least one -/
theorem LeastR.next {ls : List Lmp} {rs : List Int} {sp : Int} {l : Lmp} {r : Nat} (h : LeastR (lxs ls) sp rs) (hs : UpL (lxs ls)) (hl : ls[rs.length]? = some l) (hr : ¬ (r : Int) ∈ takenL ls rs l.x sp) (hm : ∀ t : Nat, t < r → (t : Int) ∈ takenL ls rs l.x sp) : LeastR (lxs ls) sp (rs ++ [(r : Int)]) := by
  have hb := lxs_at hl
  have up : ∀ (i : Nat) (m : Lmp), i < rs.length → ls[i]? = some m → m.x ≤ l.x := fun i m hi hm => hs.at (Nat.le_of_lt hi) (lxs_at hm) hb
  refine h.snoc hb (by omega) (fun i a q hi ha hq hlt e => ?_) fun s s0 hlt => ?_
  · subst e
    obtain ⟨m, hm2⟩ : ∃ m, ls[i]? = some m := ⟨_, List.getElem?_eq_getElem (by have := (List.getElem?_eq_some_iff.mp hl).1; omega)⟩
    rw [lxs_at hm2] at ha
    cases ha
    have := up i m hi hm2
    exact hr (mem_taken.mpr ⟨i, m, hm2, hq, by omega⟩)
  · have := hm s.toNat (by omega)
    rw [Int.toNat_of_nonneg s0] at this
    obtain ⟨i, m, h1, h2, h3⟩ := mem_taken.mp this
    have hi := (List.getElem?_eq_some_iff.mp h2).1
    have := up i m hi h1
    exact ⟨i, m.x, hi, lxs_at h1, h2, by omega⟩
end DV
namespace DV
open PySem PySem.Spec PyProof.Rows L2
open LamX (ExtN TabS Tabs CodeO)
structure Scn where
  tk : Int
  hd : Int
  ls : List Lmp
structure Shw where
  b : Bn
  pads : List P2
  full : Int
  hold : Int
  fly : Int
  sc : List Scn
def eSc (s : Scn) : PyData := .tuple [.int s.tk, .int s.hd, eP s.ls]
def eW (w : Shw) : PyData := .tuple [eB w.b, .tuple (w.pads.map enc2), .tuple [.int w.full, .int w.hold, .int w.fly], .tuple (w.sc.map eSc)]
def lp (l : Lmp) : P2 := (l.x, l.z)
def lt2 (p q : P2) : Prop := p.1 < q.1 ∨ (p.1 = q.1 ∧ p.2 < q.2)
/-- a picture: places ascending, each once -/
def PicL (ls : List Lmp) : Prop := ls.Pairwise fun a b => lt2 (lp a) (lp b)
theorem PicL.up {ls : List Lmp} (h : PicL ls) : UpL (lxs ls) := by
  unfold UpL lxs
  rw [List.pairwise_map]
  refine List.Pairwise.imp (fun {a b} q => ?_) h
  rcases q with q | ⟨q, _⟩
  · exact Int.le_of_lt q
  · exact Int.le_of_eq q
def kvL (ls : List Lmp) : List (List L2.Key × PyData) := ls.map fun l => ([.inl l.x, .inl l.z], eLm l)
def putL (ls : List Lmp) (l : Lmp) : List Lmp := if (ls.any fun k => decide (lp k = lp l)) = true then ls.map (fun k => if lp k = lp l then l else k) else ls ++ [l]
theorem key_lp (k l : Lmp) : (([.inl k.x, .inl k.z] : List L2.Key) = [.inl l.x, .inl l.z]) ↔ lp k = lp l := by
  unfold lp
  simp
theorem putD_L (ls : List Lmp) (l : Lmp) : putD (kvL ls) [.inl l.x, .inl l.z] (eLm l) = kvL (putL ls l) := by
  have ea : ((kvL ls).any fun kv => decide (kv.1 = [.inl l.x, .inl l.z])) = ls.any fun k => decide (lp k = lp l) := by
    unfold kvL
    rw [List.any_map]
    congr 1
    funext k
    exact decide_eq_decide.mpr (key_lp k l)
  unfold putD putL
  rw [ea]
  split
  · unfold kvL
    rw [List.map_map, List.map_map]
    refine List.map_congr_left fun k _ => ?_
    simp only [Function.comp]
    by_cases h : lp k = lp l
    · rw [if_pos ((key_lp k l).mpr h), if_pos h]
      unfold lp at h
      rw [(Prod.mk.inj h).1, (Prod.mk.inj h).2]
    · rw [if_neg (fun z => h ((key_lp k l).mp z)), if_neg h]
  · unfold kvL
    rw [List.map_append]; rfl
theorem putL_len {ls : List Lmp} {l : Lmp} : (putL ls l).length ≤ ls.length + 1 := by
  unfold putL
  split
  · rw [List.length_map]; omega
  · rw [List.length_append]; exact Nat.le_refl _
theorem putL_mem {ls : List Lmp} {l m : Lmp} (h : m ∈ putL ls l) : m ∈ ls ∨ m = l := by
  unfold putL at h
  split at h
  · obtain ⟨k, hk, e⟩ := List.mem_map.mp h
    split at e
    · exact .inr e.symm
    · exact .inl (e ▸ hk)
  · rcases List.mem_append.mp h with h | h
    · exact .inl h
    · exact .inr (List.mem_singleton.mp h)
theorem putL_nd {ls : List Lmp} {l : Lmp} (h : (ls.map lp).Nodup) : ((putL ls l).map lp).Nodup := by
  unfold putL
  split
  · rw [List.map_map, show ls.map (lp ∘ fun k => if lp k = lp l then l else k) = ls.map lp from List.map_congr_left fun k _ => by
      simp only [Function.comp]
      split
      · rename_i e; exact e.symm
      · rfl]
    exact h
  · rename_i hn
    rw [List.map_append]
    refine List.nodup_append.mpr ⟨h, by simp, fun a ha b hb e => hn ?_⟩
    obtain ⟨k, hk, ek⟩ := List.mem_map.mp ha
    rw [List.mem_singleton.mp hb] at e
    exact List.any_eq_true.mpr ⟨k, hk, decide_eq_true (ek.trans e)⟩
theorem perm_map_ex {α β : Type} {f : α → β} {zs ws : List β} (h : zs.Perm ws) : ∀ {ys : List α}, ws = ys.map f → ∃ ts : List α, zs = ts.map f ∧ ts.Perm ys := by
  induction h with
  | nil => intro ys e; cases ys with
    | nil => exact ⟨[], rfl, .nil⟩
    | cons y ys => cases e
  | cons x p ih => intro ys e; cases ys with
    | nil => cases e
    | cons y ys =>
      simp only [List.map_cons, List.cons.injEq] at e
      obtain ⟨ts, e1, p1⟩ := ih e.2
      exact ⟨y :: ts, by rw [e1, e.1]; rfl, p1.cons y⟩
  | swap x y l => intro ys e; cases ys with
    | nil => cases e
    | cons a ys => cases ys with
      | nil => cases e
      | cons b ys =>
        simp only [List.map_cons, List.cons.injEq] at e
        obtain ⟨e1, e2, e3⟩ := e
        exact ⟨b :: a :: ys, by rw [e1, e2, e3]; rfl, .swap ..⟩
  | trans p q ih1 ih2 =>
    intro ys e
    obtain ⟨ts, e1, p1⟩ := ih2 e
    obtain ⟨us, e2, p2⟩ := ih1 e1
    exact ⟨us, e2, p2.trans p1⟩
theorem find_lp {ls : List Lmp} {m : Lmp} (h : (ls.map lp).Nodup) (hm : m ∈ ls) : (ls.find? fun k => decide (lp k = lp m)) = some m := by
  induction ls with
  | nil => cases hm
  | cons a ls ih =>
    rw [List.map_cons, List.nodup_cons] at h
    rw [List.find?_cons]
    by_cases e : lp a = lp m
    · rw [decide_eq_true e]
      rcases List.mem_cons.mp hm with rfl | hm
      · rfl
      · exact absurd (e ▸ List.mem_map.mpr ⟨m, hm, rfl⟩) h.1
    · rw [decide_eq_false e]
      rcases List.mem_cons.mp hm with rfl | hm
      · exact absurd rfl e
      · exact ih h.2 hm
theorem valD_L {ls : List Lmp} {m : Lmp} (h : (ls.map lp).Nodup) (hm : m ∈ ls) : valD (kvL ls) [.inl m.x, .inl m.z] = some (eLm m) := by
  unfold valD kvL
  rw [List.find?_map, show ((fun kv : List L2.Key × PyData => decide (kv.1 = [.inl m.x, .inl m.z])) ∘ fun l : Lmp => (([.inl l.x, .inl l.z], eLm l) : List L2.Key × PyData)) = fun k => decide (lp k = lp m) from funext fun k => decide_eq_decide.mpr (key_lp k m), find_lp h hm]
  rfl
theorem keys_L (ls : List Lmp) : (kvL ls).map (fun kv => keyD kv.1) = (ls.map lp).map enc2 := by
  unfold kvL
  rw [List.map_map, List.map_map]
  rfl
theorem nodup_lt2 {qs : List P2} (h : qs.Pairwise le2) (n : qs.Nodup) : qs.Pairwise lt2 := by
  refine List.Pairwise.imp₂ (fun {a b} x y => ?_) h n
  rcases x with x | ⟨x, z⟩
  · exact .inl x
  · refine .inr ⟨x, ?_⟩
    have : a.2 ≠ b.2 := fun e => y (Prod.ext x e)
    omega
/-- the lamps of a dict, by their sorted places -/
theorem sort_kvL {ls : List Lmp} (h : (ls.map lp).Nodup) : ∃ ms : List Lmp, sortD ((kvL ls).map fun kv => keyD kv.1) = ms.map (fun m => enc2 (lp m)) ∧ ms.Perm ls ∧ PicL ms ∧ ∀ m ∈ ms, valD (kvL ls) [.inl m.x, .inl m.z] = some (eLm m) := by
  rw [keys_L]
  obtain ⟨qs, e, p, u⟩ := sort_cols (ls.map lp)
  obtain ⟨ms, e2, p2⟩ := perm_map_ex p rfl
  refine ⟨ms, by rw [e, e2, List.map_map]; rfl, p2, ?_, fun m hm => valD_L h (p2.mem_iff.mp hm)⟩
  have n : qs.Nodup := p.nodup_iff.mpr h
  have := nodup_lt2 u n
  rw [e2, List.pairwise_map] at this
  exact this
theorem LeastR.app {xs ys rs : List Int} {sp : Int} (h : LeastR xs sp rs) (hl : rs.length = xs.length) : LeastR (xs ++ ys) sp rs := by
  intro j r b hr hb
  have jl : j < xs.length := by rw [← hl]; exact (List.getElem?_eq_some_iff.mp hr).1
  have at' : ∀ i, i ≤ j → (xs ++ ys)[i]? = xs[i]? := fun i hi => List.getElem?_append_left (by omega)
  rw [at' j (Nat.le_refl _)] at hb
  obtain ⟨h0, h1, h2⟩ := h j r b hr hb
  refine ⟨h0, fun i a q hi ha hq => h1 i a q hi (by rw [at' i (by omega)] at ha; exact ha) hq, fun s s0 hs => ?_⟩
  obtain ⟨i, a, hi, ha, hq, hlt⟩ := h2 s s0 hs
  exact ⟨i, a, hi, by rw [at' i (by omega)]; exact ha, hq, hlt⟩
def deepL (ls : List Lmp) (rs : List Int) (d : Int) : List (Lmp × Int) := (List.zip ls rs).filter fun p => decide (p.2 < d)
theorem zip_snoc {α β : Type} {xs : List α} {ys : List β} {n : Nat} {x : α} {y : β} (hx : xs[n]? = some x) (hy : ys[n]? = some y) : List.zip (xs.take (n + 1)) (ys.take (n + 1)) = List.zip (xs.take n) (ys.take n) ++ [(x, y)] := by
  rw [List.take_add_one, List.take_add_one, hx, hy]
  have := (List.getElem?_eq_some_iff.mp hx).1
  have := (List.getElem?_eq_some_iff.mp hy).1
  rw [List.zip_append (by rw [List.length_take, List.length_take]; omega)]
  rfl
theorem deep_go {ls : List Lmp} {rs : List Int} {sp d : Int} (h : LeastR (lxs ls) sp rs) (hl : rs.length = ls.length) : ∀ n, n ≤ ls.length → LeastR (lxs ((deepL (ls.take n) (rs.take n) d).map (·.1))) sp ((deepL (ls.take n) (rs.take n) d).map (·.2))
  | 0, _ => by
    rw [List.take_zero, List.take_zero]
    exact .nil
  | n + 1, hn => by
    have ih := deep_go (d := d) h hl n (by omega)
    have h1 : ls[n]? = some ls[n] := List.getElem?_eq_getElem (by omega)
    have h2 : rs[n]? = some rs[n] := List.getElem?_eq_getElem (by omega)
    generalize ls[n] = l at h1
    generalize rs[n] = r at h2
    have hz : deepL (ls.take (n + 1)) (rs.take (n + 1)) d = deepL (ls.take n) (rs.take n) d ++ (if r < d then [(l, r)] else []) := by
      unfold deepL
      rw [zip_snoc h1 h2, List.filter_append]
      congr 1
      rw [List.filter_cons, List.filter_nil]
      by_cases c : r < d
      · rw [if_pos (decide_eq_true c), if_pos c]
      · rw [if_neg (fun z => c (of_decide_eq_true z)), if_neg c]
    rw [hz]
    by_cases c : r < d
    · rw [if_pos c, List.map_append, List.map_append]
      generalize hps : deepL (ls.take n) (rs.take n) d = ps at *
      have memp : ∀ {i : Nat} {a q : Int}, (lxs (ps.map (·.1)) ++ [l.x])[i]? = some a → (ps.map (·.2))[i]? = some q → ∃ k, k < n ∧ (lxs ls)[k]? = some a ∧ rs[k]? = some q := fun {i a q} ha hq => by
        have il : i < ps.length := by have := (List.getElem?_eq_some_iff.mp hq).1; rwa [List.length_map] at this
        rw [List.getElem?_append_left (by rw [lxs_len, List.length_map]; exact il)] at ha
        have hp : ps[i]? = some ps[i] := List.getElem?_eq_getElem il
        have hm : ps[i] ∈ ps := List.getElem_mem il
        generalize ps[i] = p at hp hm
        have ea : p.1.x = a := by
          have := lxs_at (ls := ps.map (·.1)) (l := p.1) (by rw [List.getElem?_map, hp]; rfl)
          rw [this] at ha
          exact Option.some.inj ha
        have eq : p.2 = q := by
          rw [List.getElem?_map, hp] at hq
          exact Option.some.inj hq
        rw [← hps] at hm
        obtain ⟨hm1, hm2⟩ := List.mem_filter.mp hm
        obtain ⟨k, hk⟩ := List.mem_iff_getElem?.mp hm1
        obtain ⟨k1, k2⟩ := List.getElem?_zip_eq_some.mp hk
        have kn : k < n := by have := (List.getElem?_eq_some_iff.mp k1).1; rw [List.length_take] at this; omega
        rw [List.getElem?_take_of_lt kn] at k1 k2
        exact ⟨k, kn, ea ▸ lxs_at k1, eq ▸ k2⟩
      obtain ⟨r0, ne, lo⟩ := h n r l.x h2 (lxs_at h1)
      have lps : (ps.map (·.2)).length = ps.length := List.length_map _
      have e1 : lxs (ps.map (·.1) ++ [(l, r)].map (·.1)) = lxs (ps.map (·.1)) ++ [l.x] := by
        unfold lxs
        rw [List.map_append]; rfl
      rw [e1]
      have ih2 := LeastR.app (ys := [l.x]) ih (by rw [lxs_len, List.length_map, List.length_map])
      refine ih2.snoc (b := l.x) ?_ r0 (fun i a q hi ha hq hlt => ?_) fun s s0 hs => ?_
      · rw [List.getElem?_append_right (by rw [lxs_len, List.length_map, List.length_map]; exact Nat.le_refl _), lxs_len, List.length_map, List.length_map, Nat.sub_self]; rfl
      · obtain ⟨k, kn, ka, kq⟩ := memp ha hq
        exact ne k a q kn ka kq hlt
      · obtain ⟨k, a, kn, ka, kq, hlt⟩ := lo s s0 hs
        have hlk : ∃ m, ls[k]? = some m ∧ m.x = a := by
          have : k < ls.length := by omega
          refine ⟨ls[k], List.getElem?_eq_getElem this, ?_⟩
          have := lxs_at (List.getElem?_eq_getElem this)
          rw [this] at ka
          exact Option.some.inj ka
        obtain ⟨m, hm, em⟩ := hlk
        have hs' : s < r := hs
        have hin : (m, s) ∈ ps := by
          rw [← hps]
          refine List.mem_filter.mpr ⟨List.mem_iff_getElem?.mpr ⟨k, List.getElem?_zip_eq_some.mpr ⟨?_, ?_⟩⟩, decide_eq_true (show s < d by omega)⟩
          · rw [List.getElem?_take_of_lt kn]; exact hm
          · rw [List.getElem?_take_of_lt kn]; exact kq
        obtain ⟨i, hi⟩ := List.mem_iff_getElem?.mp hin
        have il := (List.getElem?_eq_some_iff.mp hi).1
        refine ⟨i, a, by rw [List.length_map]; exact il, ?_, by rw [List.getElem?_map, hi]; rfl, hlt⟩
        rw [List.getElem?_append_left (by rw [lxs_len, List.length_map]; exact il), ← em]
        exact lxs_at (by rw [List.getElem?_map, hi]; rfl)
    · rw [if_neg c, List.append_nil]
      exact ih
/-- those below a depth keep their rows -/
theorem LeastR.deep {ls : List Lmp} {rs : List Int} {sp d : Int} (h : LeastR (lxs ls) sp rs) (hl : rs.length = ls.length) : LeastR (lxs ((deepL ls rs d).map (·.1))) sp ((deepL ls rs d).map (·.2)) := by
  have := deep_go (d := d) h hl ls.length (Nat.le_refl _)
  rw [List.take_length, show rs.take ls.length = rs by rw [← hl, List.take_length]] at this
  exact this
theorem zip_fst {α β : Type} : ∀ {xs : List α} {ys : List β}, ys.length = xs.length → (List.zip xs ys).map (·.1) = xs
  | [], _, _ => by simp
  | x :: xs, y :: ys, h => by
    rw [List.zip_cons_cons, List.map_cons, zip_fst (by simpa using h)]
  | x :: xs, [], h => by simp at h
theorem deep_sub {ls : List Lmp} {rs : List Int} {d : Int} (hl : rs.length = ls.length) : ((deepL ls rs d).map (·.1)).Sublist ls := by
  have := (List.filter_sublist (p := fun p : Lmp × Int => decide (p.2 < d)) (l := List.zip ls rs)).map (·.1)
  rw [zip_fst hl] at this
  exact this
theorem deep_fm (ls : List Lmp) (rs : List Int) (d : Int) : (List.zip ls rs).filterMap (fun p => if p.2 < d then some (eLm p.1) else none) = ((deepL ls rs d).map (·.1)).map eLm := by
  unfold deepL
  rw [List.map_map, ← filterMap_if]
  congr 1
  funext p
  by_cases c : p.2 < d
  · rw [if_pos c, if_pos (decide_eq_true c)]; rfl
  · rw [if_neg c, if_neg (fun z => c (of_decide_eq_true z))]
end DV
namespace DV
open PySem PySem.Spec PyProof.Rows L2
open LamX (ExtN TabS Tabs CodeO)
inductive Mi
  | d (x : PyData)
  | l (xs : List PyData)
inductive MP : List Mi → List V → List Pin → Prop
  | nil : MP [] [] []
  | d {ms : List Mi} {vs : List V} {ps : List Pin} {x : PyData} {v : V} (h : MP ms vs ps) : MP (.d x :: ms) (v :: vs) (.val v (.d x) :: ps)
  | l {ms : List Mi} {vs : List V} {ps : List Pin} {xs : List PyData} {p : Addr} (h : MP ms vs ps) : MP (.l xs :: ms) (.ref p :: vs) (.acc p xs :: ps)
theorem MP.len {ms : List Mi} {vs : List V} {ps : List Pin} (h : MP ms vs ps) : vs.length = ms.length := by
  induction h with
  | nil => rfl
  | d h ih => simp [ih]
  | l h ih => simp [ih]
theorem MP.noO {ms : List Mi} {vs : List V} {ps : List Pin} (h : MP ms vs ps) : ∀ v j, Pin.val v (.o j) ∉ ps := by
  induction h with
  | nil => intro v j z; cases z
  | d h ih => intro v j z; rcases List.mem_cons.mp z with e | e; · cases e
              · exact ih v j e
  | l h ih => intro v j z; rcases List.mem_cons.mp z with e | e; · cases e
              · exact ih v j e
section
variable {F : Fm} {ρ : Rho} {σ : L2.St} {H : Hp}
theorem accs_permL {ps qs : List Pin} (h : ps.Perm qs) : (accs ps).Perm (accs qs) := by
  induction h with
  | nil => exact .nil
  | cons x _ ih => cases x with
    | val v r => exact ih
    | acc a xs => exact ih.cons a
    | frz a o => exact ih
  | swap x y l => cases x <;> cases y <;> simp only [accs] <;> first | exact List.Perm.refl _ | exact .swap ..
  | trans _ _ h1 h2 => exact h1.trans h2
theorem Ok.perm {ps qs : List Pin} (O : Ok F ps ρ σ H) (hp : ps.Perm qs) : Ok F qs ρ σ H := by
  have e : Av F qs ρ σ = Av F ps ρ σ := by
    funext a
    unfold Av
    rw [accs_perm hp]
  exact ⟨O.len, by rw [e]; exact O.ent, O.own, fun r hr => by rw [e]; exact O.pin r (hp.mem_iff.mpr hr), (accs_permL hp).nodup_iff.mp O.acs, O.fr, O.nh, O.ln, O.h0, O.lf, O.tb⟩
def setM : List Nat → List Mi → Rho → Rho
  | i :: is, .d x :: ms, ρ => setM is ms (ρ.set i (some (.d x)))
  | i :: is, .l xs :: ms, ρ => setM is ms (ρ.set i (some (.own xs)))
  | _, _, ρ => ρ
def setS : List Nat → List V → L2.St → L2.St
  | i :: is, v :: vs, σ => setS is vs (σ.set i (some v))
  | _, _, σ => σ
theorem Ok.storeM {ms : List Mi} {vs : List V} {ps pins : List Pin} (h : MP ms vs ps) : ∀ {is : List Nat} {ρ : Rho} {σ : L2.St}, is.length = ms.length → (∀ i ∈ is, Fr pins i) → Ok F (ps ++ pins) ρ σ H → Ok F pins (setM is ms ρ) (setS is vs σ) H := by
  induction h with
  | nil => intro is ρ σ hl hf O; cases is with
    | nil => exact O
    | cons i is => cases hl
  | @d ms vs ps x v h ih =>
    intro is ρ σ hl hf O
    cases is with
    | nil => cases hl
    | cons i is =>
      obtain ⟨O1, r1⟩ := O.popV
      have hfi : Fr (ps ++ pins) i := fun u j hp => by
        rcases List.mem_append.mp hp with z | z
        · exact absurd z (h.noO u j)
        · exact hf i (List.mem_cons_self ..) u j z
      exact ih (is := is) (by simpa using hl) (fun k hk => hf k (List.mem_cons_of_mem _ hk)) (O1.put hfi (fun _ z => by cases z; exact id) fun f e => by cases e; exact ⟨v, rfl, r1⟩)
  | @l ms vs ps xs p h ih =>
    intro is ρ σ hl hf O
    cases is with
    | nil => cases hl
    | cons i is =>
      have hfi : Fr (ps ++ pins) i := fun u j hp => by
        rcases List.mem_append.mp hp with z | z
        · exact absurd z (h.noO u j)
        · exact hf i (List.mem_cons_self ..) u j z
      exact ih (is := is) (by simpa using hl) (fun k hk => hf k (List.mem_cons_of_mem _ hk)) (O.putL hfi)
end
abbrev TDM := Rho → (List Mi → Rho → Prop) → Prop
structure DM (F : Fm) (ta : TA) (td : TDM) : Prop where
  run : ∀ (pins : List Pin) (ρ : Rho) (σ : L2.St) (H : Hp) (Q : List V → Hp → Prop), Ok F pins ρ σ H →
    td ρ (fun ms ρ' => ∀ vs ps H', MP ms vs ps → Ok F (ps ++ pins) ρ' σ H' → Q vs H') → ta σ H Q
  mono : ∀ ρ Q Q', (∀ r ρ', Q r ρ' → Q' r ρ') → td ρ Q → td ρ Q'
structure PDM (X : Cx) (F : Fm) (es : List Expr) (ta : TA) (td : TDM) : Prop where
  pa : PA X es ta
  dm : DM F ta td
section
variable {X : Cx} {F : Fm} {e : Expr} {es : List Expr} {te : TE} {ta : TA} {de : TDE} {dl : TDL} {dm : TDM}
def dmNil : TDM := fun ρ Q => Q [] ρ
def dmD (de : TDE) (dm : TDM) : TDM := fun ρ Q => de ρ fun r ρ1 => onDat r fun x => dm ρ1 fun ms ρ2 => Q (.d x :: ms) ρ2
def dmL (dl : TDL) (dm : TDM) : TDM := fun ρ Q => dl ρ fun xs ρ1 => dm ρ1 fun ms ρ2 => Q (.l xs :: ms) ρ2
theorem pdm_nil : PDM X F [] tNil dmNil := ⟨pa_nil, fun pins ρ σ H Q O h => h [] [] H .nil O, fun ρ Q Q' hq h => hq _ _ h⟩
theorem pdm_d (h1 : PD X F e te de) (h2 : PDM X F es ta dm) (hs : starEach (e :: es) X.env = (false, eval e X.env) :: starEach es X.env := by rfl) : PDM X F (e :: es) (tCons te ta) (dmD de dm) := by
  refine ⟨pa_cons h1.pe h2.pa hs, fun pins ρ σ H Q O h => ?_, fun ρ Q Q' hq h => h1.de.mono _ _ _ (fun r ρ1 k => ?_) h⟩
  · refine h1.de.run pins ρ σ H _ O (h1.de.mono _ _ _ (fun r ρ1 k v H1 O1 R1 => ?_) h)
    cases r with
    | o j => exact k.elim
    | raw u => exact k.elim
    | d x =>
      refine h2.dm.run (.val v (.d x) :: pins) ρ1 σ H1 _ (O1.push R1) (h2.dm.mono _ _ _ (fun ms ρ2 k2 vs ps H2 mp O2 => ?_) k)
      exact k2 (v :: vs) (.val v (.d x) :: ps) H2 (.d mp) (O2.perm List.perm_middle)
  · cases r with
    | o j => exact k.elim
    | raw u => exact k.elim
    | d x => exact h2.dm.mono _ _ _ (fun ms ρ2 => hq _ _) k
theorem pdm_l (h1 : PDL X F e te dl) (h2 : PDM X F es ta dm) (hs : starEach (e :: es) X.env = (false, eval e X.env) :: starEach es X.env := by rfl) : PDM X F (e :: es) (tCons te ta) (dmL dl dm) := by
  refine ⟨pa_cons h1.pe h2.pa hs, fun pins ρ σ H Q O h => ?_, fun ρ Q Q' hq h => h1.dl.mono _ _ _ (fun xs ρ1 k => h2.dm.mono _ _ _ (fun ms ρ2 => hq _ _) k) h⟩
  refine h1.dl.run pins ρ σ H _ O (h1.dl.mono _ _ _ (fun xs ρ1 k p H1 O1 => ?_) h)
  refine h2.dm.run (.acc p xs :: pins) ρ1 σ H1 _ O1 (h2.dm.mono _ _ _ (fun ms ρ2 k2 vs ps H2 mp O2 => ?_) k)
  exact k2 (.ref p :: vs) (.acc p xs :: ps) H2 (.l mp) (O2.perm List.perm_middle)
theorem len3 {α : Type} {xs : List α} (h : xs.length = 3) : ∃ a b c, xs = [a, b, c] := by
  match xs, h with
  | [a, b, c], _ => exact ⟨a, b, c, rfl⟩
/-- the names at is take them -/
def dParM (is : List Nat) (dm : TDM) : TDS := fun DD ρ => dm ρ fun ms ρ1 => ms.length = is.length ∧ DD.nx (setM is ms ρ1)
theorem ds_par3M {i j l : Nat} {x y z : Str} {a b c : Expr} {px py pz pt pos : Pos} {pt2 : Pos} {kt' k2'} (hc : X.calm = true) (hN : X.N.Nodup) (ha : PDM X F [a, b, c] ta dm) (hf : ∀ k ∈ [i, j, l], ¬ F.fix k) (hij : i ≠ j := by decide) (hil : i ≠ l := by decide) (hjl : j ≠ l := by decide) (hi : X.N[i]? = some x := by rfl) (hj : X.N[j]? = some y := by rfl) (hl : X.N[l]? = some z := by rfl)
    (hx : X.env.scope.names.lookup x = some .local := by rfl) (hy : X.env.scope.names.lookup y = some .local := by rfl) (hz : X.env.scope.names.lookup z = some .local := by rfl)
    (hw : swappedStores [.Tuple [.Name x px, .Name y py, .Name z pz] kt' pt] (.Tuple [a, b, c] k2' pt2) X.env = pure (some [x, y, z]) := by rfl)
    (hs : swapsWithSole [.Tuple [.Name x px, .Name y py, .Name z pz] kt' pt] (.Tuple [a, b, c] k2' pt2) pos.line X.env = pure false := by rfl) :
    PDS X F (.Assign [.Tuple [.Name x px, .Name y py, .Name z pz] kt' pt] (.Tuple [a, b, c] k2' pt2) pos) (tPar3 i j l ta) (dParM [i, j, l] dm) := by
  refine ⟨ps_par3 hc hN hi hj hl hij hil hjl hx hy hz ha.pa hw hs, fun pins ρ σ H D DD O S R h => ?_⟩
  refine ha.dm.run pins ρ σ H _ O (ha.dm.mono _ _ _ (fun ms ρ1 h1 vs ps H1 mp O1 => ?_) h)
  obtain ⟨hl, h1⟩ := h1
  have O2 := Ok.storeM (is := [i, j, l]) mp hl.symm (fun k hk => S.fr (hf k hk)) O1
  obtain ⟨v, w, u, e⟩ := len3 (mp.len.trans hl)
  subst e
  exact ⟨v, w, u, rfl, R.nx _ _ _ O2 h1⟩
/-- four and more: by a tuple -/
def gNames : List Nat → TGs
  | [] => gNil
  | i :: is => gCons (gName i) (gNames is)
theorem gNames_run {vs : List V} {Q : L2.St → Hp → Prop} : ∀ {is : List Nat} {vs : List V} {σ : L2.St} {H : Hp}, vs.length = is.length → Q (setS is vs σ) H → gNames is vs σ H Q
  | [], [], _, _, _, q => ⟨rfl, q⟩
  | i :: is, v :: vs, σ, H, hl, q => ⟨v, vs, rfl, gNames_run (is := is) (vs := vs) (σ := σ.set i (some v)) (by simpa using hl) q⟩
theorem ds_parNM {is : List Nat} {tgs : List Expr} {pt pos : Pos} {pt2 : Pos} {kt' k2'} (hc : X.calm = true) (ha : PDM X F es ta dm) (hg : PGs X tgs (gNames is)) (hf : ∀ k ∈ is, ¬ F.fix k) (hK : X.K = F.K := by rfl)
    (hn : (assignEach tgs X.env).length = is.length := by rfl) (hst : (assignEach tgs X.env).findIdx? (·.1) = none := by rfl) (hs : swapsWithSole [.Tuple tgs kt' pt] (.Tuple es k2' pt2) pos.line X.env = pure false := by rfl) (hw : swappedStores [.Tuple tgs kt' pt] (.Tuple es k2' pt2) X.env = pure none := by rfl)
    (h1 : (assignEach [.Tuple tgs kt' pt] X.env).map (·.2) = [assign (.Tuple tgs kt' pt) X.env] := by rfl) :
    PDS X F (.Assign [.Tuple tgs kt' pt] (.Tuple es k2' pt2) pos) (tAsg (tTup ta) (gTup X.K is.length (gNames is))) (dParM is (fun ρ Q => dm ρ fun ms ρ1 => Few ms.length ∧ Q ms ρ1)) := by
  refine ⟨ps_asg (pe_tup ha.pa) (pg_tup hc hg hn hst) hs hw h1, fun pins ρ σ H D DD O S R h => ?_⟩
  refine ha.dm.run pins ρ σ H _ O (ha.dm.mono _ _ _ (fun ms ρ1 h1 vs ps H1 mp O1 => ?_) h)
  obtain ⟨hfw, hl, h1⟩ := h1
  refine ⟨by rw [mp.len]; exact hfw, fun p hp => ?_⟩
  have O2 : Ok F (ps ++ pins) ρ1 σ (upd H1 p (.tup vs)) := O1.new hp
  have O3 := Ok.storeM (is := is) mp hl.symm (fun k hk => S.fr (hf k hk)) O2
  exact ⟨p, vs, rfl, .of upd_same, by rw [mp.len, hl], gNames_run (vs := vs) (by rw [mp.len, hl]) (R.nx _ _ _ O3 h1)⟩
end
end DV
namespace DV
open PySem PySem.Spec PyProof.Rows L2
open LamX (ExtN TabS Tabs CodeO)
def Bn.need (b : Bn) : Int := b.lag + b.clk + 2 * b.sil + b.cuts
/-- opens and leaves of the scene i -/
def tmS (n : Int) (sc : List Scn) (i : Nat) : Int × Int := (sc.take i).foldl (fun p s => (p.2 + s.tk, p.2 + s.tk + s.hd)) (0, n)
def eTm (p : Int × Int) (s : Scn) : PyData := .tuple [.int p.1, .int p.2, .int (p.2 + s.tk), .int (p.2 + s.tk + s.hd)]
def tmF (n : Int) (sc : List Scn) (i : Nat) : List PyData := (List.range i).filterMap fun k => sc[k]?.map (eTm (tmS n sc k))
theorem tmS_succ {n : Int} {sc : List Scn} {i : Nat} {s : Scn} (h : sc[i]? = some s) : tmS n sc (i + 1) = ((tmS n sc i).2 + s.tk, (tmS n sc i).2 + s.tk + s.hd) := by
  unfold tmS
  rw [List.take_add_one, h, List.foldl_append]
  rfl
theorem tmF_succ {n : Int} {sc : List Scn} {i : Nat} {s : Scn} (h : sc[i]? = some s) : tmF n sc (i + 1) = tmF n sc i ++ [eTm (tmS n sc i) s] := by
  unfold tmF
  rw [List.range_succ, List.filterMap_append]
  simp [h]
theorem tmF_len {n : Int} {sc : List Scn} : ∀ {i : Nat}, i ≤ sc.length → (tmF n sc i).length = i
  | 0, _ => rfl
  | i + 1, h => by
    rw [tmF_succ (List.getElem?_eq_getElem (show i < sc.length by omega)), List.length_append, tmF_len (by omega)]; rfl
theorem tmF_at {n : Int} {sc : List Scn} {k : Nat} {s : Scn} (h : sc[k]? = some s) : ∀ {i : Nat}, k < i → i ≤ sc.length → (tmF n sc i)[k]? = some (eTm (tmS n sc k) s)
  | 0, hk, _ => by omega
  | i + 1, hk, hi => by
    rw [tmF_succ (List.getElem?_eq_getElem (show i < sc.length by omega))]
    by_cases e : k = i
    · subst e
      rw [List.getElem?_append_right (by rw [tmF_len (by omega)]; exact Nat.le_refl _), tmF_len (by omega), Nat.sub_self]
      obtain ⟨_, e⟩ := List.getElem?_eq_some_iff.mp h
      rw [e]; rfl
    · rw [List.getElem?_append_left (by rw [tmF_len (by omega)]; omega)]
      exact tmF_at h (by omega) (by omega)
/-- a picture of small numbers -/
structure LmB (l : Lmp) : Prop where
  x0 : -100 ≤ l.x
  x1 : l.x ≤ 100
  z0 : -100 ≤ l.z
  z1 : l.z ≤ 100
  w0 : 0 ≤ l.w
  w1 : l.w ≤ 100
  s0 : l.sh ≠ []
  s1 : l.sh.length ≤ 4
  st : ∀ t ∈ l.sh, okd (.str t) = true ∧ t.length ≤ 12
structure ShwB (w : Shw) : Prop where
  ok : BnOk w.b
  np : w.pads.length ≤ 8
  ip : ∀ p ∈ w.pads, Inb 9800 p
  ns : w.sc.length ≤ 4
  tk : ∀ s ∈ w.sc, 1 ≤ s.tk ∧ w.b.lag ≤ s.tk ∧ s.tk ≤ 20000
  hd : ∀ s ∈ w.sc, 0 ≤ s.hd ∧ s.hd ≤ 1000
  pc : ∀ s ∈ w.sc, PicL s.ls ∧ s.ls.length ≤ 8 ∧ ∀ l ∈ s.ls, LmB l
  f0 : 0 ≤ w.full
  f1 : w.full ≤ 1000000
  h0 : 0 ≤ w.hold
  h1 : w.hold ≤ 2
  y0 : 1 ≤ w.fly
  y1 : w.fly ≤ 3
theorem BnOk.need0 {b : Bn} (h : BnOk b) : 1 ≤ b.need ∧ b.need ≤ 50 := by
  have := h.lag0
  obtain ⟨_, _, _, _, _, _, _, _, _, _, _, _, _, _, _, _, _, _⟩ := h
  unfold Bn.need
  omega
theorem tmS_in {n : Int} {sc : List Scn} (n0 : 0 ≤ n) (h : ∀ s ∈ sc, (0 ≤ s.tk ∧ s.tk ≤ 20000) ∧ 0 ≤ s.hd ∧ s.hd ≤ 1000) : ∀ {i : Nat}, i ≤ sc.length → 0 ≤ (tmS n sc i).1 ∧ (tmS n sc i).1 ≤ n + i * 21000 ∧ 0 ≤ (tmS n sc i).2 ∧ (tmS n sc i).2 ≤ n + i * 21000
  | 0, _ => by
    refine ⟨by show (0 : Int) ≤ 0; omega, ?_, ?_, ?_⟩
    · show (0 : Int) ≤ n + ((0 : Nat) : Int) * 21000; omega
    · show 0 ≤ n; exact n0
    · show n ≤ n + ((0 : Nat) : Int) * 21000; omega
  | i + 1, hi => by
    have e := List.getElem?_eq_getElem (show i < sc.length by omega)
    have m := List.getElem_mem (show i < sc.length by omega)
    have := h _ m
    have ih := tmS_in n0 h (i := i) (by omega)
    rw [tmS_succ e]
    dsimp only
    omega
theorem fn_lm {l : Lmp} (h : LmB l) : Fn 2 5000 (eLm l) := by
  unfold eLm
  have b : ∀ {i : Int}, -100 ≤ i → i ≤ 100 → Fn 1 1001 (.int i) := fun h1 h2 => (Fn.int (bd_of 100 h1 h2 (k := 10))).up (by decide) (by decide)
  have s : Fn 1 1001 (.tuple (l.sh.map .str)) := (Fn.tuple (k := 0) (c := 122) (n := 4) (Fn.map fun t ht => by
    obtain ⟨h1, h2⟩ := h.st t ht
    exact ⟨h1, by simp [PyData.depth], by show 10 * t.length + 2 ≤ 122; omega⟩) (by rw [List.length_map]; exact h.s1)).up (by decide) (by decide)
  exact (Fn.tuple (k := 1) (c := 1001) (n := 4) (all4 (b h.x0 h.x1) (b h.z0 h.z1) s (b (by have := h.w0; omega) h.w1)) (by simp)).up (by decide) (by decide)
theorem fn_shw {w : Shw} (h : ShwB w) : Fn 6 2000000 (eW w) := by
  unfold eW
  have b : ∀ {i : Int}, -1000000 ≤ i → i ≤ 1000000 → Fn 0 1001 (.int i) := fun h1 h2 => Fn.int (bd_of 1000000 h1 h2 (k := 20))
  have e1 : Fn 5 480300 (eB w.b) := by
    unfold eB
    obtain ⟨_, _, _, _, _, _, _, _, _, _, _, _, _, _, _, _, _, _⟩ := h.ok
    refine (Fn.tuple (k := 0) (c := 1001) (n := 9) (fun x hx => ?_) (by simp)).up (by decide) (by decide)
    simp only [List.mem_cons, List.not_mem_nil, or_false] at hx
    rcases hx with rfl | rfl | rfl | rfl | rfl | rfl | rfl | rfl | rfl <;> exact b (by omega) (by omega)
  have e2 : Fn 5 480300 (.tuple (w.pads.map enc2)) := by
    refine (Fn.tuple (k := 1) (c := 2009) (n := 8) (Fn.map fun p hp => ?_) (by rw [List.length_map]; exact h.np)).up (by decide) (by decide)
    obtain ⟨_, _, _, _⟩ := h.ip p hp
    exact Fn.tuple (k := 0) (c := 1001) (n := 2) (all2 (b (by omega) (by omega)) (b (by omega) (by omega))) (by simp)
  have e3 : Fn 5 480300 (.tuple [.int w.full, .int w.hold, .int w.fly]) := by
    have := h.f0; have := h.f1; have := h.h0; have := h.h1; have := h.y0; have := h.y1
    exact (Fn.tuple (k := 0) (c := 1001) (n := 3) (all3 (b (by omega) (by omega)) (b (by omega) (by omega)) (b (by omega) (by omega))) (by simp)).up (by decide) (by decide)
  have e4 : Fn 5 480300 (.tuple (w.sc.map eSc)) := by
    refine (Fn.tuple (k := 4) (c := 120066) (n := 4) (Fn.map fun s hs => ?_) (by rw [List.length_map]; exact h.ns)).up (by decide) (by decide)
    obtain ⟨t0, t1, t2⟩ := h.tk s hs
    obtain ⟨d0, d1⟩ := h.hd s hs
    obtain ⟨_, p1, p2⟩ := h.pc s hs
    have ep : Fn 3 40019 (eP s.ls) := Fn.tuple (k := 2) (c := 5000) (n := 8) (Fn.map fun l hl => fn_lm (p2 l hl)) (by rw [List.length_map]; exact p1)
    exact Fn.tuple (k := 3) (c := 40019) (n := 3) (all3 ((b (by omega) (by omega)).up (by decide) (by decide)) ((b (by omega) (by omega)).up (by decide) (by decide)) ep) (by simp)
  exact (Fn.tuple (k := 5) (c := 480300) (n := 4) (all4 e1 e2 e3 e4) (by simp)).up (by decide) (by decide)
theorem on6 {a b c d e f' x : PyData} {xs : List PyData} {f : PyData → Prop} : onAt (a :: b :: c :: d :: e :: f' :: x :: xs) 6 f = f x := on_nat (n := 6) rfl
theorem on7 {a b c d e f' g x : PyData} {xs : List PyData} {f : PyData → Prop} : onAt (a :: b :: c :: d :: e :: f' :: g :: x :: xs) 7 f = f x := on_nat (n := 7) rfl
theorem on8 {a b c d e f' g h x : PyData} {xs : List PyData} {f : PyData → Prop} : onAt (a :: b :: c :: d :: e :: f' :: g :: h :: x :: xs) 8 f = f x := on_nat (n := 8) rfl
/-- the charge that a show needs -/
def chN (w : Shw) : Int := (w.sc.map fun s => s.tk * max w.fly w.hold + s.hd * w.hold).sum
def seatsP (ls : List Lmp) (rs : List Int) (sp : Int) : List P2 := (List.zip ls rs).map fun p => (p.1.x, p.2 * sp)
theorem seatsP_len {ls : List Lmp} {rs : List Int} {sp : Int} : (seatsP ls rs sp).length ≤ ls.length := by
  unfold seatsP
  rw [List.length_map, List.length_zip]
  exact Nat.min_le_left _ _
/-- a column at which carriers may stand behind the scene k -/
def StandsAt (w : Shw) (k : Int) (p : P2) : Prop := p ∈ w.pads ∨ ∃ (i : Nat) (s : Scn) (rs : List Int), k = i ∧ w.sc[i]? = some s ∧ LeastR (lxs s.ls) w.b.sp rs ∧ rs.length = s.ls.length ∧ p ∈ seatsP s.ls rs w.b.sp
theorem standsAt_sc {w : Shw} {k : Nat} {p : P2} {s : Scn} {rs : List Int} (h : w.sc[k]? = some s) (l : LeastR (lxs s.ls) w.b.sp rs) (lr : rs.length = s.ls.length) : StandsAt w k p ↔ p ∈ w.pads ++ seatsP s.ls rs w.b.sp := by
  rw [List.mem_append]
  constructor
  · rintro (h2 | ⟨i, s2, rs2, e, h3, l2, lr2, h4⟩)
    · exact .inl h2
    · have : k = i := by omega
      subst this
      rw [h] at h3
      cases h3
      rw [LeastR.unique l l2 (by rw [lr, lxs_len]) (by rw [lr2, lxs_len])]
      exact .inr h4
  · rintro (h2 | h2)
    · exact .inl h2
    · exact .inr ⟨k, s, rs, rfl, h, l, lr, h2⟩
structure StandsL (w : Shw) (k : Int) (qs : List Pr) : Prop where
  mem : ∀ p, StandsAt w k p ↔ p ∈ qs
  nd : qs.Nodup
  up : qs.Pairwise lle
/-- what is so of the laws' shows that are let by -/
structure ShwL (w : Shw) : Prop where
  sp0 : 4 ≤ w.b.sp
  en : ∀ s ∈ w.sc, enough w.b s.tk
  hd : ∀ s ∈ w.sc, w.b.need ≤ s.hd
  np0 : 1 ≤ w.pads.length
  ns0 : 1 ≤ w.sc.length
  ps : SpP w.b.sp w.pads
  py : ∀ p ∈ w.pads, (w.b.deep + 1) * w.b.sp ≤ p.2
  pup : w.pads.Pairwise fun p q => p.1 < q.1
  dp : ∀ s ∈ w.sc, ∃ rs, LeastR (lxs s.ls) w.b.sp rs ∧ rs.length = s.ls.length ∧ ∀ r ∈ rs, 0 ≤ r ∧ r < w.b.deep
  ch : chN w ≤ w.full
end DV
namespace DV
open PySem PySem.Spec PyProof.Rows L2
open LamX (ExtN TabS Tabs CodeO)
section
variable {ρ : Rho} {n : Nat} {gs : List PyData → Rho → (Rho → Prop) → Prop} {P : Rho → Prop}
theorem items_l {xs : List PyData} : items ρ (.d (.list xs)) = some xs := rfl
theorem items_t {xs : List PyData} : items ρ (.d (.tuple xs)) = some xs := rfl
theorem items_o {i : Nat} : items ρ (.o i) = match ρ[i]? with
    | some (some (.own xs)) => some xs
    | some (some (.ro (.list xs))) => some xs
    | some (some (.ro (.tuple xs))) => some xs
    | some (some (.d (.list xs))) => some xs
    | some (some (.d (.tuple xs))) => some xs
    | _ => none := rfl
theorem ti_t {xs : List PyData} : titems (.d (.tuple xs)) = some xs := rfl
theorem dgT_t {k : Nat} {xs : List PyData} : dgTup k gs (.d (.tuple xs)) ρ P = (xs.length = k ∧ gs xs ρ P) := rfl
theorem seqs_l {xs : List PyData} : seqs ρ (.d (.list xs)) = some (false, xs) := rfl
theorem seqs_t {xs : List PyData} : seqs ρ (.d (.tuple xs)) = some (true, xs) := rfl
theorem seqs_o {i : Nat} : seqs ρ (.o i) = match ρ[i]? with
    | some (some (.ro (.list xs))) => some (false, xs)
    | some (some (.ro (.tuple xs))) => some (true, xs)
    | _ => none := rfl
/-- what is walked -/
def walkR (r : R) (ρ1 : Rho) (Q : List PyData → Rho → Prop) : Prop := match r with
  | .d (.list xs) => Q xs ρ1
  | .d (.tuple xs) => Q xs ρ1
  | .o i => match ρ1[i]? with
    | some (some (.ro (.list xs))) => Q xs ρ1
    | some (some (.ro (.tuple xs))) => Q xs ρ1
    | _ => False
  | _ => False
theorem dSeqI_eq {te : TDE} : dSeqI te = fun ρ Q => te ρ fun r ρ1 => walkR r ρ1 Q := rfl
theorem wk_l {xs : List PyData} {Q : List PyData → Rho → Prop} : walkR (.d (.list xs)) ρ Q = Q xs ρ := rfl
theorem wk_t {xs : List PyData} {Q : List PyData → Rho → Prop} : walkR (.d (.tuple xs)) ρ Q = Q xs ρ := rfl
theorem wk_eP {ls : List Lmp} {Q : List PyData → Rho → Prop} : walkR (.d (eP ls)) ρ Q = Q (ls.map eLm) ρ := rfl
theorem wk_o {i : Nat} {Q : List PyData → Rho → Prop} : walkR (.o i) ρ Q = match ρ[i]? with
    | some (some (.ro (.list xs))) => Q xs ρ
    | some (some (.ro (.tuple xs))) => Q xs ρ
    | _ => False := rfl
/-- tuple(xs) -/
def tupR (rs : List R) (ρ1 : Rho) (Q : R → Rho → Prop) : Prop := match rs with
  | [.d (.tuple xs)] => Q (.d (.tuple xs)) ρ1
  | [r] => onL ρ1 r fun xs => Q (.d (.tuple xs)) ρ1
  | _ => False
theorem dTupOf_eq {t : TDA} : dTupOf t = fun ρ Q => t ρ fun rs ρ1 => tupR rs ρ1 Q := rfl
theorem tu_t {xs : List PyData} {Q : R → Rho → Prop} : tupR [.d (.tuple xs)] ρ Q = Q (.d (.tuple xs)) ρ := rfl
theorem tu_l {xs : List PyData} {Q : R → Rho → Prop} : tupR [.d (.list xs)] ρ Q = Q (.d (.tuple xs)) ρ := rfl
theorem tu_o {i : Nat} {Q : R → Rho → Prop} : tupR [.o i] ρ Q = onL ρ (.o i) fun xs => Q (.d (.tuple xs)) ρ := rfl
theorem tu_eP {ls : List Lmp} {Q : R → Rho → Prop} : tupR [.d (eP ls)] ρ Q = Q (.d (eP ls)) ρ := rfl
theorem items_eW {w : Shw} : items ρ (.d (eW w)) = some [eB w.b, .tuple (w.pads.map enc2), .tuple [.int w.full, .int w.hold, .int w.fly], .tuple (w.sc.map eSc)] := rfl
theorem items_eB {b : Bn} : items ρ (.d (eB b)) = some [.int b.sp, .int b.near, .int b.wind, .int b.clk, .int b.fall, .int b.way, .int b.sil, .int b.cuts, .int b.deep] := rfl
theorem items_eSc {s : Scn} : items ρ (.d (eSc s)) = some [.int s.tk, .int s.hd, eP s.ls] := rfl
theorem items_eLm {l : Lmp} : items ρ (.d (eLm l)) = some [.int l.x, .int l.z, .tuple (l.sh.map .str), .int l.w] := rfl
theorem items_eP {ls : List Lmp} : items ρ (.d (eP ls)) = some (ls.map eLm) := rfl
theorem items_eL {l : Lg} : items ρ (.d (eL l)) = some [pr l.ax l.ay, pr l.bx l.by'] := rfl
theorem items_pr {a b : Int} : items ρ (.d (pr a b)) = some [.int a, .int b] := rfl
theorem items_enc2 {p : P2} : items ρ (.d (enc2 p)) = some [.int p.1, .int p.2] := rfl
theorem items_eTm {p : Int × Int} {s : Scn} : items ρ (.d (eTm p s)) = some [.int p.1, .int p.2, .int (p.2 + s.tk), .int (p.2 + s.tk + s.hd)] := rfl
theorem ti_eB {b : Bn} : titems (.d (eB b)) = some [.int b.sp, .int b.near, .int b.wind, .int b.clk, .int b.fall, .int b.way, .int b.sil, .int b.cuts, .int b.deep] := rfl
theorem ti_eW {w : Shw} : titems (.d (eW w)) = some [eB w.b, .tuple (w.pads.map enc2), .tuple [.int w.full, .int w.hold, .int w.fly], .tuple (w.sc.map eSc)] := rfl
theorem ti_eLm {l : Lmp} : titems (.d (eLm l)) = some [.int l.x, .int l.z, .tuple (l.sh.map .str), .int l.w] := rfl
theorem ti_eP {ls : List Lmp} : titems (.d (eP ls)) = some (ls.map eLm) := rfl
theorem dgT_eSc {s : Scn} : dgTup 3 gs (.d (eSc s)) ρ P = gs [.int s.tk, .int s.hd, eP s.ls] ρ P := by simp [dgTup, eSc]
theorem dgT_eLm {l : Lmp} : dgTup 4 gs (.d (eLm l)) ρ P = gs [.int l.x, .int l.z, .tuple (l.sh.map .str), .int l.w] ρ P := by simp [dgTup, eLm]
theorem dgT_eL {l : Lg} : dgTup 2 gs (.d (eL l)) ρ P = gs [pr l.ax l.ay, pr l.bx l.by'] ρ P := by simp [dgTup, eL]
theorem dgT_pr {a b : Int} : dgTup 2 gs (.d (pr a b)) ρ P = gs [.int a, .int b] ρ P := by simp [dgTup, pr]
theorem dgT_enc2 {p : P2} : dgTup 2 gs (.d (enc2 p)) ρ P = gs [.int p.1, .int p.2] ρ P := by simp [dgTup, enc2, pr]
theorem dgT_eW {w : Shw} : dgTup 4 gs (.d (eW w)) ρ P = gs [eB w.b, .tuple (w.pads.map enc2), .tuple [.int w.full, .int w.hold, .int w.fly], .tuple (w.sc.map eSc)] ρ P := by simp [dgTup, eW]
theorem dgT_eTm {p : Int × Int} {s : Scn} : dgTup 4 gs (.d (eTm p s)) ρ P = gs [.int p.1, .int p.2, .int (p.2 + s.tk), .int (p.2 + s.tk + s.hd)] ρ P := by simp [dgTup, eTm]
theorem seqs_eP {ls : List Lmp} : seqs ρ (.d (eP ls)) = some (true, ls.map eLm) := rfl
theorem dOp_ap {f : F2} {ta tb : TDE} {Q : R → Rho → Prop} : dOp f ta tb ρ Q = ta ρ fun r ρ1 => tb ρ1 fun s ρ2 => onV2 ρ2 r s fun x y => f x y fun z => Q (.d z) ρ2 := rfl
theorem dIx_ap {ta tb : TDE} {Q : R → Rho → Prop} : dIx ta tb ρ Q = ta ρ fun r ρ1 => tb ρ1 fun s ρ2 => onItems ρ2 r fun xs => onInt ρ2 s fun k => onAt xs k fun y => Q (.d y) ρ2 := rfl
theorem dCatT_ap {ta tb : TDE} {Q : R → Rho → Prop} : dCatT ta tb ρ Q = ta ρ fun r ρ1 => tb ρ1 fun s ρ2 => onT r fun xs => onT s fun ys => Few (xs.length + ys.length) ∧ Q (.d (.tuple (xs ++ ys))) ρ2 := rfl
theorem dRepT_ap {ta tb : TDE} {Q : R → Rho → Prop} : dRepT ta tb ρ Q = ta ρ fun r ρ1 => tb ρ1 fun s ρ2 => onT r fun xs => onInt ρ2 s fun k => (xs ≠ [] ∧ 1 ≤ k ∧ k ≤ 1000 ∧ xs.length ≤ 1000) ∧ Q (.d (.tuple (repD k xs))) ρ2 := rfl
end
theorem on_at {xs : List PyData} {n : Nat} {x : PyData} {f : PyData → Prop} (h : xs[n]? = some x) : onAt xs (n : Int) f = f x := on_nat h
end DV
namespace PySem
open Sem (wp)
open AutoSeq1
end PySem
namespace DV
open PySem PySem.Spec PyProof.Rows L2
open LamX (ExtN TabS Tabs CodeO)
section
variable {X : Cx} {F : Fm} {e : Expr} {i : Nat} {x : Str} {vpos apos cpos : Pos} {t : TA} {d : TDA}
def dExtendT (i : Nat) (t : TDA) : TDE := fun ρ Q => onOwn ρ i fun _ => t ρ fun rs ρ1 => match rs with
  | [r] => onT r fun zs => onOwn ρ1 i fun xs => Few (xs.length + zs.length) ∧ Q (.d .none) (ρ1.set i (some (.own (xs ++ zs))))
  | _ => False
end
def rgDn (a : Int) (n : Nat) : List PyData := (List.range n).map fun k : Nat => PyData.int (a - (k : Nat))
def rgDnV (a : Int) (n : Nat) : List V := (List.range n).map fun k : Nat => V.int (a - (k : Nat))
theorem im_rgDn {K : PySem.W.Frag} {N : Addr → Prop} {H : Hp} (a : Int) (n : Nat) : ImAll K N H (rgDn a n) (rgDnV a n) := by
  unfold rgDn rgDnV
  have : ∀ l : List Nat, ImAll K N H (l.map fun k : Nat => PyData.int (a - (k : Nat))) (l.map fun i : Nat => V.int (a - (i : Nat))) := by
    intro l
    induction l with
    | nil => exact .nil
    | cons k l ih => rw [List.map_cons, List.map_cons]; exact .cons .int ih
  exact this _
def tLstDn (ta : TA) : TE := fun σ H Q => ta σ H fun vs H1 => ∃ i j : Int, vs = [.int i, .int j, .int (-1)] ∧ (-(2 ^ 62) ≤ i ∧ i < 2 ^ 62 ∧ -(2 ^ 62) ≤ j ∧ j < 2 ^ 62 ∧ (i - j).toNat ≤ 2 ^ 24) ∧ ∀ q, H1 q = none → Q (.ref q) (upd H1 q (.lst (rgDnV i (i - j).toNat)))
section
variable {X : Cx} {F : Fm} {a b c : Expr} {t : TA} {d : TDA} {pos p p2 pos2 : Pos}
theorem pe_listDn {ta : TA} (hc : X.calm = true) (hg : Gl X "list") (hm : X.mg "list" = none) (hg2 : Gl X "range") (hm2 : X.mg "range" = none) (ha : PA X [a, b, c] ta)
    (hs : starEach [a, b, c] X.env = (false, eval a X.env) :: starEach [b, c] X.env := by rfl) (hpl : (backTo pos2 (starEach [b, c] X.env)).any (·.1) = false := by rfl)
    (na2 : starEach [.Call (.Name "range" p2) [a, b, c] [] pos2] X.env = (false, eval (.Call (.Name "range" p2) [a, b, c] [] pos2) X.env) :: starEach [] X.env := by rfl) :
    PE X (.Call (.Name "list" p) [.Call (.Name "range" p2) [a, b, c] [] pos2] [] pos) (tLstDn ta) := by
  refine ⟨fun pins s σ H Q I h => ?_⟩
  have mk : wpAny (model X.prog X.w) X.A (eval (.Call (.Name "range" p2) [a, b, c] [] pos2) X.env) (fun x s' => ∃ (r : Addr) (i j : Int) (t u v : Tok) (H' : Hp), x = .ref r ∧ IsRange s'.heap r i j (-1) t u v ∧ Inv X pins σ H' s' ∧ (-(2 ^ 62) ≤ i ∧ i < 2 ^ 62 ∧ -(2 ^ 62) ≤ j ∧ j < 2 ^ 62 ∧ (i - j).toNat ≤ 2 ^ 24) ∧ ∀ q, H' q = none → Q (.ref q) (upd H' q (.lst (rgDnV i (i - j).toNat)))) X.xe s := by
    refine Call_ (ld_blt I hg2 hm2 boot_range (PyProof.Rows.callWith_type1 (thn (ha.run pos2 pins s σ H _ I h) fun us s1 ⟨vs, H1, I1, r1, q1⟩ => ?_) hs hpl))
    obtain ⟨i, j, e, ok, q⟩ := q1
    subst e
    cases r1 with
    | cons r rr =>
      cases rr with
      | cons r' rr =>
        cases rr with
        | cons r'' rr =>
          cases rr
          obtain ⟨t, rfl⟩ := r
          obtain ⟨t', rfl⟩ := r'
          obtain ⟨t'', rfl⟩ := r''
          refine call_range_3 (by decide) ?_ (.inl (PyProof.noPylong_small (by decide)))
          exact ⟨_, i, j, _, _, _, H1, rfl, IsRange.new .., I1.kept (t' := s1.toks) fun b o e => Heap.get?_push_of_some _ e, ok, q⟩
  refine Call_ (ld_blt I hg hm boot_list (PyProof.Rows.callWith_type1 (args_cons (thn mk fun x s1 ⟨r, i, j, t, u, v, H1, ex, hr, I1, ok, q⟩ => args_nil ?_) na2) na2))
  subst ex
  obtain ⟨b1, b2, b3, b4, b5⟩ := ok
  refine call_list_range (n := (i - j).toNat) (I1.ok.hd hc) hr (PySem.W.small_down b1 b2 b3 b4) (PySem.W.rangeSize_downNat i j) b5 fun h' tk acc c' hk e' hi => ?_
  have vl : Vals (rgDnV i (i - j).toNat) acc.toList := by
    have e : acc.toList.length = (i - j).toNat := by rw [Array.length_toList]; exact hi.1
    unfold rgDnV
    rw [← e]
    refine vals_of_get acc.toList _ fun k u hk => ?_
    obtain ⟨t, rfl⟩ := hi.2 k u (by rw [← hk, Array.getElem?_toList])
    exact ⟨t, by rw [Int.mul_neg_one, Int.sub_eq_add_neg]⟩
  refine ⟨.ref s1.heap.objs.size, upd H1 s1.heap.objs.size (.lst (rgDnV i (i - j).toNat)), I1.laid hk (Nat.le_refl _) (show ObjOk X.prog X.w _ _ _ (.lst (rgDnV i (i - j).toNat)) from ⟨?_, acc.toList, c', vl, ?_⟩), rfl, q _ (I1.hok.fresh (Nat.le_refl _))⟩
  · unfold rgDnV; rw [List.length_map, List.length_range, sizeLine_eq]; omega
  · rw [Array.toArray_toList]; exact e'
def dLstDn (t : TDA) : TDL := fun ρ Q => t ρ fun rs ρ1 => match rs with
  | [.d (.int i), .d (.int j), .d (.int k)] => k = -1 ∧ (-(2 ^ 62) ≤ i ∧ i < 2 ^ 62 ∧ -(2 ^ 62) ≤ j ∧ j < 2 ^ 62 ∧ (i - j).toNat ≤ 2 ^ 24) ∧ Q (rgDn i (i - j).toNat) ρ1
  | _ => False
theorem pl_listRg3 (hc : X.calm = true) (hg : Gl X "list") (hm : X.mg "list" = none) (hg2 : Gl X "range") (hm2 : X.mg "range" = none) (ha : PDA X F [a, b, c] t d)
    (hs : starEach [a, b, c] X.env = (false, eval a X.env) :: starEach [b, c] X.env := by rfl) (hpl : (backTo pos2 (starEach [b, c] X.env)).any (·.1) = false := by rfl)
    (na2 : starEach [.Call (.Name "range" p2) [a, b, c] [] pos2] X.env = (false, eval (.Call (.Name "range" p2) [a, b, c] [] pos2) X.env) :: starEach [] X.env := by rfl) :
    PDL X F (.Call (.Name "list" p) [.Call (.Name "range" p2) [a, b, c] [] pos2] [] pos) (tLstDn t) (dLstDn d) := by
  refine ⟨pe_listDn hc hg hm hg2 hm2 ha.pa hs hpl na2, fun pins ρ σ H Q O h => ?_, fun ρ Q Q' hq h => ?_⟩
  · refine ha.da.run pins ρ σ H _ O (ha.da.mono _ _ _ (fun rs ρ1 h1 vs H1 O1 R1 => ?_) h)
    split at h1
    · rename_i i j k
      obtain ⟨ek, h1⟩ := h1
      subst ek
      simp only [ROks, ROk, Im] at R1
      obtain ⟨_, _, rfl, rfl, _, _, rfl, rfl, _, _, rfl, rfl, rfl⟩ := R1
      exact ⟨i, j, rfl, h1.1, fun q hq => h1.2 _ _ (O1.pushL hq (im_rgDn _ _))⟩
    · exact h1.elim
  · refine ha.da.mono _ _ _ (fun rs ρ1 h1 => ?_) h
    revert h1
    split
    · exact fun h1 => ⟨h1.1, h1.2.1, hq _ _ h1.2.2⟩
    · exact fun h1 => h1
end
end DV
namespace DV
open PySem PySem.Spec PyProof.Rows L2
open LamX (ExtN TabS Tabs CodeO)
def Bn.nr (b : Bn) (n : Int) : Bn := { b with near := n }
theorem BnOk.nr {b : Bn} (h : BnOk b) {n : Int} (h0 : 1 ≤ n) (h1 : n ≤ b.near) : BnOk (b.nr n) := by
  obtain ⟨_, _, _, _, _, _, _, _, _, _, _, _, _, _, _, _, _, _⟩ := h
  unfold Bn.nr
  constructor
  all_goals dsimp only
  all_goals omega
def Bn.plain (b : Bn) : Bn := { b with near := 1, wind := 0, clk := 0, fall := 0 }
theorem BnOk.pl {b : Bn} (h : BnOk b) : BnOk b.plain := by
  obtain ⟨_, _, _, _, _, _, _, _, _, _, _, _, _, _, _, _, _, _⟩ := h
  unfold Bn.plain
  constructor
  all_goals dsimp only
  all_goals omega
theorem eqv_nilL (ns : List Int) : PyData.eqv (.list (ns.map .int)) (.list []) = decide (ns = []) := by
  cases ns with
  | nil => rfl
  | cons a ns => rfl
/-- pads side by side -/
structure PadsI (sp wd hi : Int) (i : Nat) (ps : List P2) : Prop where
  len : ps.length = i
  at' : ∀ (k : Nat) (p : P2), ps[k]? = some p → p.1 = k * wd ∧ hi ≤ p.2 ∧ p.2 ≤ hi + sp
theorem PadsI.nil {sp wd hi : Int} : PadsI sp wd hi 0 [] := ⟨rfl, fun k p h => by simp at h⟩
theorem PadsI.snoc {sp wd hi y : Int} {i : Nat} {ps : List P2} (h : PadsI sp wd hi i ps) (h0 : hi ≤ y) (h1 : y ≤ hi + sp) : PadsI sp wd hi (i + 1) (ps ++ [(i * wd, y)]) := by
  refine ⟨by rw [List.length_append, h.len]; rfl, fun k p hp => ?_⟩
  by_cases e : k < ps.length
  · rw [List.getElem?_append_left e] at hp
    exact h.at' k p hp
  · rw [List.getElem?_append_right (by omega)] at hp
    have : k = i := by
      have := (List.getElem?_eq_some_iff.mp hp).1
      rw [List.length_singleton] at this
      have := h.len
      omega
    subst this
    rw [h.len, Nat.sub_self] at hp
    cases hp
    exact ⟨rfl, h0, h1⟩
theorem PadsI.up {sp wd hi : Int} {i : Nat} {ps : List P2} (h : PadsI sp wd hi i ps) (h0 : 1 ≤ wd) : ps.Pairwise fun p q => p.1 < q.1 := by
  rw [List.pairwise_iff_getElem]
  intro a b ha hb hab
  have e1 := (h.at' a _ (List.getElem?_eq_getElem ha)).1
  have e2 := (h.at' b _ (List.getElem?_eq_getElem hb)).1
  rw [e1, e2]
  exact Int.mul_lt_mul_of_pos_right (by omega) (by omega)
theorem PadsI.spaced {sp wd hi : Int} {i : Nat} {ps : List P2} (h : PadsI sp wd hi i ps) (h0 : 0 ≤ sp) (h1 : sp ≤ wd) : SpP sp ps := by
  unfold SpP
  rw [List.pairwise_iff_getElem]
  intro a b ha hb hab
  have e1 := (h.at' a _ (List.getElem?_eq_getElem ha)).1
  have e2 := (h.at' b _ (List.getElem?_eq_getElem hb)).1
  unfold d2
  have q : sp ≤ ps[b].1 - ps[a].1 := by
    rw [e1, e2, ← Int.sub_mul]
    have : 1 * sp ≤ ((b : Int) - a) * wd := Int.mul_le_mul (by omega) h1 h0 (by omega)
    omega
  have q2 : sp * sp ≤ (ps[b].1 - ps[a].1) * (ps[b].1 - ps[a].1) := Int.mul_le_mul q q h0 (by omega)
  have q3 : (ps[a].1 - ps[b].1) * (ps[a].1 - ps[b].1) = (ps[b].1 - ps[a].1) * (ps[b].1 - ps[a].1) := by
    rw [← Int.neg_mul_neg, Int.neg_sub]
  have q4 := isq_nn (ps[a].2 - ps[b].2)
  omega
theorem PadsI.inb {sp wd hi : Int} {i : Nat} {ps : List P2} (h : PadsI sp wd hi i ps) (hi8 : i ≤ 8) (h0 : 0 ≤ wd) (h1 : wd ≤ 100) (h2 : 0 ≤ hi) (h3 : hi ≤ 1000) (h4 : 0 ≤ sp) (h5 : sp ≤ 100) : ∀ p ∈ ps, Inb 9800 p ∧ hi ≤ p.2 := by
  intro p hp
  obtain ⟨k, hk⟩ := List.mem_iff_getElem?.mp hp
  obtain ⟨e1, e2, e3⟩ := h.at' k p hk
  have kl := (List.getElem?_eq_some_iff.mp hk).1
  rw [h.len] at kl
  have q0 : 0 ≤ (k : Int) * wd := Int.mul_nonneg (by omega) h0
  have q1 : (k : Int) * wd ≤ 8 * 100 := Int.mul_le_mul (by omega) h1 h0 (by decide)
  unfold Inb
  omega
end DV
namespace DV
open PySem PySem.Spec PyProof.Rows L2
open LamX (ExtN TabS Tabs CodeO)
theorem LeastR.le {xs rs : List Int} {sp : Int} (h : LeastR xs sp rs) (hl : rs.length = xs.length) {j : Nat} {r : Int} (hr : rs[j]? = some r) : 0 ≤ r ∧ r ≤ j := by
  have jl := (List.getElem?_eq_some_iff.mp hr).1
  have hb := List.getElem?_eq_getElem (show j < xs.length by omega)
  obtain ⟨h0, _, h2⟩ := h j r _ hr hb
  refine ⟨h0, ?_⟩
  have := nodup_le (xs := (List.range r.toNat).map fun i : Nat => (i : Int)) (ys := rs.take j) (by
    rw [List.Nodup, List.pairwise_map]
    exact List.Pairwise.imp (fun {a b} hne e => hne (by omega)) List.nodup_range) fun x hx => by
    obtain ⟨i, hi, rfl⟩ := List.mem_map.mp hx
    have := List.mem_range.mp hi
    obtain ⟨k, a, hk, _, hq, _⟩ := h2 i (by omega) (by omega)
    exact List.mem_iff_getElem?.mpr ⟨k, by rw [List.getElem?_take_of_lt hk]; exact hq⟩
  rw [List.length_map, List.length_range, List.length_take] at this
  omega
theorem seatsP_in {ls : List Lmp} {rs : List Int} {sp : Int} (h : LeastR (lxs ls) sp rs) (hl : rs.length = ls.length) (ll : ls.length ≤ 8) (sp0 : 0 ≤ sp) (sp1 : sp ≤ 100) (hb : ∀ l ∈ ls, LmB l) : ∀ p ∈ seatsP ls rs sp, Inb 9800 p ∧ 0 ≤ p.2 := by
  intro p hp
  unfold seatsP at hp
  obtain ⟨⟨l, r⟩, hm, rfl⟩ := List.mem_map.mp hp
  obtain ⟨j, hj⟩ := List.mem_iff_getElem?.mp hm
  obtain ⟨j1, j2⟩ := List.getElem?_zip_eq_some.mp hj
  obtain ⟨r0, r1⟩ := h.le (by rw [hl, lxs_len]) j2
  have jl := (List.getElem?_eq_some_iff.mp j1).1
  have b := hb l (List.mem_of_getElem? j1)
  have := b.x0
  have := b.x1
  have q0 : 0 ≤ r * sp := Int.mul_nonneg r0 sp0
  have q1 : r * sp ≤ 8 * 100 := Int.mul_le_mul (by omega) sp1 sp0 (by decide)
  unfold Inb
  dsimp only
  omega
theorem StandsL.few {w : Shw} {k : Int} {qs : List Pr} (h : StandsL w k qs) (hw : ShwB w) : qs.length ≤ 16 ∧ ∀ p ∈ qs, Inb 9800 p := by
  have ok := hw.ok
  have sp0 := ok.sp0
  have sp1 := ok.sp1
  have inb : ∀ p ∈ qs, Inb 9800 p := fun p hp => by
    rcases (h.mem p).mpr hp with q | ⟨i, s, rs, _, hs, l, lr, q⟩
    · exact hw.ip p q
    · obtain ⟨_, p1, p2⟩ := hw.pc s (List.mem_of_getElem? hs)
      exact (seatsP_in l lr p1 (by omega) sp1 p2 p q).1
  refine ⟨?_, inb⟩
  have np := hw.np
  by_cases c : ∃ (i : Nat) (s : Scn) (rs : List Int), k = i ∧ w.sc[i]? = some s ∧ LeastR (lxs s.ls) w.b.sp rs ∧ rs.length = s.ls.length
  · obtain ⟨i, s, rs, rfl, hs, l, lr⟩ := c
    have := nodup_le (ys := w.pads ++ seatsP s.ls rs w.b.sp) h.nd fun p hp => (standsAt_sc hs l lr).mp ((h.mem p).mpr hp)
    have := seatsP_len (ls := s.ls) (rs := rs) (sp := w.b.sp)
    obtain ⟨_, p1, _⟩ := hw.pc s (List.mem_of_getElem? hs)
    rw [List.length_append] at *
    omega
  · have := nodup_le (ys := w.pads) h.nd fun p hp => by
      rcases (h.mem p).mpr hp with q | ⟨i, s, rs, e, hs, l, lr, _⟩
      · exact q
      · exact absurd ⟨i, s, rs, e, hs, l, lr⟩ c
    omega
theorem StandsL.fn {w : Shw} {k : Int} {qs : List Pr} (h : StandsL w k qs) (hw : ShwB w) : Fn 2 50000 (.tuple (qs.map encP)) := by
  obtain ⟨h1, h2⟩ := h.few hw
  refine (Fn.tuple (k := 1) (c := 2009) (n := 16) (Fn.map fun p hp => ?_) (by rw [List.length_map]; exact h1)).up (by decide) (by decide)
  obtain ⟨_, _, _, _⟩ := h2 p hp
  exact Fn.tuple (k := 0) (c := 1001) (n := 2) (all2 (Fn.int (bd_of 1000000 (by omega) (by omega) (k := 20))) (Fn.int (bd_of 1000000 (by omega) (by omega) (k := 20)))) (by simp)
end DV
namespace DV
open PySem PySem.Spec PyProof.Rows L2
open LamX (ExtN TabS Tabs CodeO TabB)
open NdefX (NF NScope CellsAt Caps ncx startF envF slotAt)
end DV
namespace DV
open PySem PySem.Spec PyProof.Rows L2
open LamX (ExtN TabS Tabs CodeO TabB)
open NdefX (NF NScope CellsAt Caps ncx startF envF slotAt)
end DV
namespace DV
open PySem PySem.Spec PyProof.Rows L2
open LamX (ExtN TabS Tabs CodeO TabB)
end DV
namespace DV
open PySem PySem.Spec PyProof.Rows L2
end DV
namespace DV
open PySem PySem.Spec PyProof.Rows L2
end DV
namespace DV
open PySem PySem.Spec PyProof.Rows L2
open scoped Rat
end DV
namespace DV
open PySem PySem.Spec PyProof.Rows L2
end DV
namespace DV
open PySem PySem.Spec PyProof.Rows L2
end DV
namespace DV
open PySem PySem.Spec PyProof.Rows L2
theorem LeastR.has {xs rs : List Int} {sp : Int} (h : LeastR xs sp rs) (hl : rs.length = xs.length) (up : UpL xs) (sp0 : 1 ≤ sp) {j : Nat} {r b : Int} (hr : rs[j]? = some r) (hb : xs[j]? = some b) : HasC xs sp (r.toNat + 1) := by
  obtain ⟨r0, _, hs⟩ := h j r b hr hb
  refine ⟨b - sp + 1, ?_⟩
  let zs := (List.zip xs rs).filter fun p => decide (b - sp + 1 ≤ p.1 ∧ p.1 < b - sp + 1 + sp)
  have e : (zs.map (·.1)) = win xs sp (b - sp + 1) := by
    show (((List.zip xs rs).filter fun p => decide (b - sp + 1 ≤ p.1 ∧ p.1 < b - sp + 1 + sp)).map (·.1)) = xs.filter _
    have := List.filter_map (f := (fun p : Int × Int => p.1)) (p := fun x => decide (b - sp + 1 ≤ x ∧ x < b - sp + 1 + sp)) (l := List.zip xs rs)
    rw [List.map_fst_zip (by rw [hl]; exact Nat.le_refl _)] at this
    rw [this]; rfl
  rw [← e, List.length_map, ← List.length_map (f := fun p : Int × Int => p.2)]
  have inz : ∀ (i : Nat) (a q : Int), xs[i]? = some a → rs[i]? = some q → b - a < sp → a ≤ b → q ∈ zs.map (·.2) := fun i a q e1 e2 lt le => by
    refine List.mem_map.mpr ⟨(a, q), List.mem_filter.mpr ⟨?_, decide_eq_true ⟨by show b - sp + 1 ≤ a; omega, by show a < b - sp + 1 + sp; omega⟩⟩, rfl⟩
    exact List.mem_of_getElem? (i := i) (by rw [List.getElem?_zip_eq_some]; exact ⟨e1, e2⟩)
  have key := nodup_le (xs := (List.range (r.toNat + 1)).map fun k : Nat => (k : Int)) (ys := zs.map (·.2)) ?_ ?_
  · rw [List.length_map, List.length_range] at key
    exact key
  · unfold List.Nodup
    rw [List.pairwise_map]
    exact List.Pairwise.imp (fun {a b} h e => by omega) (List.pairwise_lt_range)
  · intro x hx
    obtain ⟨k, hk, rfl⟩ := List.mem_map.mp hx
    have hk := List.mem_range.mp hk
    by_cases c : (k : Int) = r
    · rw [c]
      exact inz j b r hb hr (by omega) (Int.le_refl _)
    · obtain ⟨i, a, ij, e1, e2, lt⟩ := hs k (by omega) (by omega)
      exact inz i a k e1 e2 lt (up.at (Nat.le_of_lt ij) e1 hb)
end DV
namespace DV
open PySem PySem.Spec PyProof.Rows L2
open LamX (ExtN TabS Tabs CodeO)
section
variable {X : Cx} {F : Fm} {e e2 a b c : Expr} {te te2 ta tb tc : TE} {de de2 da db dc : TDE} {pos p : Pos}
def fInA : F2
  | x, .list ds, Q => (SeqAt.shaped x = true ∧ SeqAt.shaped (.list ds) = true) ∧ Q (.bool (ds.any fun z => PyData.eqv z x))
  | x, .tuple ds, Q => (SeqAt.shaped x = true ∧ SeqAt.shaped (.tuple ds) = true) ∧ Q (.bool (ds.any fun z => PyData.eqv z x))
  | _, _, _ => False
theorem fInA_l {x : PyData} {ds : List PyData} {Q : PyData → Prop} : fInA x (.list ds) Q = ((SeqAt.shaped x = true ∧ SeqAt.shaped (.list ds) = true) ∧ Q (.bool (ds.any fun z => PyData.eqv z x))) := rfl
theorem fInA_t {x : PyData} {ds : List PyData} {Q : PyData → Prop} : fInA x (.tuple ds) Q = ((SeqAt.shaped x = true ∧ SeqAt.shaped (.tuple ds) = true) ∧ Q (.bool (ds.any fun z => PyData.eqv z x))) := rfl
def rNotInA (K : PySem.W.Frag) : R2 := fun x y H Q => ∃ d ds, Dp K H x d ∧ (Dp K H y (.list ds) ∨ Dp K H y (.tuple ds)) ∧ SeqAt.shaped d = true ∧ PyData.canLayAll0 ds = true ∧ Q (.bl (!ds.any fun z => PyData.eqv z d)) H
theorem op_NotInA (hu : X.A.units + 65 < cLine) : OpR X (compareOp .NotIn) (rNotInA X.K) := by
  intro pins s σ H x y v u Q I rx ry h
  obtain ⟨d, ds, hd, he | he, sd, se, q⟩ := h
  · obtain ⟨as, r1⟩ := Dp.reads I d x v hd rx
    obtain ⟨bs, r2⟩ := Dp.reads I (.list ds) y u he ry
    exact SeqAt.notIn_list_reads r2 r1 se (SeqAt.canLay_of_shaped sd) (room_in_shaped sd hu) ⟨.bl _, H, I, rfl, q⟩
  · obtain ⟨as, r1⟩ := Dp.reads I d x v hd rx
    obtain ⟨bs, r2⟩ := Dp.reads I (.tuple ds) y u he ry
    exact SeqAt.notIn_tuple_reads r2 r1 se (SeqAt.canLay_of_shaped sd) (room_in_shaped sd hu) ⟨.bl _, H, I, rfl, q⟩
def fNotInA : F2
  | x, .list ds, Q => (SeqAt.shaped x = true ∧ SeqAt.shaped (.list ds) = true) ∧ Q (.bool (!ds.any fun z => PyData.eqv z x))
  | x, .tuple ds, Q => (SeqAt.shaped x = true ∧ SeqAt.shaped (.tuple ds) = true) ∧ Q (.bool (!ds.any fun z => PyData.eqv z x))
  | _, _, _ => False
theorem so_NotInA {K : PySem.W.Frag} : SO K (rNotInA K) fNotInA := by
  constructor
  · intro H x y dx dy Q h1 h2 q
    cases dy <;> first | exact q.elim | skip
    · exact ⟨dx, _, h1, .inl h2, q.1.1, SeqAt.canLay_of_shaped q.1.2, q.2 _ .bool⟩
    · exact ⟨dx, _, h1, .inr h2, q.1.1, SeqAt.canLay_of_shaped q.1.2, q.2 _ .bool⟩
  · intro x y Q Q' hq q
    cases y <;> first | exact q.elim | skip
    · exact ⟨q.1, hq _ q.2⟩
    · exact ⟨q.1, hq _ q.2⟩
theorem pt_notinA (hu : X.A.units + 65 < cLine) (hK : X.K = F.K) (ha : PD X F a ta da) (hb : PD X F b tb db) (hm : behindInMarks .NotIn b = false := by rfl) : PDT X F (.Compare a [.NotIn] [b] pos) (tTest (tOp (rNotInA F.K) ta tb)) (dTV (dOp fNotInA da db)) :=
  pt_cmpD (by rw [← hK]; exact op_NotInA hu) hm so_NotInA ha hb
theorem fNotInA_l {x : PyData} {ds : List PyData} {Q : PyData → Prop} : fNotInA x (.list ds) Q = ((SeqAt.shaped x = true ∧ SeqAt.shaped (.list ds) = true) ∧ Q (.bool (!ds.any fun z => PyData.eqv z x))) := rfl
theorem fNotInA_t {x : PyData} {ds : List PyData} {Q : PyData → Prop} : fNotInA x (.tuple ds) Q = ((SeqAt.shaped x = true ∧ SeqAt.shaped (.tuple ds) = true) ∧ Q (.bool (!ds.any fun z => PyData.eqv z x))) := rfl
def tupA (rs : List R) (ρ1 : Rho) (Q : R → Rho → Prop) : Prop := match rs with
  | [.d (.tuple xs)] => Q (.d (.tuple xs)) ρ1
  | [.o i] => match ρ1[i]? with
    | some (some (.ro (.tuple xs))) => Q (.d (.tuple xs)) ρ1
    | _ => onL ρ1 (.o i) fun xs => Q (.d (.tuple xs)) ρ1
  | [r] => onL ρ1 r fun xs => Q (.d (.tuple xs)) ρ1
  | _ => False
def dTupA (t : TDA) : TDE := fun ρ Q => t ρ fun rs ρ1 => tupA rs ρ1 Q
theorem dTupA_eq {t : TDA} : dTupA t = fun ρ Q => t ρ fun rs ρ1 => tupA rs ρ1 Q := rfl
theorem ta_t {ρ : Rho} {xs : List PyData} {Q : R → Rho → Prop} : tupA [.d (.tuple xs)] ρ Q = Q (.d (.tuple xs)) ρ := rfl
theorem ta_l {ρ : Rho} {xs : List PyData} {Q : R → Rho → Prop} : tupA [.d (.list xs)] ρ Q = Q (.d (.tuple xs)) ρ := rfl
theorem ta_eP {ρ : Rho} {ls : List Lmp} {Q : R → Rho → Prop} : tupA [.d (eP ls)] ρ Q = Q (.d (eP ls)) ρ := rfl
theorem ta_o {ρ : Rho} {i : Nat} {Q : R → Rho → Prop} : tupA [.o i] ρ Q = match ρ[i]? with
    | some (some (.ro (.tuple xs))) => Q (.d (.tuple xs)) ρ
    | _ => onL ρ (.o i) fun xs => Q (.d (.tuple xs)) ρ := rfl
theorem tupA_of {rs : List R} {ρ : Rho} {Q : R → Rho → Prop} (h : tupA rs ρ Q) : (∃ xs, rs = [.d (.tuple xs)] ∧ Q (.d (.tuple xs)) ρ) ∨ (∃ i xs, rs = [.o i] ∧ ρ[i]? = some (some (.ro (.tuple xs))) ∧ Q (.d (.tuple xs)) ρ) ∨ ∃ r xs, rs = [r] ∧ litems ρ r = some xs ∧ Q (.d (.tuple xs)) ρ := by
  unfold tupA at h
  split at h
  · exact .inl ⟨_, rfl, h⟩
  · split at h
    · exact .inr (.inl ⟨_, _, rfl, by assumption, h⟩)
    · obtain ⟨xs, e, q⟩ := onL_of h
      exact .inr (.inr ⟨_, xs, rfl, e, q⟩)
  · obtain ⟨xs, e, q⟩ := onL_of h
    exact .inr (.inr ⟨_, xs, rfl, e, q⟩)
  · exact h.elim
theorem tupA_mono {rs : List R} {ρ : Rho} {Q Q' : R → Rho → Prop} (hq : ∀ r ρ, Q r ρ → Q' r ρ) (h : tupA rs ρ Q) : tupA rs ρ Q' := by
  unfold tupA at h ⊢
  split at h
  · exact hq _ _ h
  · split at h
    · exact hq _ _ h
    · exact onL_mono h fun xs => hq _ _
  · exact onL_mono h fun xs => hq _ _
  · exact h.elim
theorem pd_tupleA {t : TA} {d : TDA} {p : Pos} (hg : Gl X "tuple") (hm : X.mg "tuple" = none) (ha : PDA X F [e] t d) (hK : X.K = F.K := by rfl) (he : starEach [e] X.env = (false, eval e X.env) :: starEach [] X.env := by rfl) (hpl : (backTo pos (starEach [] X.env)).any (·.1) = false := by rfl) :
    PD X F (.Call (.Name "tuple" p) [e] [] pos) (tCB (fun xs H Q => ∃ p ys, xs = [.ref p] ∧ ((SqL F.K H p ys ∧ ∀ l, H l = none → Q (.ref l) (upd H l (.tup ys))) ∨ (SqT F.K H p ys ∧ Q (.ref p) H))) t) (dTupA d) := by
  refine ⟨?_, fun pins ρ σ H Q O h => ?_, fun ρ Q Q' hq h => ?_⟩
  · have := pe_callTy (p := p) (pos := pos) call_tuple_of hg hm (by decide +kernel) ha.pa (by decide) (by decide) he hpl
    rw [hK] at this
    exact this
  · refine ha.da.run pins ρ σ H _ O (ha.da.mono _ _ _ (fun rs ρ1 h1 vs H1 O1 R1 => ?_) h)
    rcases tupA_of h1 with ⟨xs, rfl, h1⟩ | ⟨i, xs, rfl, q, h1⟩ | ⟨r, xs, rfl, e1, h1⟩
    · simp only [ROks] at R1
      obtain ⟨v, _, rfl, r1, rfl⟩ := R1
      have r2 : Im F.K (Av F pins ρ1 σ) H1 (.tuple xs) v := r1
      have r3 := r2
      simp only [Im] at r2
      obtain ⟨p, us, rfl, l, im⟩ := r2
      exact ⟨p, us, rfl, .inr ⟨l.sq, h1 _ _ O1 r3⟩⟩
    · simp only [ROks] at R1
      obtain ⟨v, _, rfl, r1, rfl⟩ := R1
      have g0 := r1.1
      obtain ⟨u, g1, g2⟩ := O1.ent i _ q
      rw [g0] at g1; cases g1
      rcases g2 with im | ⟨a, us, zs, rfl, e1, l, t⟩
      · have r3 := im
        simp only [Im] at im
        obtain ⟨p, us, rfl, l, im⟩ := im
        exact ⟨p, us, rfl, .inr ⟨l.sq, h1 _ _ O1 r3⟩⟩
      · cases e1
    · simp only [ROks] at R1
      obtain ⟨v, _, rfl, r1, rfl⟩ := R1
      obtain ⟨p, us, rfl, l, im⟩ := litems_ok O1 r1 e1
      refine ⟨p, us, rfl, .inl ⟨l, fun l' hl => ?_⟩⟩
      obtain ⟨O2, i2⟩ := newTup O1 hl im
      exact h1 _ _ O2 i2
  · exact ha.da.mono _ _ _ (fun rs ρ1 h1 => tupA_mono hq h1) h
end
section
variable {X : Cx} {F : Fm} {a b : Expr} {ta tb : TE} {da db : TDE} {pos : Pos}
def onTru (ρ : Rho) (r : R) (f : Bool → Prop) : Prop := match val ρ r with
  | some (.int i) => f (i != 0)
  | some (.bool k) => f k
  | some .none => f false
  | some (.tuple xs) => f !xs.isEmpty
  | some (.list xs) => f !xs.isEmpty
  | _ => False
def dOrT (ta tb : TDE) : TDE := fun ρ Q => ta ρ fun r ρ1 => onTru ρ1 r fun k => if k = true then Q r ρ1 else tb ρ1 Q
def dAndT (ta tb : TDE) : TDE := fun ρ Q => ta ρ fun r ρ1 => onTru ρ1 r fun k => if k = true then tb ρ1 Q else Q r ρ1
theorem onTru_int {ρ : Rho} {i : Int} {f : Bool → Prop} : onTru ρ (.d (.int i)) f = f (i != 0) := rfl
theorem onTru_bool {ρ : Rho} {k : Bool} {f : Bool → Prop} : onTru ρ (.d (.bool k)) f = f k := rfl
theorem onTru_none {ρ : Rho} {f : Bool → Prop} : onTru ρ (.d .none) f = f false := rfl
theorem onTru_tuple {ρ : Rho} {xs : List PyData} {f : Bool → Prop} : onTru ρ (.d (.tuple xs)) f = f !xs.isEmpty := rfl
theorem onTru_list {ρ : Rho} {xs : List PyData} {f : Bool → Prop} : onTru ρ (.d (.list xs)) f = f !xs.isEmpty := rfl
end
theorem Shp.refl {k : Nat} {d : PyData} (h : Shp k d) : PyData.eqv d d = true := SeqAt.eqv_refl d h.lay
end DV
namespace DV
open PySem PySem.Spec PyProof.Rows L2
open LamX (ExtN TabS Tabs CodeO)
def keyIsD : PyData → L2.Key → Bool
  | .int i, .inl j => decide (i = j)
  | .str x, .inr y => decide (x = y)
  | _, _ => false
def findD (kvs : List (PyData × PyData)) (k : L2.Key) : Option PyData := (kvs.find? fun p => keyIsD p.1 k).map (·.2)
theorem keyIs_kD {q k : L2.Key} : keyIsD (kD q) k = decide (q = k) := by
  rcases q with i | x <;> rcases k with j | y <;> simp [kD, keyIsD]
theorem kv_find {K : PySem.W.Frag} {N : Addr → Prop} {H : Hp} {k : L2.Key} : ∀ {ds : List (PyData × PyData)} {kvs : List (L2.Key × V)}, ImKv K N H ds kvs → (valV kvs k = none ∧ findD ds k = none) ∨ ∃ v d, valV kvs k = some v ∧ findD ds k = some d ∧ Im K N H d v
  | [], _, h => by
    simp only [ImKv] at h
    subst h
    exact .inl ⟨rfl, rfl⟩
  | (a, d) :: ds, _, h => by
    simp only [ImKv] at h
    obtain ⟨q, x, xs, rfl, rfl, im, t⟩ := h
    by_cases z : q = k
    · refine .inr ⟨x, d, valV_pos z, ?_, im⟩
      unfold findD
      rw [List.find?_cons, keyIs_kD, decide_eq_true z]
      rfl
    · have e : findD ((kD q, d) :: ds) k = findD ds k := by
        unfold findD
        rw [List.find?_cons, keyIs_kD, decide_eq_false z]
      rw [e, valV_neg z]
      exact kv_find t
theorem im_dic {K : PySem.W.Frag} {N : Addr → Prop} {H : Hp} {ds : List (PyData × PyData)} {v : V} (h : Im K N H (.dict ds) v) : ∃ a kvs, v = .ref a ∧ LkD N H a kvs ∧ ImKv K N H ds kvs := by simpa only [Im] using h
section
variable {X : Cx} {F : Fm} {e o i : Expr} {te ti : TE} {de di : TDE} {pos p : Pos} {t : TA} {d : TDA}
def onKeyD (y : PyData) (f : L2.Key → Prop) : Prop := match y with
  | .int i => f (.inl i)
  | .str x => f (.inr x)
  | _ => False
theorem onKeyD_of {K : PySem.W.Frag} {H : Hp} {y : PyData} {v : V} {f : L2.Key → Prop} (h : onKeyD y f) (hd : Dp K H v y) : ∃ k, v = kV k ∧ f k := by
  unfold onKeyD at h
  split at h
  · cases hd; exact ⟨_, rfl, h⟩
  · cases hd; exact ⟨_, rfl, h⟩
  · exact h.elim
theorem onKeyD_mono {y : PyData} {f g : L2.Key → Prop} (k : ∀ q, f q → g q) (h : onKeyD y f) : onKeyD y g := by
  unfold onKeyD at h ⊢
  split at h <;> first | exact k _ h | exact h.elim
/-- the dict that stands there -/
def onDict (r : R) (f : List (PyData × PyData) → Prop) : Prop := match r with
  | .d (.dict ds) => f ds
  | _ => False
theorem onDict_of {r : R} {f : List (PyData × PyData) → Prop} (h : onDict r f) : ∃ ds, r = .d (.dict ds) ∧ f ds := by
  unfold onDict at h
  split at h
  · exact ⟨_, rfl, h⟩
  · exact h.elim
theorem onDict_mono {r : R} {f g : List (PyData × PyData) → Prop} (k : ∀ ds, f ds → g ds) (h : onDict r f) : onDict r g := by
  obtain ⟨ds, rfl, q⟩ := onDict_of h
  exact k _ q
theorem onDict_eq {ds : List (PyData × PyData)} {f : List (PyData × PyData) → Prop} : onDict (.d (.dict ds)) f = f ds := rfl
def dDGet (de di : TDE) : TDE := fun ρ Q => de ρ fun r ρ1 => onDict r fun ds => di ρ1 fun s ρ2 => onV ρ2 s fun y => onKeyD y fun k => match findD ds k with
  | some z => Q (.d z) ρ2
  | none => False
theorem pd_dget (hu : X.A.units + 1 < cLine) (ho : PD X F o te de) (hi : PD X F i ti di) (hs : NoSl i) : PD X F (.Subscript o i pos) (tDGet te ti) (dDGet de di) := by
  refine ⟨pe_dget hu ho.pe hi.pe hs, fun pins ρ σ H Q O h => ?_, fun ρ Q Q' hq h => ?_⟩
  · refine ho.de.run pins ρ σ H _ O (ho.de.mono _ _ _ (fun r ρ1 h1 v H1 O1 R1 => ?_) h)
    obtain ⟨ds, rfl, h2⟩ := onDict_of h1
    refine hi.de.run (.val v (.d (.dict ds)) :: pins) ρ1 σ H1 _ (O1.push R1) (hi.de.mono _ _ _ (fun s ρ2 h3 u H2 O2 R2 => ?_) h2)
    obtain ⟨O3, R3⟩ := O2.popV
    obtain ⟨y, e1, h4⟩ := onV_of h3
    obtain ⟨k, rfl, h5⟩ := onKeyD_of h4 (val_dp O2 R2 e1)
    obtain ⟨a, kvs, rfl, l, im⟩ := im_dic (show Im F.K (Av F pins ρ2 σ) H2 (.dict ds) v from R3)
    rcases kv_find (k := k) im with ⟨_, e2⟩ | ⟨x, z, e1, e2, iz⟩
    · rw [e2] at h5; exact h5.elim
    · rw [e2] at h5
      exact ⟨a, x, rfl, .inl ⟨kvs, k, l.rd, rfl, e1.symm⟩, h5 _ _ O3 iz⟩
  · refine ho.de.mono _ _ _ (fun r ρ1 h1 => onDict_mono (fun ds h2 => hi.de.mono _ _ _ (fun s ρ2 h3 => onV_mono h3 fun y h4 => onKeyD_mono (fun k h5 => ?_) h4) h2) h1) h
    split at h5
    · exact hq _ _ h5
    · exact h5.elim
def dDIn (n : Bool) (di de : TDE) : TDE := fun ρ Q => di ρ fun s ρ1 => onV ρ1 s fun y => de ρ1 fun r ρ2 => onDict r fun ds => onKeyD y fun k => Q (.d (.bool (if n = true then !(findD ds k).isSome else (findD ds k).isSome))) ρ2
theorem key_kept {K : PySem.W.Frag} {H H' : Hp} {y : PyData} {v : V} {f : L2.Key → Prop} (h : onKeyD y f) (hd : Dp K H v y) : Dp K H' v y := by
  unfold onKeyD at h
  split at h
  · cases hd; exact .int _
  · cases hd; exact .str _
  · exact h.elim
theorem pd_din (hu : X.A.units + 1 < cLine) (hi : PD X F i ti di) (ho : PD X F o te de) (hm : behindInMarks .In o = false := by rfl) : PD X F (.Compare i [.In] [o] pos) (tDIn ti te) (dDIn false di de) := by
  refine ⟨pe_cmp (h1 := hm) (pc_din hu hi.pe ho.pe), fun pins ρ σ H Q O h => ?_, fun ρ Q Q' hq h => ?_⟩
  · refine hi.de.run pins ρ σ H _ O (hi.de.mono _ _ _ (fun s ρ1 h1 u H1 O1 R1 => ?_) h)
    obtain ⟨y, e1, h2⟩ := onV_of h1
    have dy := val_dp O1 R1 e1
    refine ho.de.run pins ρ1 σ H1 _ O1 (ho.de.mono _ _ _ (fun r ρ2 h3 v H2 O2 R2 => ?_) h2)
    obtain ⟨ds, rfl, h4⟩ := onDict_of h3
    obtain ⟨k, rfl, h5⟩ := onKeyD_of h4 (key_kept (H' := H2) h4 dy)
    obtain ⟨a, kvs, rfl, l, im⟩ := im_dic (show Im F.K (Av F pins ρ2 σ) H2 (.dict ds) v from R2)
    refine ⟨a, valV kvs k, rfl, .inl ⟨kvs, k, l.rd, rfl, rfl⟩, ?_⟩
    have e : (valV kvs k).isSome = (findD ds k).isSome := by
      rcases kv_find (k := k) im with ⟨e1, e2⟩ | ⟨x, z, e1, e2, _⟩
      · rw [e1, e2]; rfl
      · rw [e1, e2]; rfl
    rw [e]
    exact h5 _ _ O2 (.sc .bool)
  · refine hi.de.mono _ _ _ (fun s ρ1 h1 => onV_mono h1 fun y h2 => ho.de.mono _ _ _ (fun r ρ2 h3 => onDict_mono (fun ds h4 => onKeyD_mono (fun k h5 => hq _ _ h5) h4) h3) h2) h
end
end DV
namespace DV
open PySem PySem.Spec PyProof.Rows L2
open LamX (ExtN TabS Tabs CodeO)
section
variable {X : Cx} {F : Fm} {e : Expr} {pos p : Pos} {t : TA} {d : TDA}
def onDict1 (rs : List R) (f : List (PyData × PyData) → Prop) : Prop := match rs with
  | [r] => onDict r f
  | _ => False
theorem onDict1_eq {ds : List (PyData × PyData)} {f : List (PyData × PyData) → Prop} : onDict1 [.d (.dict ds)] f = f ds := rfl
def dSortDK (t : TDA) : TDL := fun ρ Q => t ρ fun rs ρ1 => onDict1 rs fun ds => CanSort (ds.map (·.1)) ∧ Q (sortD (ds.map (·.1))) ρ1
def dDictL (t : TDA) : TDE := fun ρ Q => t ρ fun rs ρ1 => match rs with
  | [r] => onL ρ1 r fun xs => ∃ kvs : List (L2.Key × PyData), xs = kvs.map (fun q => .tuple [kD q.1, q.2]) ∧ (kvs.map (·.1)).Nodup ∧ Q (.d (.dict (kvs.map fun q => (kD q.1, q.2)))) ρ1
  | _ => False
end
end DV
namespace DV
open PySem PySem.Spec PyProof.Rows PySem.Calls PySem.W
end DV
namespace DV
open PySem PySem.Spec PyProof.Rows PySem.Calls PySem.W
end DV
namespace DV
open PySem PySem.Spec PyProof.Rows L2
open LamX (ExtN TabS Tabs CodeO)
def enK {α : Type} (xs : List α) : List (L2.Key × α) := xs.zipIdx.map fun q => (Sum.inl (q.2 : Int), q.1)
end DV
namespace DV
open PySem PySem.Spec PyProof.Rows L2
open LamX (ExtN TabS Tabs CodeO)
def onSq (ρ : Rho) (r : R) (f : List PyData → Prop) : Prop := match r with
  | .d (.tuple xs) => f xs
  | r => onL ρ r f
theorem onSq_t {ρ : Rho} {xs : List PyData} {f : List PyData → Prop} : onSq ρ (.d (.tuple xs)) f = f xs := rfl
theorem onSq_l {ρ : Rho} {xs : List PyData} {f : List PyData → Prop} : onSq ρ (.d (.list xs)) f = f xs := rfl
theorem onSq_o {ρ : Rho} {i : Nat} {f : List PyData → Prop} : onSq ρ (.o i) f = onL ρ (.o i) f := rfl
section
variable {F : Fm}
def kvD (kvs : List (L2.Key × PyData)) : List (PyData × PyData) := kvs.map fun q => (kD q.1, q.2)
end
section
variable {X : Cx} {F : Fm} {e e2 : Expr} {p p2 pos pos2 : Pos} {t : TA} {d : TDA}
def onSq1 (ρ : Rho) (rs : List R) (f : List PyData → Prop) : Prop := match rs with
  | [r] => onSq ρ r f
  | _ => False
def dDictEn (t : TDA) : TDE := fun ρ Q => t ρ fun rs ρ1 => onSq1 ρ1 rs fun xs => Q (.d (.dict (kvD (enK xs)))) ρ1
def onSq2 (ρ : Rho) (rs : List R) (f : List PyData → List PyData → Prop) : Prop := match rs with
  | [r, s] => onSq ρ r fun xs => onSq ρ s fun ys => f xs ys
  | _ => False
def dDictZip (t : TDA) : TDE := fun ρ Q => t ρ fun rs ρ1 => onSq2 ρ1 rs fun xs ys => ∃ ks : List L2.Key, xs = ks.map kD ∧ ks.Nodup ∧ Q (.d (.dict (kvD (ks.zip ys)))) ρ1
theorem onSq1_eq {ρ : Rho} {r : R} {f : List PyData → Prop} : onSq1 ρ [r] f = onSq ρ r f := rfl
theorem onSq2_eq {ρ : Rho} {r s : R} {f : List PyData → List PyData → Prop} : onSq2 ρ [r, s] f = onSq ρ r fun xs => onSq ρ s fun ys => f xs ys := rfl
theorem onKeyD_int {i : Int} {f : L2.Key → Prop} : onKeyD (.int i) f = f (.inl i) := rfl
theorem onKeyD_str {x : Str} {f : L2.Key → Prop} : onKeyD (.str x) f = f (.inr x) := rfl
/-- {} -/
def dNewD : TDE := fun ρ Q => Q (.d (.dict [])) ρ
end
end DV
namespace DV
open PySem PySem.Spec PyProof.Rows L2
open LamX (ExtN TabS Tabs CodeO)
section
variable {X : Cx} {F : Fm} {tg e : Expr} {te : TE} {de : TDE}
def dDicI (te : TDE) : TDI := fun ρ Q => te ρ fun r ρ1 => onDict r fun ds => Q (ds.map (·.1)) ρ1
end
end DV
namespace DV
open PySem PySem.Spec PyProof.Rows L2
open LamX (ExtN TabS Tabs CodeO)
def dI (ks : List Int) (ys : List PyData) : List (PyData × PyData) := (ks.zip ys).map fun q => (.int q.1, q.2)
def upI (n : Nat) : List Int := (List.range n).map fun i : Nat => (i : Int)
theorem upI_len {n : Nat} : (upI n).length = n := by unfold upI; rw [List.length_map, List.length_range]
theorem upI_at {n i : Nat} (h : i < n) : (upI n)[i]? = some (i : Int) := by
  unfold upI
  rw [List.getElem?_map, List.getElem?_eq_getElem (by rw [List.length_range]; exact h), List.getElem_range]
  rfl
theorem upI_lt (n : Nat) : (upI n).Pairwise (· < ·) := by
  unfold upI
  rw [List.pairwise_map]
  exact (List.pairwise_lt_range (n := n)).imp fun h => by omega
theorem lt_nodup {ks : List Int} (h : ks.Pairwise (· < ·)) : ks.Nodup := h.imp fun h => by omega
theorem findD_dI : ∀ {ks : List Int} {ys : List PyData} {i : Nat} {k : Int} {y : PyData}, ks.Nodup → ks[i]? = some k → ys[i]? = some y → findD (dI ks ys) (.inl k) = some y
  | [], _, _, _, _, _, h, _ => by simp at h
  | _ :: _, [], _, _, _, _, _, h => by simp at h
  | a :: ks, b :: ys, 0, k, y, nd, h, g => by
    simp at h g
    subst h; subst g
    unfold findD dI
    rw [List.zip_cons_cons, List.map_cons, List.find?_cons]
    simp [keyIsD]
  | a :: ks, b :: ys, i + 1, k, y, nd, h, g => by
    have hn := List.nodup_cons.mp nd
    have h' : ks[i]? = some k := by simpa using h
    have ne : a ≠ k := fun z => hn.1 (by rw [z]; exact List.mem_of_getElem? h')
    have := findD_dI hn.2 h' (show ys[i]? = some y by simpa using g)
    unfold findD dI at this ⊢
    rw [List.zip_cons_cons, List.map_cons, List.find?_cons]
    simpa [keyIsD, ne] using this
end DV
namespace DV
open PySem PySem.Spec PyProof.Rows L2
open LamX (ExtN TabS Tabs CodeO)
end DV
namespace DV
open PySem PySem.Spec PyProof.Rows L2
open LamX (ExtN TabS Tabs CodeO)
section
variable {F : Fm} {pins : List Pin} {ρ : Rho} {σ : L2.St} {H : Hp}
theorem Ok.newDik (O : Ok F pins ρ σ H) {i : Nat} {p : Addr} (hp : H p = none) (hi : Fr pins i) :
    Ok F pins (ρ.set i (some (.dik []))) (σ.set i (some (.ref p))) (upd H p (.dK [])) := by
  have nAv : ¬ Av F pins ρ σ p := fun h => by obtain ⟨o, h⟩ := O.avH h; rw [hp] at h; cases h
  have h00 : F.H0 p = none := by
    cases e : F.H0 p with
    | none => rfl
    | some o =>
      by_cases hl : F.L p
      · exact absurd (.inl (O.ln p hl)) nAv
      · exact absurd hp (O.fr0 p o hl e)
  have O1 := O.new (o := .dK []) hp
  have nAv1 : ¬ ∃ j, OwnAt ρ σ j p := fun ⟨j, h⟩ => nAv (.inr (.inl ⟨j, h⟩))
  have ow : ∀ j b, OwnAt (ρ.set i (some (.dik []))) (σ.set i (some (.ref p))) j b → (j = i ∧ b = p) ∨ (j ≠ i ∧ OwnAt ρ σ j b) := fun j b h => by
    obtain ⟨⟨ys, h1, hm⟩, h2⟩ := h
    rcases getset h1 with ⟨rfl, q, hl⟩ | ⟨ne, q⟩
    · rw [List.getElem?_set_self (by rw [O.len]; exact hl)] at h2
      cases h2; exact .inl ⟨rfl, rfl⟩
    · rw [List.getElem?_set_ne (fun z => ne z.symm)] at h2
      exact .inr ⟨ne, ⟨ys, q, hm⟩, h2⟩
  have G : Go (Av F pins ρ σ) (Av F pins (ρ.set i (some (.dik []))) (σ.set i (some (.ref p)))) H (upd H p (.dK [])) := by
    refine ⟨fun a o _ h _ => grow_new hp a o h, fun a h => ?_⟩
    rcases h with h | ⟨j, h⟩ | h
    · exact .inl (.inl h)
    · rcases ow j a h with ⟨_, rfl⟩ | ⟨_, h⟩
      · exact .inr hp
      · exact .inl (.inr (.inl ⟨j, h⟩))
    · exact .inl (.inr (.inr h))
  have g := grow_new (o := .dK []) hp
  refine ⟨by rw [List.length_set, List.length_set]; exact O.len, fun j f hj => ?_, fun j k b z1 z2 => ?_, fun q hq => ?_, O.acs, fun a o n h m => g _ _ (O.fr a o n h m), fun a h => ?_, O.ln, O.h0, fun j b z hL => ?_, O.tb.ext g⟩
  · rcases getset hj with ⟨rfl, q, hl⟩ | ⟨ne, q⟩
    · cases q
      exact ⟨.ref p, by rw [List.getElem?_set_self (by rw [O.len]; exact hl)], p, [], rfl, upd_same, rfl, .nil, h00⟩
    · obtain ⟨v, h3, h4⟩ := O.ent j f q
      exact ⟨v, by rw [List.getElem?_set_ne (fun z => ne z.symm)]; exact h3, EntOk.go G h4 fun b o _ z _ => g _ _ z⟩
  · rcases ow j b z1 with ⟨e1, e2⟩ | ⟨n1, y1⟩
    · rcases ow k b z2 with ⟨e3, _⟩ | ⟨n2, y2⟩
      · rw [e1, e3]
      · rw [e2] at y2; exact absurd ⟨k, y2⟩ nAv1
    · rcases ow k b z2 with ⟨e3, e4⟩ | ⟨n2, y2⟩
      · rw [e4] at y1; exact absurd ⟨j, y1⟩ nAv1
      · exact O.own j k b y1 y2
  · have h := O.pin q hq
    cases q with
    | val v r =>
      cases r with
      | d x => exact Im.go G h
      | o j =>
        have ne := hi v j hq
        obtain ⟨h1, x, h2⟩ := h
        exact ⟨by rw [List.getElem?_set_ne (fun z => ne z.symm)]; exact h1, x, by rw [slot_ne ne]; exact h2⟩
      | raw u => exact h
    | acc b ys =>
      obtain ⟨us, h3, h4, h5, h6⟩ := h
      refine ⟨us, g _ _ h3, h4.go G, h5, fun ⟨j, z⟩ => ?_⟩
      rcases ow j b z with ⟨_, rfl⟩ | ⟨_, z⟩
      · exact nAv (.inr (.inr (mem_accs.mpr ⟨ys, hq⟩)))
      · exact h6 ⟨j, z⟩
    | frz b o =>
      obtain ⟨u, h1⟩ := h
      exact ⟨u, g _ _ h1⟩
  · obtain ⟨o, h, m⟩ := O.nh a h
    exact ⟨o, g _ _ h, m⟩
  · rcases ow j b z with ⟨_, rfl⟩ | ⟨_, z⟩
    · obtain ⟨o, h⟩ := O.h0 b (O.ln b hL)
      rw [h00] at h; cases h
    · exact O.lf j b z hL
theorem Ok.setDik (O : Ok F pins ρ σ H) {i : Nat} {a : Addr} {kvs0 kvs : List (L2.Key × PyData)} {vs : List (L2.Key × V)} (h0 : ρ[i]? = some (some (.dik kvs0))) (h : OwnAt ρ σ i a) (hk : vs.map (·.1) = kvs.map (·.1)) (hx : ImAll F.K (Av F pins ρ σ) H (kvs.map (·.2)) (vs.map (·.2))) :
    Ok F pins (ρ.set i (some (.dik kvs))) σ (upd H a (.dK vs)) := by
  have oe := setMine_iff (f := .dik kvs) trivial h
  have ae : Av F pins (ρ.set i (some (.dik kvs))) σ = Av F pins ρ σ := by
    funext b
    unfold Av
    simp only [oe]
  have aa : Av F pins ρ σ a := .inr (.inl ⟨i, h⟩)
  have G : Go (Av F pins ρ σ) (Av F pins ρ σ) H (upd H a (.dK vs)) := ⟨fun b o n e _ => by
    have hb : b ≠ a := fun z => n (by rw [z]; exact aa)
    rw [upd_ne hb]; exact e, fun b z => .inl z⟩
  obtain ⟨v0, s0, a0, vs0, e0, _, _, _, h00⟩ := O.ent i _ h0
  have e1 : v0 = .ref a := by have := h.2; rw [this] at s0; cases s0; rfl
  rw [e1] at e0
  cases e0
  obtain ⟨o0, hH, hl⟩ := O.ownL h
  have hi : i < ρ.length := by
    rcases Nat.lt_or_ge i ρ.length with z | z
    · exact z
    · rw [List.getElem?_eq_none z] at h0; cases h0
  refine ⟨by rw [List.length_set]; exact O.len, fun j e hj => ?_, fun j k b z1 z2 => O.own j k b ((oe j b).mp z1) ((oe k b).mp z2), fun p hp => ?_, O.acs, fun b o n e m => ?_, fun b z => ?_, O.ln, O.h0, fun j b z => O.lf j b ((oe j b).mp z), ?_⟩
  · rw [ae]
    by_cases e2 : i = j
    · subst e2
      rw [List.getElem?_set_self hi] at hj
      cases hj
      exact ⟨.ref a, h.2, a, vs, rfl, upd_same, hk, hx.go G, h00⟩
    · rw [List.getElem?_set_ne e2] at hj
      obtain ⟨v, h3, h4⟩ := O.ent j e hj
      refine ⟨v, h3, EntOk.go G h4 fun b us ev hb ex => ?_⟩
      subst ev
      rw [upd_ne (fun z => e2 (O.own i j a h (by subst z; exact ⟨⟨e, hj, ex⟩, h3⟩)))]
      exact hb
  · rw [ae]
    have hq := O.pin p hp
    cases p with
    | val v r =>
      cases r with
      | d x => exact Im.go G hq
      | o j =>
        obtain ⟨g1, x, g2⟩ := hq
        have ne : j ≠ i := fun z => by
          subst z
          unfold slot at g2
          rw [h0] at g2
          cases g2
        exact ⟨g1, x, by rw [slot_ne ne]; exact g2⟩
      | raw u => exact hq
    | acc b ys =>
      obtain ⟨us, h3, h4, h5, h6⟩ := hq
      have hb : b ≠ a := fun z => h6 ⟨i, by rw [z]; exact h⟩
      exact ⟨us, by rw [upd_ne hb]; exact h3, h4.go G, h5, fun ⟨j, z⟩ => h6 ⟨j, (oe j b).mp z⟩⟩
    | frz b o =>
      obtain ⟨u, h1⟩ := hq
      refine ⟨u, ?_⟩
      rw [upd_ne (fun z => ?_)]
      · exact h1
      · subst z
        obtain ⟨w, g1, g2, _⟩ := O.ownM h
        rw [h1] at g1; cases g1; exact g2.elim
  · have hb : b ≠ a := fun z => by
      subst z
      rw [h00] at e; cases e
    rw [upd_ne hb]
    exact O.fr b o n e m
  · by_cases hb : b = a
    · rw [hb]; exact ⟨_, upd_same, trivial⟩
    · obtain ⟨o, e, m⟩ := O.nh b z
      exact ⟨o, by rw [upd_ne hb]; exact e, m⟩
  · obtain ⟨o1, e1, m1⟩ := O.avM aa
    exact O.tb.upd e1 m1
end
def putI (kvs : List (L2.Key × PyData)) (k : L2.Key) (y : PyData) : List (L2.Key × PyData) :=
  if (kvs.any fun kv => decide (kv.1 = k)) = true then kvs.map (fun kv => if kv.1 = k then (kv.1, y) else kv) else kvs ++ [(k, y)]
theorem any_keysI {α β : Type} (k : L2.Key) : ∀ {xs : List (L2.Key × α)} {ys : List (L2.Key × β)}, xs.map (·.1) = ys.map (·.1) → (xs.any fun kv => decide (kv.1 = k)) = ys.any fun kv => decide (kv.1 = k)
  | [], [], _ => rfl
  | [], _ :: _, h => by cases h
  | _ :: _, [], h => by cases h
  | x :: xs, y :: ys, h => by
    rw [List.map_cons, List.map_cons, List.cons.injEq] at h
    rw [List.any_cons, List.any_cons, h.1, any_keysI k h.2]
section
variable {K : PySem.W.Frag} {N : Addr → Prop} {H : Hp}
theorem put_replI {k : L2.Key} {y : PyData} {v : V} (hy : Im K N H y v) : ∀ {vs : List (L2.Key × V)} {kvs : List (L2.Key × PyData)}, vs.map (·.1) = kvs.map (·.1) → ImAll K N H (kvs.map (·.2)) (vs.map (·.2)) →
    (vs.map fun kv => if kv.1 = k then (kv.1, v) else kv).map (·.1) = (kvs.map fun kv => if kv.1 = k then (kv.1, y) else kv).map (·.1) ∧ ImAll K N H ((kvs.map fun kv => if kv.1 = k then (kv.1, y) else kv).map (·.2)) ((vs.map fun kv => if kv.1 = k then (kv.1, v) else kv).map (·.2))
  | [], [], _, _ => ⟨rfl, .nil⟩
  | [], _ :: _, h, _ => by cases h
  | _ :: _, [], h, _ => by cases h
  | x :: xs, p :: ps, h, im => by
    rw [List.map_cons, List.map_cons, List.cons.injEq] at h
    rw [List.map_cons, List.map_cons] at im
    simp only [ImAll] at im
    obtain ⟨w, ws, e, h1, h2⟩ := im
    rw [List.cons.injEq] at e
    obtain ⟨rfl, rfl⟩ := e
    obtain ⟨i1, i2⟩ := put_replI (k := k) hy h.2 h2
    simp only [List.map_cons]
    by_cases z : p.1 = k
    · rw [if_pos z, if_pos (h.1.trans z)]
      exact ⟨by rw [i1, h.1], .cons hy i2⟩
    · rw [if_neg z, if_neg (fun q => z (h.1.symm.trans q))]
      exact ⟨by rw [i1, h.1], .cons h1 i2⟩
theorem put_relI {k : L2.Key} {y : PyData} {v : V} (hy : Im K N H y v) {vs : List (L2.Key × V)} {kvs : List (L2.Key × PyData)} (h : vs.map (·.1) = kvs.map (·.1)) (im : ImAll K N H (kvs.map (·.2)) (vs.map (·.2))) :
    (putK vs k v).map (·.1) = (putI kvs k y).map (·.1) ∧ ImAll K N H ((putI kvs k y).map (·.2)) ((putK vs k v).map (·.2)) := by
  unfold putK putI
  rw [any_keysI k h]
  by_cases z : (kvs.any fun kv => decide (kv.1 = k)) = true
  · rw [if_pos z, if_pos z]
    exact put_replI hy h im
  · rw [if_neg z, if_neg z, List.map_append, List.map_append, List.map_append, List.map_append]
    exact ⟨by rw [h]; rfl, im.append (.cons hy .nil)⟩
theorem kv_imI : ∀ {kvs : List (L2.Key × PyData)} {vs : List (L2.Key × V)}, vs.map (·.1) = kvs.map (·.1) → ImAll K N H (kvs.map (·.2)) (vs.map (·.2)) → ImKv K N H (kvD kvs) vs
  | [], [], _, _ => by simp only [kvD, List.map_nil, ImKv]
  | [], _ :: _, h, _ => by cases h
  | _ :: _, [], h, _ => by cases h
  | (k, y) :: kvs, (q, v) :: vs, h, im => by
    rw [List.map_cons, List.map_cons, List.cons.injEq] at h
    rw [List.map_cons, List.map_cons] at im
    simp only [ImAll] at im
    obtain ⟨w, ws, e, h1, h2⟩ := im
    rw [List.cons.injEq] at e
    obtain ⟨rfl, rfl⟩ := e
    unfold kvD
    rw [List.map_cons]
    simp only [ImKv]
    exact ⟨q, v, vs, rfl, by rw [show q = k from h.1], h1, kv_imI h.2 h2⟩
end
section
variable {F : Fm} {pins : List Pin} {ρ : Rho} {σ : L2.St} {H : Hp}
/-- a dict of one's own is data from now on: it is locked -/
theorem Ok.frzD (O : Ok F pins ρ σ H) {i : Nat} {kvs : List (L2.Key × PyData)} (h : ρ[i]? = some (some (.dik kvs))) : ∃ a vs, σ[i]? = some (some (.ref a)) ∧ H a = some (.dK vs) ∧ ∀ od, Ok F pins (ρ.set i (some (.d (.dict (kvD kvs))))) σ (upd H a (.frz od (.dK vs))) := by
  obtain ⟨v, hσ, a, vs, rfl, hH, hk, hx, h0a⟩ := O.ent i _ h
  refine ⟨a, vs, hσ, hH, fun od => ?_⟩
  have hown : OwnAt ρ σ i a := ⟨⟨_, h, trivial⟩, hσ⟩
  have ow : ∀ j b, OwnAt (ρ.set i (some (.d (.dict (kvD kvs))))) σ j b → j ≠ i ∧ OwnAt ρ σ j b := fun j b h => by
    obtain ⟨⟨ys, h1, hm⟩, h2⟩ := h
    rcases getset h1 with ⟨_, q, _⟩ | ⟨ne, q⟩
    · cases q; exact hm.elim
    · exact ⟨ne, ⟨ys, q, hm⟩, h2⟩
  have aa : Av F pins ρ σ a := .inr (.inl ⟨i, hown⟩)
  have G : Go (Av F pins ρ σ) (Av F pins (ρ.set i (some (.d (.dict (kvD kvs))))) σ) H (upd H a (.frz od (.dK vs))) := by
    refine ⟨fun b o n e _ => ?_, fun b h => .inl ?_⟩
    · rw [upd_ne (fun z => n (by rw [z]; exact aa))]; exact e
    · rcases h with h | ⟨j, h⟩ | h
      · exact .inl h
      · exact .inr (.inl ⟨j, (ow j b h).2⟩)
      · exact .inr (.inr h)
  have nN : ¬ F.N a := fun z => by
    obtain ⟨o, e⟩ := O.h0 a z
    rw [h0a] at e; cases e
  have nav : ¬ Av F pins (ρ.set i (some (.d (.dict (kvD kvs))))) σ a := by
    rintro (z | ⟨j, z⟩ | z)
    · exact nN z
    · exact (ow j a z).1 (O.own j i a (ow j a z).2 hown)
    · obtain ⟨ys, hp⟩ := mem_accs.mp z
      obtain ⟨_, _, _, _, hno⟩ := O.pin _ hp
      exact hno ⟨i, hown⟩
  have im : Im F.K (Av F pins (ρ.set i (some (.d (.dict (kvD kvs))))) σ) (upd H a (.frz od (.dK vs))) (.dict (kvD kvs)) (.ref a) := by
    simp only [Im]
    exact ⟨a, vs, rfl, ⟨⟨od, upd_same⟩, nav⟩, kv_imI hk (hx.go G)⟩
  refine ⟨by rw [List.length_set]; exact O.len, fun j f hj => ?_, fun j k b z1 z2 => O.own j k b (ow j b z1).2 (ow k b z2).2, fun p hp => ?_, O.acs, fun b o n e m => ?_, fun b z => ?_, O.ln, O.h0, fun j b z => O.lf j b (ow j b z).2, ?_⟩
  · rcases getset hj with ⟨rfl, q, hl⟩ | ⟨ne, q⟩
    · cases q
      exact ⟨.ref a, hσ, im⟩
    · obtain ⟨v, h3, h4⟩ := O.ent j f q
      refine ⟨v, h3, EntOk.go G h4 fun b o ev e1 ex => ?_⟩
      subst ev
      rw [upd_ne (fun z => ne (O.own j i a (by subst z; exact ⟨⟨f, q, ex⟩, h3⟩) hown))]
      exact e1
  · have hq := O.pin p hp
    cases p with
    | val v r =>
      cases r with
      | d x => exact Im.go G hq
      | o j =>
        obtain ⟨h1, x, h2⟩ := hq
        have ne : j ≠ i := fun z => by
          subst z
          unfold slot at h2
          rw [h] at h2
          cases h2
        exact ⟨h1, x, by rw [slot_ne ne]; exact h2⟩
      | raw u => exact hq
    | acc b ys =>
      obtain ⟨us, h3, h4, h5, h6⟩ := hq
      refine ⟨us, ?_, h4.go G, h5, fun ⟨j, z⟩ => h6 ⟨j, (ow j b z).2⟩⟩
      rw [upd_ne (fun z => h6 (by subst z; exact ⟨i, hown⟩))]
      exact h3
    | frz b o =>
      obtain ⟨u, h1⟩ := hq
      refine ⟨u, ?_⟩
      rw [upd_ne (fun z => by subst z; rw [hH] at h1; cases h1)]
      exact h1
  · rw [upd_ne (fun z => by subst z; rw [h0a] at e; cases e)]
    exact O.fr b o n e m
  · obtain ⟨o, e, m⟩ := O.nh b z
    refine ⟨o, ?_, m⟩
    rw [upd_ne (fun q => nN (by rw [← q]; exact z))]
    exact e
  · exact O.tb.upd hH trivial
end
section
variable {X : Cx} {F : Fm} {pos : Pos} {value key : Expr} {tv tk : TE} {dv dk : TDE}
def onDik (ρ : Rho) (i : Nat) (f : List (L2.Key × PyData) → Prop) : Prop := match ρ[i]? with
  | some (some (.dik kvs)) => f kvs
  | _ => False
theorem onDik_of {ρ : Rho} {i : Nat} {f : List (L2.Key × PyData) → Prop} (h : onDik ρ i f) : ∃ kvs, ρ[i]? = some (some (.dik kvs)) ∧ f kvs := by
  unfold onDik at h
  split at h
  · exact ⟨_, by assumption, h⟩
  · exact h.elim
def dNewDik (i : Nat) : TDS := fun DD ρ => DD.nx (ρ.set i (some (.dik [])))
/-- d[k] = v -/
def dDikPut (i : Nat) (tk tv : TDE) : TDS := fun DD ρ => tv ρ fun r ρ1 => onDat r fun y => onDik ρ1 i fun _ => tk ρ1 fun s ρ2 => onV ρ2 s fun z => onKeyD z fun k => onDik ρ2 i fun kvs => kvs.length + 1 ≤ 100000 ∧ DD.nx (ρ2.set i (some (.dik (putI kvs k y))))
theorem ds_dikPut {i : Nat} {x : Str} {vpos spos : Pos} (hu : X.A.units + 1 < cLine) (hk : PD X F key tk dk) (hv : PD X F value tv dv) (hN : X.N[i]? = some x := by rfl) (hvis : Vis X.env.scope x := by first | exact Or.inl rfl | exact Or.inr (Or.inl rfl) | exact Or.inr (Or.inr rfl)) (hd : (x == ("__debug__" : Str)) = false := by decide)
    (hcd : (x == ("__classdict__" : Str)) = false := by decide) (hs : swapsWith value (some (.Subscript (.Name x vpos) key spos)) pos.line X.env = pure false := by rfl) :
    PDS X F (.Assign [.Subscript (.Name x vpos) key spos] value pos) (sDPut (tVar i) tk tv) (dDikPut i dk dv) := by
  refine ⟨ps_dput hu (pe_var hN hvis hd hcd) hk.pe hv.pe hs, fun pins ρ σ H D DD O S R h => ?_⟩
  refine hv.de.run pins ρ σ H _ O (hv.de.mono _ _ _ (fun r ρ1 h1 v H1 O1 R1 => ?_) h)
  cases r with
  | o k => exact h1.elim
  | raw u => exact h1.elim
  | d y =>
    obtain ⟨kvs0, e0, h2⟩ := onDik_of h1
    have O2 := O1.push R1
    obtain ⟨va, sa, a, vs0, rfl, _⟩ := O2.ent i _ e0
    refine ⟨.ref a, sa, ?_⟩
    refine hk.de.run (.val v (.d y) :: pins) ρ1 σ H1 _ O2 (hk.de.mono _ _ _ (fun s ρ2 h3 u H2 O3 R3 => ?_) h2)
    obtain ⟨z, ez, h4⟩ := onV_of h3
    obtain ⟨k, rfl, h5⟩ := onKeyD_of h4 (val_dp O3 R3 ez)
    obtain ⟨kvs, e5, hl, h6⟩ := onDik_of h5
    obtain ⟨vb, sb, b, vs, rfl, hb, hk2, him, h00⟩ := O3.ent i _ e5
    have eb : b = a := by rw [sa] at sb; cases sb; rfl
    subst eb
    obtain ⟨O5, R5⟩ := O3.popV
    have len : vs.length = kvs.length := by have := congrArg List.length hk2; rwa [List.length_map, List.length_map] at this
    have own : OwnAt ρ2 σ i b := ⟨⟨_, e5, trivial⟩, sb⟩
    have pr := put_relI (k := k) (show Im F.K (Av F pins ρ2 σ) _ y v from R5) hk2 him
    have fw : vs.length < sizeLine := by rw [len, sizeLine_eq]; omega
    exact ⟨b, _, rfl, DPut.k (k := k) hb fw, R.nx _ _ _ (O5.setDik e5 own pr.1 pr.2) h6⟩
/-- from here on it is data -/
def tFrzS (t : TS) : TS := fun D σ H => ∃ d kvs, H d = some (.dK kvs) ∧ ∀ od, t D σ (upd H d (.frz od (.dK kvs)))
theorem ps_frzS {st : Stmt} {t : TS} (h : PS X st t) : PS X st (tFrzS t) := by
  refine ⟨fun pins s σ H D I hw => ?_⟩
  obtain ⟨d, kvs, hd, q⟩ := hw
  obtain ⟨od, I1⟩ := I.lock hd trivial
  exact h.run pins s σ _ D I1 (q od)
def dFrzD (i : Nat) (ds : TDS) : TDS := fun DD ρ => onDik ρ i fun kvs => ds DD (ρ.set i (some (.d (.dict (kvD kvs)))))
theorem ds_frzD {i : Nat} {st : Stmt} {ts : TS} {ds : TDS} (h : PDS X F st ts ds) : PDS X F st (tFrzS ts) (dFrzD i ds) := by
  refine ⟨ps_frzS h.ps, fun pins ρ σ H D DD O S R k => ?_⟩
  obtain ⟨kvs, e, q⟩ := onDik_of k
  obtain ⟨a, vs, hs, hH, O2⟩ := O.frzD e
  exact ⟨a, vs, hH, fun od => h.ds pins _ σ _ D DD (O2 od) S R q⟩
/-- four at once -/
def dNew4 (i j k l : Nat) : TDS := fun DD ρ => DD.nx ((((ρ.set i (some (.dik []))).set j (some (.dik []))).set k (some (.dik []))).set l (some (.dik [])))
theorem ds_new4 {i j k l : Nat} {tgs : List Expr} {p1 p2 p3 p4 pt pos : Pos} {pt2 : Pos} {kt' k2'} (hc : X.calm = true) (hg : PGs X tgs (gNames [i, j, k, l])) (hf : ∀ m ∈ [i, j, k, l], ¬ F.fix m) (hK : X.K = F.K := by rfl)
    (hn : (assignEach tgs X.env).length = 4 := by rfl) (hst : (assignEach tgs X.env).findIdx? (·.1) = none := by rfl) (hs : swapsWithSole [.Tuple tgs kt' pt] (.Tuple [.Dict [] [] p1, .Dict [] [] p2, .Dict [] [] p3, .Dict [] [] p4] k2' pt2) pos.line X.env = pure false := by rfl) (hw : swappedStores [.Tuple tgs kt' pt] (.Tuple [.Dict [] [] p1, .Dict [] [] p2, .Dict [] [] p3, .Dict [] [] p4] k2' pt2) X.env = pure none := by rfl)
    (h1 : (assignEach [.Tuple tgs kt' pt] X.env).map (·.2) = [assign (.Tuple tgs kt' pt) X.env] := by rfl)
    (s1 : starEach [.Dict [] [] p1, .Dict [] [] p2, .Dict [] [] p3, .Dict [] [] p4] X.env = (false, eval (.Dict [] [] p1) X.env) :: starEach [.Dict [] [] p2, .Dict [] [] p3, .Dict [] [] p4] X.env := by rfl)
    (s2 : starEach [.Dict [] [] p2, .Dict [] [] p3, .Dict [] [] p4] X.env = (false, eval (.Dict [] [] p2) X.env) :: starEach [.Dict [] [] p3, .Dict [] [] p4] X.env := by rfl)
    (s3 : starEach [.Dict [] [] p3, .Dict [] [] p4] X.env = (false, eval (.Dict [] [] p3) X.env) :: starEach [.Dict [] [] p4] X.env := by rfl)
    (s4 : starEach [.Dict [] [] p4] X.env = (false, eval (.Dict [] [] p4) X.env) :: starEach [] X.env := by rfl) :
    PDS X F (.Assign [.Tuple tgs kt' pt] (.Tuple [.Dict [] [] p1, .Dict [] [] p2, .Dict [] [] p3, .Dict [] [] p4] k2' pt2) pos) (tAsg (tTup (tCons tDNewK (tCons tDNewK (tCons tDNewK (tCons tDNewK tNil))))) (gTup X.K 4 (gNames [i, j, k, l]))) (dNew4 i j k l) := by
  refine ⟨ps_asg (pe_tup (pa_cons pe_dnewK (pa_cons pe_dnewK (pa_cons pe_dnewK (pa_cons pe_dnewK pa_nil s4) s3) s2) s1)) (pg_tup hc hg hn hst) hs hw h1, fun pins ρ σ H D DD O S R h => ?_⟩
  intro a1 z1 a2 z2 a3 z3 a4 z4
  refine ⟨few_le (show 4 ≤ 100000 by decide), fun p hp => ?_⟩
  have f := fun m hm => S.fr (hf m hm)
  have O1 := O.newDik z1 (f i (by simp))
  have O2 := O1.newDik z2 (f j (by simp))
  have O3 := O2.newDik z3 (f k (by simp))
  have O4 := O3.newDik z4 (f l (by simp))
  have O5 := O4.new (o := .tup [.ref a1, .ref a2, .ref a3, .ref a4]) hp
  exact ⟨p, _, rfl, .of upd_same, rfl, gNames_run (vs := [.ref a1, .ref a2, .ref a3, .ref a4]) rfl (R.nx _ _ _ O5 h)⟩
end
end DV
namespace DV
open PySem PySem.Spec PyProof.Rows L2
open LamX (ExtN TabS Tabs CodeO)
section
variable {X : Cx} {F : Fm} {o e : Expr} {te : TE} {de : TDE} {t : TA} {d : TDA} {apos cpos : Pos}
def isFirst (xs : List PyData) (y : PyData) (j : Nat) : Prop := ∃ z, xs[j]? = some z ∧ PyData.eqv z y = true ∧ ∀ (m : Nat) (z' : PyData), m < j → xs[m]? = some z' → PyData.eqv z' y = false
def onLst (r : R) (f : List PyData → Prop) : Prop := match r with
  | .d (.list xs) => f xs
  | _ => False
theorem onLst_of {r : R} {f : List PyData → Prop} (h : onLst r f) : ∃ xs, r = .d (.list xs) ∧ f xs := by
  unfold onLst at h
  split at h
  · exact ⟨_, rfl, h⟩
  · exact h.elim
theorem onLst_eq {xs : List PyData} {f : List PyData → Prop} : onLst (.d (.list xs)) f = f xs := rfl
def dIndexD (de : TDE) (t : TDA) : TDE := fun ρ Q => de ρ fun r ρ1 => onLst r fun xs => t ρ1 fun rs ρ2 => onD rs fun ys => match ys with
  | [y] => SeqAt.shaped (.list xs) = true ∧ SeqAt.shaped y = true ∧ ∃ j, isFirst xs y j ∧ Q (.d (.int (j : Nat))) ρ2
  | _ => False
theorem pd_index (hu : X.A.units + 65 < cLine) (ho : PD X F o te de) (ha : PDA X F [e] t d) (hK : X.K = F.K := by rfl)
    (hbase : attributeBase o "index" X.env (eval o X.env) = eval o X.env := by rfl)
    (hfew : ((backTo cpos (starEach [e] X.env)).all (fun x => !x.1) && (backToKw cpos (keywordEach [] X.env)).all (fun x => x.1.isSome)
      && decide (([e] : List Expr).length + ([] : List Keyword).length + (if ([] : List Keyword).isEmpty then 0 else 1) < 30)) = true := by rfl)
    (hline : (apos.endLine == cpos.line) = true := by rfl) (hs : starEach [e] X.env = (false, eval e X.env) :: starEach [] X.env := by rfl) (hplain : (backTo cpos (starEach [] X.env)).any (·.1) = false := by rfl) :
    PD X F (.Call (.Attribute o "index" apos) [e] [] cpos) (tBM F.K "list" (rIndexD F.K) te t) (dIndexD de d) := by
  refine ⟨?_, fun pins ρ σ H Q O h => ?_, fun ρ Q Q' hq h => ?_⟩
  · have := pe_bm (cpos := cpos) (apos := apos) PySem.F.plainAttrs_list PySem.F.slot_list_index PySem.F.type_list_index (mt_indexD hu) ho.pe ha.pa hbase hfew hline hs hplain
    rw [hK] at this
    exact this
  · refine ho.de.run pins ρ σ H _ O (ho.de.mono _ _ _ (fun r ρ1 h1 v H1 O1 R1 => ?_) h)
    obtain ⟨xs, rfl, h2⟩ := onLst_of h1
    have R1' : Im F.K (Av F pins ρ1 σ) H1 (.list xs) v := R1
    have im := R1'
    simp only [Im] at im
    obtain ⟨a, vs, rfl, l, ims⟩ := im
    refine ⟨.inl ⟨rfl, vs, l.sq⟩, ?_⟩
    refine ha.da.run (.val (.ref a) (.d (.list xs)) :: pins) ρ1 σ H1 _ (O1.push R1) (ha.da.mono _ _ _ (fun rs ρ2 h3 us H2 O3 R3 => ?_) h2)
    obtain ⟨ys, ey, h4⟩ := onD_of h3
    have iy := dats_im R3 ey
    split at h4
    · rename_i y
      obtain ⟨s1, s2, j, ⟨z, hz, hzy, hno⟩, q⟩ := h4
      simp only [ImAll] at iy
      obtain ⟨u, _, rfl, iu, rfl⟩ := iy
      obtain ⟨O4, R4⟩ := O3.popV
      have dl : Dp F.K H2 (.ref a) (.list xs) := Im.dp (show Im F.K (Av F pins ρ2 σ) H2 (.list xs) (.ref a) from R4)
      exact ⟨a, u, y, xs, j, z, rfl, rfl, dl.l2 (SeqAt.canLay_of_shaped s1), (Im.dp iu).l2 (SeqAt.canLay_of_shaped s2), s1, s2, hz, hzy, hno, q _ _ O4 (show Im F.K (Av F pins ρ2 σ) H2 (.int (j : Nat)) (.int (j : Nat)) by simp only [Im])⟩
    · exact h4.elim
  · refine ho.de.mono _ _ _ (fun r ρ1 h1 => ?_) h
    obtain ⟨xs, rfl, h2⟩ := onLst_of h1
    refine ha.da.mono _ _ _ (fun rs ρ2 h3 => ?_) h2
    obtain ⟨ys, ey, h4⟩ := onD_of h3
    unfold onD
    rw [ey]
    dsimp only
    split at h4
    · obtain ⟨s1, s2, j, f, q⟩ := h4
      exact ⟨s1, s2, j, f, hq _ _ q⟩
    · exact h4.elim
end
end DV
namespace DV
open PySem PySem.Spec PyProof.Rows L2
open LamX (ExtN TabS Tabs CodeO)
section
variable {X : Cx} {F : Fm} {a b c : Expr} {ta tb : TE} {da db : TDL} {tt : TT} {dt : TDT} {pos : Pos}
def dIfL (t : TDT) (ta tb : TDL) : TDL := fun ρ Q => t ρ fun k ρ1 => if k = true then ta ρ1 Q else tb ρ1 Q
theorem pl_ifExp (hc : PDT X F c tt dt) (ha : PDL X F a ta da) (hb : PDL X F b tb db) : PDL X F (.IfExp c a b pos) (tIf tt ta tb) (dIfL dt da db) := by
  refine ⟨pe_ifExp hc.pt ha.pe hb.pe, ?_, ?_⟩
  · intro pins ρ σ H Q O hq
    refine hc.dt.run pins ρ σ H _ O (hc.dt.mono _ _ _ (fun k ρ1 h1 H1 O1 => ?_) hq)
    cases k with
    | true => exact ha.dl.run pins ρ1 σ H1 Q O1 h1
    | false => exact hb.dl.run pins ρ1 σ H1 Q O1 h1
  · intro ρ Q Q' hq hh
    refine hc.dt.mono _ _ _ (fun k ρ1 h1 => ?_) hh
    cases k with
    | true => exact ha.dl.mono _ _ _ hq h1
    | false => exact hb.dl.mono _ _ _ hq h1
end
section
variable {X : Cx} {F : Fm} {i o : Expr} {ti te : TE} {di de : TDE} {pos : Pos}
theorem pt_din (hu : X.A.units + 1 < cLine) (hi : PD X F i ti di) (ho : PD X F o te de) (hm : behindInMarks .In o = false := by rfl) : PDT X F (.Compare i [.In] [o] pos) (tTest (tDIn ti te)) (dTV (dDIn false di de)) :=
  ⟨pt_cmp (h1 := hm) (pc_din hu hi.pe ho.pe), dt_tv (k := tTest) (fun _ => rfl) (pd_din (pos := pos) hu hi ho hm).de⟩
end
end DV
namespace DV
open PySem PySem.Spec PyProof.Rows L2
open LamX (ExtN TabS Tabs CodeO)
def kI (ks : List Int) (ys : List PyData) : List (L2.Key × PyData) := (ks.zip ys).map fun q => (Sum.inl q.1, q.2)
theorem kvD_kI {ks : List Int} {ys : List PyData} : kvD (kI ks ys) = dI ks ys := by
  unfold kvD kI dI
  rw [List.map_map]
  rfl
theorem kI_len {ks : List Int} {ys : List PyData} (h : ks.length = ys.length) : (kI ks ys).length = ks.length := by
  unfold kI
  rw [List.length_map, List.length_zip]
  omega
theorem putI_new {ks : List Int} {ys : List PyData} {k : Int} {y : PyData} (hl : ks.length = ys.length) (hk : k ∉ ks) : putI (kI ks ys) (.inl k) y = kI (ks ++ [k]) (ys ++ [y]) := by
  unfold putI
  rw [if_neg]
  · unfold kI
    rw [List.zip_append hl, List.map_append]
    rfl
  · intro h
    obtain ⟨q, hq, e⟩ := List.any_eq_true.mp h
    have e := of_decide_eq_true e
    unfold kI at hq
    obtain ⟨p, hp, rfl⟩ := List.mem_map.mp hq
    have := (List.of_mem_zip hp).1
    have e2 : p.1 = k := Sum.inl.inj e
    rw [e2] at this
    exact hk this
theorem upI_succ {n : Nat} : upI (n + 1) = upI n ++ [(n : Int)] := by
  unfold upI
  rw [List.range_succ, List.map_append]
  rfl
theorem upI_mem {n : Nat} {k : Int} : k ∈ upI n ↔ 0 ≤ k ∧ k < n := by
  unfold upI
  rw [List.mem_map]
  constructor
  · rintro ⟨i, hi, rfl⟩
    have := List.mem_range.mp hi
    omega
  · rintro ⟨h0, h1⟩
    exact ⟨k.toNat, List.mem_range.mpr (by omega), by omega⟩
/-- what stands at a key -/
def keyAt {α : Type} (ks : List Int) (as : List α) (k : Int) : Option α := ((ks.zip as).find? fun q => decide (q.1 = k)).map (·.2)
theorem findD_keyAt {α : Type} {enc : α → PyData} {ks : List Int} {as : List α} {k : Int} : findD (dI ks (as.map enc)) (.inl k) = (keyAt ks as k).map enc := by
  induction ks generalizing as with
  | nil => rfl
  | cons a ks ih =>
    cases as with
    | nil => rfl
    | cons b as =>
      unfold findD dI keyAt at *
      rw [List.map_cons, List.zip_cons_cons, List.map_cons, List.find?_cons, List.zip_cons_cons, List.find?_cons]
      by_cases e : a = k
      · simp [keyIsD, e]
      · simp only [keyIsD, e, decide_false]
        exact ih
theorem keyAt_mem {α : Type} {ks : List Int} {as : List α} {k : Int} {a : α} (h : keyAt ks as k = some a) : k ∈ ks ∧ a ∈ as := by
  unfold keyAt at h
  obtain ⟨q, hq, rfl⟩ := Option.map_eq_some_iff.mp h
  have hm := List.of_mem_zip (List.mem_of_find?_eq_some hq)
  have e : q.1 = k := of_decide_eq_true (List.find?_some (p := fun q : Int × α => decide (q.1 = k)) hq)
  exact ⟨by rw [← e]; exact hm.1, hm.2⟩
/-- the first place of what is in a list -/
theorem first_ex {xs : List PyData} {y : PyData} (h : ∃ z ∈ xs, PyData.eqv z y = true) : ∃ j, isFirst xs y j := by
  induction xs with
  | nil => obtain ⟨z, hz, _⟩ := h; cases hz
  | cons x xs ih =>
    by_cases e : PyData.eqv x y = true
    · exact ⟨0, x, rfl, e, fun m z' hm => absurd hm (Nat.not_lt_zero _)⟩
    · obtain ⟨z, hz, hy⟩ := h
      rcases List.mem_cons.mp hz with rfl | hz
      · exact absurd hy e
      · obtain ⟨j, w, h1, h2, h3⟩ := ih ⟨z, hz, hy⟩
        refine ⟨j + 1, w, h1, h2, fun m z' hm hz' => ?_⟩
        cases m with
        | zero =>
          simp at hz'
          subst hz'
          simpa using e
        | succ m => exact h3 m z' (by omega) (by simpa using hz')
end DV
namespace DV
open PySem PySem.Spec PyProof.Rows L2
open LamX (ExtN TabS Tabs CodeO)
def ItK (k : Bool) (g : Heap) (it l : Addr) (i : Nat) : Prop := match k with
  | true => g.IsTupleIter it l i
  | false => g.IsListIter it l i
def obK (k : Bool) (l : Addr) : Obj := match k with
  | true => { cls := .type "tuple_iterator", data := .fields #[.ref l, .int 0 0] }
  | false => { cls := .type "list_iterator", data := .fields #[.ref l, .int 0 0] }
theorem ItK.of {k : Bool} {g : Heap} {it l : Addr} (h : g.get? it = some (obK k l)) : ItK k g it l 0 := by
  cases k
  · exact ⟨_, h, rfl, rfl⟩
  · exact ⟨_, h, rfl, rfl⟩
theorem ItK.at {k : Bool} {g g' : Heap} {it l : Addr} {i : Nat} (h : ItK k g it l i) (f : ∀ o, g.get? it = some o → g'.get? it = some o) : ItK k g' it l i := by
  cases k
  · exact Heap.IsListIter.at h f
  · exact Heap.IsTupleIter.at h f
def zip3D (xs ys zs : List PyData) : List PyData := (List.zip xs (List.zip ys zs)).map fun p => .tuple [p.1, p.2.1, p.2.2]
section
variable {X : Cx} {F : Fm} {e e2 e3 : Expr} {pos p tpos : Pos} {t : TA} {d : TDA} {elts : List Expr} {kk : Nat}
def dZip3 (t : TDA) : TDI := fun ρ Q => t ρ fun rs ρ1 => match rs with
  | [r, s, u] => match seqs ρ1 r, seqs ρ1 s, seqs ρ1 u with
    | some (_, xs), some (true, ys), some (true, zs) => Q (zip3D xs ys zs) ρ1
    | _, _, _ => False
  | _ => False
end
end DV
namespace DV
open PySem PySem.Spec PyProof.Rows L2
open LamX (ExtN TabS Tabs CodeO)
open scoped Rat
mutual
def noL : PyData → Bool
  | .list _ => false
  | .tuple xs => noLs xs
  | .dict kvs => noLk kvs
  | _ => true
def noLs : List PyData → Bool
  | [] => true
  | x :: xs => noL x && noLs xs
def noLk : List (PyData × PyData) → Bool
  | [] => true
  | (_, v) :: r => noL v && noLk r
end
def reprOk : PyData → Bool
  | .list xs => noLs xs
  | d => noL d
section
variable {X : Cx} {pins : List (Addr × Obj)} {σ : L2.St} {H : Hp} {s : Shared}
mutual
theorem Dp.reads_ns (I : L2.Inv X pins σ H s) : ∀ (d : PyData) (v : V) (u : Value), noL d = true → Dp X.K H v d → RelV v u → ∃ as, Reads s.heap u d as ∧ sysModules ∉ as
  | .none, _, _, _, h, r => by
    cases h
    cases r
    exact ⟨_, Reads.none, by simp⟩
  | .bool b, _, _, _, h, r => by
    cases h
    cases r
    exact ⟨_, Reads.bool b, by simp⟩
  | .int i, _, _, _, h, r => by
    cases h
    obtain ⟨t, rfl⟩ := r
    exact ⟨_, Reads.int i t, by simp⟩
  | .str x, _, _, _, h, r => by
    cases h
    obtain ⟨t, rfl⟩ := r
    exact ⟨_, Reads.str x t, by simp⟩
  | .list qs, _, _, n, _, _ => by simp only [noL] at n; cases n
  | .tuple qs, _, _, n, h, r => by
    simp only [noL] at n
    cases h with
    | tup k1 k2 =>
      cases r
      obtain ⟨tis, rv, ⟨o, e0, e1c, n1, e2d⟩, _⟩ := I.tuple k1
      obtain ⟨as, kr, hn⟩ := Dp.readsAll_ns I qs _ tis n k2 rv
      exact ⟨_, Reads.tuple e0 e1c e2d kr, hn⟩
  | .dict qs, _, _, n, h, r => by
    simp only [noL] at n
    cases h with
    | dic l t =>
      cases r
      obtain ⟨_, ns, vs, kv, o, es, ep, y1, y2, h3, h4, h5, h6⟩ := dk_rd I.hok l
      obtain ⟨⟨as, g1, n1⟩, bs, g2, n2⟩ := DpKv.reads_ns I qs _ vs es.toList n t kv h5
      refine ⟨_, Reads.dict y1 y2.1 h3 g1 g2, fun hm => ?_⟩
      rcases List.mem_cons.mp hm with e | hm
      · rw [← e] at ns; simp at ns
      · rcases List.mem_append.mp hm with hm | hm
        · exact n1 hm
        · exact n2 hm
theorem Dp.readsAll_ns (I : L2.Inv X pins σ H s) : ∀ (qs : List PyData) (vs : List V) (us : List Value), noLs qs = true → DpAll X.K H vs qs → Vals vs us → ∃ as, ReadsAll s.heap us qs as ∧ sysModules ∉ as
  | [], _, _, _, h, r => by
    cases h
    cases r
    exact ⟨_, ReadsAll.nil, by simp⟩
  | d :: qs, _, _, n, h, r => by
    simp only [noLs, Bool.and_eq_true] at n
    cases h with
    | cons y1 y2 =>
      cases r with
      | cons z1 z2 =>
        obtain ⟨as, g1, n1⟩ := Dp.reads_ns I d _ _ n.1 y1 z1
        obtain ⟨bs, g2, n2⟩ := Dp.readsAll_ns I qs _ _ n.2 y2 z2
        exact ⟨_, ReadsAll.cons g1 g2, fun hm => (List.mem_append.mp hm).elim n1 n2⟩
theorem DpKv.reads_ns (I : L2.Inv X pins σ H s) : ∀ (qs : List (PyData × PyData)) (kvs : List (L2.Key × V)) (vs : List (L2.Key × Value)) (es : List DictEntry), noLk qs = true → DpKv X.K H kvs qs → KV kvs vs → Pairs (mixKind X.prog X.w) es vs →
    (∃ as, ReadsAll s.heap (es.map (·.key)) (qs.map (·.1)) as ∧ sysModules ∉ as) ∧ ∃ bs, ReadsAll s.heap (es.map (·.val)) (qs.map (·.2)) bs ∧ sysModules ∉ bs
  | [], _, _, _, _, h, kv, p => by
    cases h
    cases kv
    cases p
    exact ⟨⟨_, ReadsAll.nil, by simp⟩, _, ReadsAll.nil, by simp⟩
  | (k, d) :: qs, _, _, _, n, h, kv, p => by
    simp only [noLk, Bool.and_eq_true] at n
    cases h with
    | cons y1 y2 =>
      cases kv with
      | cons z1 z2 =>
        cases p with
        | cons p1 p2 p3 =>
          obtain ⟨⟨as, g1, n1⟩, bs, g2, n2⟩ := DpKv.reads_ns I qs _ _ _ n.2 y2 z2 p3
          obtain ⟨e1, rv⟩ := z1
          obtain ⟨cs, q3, n3⟩ := Dp.reads_ns I d _ _ n.1 y1 rv
          dsimp only at e1 p1
          rw [← e1] at p1
          rw [← p2] at q3
          exact ⟨⟨_, ReadsAll.cons (key_reads p1) g1, fun hm => (List.mem_append.mp hm).elim (fun z => nomatch z) n1⟩, _, ReadsAll.cons q3 g2, fun hm => (List.mem_append.mp hm).elim n3 n2⟩
end
/-- the text of a list whose items may have dicts -/
theorem showsBy_list {prog : Program} {w : World} {h₀ : Heap} {a : Addr} {o : Obj} {vs : Array Value} {n : Nat} {xs : List PyData} {bs₀ : List Addr} (h1 : h₀.get? a = some o) (h2 : o.cls = .type "list") (h3 : o.data = .seq vs n) (h4 : ReadsAll h₀ vs.toList xs bs₀) (hs : (PyData.list xs).showable = true)
    (hsm : sysModules ∉ bs₀) (hsz : (PyData.list xs).shown.length ≤ sizeLine) : ∃ T idr, ShowsBy prog w h₀ a (.list xs) T idr := by
  have hz' : (listText (PyData.shownAll xs)).length ≤ sizeLine := by simpa only [PyData.shown] using hsz
  obtain ⟨bs, hb, hk⟩ := ReprAllK.of_readsAll (prog := prog) (w := w) h4 (by simpa [PyData.showable] using hs) (fun _ => hsm) (fun t ht => Nat.le_trans (listText_mem_le ht) hz')
  have hna : a ∉ bs := not_mem_of_deeper (.list h1 h2 h3 h4) (by simp only [PyData.depth]; omega) hb
  refine ⟨"list", "list.__repr__", F.slot_list_repr.toG, F.slot_list_str, F.slot_list_format, fun s hk0 => ⟨o, hk0 _ _ h1, h2⟩, fun A E s Q hg hu hk0 hQ => ?_⟩
  simp only [PyData.depth] at hu
  simp only [PyData.shown] at hQ
  obtain ⟨l⟩ := vs
  cases l with
  | nil =>
    have h4' : ReadsAll h₀ [] xs _ := h4
    cases h4'
    simp only [PyData.shownAll, listText_nil] at hQ
    exact call_list_repr_empty ⟨o, hk0 _ _ h1, h2⟩ (hk0 _ _ h1) h3 (hQ s.heap _ _ fun _ _ e => e)
  | cons x l =>
    exact call_list_reprK h1 h2 h3 hna (by simpa using hk.length_eq) (fun i y e => hk.item i y (by simpa using e)) hg (fun b _ => Clear.nil b) hu hk0 hQ hz'
def rReprD (K : PySem.W.Frag) : List V → Hp → VK → Prop := fun vs H Q => ∃ v d, vs = [v] ∧ Dp K H v d ∧ d.showable = true ∧ reprOk d = true ∧ d.depth ≤ 60 ∧ d.shown.length ≤ sizeLine ∧ Q (.str d.shown) H
theorem call_reprD (hr : X.A.guards = some []) (hu : X.A.units + 64 < cLine) : CallR X (.builtin "repr") (rReprD X.K) := by
  intro pins s σ H vs us Q I r h
  obtain ⟨v, d, rfl, hd, hs, hn, hdp, hsz, q⟩ := h
  obtain ⟨u, rfl, ru⟩ := vals1 r
  have fin : ∀ (h' : Heap) (u' : Tok) (tk : Nat), (∀ b o, s.heap.get? b = some o → h'.get? b = some o) → EP X pins σ Q (.str d.shown u') { s with heap := h', toks := tk } := fun h' u' tk hk =>
    ⟨.str d.shown, H, I.kept hk, ⟨u', rfl⟩, q⟩
  cases d with
  | none =>
    cases hd; cases (show u = Value.none from ru)
    rw [PyData.shown_none] at q
    exact PySem.P.repr_of_none ⟨.str _, H, I.tok _, ⟨_, rfl⟩, q⟩
  | bool b =>
    cases hd; cases (show u = Value.bool b from ru)
    rw [PyData.shown_bool] at q
    exact PySem.P.repr_of_bool ⟨.str _, H, I.tok _, ⟨_, rfl⟩, q⟩
  | int i =>
    cases hd; obtain ⟨tk, rfl⟩ := (show ∃ t, u = Value.int i t from ru)
    have hz : i.natAbs.log2 < 1920 := by simpa [PyData.showable] using hs
    rw [PyData.shown_int] at q
    exact PySem.P.repr_of_int hz ⟨.str _, H, I.tok _, ⟨_, rfl⟩, q⟩
  | str x =>
    cases hd; obtain ⟨tk, rfl⟩ := (show ∃ t, u = Value.str x t from ru)
    rw [PyData.shown_str] at q hsz
    exact PySem.P.repr_of_str ⟨.str _, H, I.tok _, ⟨_, rfl⟩, q⟩ hsz
  | list xs =>
    cases hd with
    | lst k1 k2 =>
      cases (show u = Value.ref _ from ru)
      obtain ⟨tis, rv, ⟨o, n, e0, e1c, _, e2d⟩, _⟩ := I.list k1
      obtain ⟨as, kr, hns⟩ := Dp.readsAll_ns I xs _ tis hn k2 rv
      obtain ⟨T, idr, S⟩ := showsBy_list (prog := X.prog) (w := X.w) e0 e1c e2d kr hs hns hsz
      exact call_repr_slot (by omega) (S.typeIs s fun _ _ e => e) S.slotRepr (S.call X.A.in1 _ s _ hr (by show X.A.units + 1 + _ < cLine; omega) (fun _ _ e => e) fun h' u tk hk => ⟨_, _, rfl, fin h' u tk hk⟩)
  | tuple xs =>
    obtain ⟨as, rd, hns⟩ := Dp.reads_ns I _ v u hn hd ru
    cases hd; rename_i a vs h1 h2; cases (show u = Value.ref a from ru)
    exact repr_of_reads' rd hs (fun _ => hns) hr (by omega) (fun _ _ e => e) fin hsz
  | dict xs =>
    obtain ⟨as, rd, hns⟩ := Dp.reads_ns I _ v u hn hd ru
    cases hd; rename_i a vs h1 h2; cases (show u = Value.ref a from ru)
    exact repr_of_reads' rd hs (fun _ => hns) hr (by omega) (fun _ _ e => e) fin hsz
end
/-- data with dicts that can be shown -/
structure Fs (k c : Nat) (d : PyData) : Prop where
  sh : d.showable = true
  nl : noL d = true
  deep : d.depth ≤ k
  few : d.shown.length ≤ c
structure PlainD (d : PyData) : Prop where
  sh : d.showable = true
  ok : reprOk d = true
  deep : d.depth ≤ 60
  few : d.shown.length ≤ sizeLine
def fReprD : FA
  | [d], Q => PlainD d ∧ Q (.str d.shown)
  | _, _ => False
theorem sc_reprD {K : PySem.W.Frag} : SC K (rReprD K) fReprD := by
  constructor
  · intro H vs ds Q h q
    unfold fReprD at q
    split at q
    · obtain ⟨v, rfl, h1⟩ := dpall1 h
      exact ⟨v, _, rfl, h1, q.1.sh, q.1.ok, q.1.deep, q.1.few, q.2 _ .str⟩
    · exact q.elim
  · intro ds Q Q' hq q
    unfold fReprD at q ⊢
    split at q
    · exact ⟨q.1, hq _ q.2⟩
    · exact q.elim
theorem Fs.up {j k b c : Nat} {d : PyData} (h : Fs j b d) (z : j ≤ k) (y : b ≤ c) : Fs k c d := ⟨h.sh, h.nl, Nat.le_trans h.deep z, Nat.le_trans h.few y⟩
theorem Fs.fn {k c : Nat} {d : PyData} (h : Fn k c d) (n : noL d = true) : Fs k c d := ⟨(okd_facts d h.ok).2.1, n, h.deep, Nat.le_trans (shown_le d h.ok) h.few⟩
theorem Fs.fr {q : Rat} {k : Nat} (h : Sz k q) (z : k ≤ 1000 := by decide) : Fs 1 2009 (fr q) := .fn (fa_fr h z) (by simp [DV.fr, noL, noLs])
theorem Fs.int {i : Int} {k : Nat} (h : Bd k i) (z : k ≤ 1000 := by decide) : Fs 0 1001 (.int i) := .fn (Fn.int h z) (by simp [noL])
theorem join_le {c : Nat} : ∀ {ts : List Str}, (∀ t ∈ ts, t.length ≤ c) → (Str.join ", " ts).length ≤ ts.length * (c + 2)
  | [], _ => by show (Str.join ", " []).length ≤ _; rw [show (Str.join ", " []).length = 0 by decide]; omega
  | [x], h => by
    have := h x (List.mem_cons_self ..)
    show x.length ≤ 1 * (c + 2)
    omega
  | x :: y :: xs, h => by
    have ih := join_le (ts := y :: xs) fun t ht => h t (List.mem_cons_of_mem _ ht)
    have h1 := h x (List.mem_cons_self ..)
    have e : Str.join ", " (x :: y :: xs) = x ++ ", " ++ Str.join ", " (y :: xs) := rfl
    rw [e, strLen_append, strLen_append]
    have e2 : (Str.ofString ", ").length = 2 := by decide
    rw [show (x :: y :: xs).length = (y :: xs).length + 1 from rfl, Nat.succ_mul]
    omega
theorem fss {k c : Nat} : ∀ {xs : List PyData}, (∀ x ∈ xs, Fs k c x) → PyData.showableAll xs = true ∧ noLs xs = true ∧ PyData.depthAll xs ≤ k
  | [], _ => ⟨by simp [PyData.showableAll], by simp [noLs], by simp [PyData.depthAll]⟩
  | x :: xs, h => by
    have a := h x (List.mem_cons_self ..)
    have b := fss (xs := xs) fun y hy => h y (List.mem_cons_of_mem _ hy)
    simp only [PyData.showableAll, noLs, PyData.depthAll, Bool.and_eq_true]
    exact ⟨⟨a.sh, b.1⟩, ⟨a.nl, b.2.1⟩, Nat.max_le.mpr ⟨a.deep, b.2.2⟩⟩
theorem shownAll_le {k c : Nat} {xs : List PyData} (h : ∀ x ∈ xs, Fs k c x) : ∀ t ∈ PyData.shownAll xs, t.length ≤ c := fun t ht => by
  rw [shownAll_eq_map] at ht
  obtain ⟨x, hx, rfl⟩ := List.mem_map.mp ht
  exact (h x hx).few
theorem shownAll_len (xs : List PyData) : (PyData.shownAll xs).length = xs.length := by rw [shownAll_eq_map, List.length_map]
theorem Fs.tuple {k c n : Nat} {xs : List PyData} (h : ∀ x ∈ xs, Fs k c x) (hn : xs.length ≤ n) : Fs (k + 1) (n * (c + 2) + 3) (.tuple xs) := by
  obtain ⟨a, b, d⟩ := fss h
  have j := join_le (shownAll_le h)
  rw [shownAll_len] at j
  have := Nat.mul_le_mul_right (c + 2) hn
  refine ⟨by simp only [PyData.showable]; exact a, by simp only [noL]; exact b, by simp only [PyData.depth]; omega, ?_⟩
  rw [PyData.shown_tuple, strLen_append, strLen_append]
  have e1 : (Str.ofString "(").length = 1 := by decide
  have e2 : (Str.ofString (if (xs.length == 1) = true then ",)" else ")")).length ≤ 2 := by split <;> decide
  omega
theorem PlainD.list {k c n : Nat} {xs : List PyData} (h : ∀ x ∈ xs, Fs k c x) (hn : xs.length ≤ n) (hk : k ≤ 59) (hc : n * (c + 2) + 2 ≤ sizeLine) : PlainD (.list xs) := by
  obtain ⟨a, b, d⟩ := fss h
  have j := join_le (shownAll_le h)
  rw [shownAll_len] at j
  have := Nat.mul_le_mul_right (c + 2) hn
  refine ⟨by simp only [PyData.showable]; exact a, b, by simp only [PyData.depth]; omega, ?_⟩
  rw [PyData.shown_list, strLen_append, strLen_append]
  have e1 : (Str.ofString "[").length = 1 := by decide
  have e2 : (Str.ofString "]").length = 1 := by decide
  omega
theorem fskv {k c : Nat} : ∀ {kvs : List (PyData × PyData)}, (∀ p ∈ kvs, Fs 0 1001 p.1 ∧ Fs k c p.2) → PyData.showableKv kvs = true ∧ noLk kvs = true ∧ PyData.depthKv kvs ≤ k ∧ ∀ t ∈ PyData.shownKv kvs, t.length ≤ c + 1003
  | [], _ => ⟨by simp [PyData.showableKv], by simp [noLk], by simp [PyData.depthKv], by simp [PyData.shownKv]⟩
  | (x, y) :: r, h => by
    obtain ⟨a1, a2⟩ := h (x, y) (List.mem_cons_self ..)
    obtain ⟨b1, b2, b3, b4⟩ := fskv (kvs := r) fun p hp => h p (List.mem_cons_of_mem _ hp)
    have f1 := a1.few
    have f2 := a2.few
    have d1 := a1.deep
    have d2 := a2.deep
    dsimp only at f1 f2 d1 d2
    simp only [PyData.showableKv, noLk, PyData.depthKv, PyData.shownKv, Bool.and_eq_true]
    refine ⟨⟨⟨a1.sh, a2.sh⟩, b1⟩, ⟨a2.nl, b2⟩, by omega, fun t ht => ?_⟩
    rcases List.mem_cons.mp ht with rfl | ht
    · rw [strLen_append, strLen_append]
      have e2 : (Str.ofString ": ").length = 2 := by decide
      omega
    · exact b4 t ht
theorem shownKv_len : ∀ kvs : List (PyData × PyData), (PyData.shownKv kvs).length = kvs.length
  | [] => by simp [PyData.shownKv]
  | (x, y) :: r => by simp [PyData.shownKv, shownKv_len r]
theorem Fs.dict {k c n : Nat} {kvs : List (PyData × PyData)} (h : ∀ p ∈ kvs, Fs 0 1001 p.1 ∧ Fs k c p.2) (hn : kvs.length ≤ n) : Fs (k + 1) (n * (c + 1005) + 2) (.dict kvs) := by
  obtain ⟨a, b, d, e⟩ := fskv h
  have j := join_le e
  rw [shownKv_len] at j
  have := Nat.mul_le_mul_right (c + 1005) hn
  rw [show c + 1003 + 2 = c + 1005 by omega] at j
  refine ⟨by simp only [PyData.showable]; exact a, by simp only [noL]; exact b, by simp only [PyData.depth]; omega, ?_⟩
  show (dictText (PyData.shownKv kvs)).length ≤ _
  unfold dictText
  rw [strLen_append, strLen_append]
  have e1 : (Str.ofString "{").length = 1 := by decide
  have e2 : (Str.ofString "}").length = 1 := by decide
  omega
theorem Fs.map {α : Type} {k c : Nat} {f : α → PyData} {xs : List α} (h : ∀ x ∈ xs, Fs k c (f x)) : ∀ y ∈ xs.map f, Fs k c y := fun y hy => by
  obtain ⟨x, hx, rfl⟩ := List.mem_map.mp hy
  exact h x hx
/-- a dict whose keys are integers -/
theorem Fs.dicI {α : Type} {k c n : Nat} {f : α → PyData} {ks : List Int} {as : List α} (hk : ∀ i ∈ ks, Bd 20 i) (h : ∀ a ∈ as, Fs k c (f a)) (hn : ks.length ≤ n) : Fs (k + 1) (n * (c + 1005) + 2) (.dict (DV.dI ks (as.map f))) := by
  have e : DV.dI ks (as.map f) = (List.zip ks as).map fun p => (PyData.int p.1, f p.2) := by
    unfold DV.dI
    rw [List.zip_map_right, List.map_map]
    rfl
  rw [e]
  refine Fs.dict (fun p hp => ?_) (by rw [List.length_map, List.length_zip]; omega)
  obtain ⟨q, hq, rfl⟩ := List.mem_map.mp hp
  have m := List.of_mem_zip (show (q.1, q.2) ∈ _ from hq)
  exact ⟨Fs.int (hk _ m.1), h _ m.2⟩
theorem noLs_of : ∀ {xs : List PyData}, (∀ x ∈ xs, noL x = true) → noLs xs = true
  | [], _ => by simp [noLs]
  | x :: xs, h => by
    simp only [noLs, Bool.and_eq_true]
    exact ⟨h x (List.mem_cons_self ..), noLs_of fun y hy => h y (List.mem_cons_of_mem _ hy)⟩
theorem noLs_map {α : Type} {f : α → PyData} {xs : List α} (h : ∀ x ∈ xs, noL (f x) = true) : noLs (xs.map f) = true := noLs_of fun y hy => by
  obtain ⟨x, hx, rfl⟩ := List.mem_map.mp hy
  exact h x hx
end DV
namespace K61
open PySem PySem.Spec PyProof.Rows L2 DV
open scoped Rat
def topS (i : Nat) : Stmt := PySem.Challenge.pw_lampsaloft_k61_falls_and_who_is_struck.main.body.getD i (.Pass ⟨0, 0, 0, 0⟩)
abbrev nm_reduced : List Str := ["n", "d", "common"]
abbrev s_reduced : Stmt := topS 2
theorem sc_reduced : FnScope nm_reduced ["n", "d"] (defScope s_reduced) := ⟨rfl, rfl, rfl, by decide +kernel, rfl, by decide +kernel, by decide +kernel⟩
abbrev nm_added : List Str := ["one", "other"]
abbrev s_added : Stmt := topS 3
theorem sc_added : FnScope nm_added ["one", "other"] (defScope s_added) := ⟨rfl, rfl, rfl, by decide +kernel, rfl, by decide +kernel, by decide +kernel⟩
abbrev nm_compared : List Str := ["one", "other", "here", "there"]
abbrev s_compared : Stmt := topS 4
theorem sc_compared : FnScope nm_compared ["one", "other"] (defScope s_compared) := ⟨rfl, rfl, rfl, by decide +kernel, rfl, by decide +kernel, by decide +kernel⟩
abbrev nm_least_of : List Str := ["fractions", "least", "fraction"]
abbrev s_least_of : Stmt := topS 5
theorem sc_least_of : FnScope nm_least_of ["fractions"] (defScope s_least_of) := ⟨rfl, rfl, rfl, by decide +kernel, rfl, by decide +kernel, by decide +kernel⟩
abbrev nm_lag_of : List Str := ["bounds"]
abbrev s_lag_of : Stmt := topS 7
theorem sc_lag_of : FnScope nm_lag_of ["bounds"] (defScope s_lag_of) := ⟨rfl, rfl, rfl, by decide +kernel, rfl, by decide +kernel, by decide +kernel⟩
abbrev nm_hold_needed : List Str := ["bounds", "clock", "silence", "cuts"]
abbrev s_hold_needed : Stmt := topS 9
theorem sc_hold_needed : FnScope nm_hold_needed ["bounds"] (defScope s_hold_needed) := ⟨rfl, rfl, rfl, by decide +kernel, rfl, by decide +kernel, by decide +kernel⟩
abbrev nm_timeline : List Str := ["show", "found", "opens", "leaves", "ticks", "hold", "_", "arrives"]
abbrev s_timeline : Stmt := topS 10
theorem sc_timeline : FnScope nm_timeline ["show"] (defScope s_timeline) := ⟨rfl, rfl, rfl, by decide +kernel, rfl, by decide +kernel, by decide +kernel⟩
abbrev nm_fall_of : List Str := ["show", "night", "carrier", "falls", "errs", "_", "lost", "moments", "scene"]
abbrev s_fall_of : Stmt := topS 12
theorem sc_fall_of : FnScope nm_fall_of ["show", "night", "carrier"] (defScope s_fall_of) := ⟨rfl, rfl, rfl, by decide +kernel, rfl, by decide +kernel, by decide +kernel⟩
abbrev nm_falls_of : List Str := ["show", "night", "carrier"]
abbrev s_falls_of : Stmt := topS 13
theorem sc_falls_of : FnScope nm_falls_of ["show", "night"] (defScope s_falls_of) := ⟨rfl, rfl, rfl, by decide +kernel, rfl, by decide +kernel, by decide +kernel⟩
abbrev nm_struck : List Str := ["show", "night", "carrier", "fall"]
abbrev s_struck : Stmt := topS 14
theorem sc_struck : FnScope nm_struck ["show", "night"] (defScope s_struck) := ⟨rfl, rfl, rfl, by decide +kernel, rfl, by decide +kernel, by decide +kernel⟩
abbrev nm__law_bag : List Str := ["_law_script", "_law_cell"]
abbrev s__law_bag : Stmt := topS 16
theorem sc__law_bag : FnScope nm__law_bag ["_law_script"] (defScope s__law_bag) := ⟨rfl, rfl, rfl, by decide +kernel, rfl, by decide +kernel, by decide +kernel⟩
abbrev nm__law_take : List Str := ["_law_bag_here", "_law_many", "_law_cell", "_law_stirred", "_law_value", "_law_begin", "_law_second"]
abbrev s__law_take : Stmt := topS 17
theorem sc__law_take : FnScope nm__law_take ["_law_bag_here", "_law_many"] (defScope s__law_take) := ⟨rfl, rfl, rfl, by decide +kernel, rfl, by decide +kernel, by decide +kernel⟩
abbrev nm__law_some : List Str := ["_law_bag_here", "_law_things"]
abbrev s__law_some : Stmt := topS 18
theorem sc__law_some : FnScope nm__law_some ["_law_bag_here", "_law_things"] (defScope s__law_some) := ⟨rfl, rfl, rfl, by decide +kernel, rfl, by decide +kernel, by decide +kernel⟩
abbrev nm__law_alike : List Str := ["_law_found", "_law_due"]
abbrev s__law_alike : Stmt := topS 19
theorem sc__law_alike : FnScope nm__law_alike ["_law_found", "_law_due"] (defScope s__law_alike) := ⟨rfl, rfl, rfl, by decide +kernel, rfl, by decide +kernel, by decide +kernel⟩
abbrev nm__law_over : List Str := ["_law_n", "_law_d", "_law_one", "_law_other"]
abbrev s__law_over : Stmt := topS 20
theorem sc__law_over : FnScope nm__law_over ["_law_n", "_law_d"] (defScope s__law_over) := ⟨rfl, rfl, rfl, by decide +kernel, rfl, by decide +kernel, by decide +kernel⟩
abbrev nm__law_added : List Str := ["_law_x", "_law_y"]
abbrev s__law_added : Stmt := topS 21
theorem sc__law_added : FnScope nm__law_added ["_law_x", "_law_y"] (defScope s__law_added) := ⟨rfl, rfl, rfl, by decide +kernel, rfl, by decide +kernel, by decide +kernel⟩
abbrev nm__law_is_below : List Str := ["_law_x", "_law_y"]
abbrev s__law_is_below : Stmt := topS 22
theorem sc__law_is_below : FnScope nm__law_is_below ["_law_x", "_law_y"] (defScope s__law_is_below) := ⟨rfl, rfl, rfl, by decide +kernel, rfl, by decide +kernel, by decide +kernel⟩
abbrev nm__law_reach : List Str := ["_law_bounds"]
abbrev s__law_reach : Stmt := topS 23
theorem sc__law_reach : FnScope nm__law_reach ["_law_bounds"] (defScope s__law_reach) := ⟨rfl, rfl, rfl, by decide +kernel, rfl, by decide +kernel, by decide +kernel⟩
abbrev nm__law_lag : List Str := ["_law_bounds"]
abbrev s__law_lag : Stmt := topS 24
theorem sc__law_lag : FnScope nm__law_lag ["_law_bounds"] (defScope s__law_lag) := ⟨rfl, rfl, rfl, by decide +kernel, rfl, by decide +kernel, by decide +kernel⟩
abbrev nm__law_is_enough : List Str := ["_law_bounds", "_law_ticks", "_law_spacing", "_law_reach_here", "_law_way", "_law_lag_here", "_law_left", "_law_right"]
abbrev s__law_is_enough : Stmt := topS 25
theorem sc__law_is_enough : FnScope nm__law_is_enough ["_law_bounds", "_law_ticks"] (defScope s__law_is_enough) := ⟨rfl, rfl, rfl, by decide +kernel, rfl, by decide +kernel, by decide +kernel⟩
abbrev nm__law_first_enough : List Str := ["_law_bounds", "_law_most", "_law_low", "_law_high", "_law_turn", "_law_middle"]
abbrev s__law_first_enough : Stmt := topS 26
theorem sc__law_first_enough : FnScope nm__law_first_enough ["_law_bounds", "_law_most"] (defScope s__law_first_enough) := ⟨rfl, rfl, rfl, by decide +kernel, rfl, by decide +kernel, by decide +kernel⟩
abbrev nm__law_needed : List Str := ["_law_bounds"]
abbrev s__law_needed : Stmt := topS 27
theorem sc__law_needed : FnScope nm__law_needed ["_law_bounds"] (defScope s__law_needed) := ⟨rfl, rfl, rfl, by decide +kernel, rfl, by decide +kernel, by decide +kernel⟩
abbrev nm__law_times : List Str := ["_law_show_here", "_law_found", "_law_opens", "_law_leaves", "_law_ticks", "_law_hold", "_law_picture_here"]
abbrev s__law_times : Stmt := topS 28
theorem sc__law_times : FnScope nm__law_times ["_law_show_here"] (defScope s__law_times) := ⟨rfl, rfl, rfl, by decide +kernel, rfl, by decide +kernel, by decide +kernel⟩
abbrev nm__law_writing : List Str := ["_law_show_here", "_law_scene", "_law_bounds"]
abbrev s__law_writing : Stmt := topS 29
theorem sc__law_writing : FnScope nm__law_writing ["_law_show_here", "_law_scene"] (defScope s__law_writing) := ⟨rfl, rfl, rfl, by decide +kernel, rfl, by decide +kernel, by decide +kernel⟩
abbrev nm__law_rows : List Str := ["_law_picture_here", "_law_spacing", "_law_found", "_law_lamp", "_law_taken", "_law_other", "_law_row"]
abbrev s__law_rows : Stmt := topS 30
theorem sc__law_rows : FnScope nm__law_rows ["_law_picture_here", "_law_spacing"] (defScope s__law_rows) := ⟨rfl, rfl, rfl, by decide +kernel, rfl, by decide +kernel, by decide +kernel⟩
abbrev nm__law_picture : List Str := ["_law_bag_here", "_law_spacing", "_law_deep", "_law_most", "_law_lamps", "_law_turn", "_law_x", "_law_z", "_law_shades", "_law_picture_here", "_law_key", "_law_rows_here", "_law_lamp", "_law_row"]
abbrev s__law_picture : Stmt := topS 31
theorem sc__law_picture : FnScope nm__law_picture ["_law_bag_here", "_law_spacing", "_law_deep", "_law_most"] (defScope s__law_picture) := ⟨rfl, rfl, rfl, by decide +kernel, rfl, by decide +kernel, by decide +kernel⟩
abbrev nm__law_show_bounds : List Str := ["_law_bag_here", "_law_spacing", "_law_wind_here", "_law_top", "_law_near", "_law_clock", "_law_fall_here", "_law_way"]
abbrev s__law_show_bounds : Stmt := topS 32
theorem sc__law_show_bounds : FnScope nm__law_show_bounds ["_law_bag_here"] (defScope s__law_show_bounds) := ⟨rfl, rfl, rfl, by decide +kernel, rfl, by decide +kernel, by decide +kernel⟩
abbrev nm__law_show_of : List Str := ["_law_bag_here", "_law_bounds", "_law_pads", "_law_scenes", "_law_more", "_law_full", "_law_holding", "_law_flying", "_law_ticks", "_law_hold", "_law_picture_here"]
abbrev s__law_show_of : Stmt := topS 33
theorem sc__law_show_of : FnScope nm__law_show_of ["_law_bag_here", "_law_bounds", "_law_pads", "_law_scenes", "_law_more"] (defScope s__law_show_of) := ⟨rfl, rfl, rfl, by decide +kernel, rfl, by decide +kernel, by decide +kernel⟩
abbrev nm__law_show : List Str := ["_law_bag_here", "_law_most_pads", "_law_most_scenes", "_law_bounds", "_law_spacing", "_law_deep", "_law_nears", "_law_one", "_law_least", "_law_high", "_law_wide", "_law_pads", "_law_scenes", "_law_number", "_law_turn", "_law_hold", "_law_picture_here"]
abbrev s__law_show : Stmt := topS 34
theorem sc__law_show : FnScope nm__law_show ["_law_bag_here", "_law_most_pads", "_law_most_scenes"] (defScope s__law_show) := ⟨rfl, rfl, rfl, by decide +kernel, rfl, by decide +kernel, by decide +kernel⟩
abbrev nm__law_part : List Str := ["_law_bag_here", "_law_clock", "_law_some_here"]
abbrev s__law_part : Stmt := topS 35
theorem sc__law_part : FnScope nm__law_part ["_law_bag_here", "_law_clock"] (defScope s__law_part) := ⟨rfl, rfl, rfl, by decide +kernel, rfl, by decide +kernel, by decide +kernel⟩
abbrev nm__law_wind : List Str := ["_law_bag_here", "_law_wind_here", "_law_some_here"]
abbrev s__law_wind : Stmt := topS 36
theorem sc__law_wind : FnScope nm__law_wind ["_law_bag_here", "_law_wind_here"] (defScope s__law_wind) := ⟨rfl, rfl, rfl, by decide +kernel, rfl, by decide +kernel, by decide +kernel⟩
abbrev nm__law_moment : List Str := ["_law_bag_here", "_law_show_here", "_law_times_here", "_law_opens", "_law_leaves", "_law_arrives", "_law_ends", "_law_writing_here", "_law_middle", "_law_tick", "_law_found", "_law_last"]
abbrev s__law_moment : Stmt := topS 37
theorem sc__law_moment : FnScope nm__law_moment ["_law_bag_here", "_law_show_here"] (defScope s__law_moment) := ⟨rfl, rfl, rfl, by decide +kernel, rfl, by decide +kernel, by decide +kernel⟩
abbrev nm__law_night : List Str := ["_law_bag_here", "_law_show_here", "_law_often", "_law_falls", "_law_errs", "_law_winds", "_law_lost", "_law_carrier", "_law_scene", "_law_turn", "_law_way"]
abbrev s__law_night : Stmt := topS 38
theorem sc__law_night : FnScope nm__law_night ["_law_bag_here", "_law_show_here", "_law_often"] (defScope s__law_night) := ⟨rfl, rfl, rfl, by decide +kernel, rfl, by decide +kernel, by decide +kernel⟩
abbrev nm__law_fall : List Str := ["_law_show_here", "_law_night_here", "_law_carrier", "_law_found", "_law_scene", "_law_least"]
abbrev s__law_fall : Stmt := topS 39
theorem sc__law_fall : FnScope nm__law_fall ["_law_show_here", "_law_night_here", "_law_carrier"] (defScope s__law_fall) := ⟨rfl, rfl, rfl, by decide +kernel, rfl, by decide +kernel, by decide +kernel⟩
abbrev nm_law : List Str := ["_law_script", "_law_bag_here", "_law_turn", "_law_show_here", "_law_k", "_law_night_here", "_law_said", "_law_due", "_law_one", "_law_told", "_law_falling", "_law_fall_here"]
abbrev s_law : Stmt := topS 40
theorem sc_law : FnScope nm_law ["_law_script"] (defScope s_law) := ⟨rfl, rfl, rfl, by decide +kernel, rfl, by decide +kernel, by decide +kernel⟩
structure Bi (mg : Str → Option Value) : Prop where
  b_tuple : mg "tuple" = none
  b_len : mg "len" = none
  b_range : mg "range" = none
  b_enumerate : mg "enumerate" = none
  b_abs : mg "abs" = none
  b_int : mg "int" = none
  b_repr : mg "repr" = none
  b_max : mg "max" = none
  b_zip : mg "zip" = none
  b_sorted : mg "sorted" = none
  b_list : mg "list" = none
  i_gcd : mg "gcd" = some (.builtin "math.gcd")
def nearsM (b : Bn) (n : Nat) : List Int := (List.range n).filterMap fun k : Nat => if enough (b.nr (b.near - k)) 9990 then some (b.near - k) else none
theorem mem_nearsM {b : Bn} {n : Nat} {c : Int} (h : c ∈ nearsM b n) : ∃ k : Nat, k < n ∧ c = b.near - k ∧ enough (b.nr c) 9990 := by
  unfold nearsM at h
  obtain ⟨k, hk, e⟩ := List.mem_filterMap.mp h
  split at e
  · rename_i he
    cases e
    exact ⟨k, List.mem_range.mp hk, rfl, he⟩
  · cases e
theorem plain_enoughM {b : Bn} (h : 4 ≤ b.sp) : enough b.plain 9990 := by
  have e : flw b.plain = 0 := by
    unfold flw Bn.lag Bn.plain
    simp
  unfold enough lft
  rw [e]
  have q : 4 * 4 ≤ b.sp * b.sp := Int.mul_le_mul h h (by decide) (by omega)
  have r : b.plain.r = 1 := rfl
  have s : b.plain.sp = b.sp := rfl
  rw [r, s]
  refine ⟨by omega, ?_⟩
  have := isq_nn (9990 * 9990 * (b.sp * b.sp - 2 * 1 * 1) - 0)
  omega
theorem nears_encM (b : Bn) (n : Nat) : (List.range n).filterMap (fun k : Nat => ((if enough (b.nr (b.near - k)) 9990 then some (b.near - k) else none) : Option Int).map PyData.int) = (nearsM b n).map .int := by
  unfold nearsM
  rw [List.map_filterMap]
structure Ngt where
  fk : List Int
  fq : List Rat
  er : List (List Rat)
  wi : List (List (Rat × Rat))
  lk : List Int
  lv : List Nat
def eWi (p : Rat × Rat) : PyData := .tuple [fr p.1, fr p.2]
def eEr (es : List Rat) : PyData := .tuple (es.map fr)
def eWs (ws : List (Rat × Rat)) : PyData := .tuple (ws.map eWi)
def eI (v : Nat) : PyData := .int (v : Int)
def eN (N : Ngt) : PyData := .tuple [.dict (dI N.fk (N.fq.map fr)), .dict (dI (upI N.er.length) (N.er.map eEr)), .dict (dI (upI N.wi.length) (N.wi.map eWs)), .dict (dI N.lk (N.lv.map eI))]
structure NgtI (w : Shw) (n : Nat) (N : Ngt) : Prop where
  fu : N.fk.Pairwise (· < ·)
  fl : N.fk.length = N.fq.length
  fin : ∀ k ∈ N.fk, 0 ≤ k ∧ k < n
  fz : ∀ q ∈ N.fq, Sz 60 q
  el : N.er.length = n
  ez : ∀ es ∈ N.er, es.length = w.sc.length ∧ ∀ q ∈ es, Sz 12 q
  wl : N.wi.length = n
  wz : ∀ ws ∈ N.wi, ws.length = w.sc.length + 1 ∧ ∀ p ∈ ws, Sz 12 p.1 ∧ Sz 12 p.2
  lu : N.lk.Pairwise (· < ·)
  ll : N.lk.length = N.lv.length
  lin : ∀ k ∈ N.lk, 0 ≤ k ∧ k < n
  lz : ∀ v ∈ N.lv, v < w.sc.length
theorem NgtI.nil (w : Shw) : NgtI w 0 ⟨[], [], [], [], [], []⟩ := ⟨List.Pairwise.nil, rfl, (fun k h => nomatch h), (fun k h => nomatch h), rfl, (fun k h => nomatch h), rfl, (fun k h => nomatch h), List.Pairwise.nil, rfl, (fun k h => nomatch h), (fun k h => nomatch h)⟩
theorem put_up {α : Type} {enc : α → PyData} {as : List α} {a : α} {i : Nat} (h : as.length = i) : putI (kI (upI as.length) (as.map enc)) (.inl (0 + (i : Int))) (enc a) = kI (upI (as ++ [a]).length) ((as ++ [a]).map enc) := by
  subst h
  rw [Int.zero_add, putI_new (by rw [upI_len, List.length_map]) (fun z => by have := upI_mem.mp z; omega), List.length_append, List.map_append]
  show kI (upI as.length ++ [(as.length : Int)]) _ = kI (upI (as.length + 1)) _
  rw [upI_succ]
  rfl
theorem put_on {α : Type} {enc : α → PyData} {ks : List Int} {as : List α} {a : α} {n : Nat} (h : ks.length = as.length) (hi : ∀ k ∈ ks, 0 ≤ k ∧ k < n) : putI (kI ks (as.map enc)) (.inl (0 + (n : Int))) (enc a) = kI (ks ++ [(n : Int)]) ((as ++ [a]).map enc) := by
  rw [Int.zero_add, putI_new (by rw [List.length_map]; exact h) (fun z => by have := hi _ z; omega), List.map_append]
  rfl
theorem snoc_lt {ks : List Int} {n : Nat} (h : ks.Pairwise (· < ·)) (hi : ∀ k ∈ ks, 0 ≤ k ∧ k < n) : (ks ++ [(n : Int)]).Pairwise (· < ·) := by
  rw [List.pairwise_append]
  exact ⟨h, List.pairwise_singleton _ _, fun a ha b hb => by rw [List.mem_singleton.mp hb]; exact (hi a ha).2⟩
theorem snoc_in {ks : List Int} {n : Nat} (hi : ∀ k ∈ ks, 0 ≤ k ∧ k < n) : ∀ k ∈ ks ++ [(n : Int)], 0 ≤ k ∧ k < (n + 1 : Nat) := fun k hk => by
  rcases List.mem_append.mp hk with hk | hk
  · have := hi k hk; omega
  · rw [List.mem_singleton.mp hk]; omega
theorem wide_in {ks : List Int} {n : Nat} (hi : ∀ k ∈ ks, 0 ≤ k ∧ k < n) : ∀ k ∈ ks, 0 ≤ k ∧ k < (n + 1 : Nat) := fun k hk => by
  have := hi k hk; omega
def oR : Option Rat → PyData
  | some q => fr q
  | none => .none
/-- the moment at which a carrier falls that nothing is told any more -/
def lostQ (w : Shw) (N : Ngt) (c : Int) : Option Rat := match keyAt N.lk N.lv c with
  | some v => (N.er[c.toNat]?.bind fun es => es[v]?).map fun e => (((tmS w.b.need w.sc v).2 - w.b.lag : Int) : Rat) + e
  | none => none
def minQ : Option Rat → Option Rat → Option Rat
  | some a, some b => some (if b < a then b else a)
  | some a, none => some a
  | none, b => b
def fallQ (w : Shw) (N : Ngt) (c : Int) : Option Rat := minQ (keyAt N.fk N.fq c) (lostQ w N c)
abbrev NgtOk (w : Shw) (N : Ngt) : Prop := NgtI w w.pads.length N
theorem tm_in {w : Shw} (h0 : ShwB w) (k : Nat) (hk : k ≤ w.sc.length) : 0 ≤ (tmS w.b.need w.sc k).1 ∧ (tmS w.b.need w.sc k).1 ≤ 100000 ∧ 0 ≤ (tmS w.b.need w.sc k).2 ∧ (tmS w.b.need w.sc k).2 ≤ 100000 := by
  have ns := h0.ns
  have lg := h0.ok.lag0
  have nd := h0.ok.need0
  have s0 := h0.ok.sil0; have s1 := h0.ok.sil1; have u0 := h0.ok.cuts0; have u1 := h0.ok.cuts1; have c1 := h0.ok.clk1; have f1 := h0.ok.fall1; have c0 := h0.ok.clk0; have f0 := h0.ok.fall0
  have := tmS_in (n := w.b.need) (sc := w.sc) (by omega) (fun s hs => ⟨⟨by have := h0.tk s hs; omega, (h0.tk s hs).2.2⟩, h0.hd s hs⟩) hk
  omega
theorem lost_sz {w : Shw} {N : Ngt} {c : Int} {q : Rat} (h0 : ShwB w) (h1 : NgtOk w N) (h : lostQ w N c = some q) : Sz 60 q := by
  unfold lostQ at h
  split at h
  · rename_i v hv
    have vl := h1.lz v (keyAt_mem hv).2
    obtain ⟨e, he, rfl⟩ := Option.map_eq_some_iff.mp h
    obtain ⟨es, h2, h3⟩ := Option.bind_eq_some_iff.mp he
    have se := (h1.ez es (List.mem_of_getElem? h2)).2 e (List.mem_of_getElem? h3)
    have tv := tm_in h0 v (by omega)
    have lg := h0.ok.lag0
    have st : Sz 20 ((((tmS w.b.need w.sc v).2 - w.b.lag : Int)) : Rat) := Sz.int1 (bd_of 200000 (by omega) (by omega))
    exact (st.add se).up (by decide)
  · cases h
theorem fall_sz {w : Shw} {N : Ngt} {c : Int} {q : Rat} (h0 : ShwB w) (h1 : NgtOk w N) (h : fallQ w N c = some q) : Sz 60 q := by
  unfold fallQ at h
  have ha : ∀ a, keyAt N.fk N.fq c = some a → Sz 60 a := fun a e => h1.fz a (keyAt_mem e).2
  have hb : ∀ b, lostQ w N c = some b → Sz 60 b := fun b e => lost_sz h0 h1 e
  generalize keyAt N.fk N.fq c = o1 at *
  generalize lostQ w N c = o2 at *
  cases o1 with
  | none => cases o2 with
    | none => cases h
    | some b =>
      obtain rfl : b = q := Option.some.inj h
      exact hb _ rfl
  | some a => cases o2 with
    | none =>
      obtain rfl : a = q := Option.some.inj h
      exact ha _ rfl
    | some b =>
      simp only [minQ, Option.some.injEq] at h
      split at h
      · rw [← h]; exact hb b rfl
      · rw [← h]; exact ha a rfl
theorem on_last {xs : List PyData} {y : PyData} {f : PyData → Prop} {n : Nat} (hl : xs.length = n + 1) (h : xs[n]? = some y) : onAt xs (-1) f = f y := by
  unfold onAt
  have : atI xs (-1) = some y := by
    unfold atI ixN
    rw [if_neg (by omega), hl, if_pos (by omega)]
    show xs[((-1 : Int) + ((n + 1 : Nat) : Int)).toNat]? = some y
    rw [show ((-1 : Int) + ((n + 1 : Nat) : Int)).toNat = n by omega]
    exact h
  rw [this]
def lesL : List Rat → Rat
  | [] => 0
  | p :: ps => ps.foldl lesR p
theorem lesR_self (p : Rat) : lesR p p = p := by unfold lesR; rw [if_neg (Rat.lt_irrefl)]
theorem noL_pr {a : P2} : noL (enc2 a) = true := by simp [enc2, pr, noL, noLs]
theorem noL_eLm {l : Lmp} : noL (eLm l) = true := by
  simp only [eLm, noL, noLs, Bool.and_true, Bool.true_and]
  exact noLs_map fun s _ => by simp [noL]
theorem noL_eSc {s : Scn} : noL (eSc s) = true := by
  simp only [eSc, eP, noL, noLs, Bool.and_true, Bool.true_and]
  exact noLs_map fun s _ => noL_eLm
theorem noL_eW {w : Shw} : noL (eW w) = true := by
  simp only [eW, eB, noL, noLs, Bool.and_true, Bool.true_and, Bool.and_eq_true]
  exact ⟨noLs_map fun s _ => noL_pr, noLs_map fun s _ => noL_eSc⟩
theorem fs_shw {w : Shw} (h : ShwB w) : Fs 6 2000000 (eW w) := .fn (fn_shw h) noL_eW
theorem keys_le {ks : List Int} {n : Nat} (h : ks.Pairwise (· < ·)) (hi : ∀ k ∈ ks, 0 ≤ k ∧ k < n) : ks.length ≤ n := by
  have := (lt_nodup h).length_le_of_subset (l₂ := upI n) (fun k hk => upI_mem.mpr (hi k hk))
  rwa [upI_len] at this
theorem fs_ngt {w : Shw} {N : Ngt} (h0 : ShwB w) (h : NgtOk w N) : Fs 5 680011 (eN N) := by
  have np : w.pads.length ≤ 8 := h0.np
  have ns := h0.ns
  have bk : ∀ {ks : List Int}, (∀ k ∈ ks, 0 ≤ k ∧ k < w.pads.length) → ∀ k ∈ ks, Bd 20 k := fun hi k hk => bd_of 100 (by have := hi k hk; omega) (by have := hi k hk; omega) (k := 7) |>.up (by decide)
  have bu : ∀ {n : Nat}, n = w.pads.length → ∀ k ∈ upI n, Bd 20 k := fun e => by subst e; exact bk fun k hk => upI_mem.mp hk
  have d1 : Fs 4 170000 (.dict (dI N.fk (N.fq.map fr))) := (Fs.dicI (k := 1) (c := 2009) (n := 8) (bk h.fin) (fun q hq => .fr (h.fz q hq)) (Nat.le_trans (keys_le h.fu h.fin) np)).up (by decide) (by decide)
  have d2 : Fs 4 170000 (.dict (dI (upI N.er.length) (N.er.map eEr))) := (Fs.dicI (k := 2) (c := 8047) (n := 8) (bu h.el) (fun es he => Fs.tuple (n := 4) (Fs.map fun q hq => .fr ((h.ez es he).2 q hq)) (by rw [List.length_map]; have := (h.ez es he).1; omega)) (by rw [upI_len, h.el]; exact np)).up (by decide) (by decide)
  have d3 : Fs 4 170000 (.dict (dI (upI N.wi.length) (N.wi.map eWs))) := (Fs.dicI (k := 3) (c := 20138) (n := 8) (bu h.wl) (fun ws hw => Fs.tuple (n := 5) (Fs.map fun p hp => Fs.tuple (n := 2) (all2 (.fr ((h.wz ws hw).2 p hp).1) (.fr ((h.wz ws hw).2 p hp).2)) (Nat.le_refl _)) (by rw [List.length_map]; have := (h.wz ws hw).1; omega)) (by rw [upI_len, h.wl]; exact np)).up (by decide) (by decide)
  have d4 : Fs 4 170000 (.dict (dI N.lk (N.lv.map eI))) := (Fs.dicI (k := 0) (c := 1001) (n := 8) (bk h.lin) (fun v hv => .int (bd_of 100 (by omega) (by have := h.lz v hv; omega) (k := 7))) (Nat.le_trans (keys_le h.lu h.lin) np)).up (by decide) (by decide)
  exact Fs.tuple (n := 4) (all4 d1 d2 d3 d4) (Nat.le_refl _)
theorem plain_wN {w : Shw} {N : Ngt} (h0 : ShwB w) (h : NgtOk w N) : PlainD (.list [eW w, eN N]) := PlainD.list (k := 6) (c := 2000000) (n := 2) (all2 (fs_shw h0) ((fs_ngt h0 h).up (by decide) (by decide))) (Nat.le_refl _) (by decide) (by decide)
theorem fn_oR {o : Option Rat} (h : ∀ q, o = some q → Sz 60 q) : Fn 1 2009 (oR o) := by
  cases o with
  | none => exact Fn.none.up (by decide) (by decide)
  | some q => exact fa_fr (h q rfl)
theorem fn_falls {w : Shw} {N : Ngt} (h0 : ShwB w) (h : NgtOk w N) : Fn 2 20000 (.list ((List.range w.pads.length).map fun c : Nat => oR (fallQ w N c))) := by
  have np : w.pads.length ≤ 8 := h0.np
  exact (Fn.list (k := 1) (c := 2009) (n := 8) (Fn.map fun c _ => fn_oR fun q e => fall_sz h0 h e) (by rw [List.length_map, List.length_range]; exact np)).up (by decide) (by decide)
def fallsD (w : Shw) (N : Ngt) : List PyData := (List.range w.pads.length).map fun c : Nat => oR (fallQ w N c)
theorem zipIdx_range (n : Nat) : (List.range n).zipIdx = (List.range n).map fun i => (i, i) := by
  apply List.ext_getElem?
  intro i
  rw [List.getElem?_zipIdx, List.getElem?_map]
  by_cases h : i < n
  · rw [List.getElem?_range h]; simp
  · rw [List.getElem?_eq_none (by rw [List.length_range]; omega)]; rfl
def struckL (w : Shw) (N : Ngt) : List PyData := (List.range w.pads.length).filterMap fun c : Nat => if (fallQ w N c).isSome then some (.int (c : Int)) else none
theorem fn_struck {w : Shw} {N : Ngt} (h0 : ShwB w) : Fn 1 10000 (.tuple (struckL w N)) := by
  have np : w.pads.length ≤ 8 := h0.np
  refine (Fn.tuple (k := 0) (c := 1001) (n := 8) (fun x hx => ?_) ?_).up (by decide) (by decide)
  · obtain ⟨c, hc, e⟩ := List.mem_filterMap.mp hx
    have := List.mem_range.mp hc
    split at e
    · cases e; exact Fn.int (bd_of 100 (by omega) (by omega) (k := 7))
    · cases e
  · unfold struckL
    refine Nat.le_trans (List.length_filterMap_le _ _) ?_
    rw [List.length_range]; exact np
def S_reduced : Sd := SpE (α := Int × Int) (fun ⟨n, d⟩ => [.int n, .int d]) (fun ⟨n, d⟩ => d ≠ 0 ∧ Bd 9000 d) (fun ⟨n, d⟩ => fr (n /. d))
theorem m_reduced : MonoP S_reduced := m_SpE
theorem u_reduced {n : Int} {d : Int} {Q : PyData → Prop} (h0 : d ≠ 0) (h1 : Bd 9000 d) (hQ : Q (fr (n /. d))) : S_reduced [.int n, .int d] Q := ⟨(n, d), rfl, ⟨h0, h1⟩, hQ⟩
def S_compared : Sd := SpE (α := Rat × Rat × Nat × Nat) (fun ⟨p, r, j, k⟩ => [fr p, fr r]) (fun ⟨p, r, j, k⟩ => Sz j p ∧ Sz k r ∧ j + k ≤ 900000) (fun ⟨p, r, j, k⟩ => .int (cmpR p r))
theorem m_compared : MonoP S_compared := m_SpE
theorem u_compared {p : Rat} {r : Rat} {j : Nat} {k : Nat} {Q : PyData → Prop} (h0 : Sz j p) (h1 : Sz k r) (h2 : j + k ≤ 900000) (hQ : Q (.int (cmpR p r))) : S_compared [fr p, fr r] Q := ⟨(p, r, j, k), rfl, ⟨h0, h1, h2⟩, hQ⟩
def S_lag_of : Sd := SpE (α := Bn × Nat) (fun ⟨b, k⟩ => [eB b]) (fun ⟨b, k⟩ => BnB k b ∧ k ≤ 900) (fun ⟨b, k⟩ => .int b.lag)
theorem m_lag_of : MonoP S_lag_of := m_SpE
theorem u_lag_of {b : Bn} {k : Nat} {Q : PyData → Prop} (h0 : BnB k b) (h1 : k ≤ 900) (hQ : Q (.int b.lag)) : S_lag_of [eB b] Q := ⟨(b, k), rfl, ⟨h0, h1⟩, hQ⟩
abbrev S__law_bag : SdL := S_bag
theorem m__law_bag : MonoF S__law_bag := m_bag
abbrev S__law_take : Sb := S_take
theorem m__law_take : MonoB S__law_take := m_take
abbrev S__law_alike : Sd := S_alike
theorem m__law_alike : MonoP S__law_alike := m_alike
def S__law_over : Sd := SpE (α := Int × Int) (fun ⟨n, d⟩ => [.int n, .int d]) (fun ⟨n, d⟩ => d ≠ 0 ∧ Bd 9000 d) (fun ⟨n, d⟩ => fr (n /. d))
theorem m__law_over : MonoP S__law_over := m_SpE
theorem u__law_over {n : Int} {d : Int} {Q : PyData → Prop} (h0 : d ≠ 0) (h1 : Bd 9000 d) (hQ : Q (fr (n /. d))) : S__law_over [.int n, .int d] Q := ⟨(n, d), rfl, ⟨h0, h1⟩, hQ⟩
def S__law_is_below : Sd := SpE (α := Rat × Rat × Nat × Nat) (fun ⟨p, r, j, k⟩ => [fr p, fr r]) (fun ⟨p, r, j, k⟩ => Sz j p ∧ Sz k r ∧ j + k ≤ 900000) (fun ⟨p, r, j, k⟩ => .bool (decide (p < r)))
theorem m__law_is_below : MonoP S__law_is_below := m_SpE
theorem u__law_is_below {p : Rat} {r : Rat} {j : Nat} {k : Nat} {Q : PyData → Prop} (h0 : Sz j p) (h1 : Sz k r) (h2 : j + k ≤ 900000) (hQ : Q (.bool (decide (p < r)))) : S__law_is_below [fr p, fr r] Q := ⟨(p, r, j, k), rfl, ⟨h0, h1, h2⟩, hQ⟩
def S__law_reach : Sd := SpE (α := Bn × Nat) (fun ⟨b, k⟩ => [eB b]) (fun ⟨b, k⟩ => BnB k b ∧ k ≤ 900) (fun ⟨b, k⟩ => .int b.r)
theorem m__law_reach : MonoP S__law_reach := m_SpE
theorem u__law_reach {b : Bn} {k : Nat} {Q : PyData → Prop} (h0 : BnB k b) (h1 : k ≤ 900) (hQ : Q (.int b.r)) : S__law_reach [eB b] Q := ⟨(b, k), rfl, ⟨h0, h1⟩, hQ⟩
def S__law_lag : Sd := SpE (α := Bn × Nat) (fun ⟨b, k⟩ => [eB b]) (fun ⟨b, k⟩ => BnB k b ∧ k ≤ 900) (fun ⟨b, k⟩ => .int b.lag)
theorem m__law_lag : MonoP S__law_lag := m_SpE
theorem u__law_lag {b : Bn} {k : Nat} {Q : PyData → Prop} (h0 : BnB k b) (h1 : k ≤ 900) (hQ : Q (.int b.lag)) : S__law_lag [eB b] Q := ⟨(b, k), rfl, ⟨h0, h1⟩, hQ⟩
def S__law_rows : Sd := SpR (α := Bool × (List Lmp) × Int) (fun ⟨c, ls, sp⟩ => [seqP c ls, .int sp]) (fun ⟨c, ls, sp⟩ => UpL (lxs ls) ∧ 1 ≤ sp ∧ sp ≤ 1000 ∧ ls.length ≤ 999) (fun ⟨c, ls, sp⟩ z => ∃ rs : List Int, LeastR (lxs ls) sp rs ∧ rs.length = ls.length ∧ (∀ r ∈ rs, 0 ≤ r ∧ r ≤ 1000) ∧ z = .list (rs.map .int))
theorem m__law_rows : MonoP S__law_rows := m_SpR
theorem u__law_rows {c : Bool} {ls : List Lmp} {sp : Int} {Q : PyData → Prop} (h0 : UpL (lxs ls)) (h1 : 1 ≤ sp) (h2 : sp ≤ 1000) (h3 : ls.length ≤ 999) (hQ : ∀ z, (∃ rs : List Int, LeastR (lxs ls) sp rs ∧ rs.length = ls.length ∧ (∀ r ∈ rs, 0 ≤ r ∧ r ≤ 1000) ∧ z = .list (rs.map .int)) → Q z) : S__law_rows [seqP c ls, .int sp] Q := ⟨(c, ls, sp), rfl, ⟨h0, h1, h2, h3⟩, hQ⟩
def S_added : Sd := SpE (α := Rat × Rat × Nat × Nat) (fun ⟨p, q, j, k⟩ => [fr p, fr q]) (fun ⟨p, q, j, k⟩ => Sz j p ∧ Sz k q ∧ j + k ≤ 9000) (fun ⟨p, q, j, k⟩ => fr (p + q))
theorem m_added : MonoP S_added := m_SpE
theorem u_added {p : Rat} {q : Rat} {j : Nat} {k : Nat} {Q : PyData → Prop} (h0 : Sz j p) (h1 : Sz k q) (h2 : j + k ≤ 9000) (hQ : Q (fr (p + q))) : S_added [fr p, fr q] Q := ⟨(p, q, j, k), rfl, ⟨h0, h1, h2⟩, hQ⟩
def S_least_of : Sd := SpE (α := Rat × (List Rat) × Nat) (fun ⟨p, ps, k⟩ => [.list ((p :: ps).map fr)]) (fun ⟨p, ps, k⟩ => (∀ q ∈ p :: ps, Sz k q) ∧ k ≤ 400000) (fun ⟨p, ps, k⟩ => fr (lesL (p :: ps)))
theorem m_least_of : MonoP S_least_of := m_SpE
theorem u_least_of {p : Rat} {ps : List Rat} {k : Nat} {Q : PyData → Prop} (h0 : (∀ q ∈ p :: ps, Sz k q)) (h1 : k ≤ 400000) (hQ : Q (fr (lesL (p :: ps)))) : S_least_of [.list ((p :: ps).map fr)] Q := ⟨(p, ps, k), rfl, ⟨h0, h1⟩, hQ⟩
def S_hold_needed : Sd := SpE (α := Bn × Nat) (fun ⟨b, k⟩ => [eB b]) (fun ⟨b, k⟩ => BnB k b ∧ k ≤ 900 ∧ Bd 900 b.sil) (fun ⟨b, k⟩ => .int b.need)
theorem m_hold_needed : MonoP S_hold_needed := m_SpE
theorem u_hold_needed {b : Bn} {k : Nat} {Q : PyData → Prop} (h0 : BnB k b) (h1 : k ≤ 900) (h2 : Bd 900 b.sil) (hQ : Q (.int b.need)) : S_hold_needed [eB b] Q := ⟨(b, k), rfl, ⟨h0, h1, h2⟩, hQ⟩
abbrev S__law_some : Sb := S_some
theorem m__law_some : MonoB S__law_some := m_some
def S__law_added : Sd := SpE (α := Rat × Rat × Nat × Nat) (fun ⟨p, q, j, k⟩ => [fr p, fr q]) (fun ⟨p, q, j, k⟩ => Sz j p ∧ Sz k q ∧ j + k ≤ 9000) (fun ⟨p, q, j, k⟩ => fr (p + q))
theorem m__law_added : MonoP S__law_added := m_SpE
theorem u__law_added {p : Rat} {q : Rat} {j : Nat} {k : Nat} {Q : PyData → Prop} (h0 : Sz j p) (h1 : Sz k q) (h2 : j + k ≤ 9000) (hQ : Q (fr (p + q))) : S__law_added [fr p, fr q] Q := ⟨(p, q, j, k), rfl, ⟨h0, h1, h2⟩, hQ⟩
def S__law_is_enough : Sd := SpE (α := Bn × Int × Nat) (fun ⟨b, t, k⟩ => [eB b, .int t]) (fun ⟨b, t, k⟩ => BnB k b ∧ Bd k t ∧ k ≤ 100 ∧ 1 ≤ t ∧ 1 ≤ b.r ∧ 0 ≤ b.sp ∧ b.sp ≤ b.way) (fun ⟨b, t, k⟩ => .bool (decide (enough b t)))
theorem m__law_is_enough : MonoP S__law_is_enough := m_SpE
theorem u__law_is_enough {b : Bn} {t : Int} {k : Nat} {Q : PyData → Prop} (h0 : BnB k b) (h1 : Bd k t) (h2 : k ≤ 100) (h3 : 1 ≤ t) (h4 : 1 ≤ b.r) (h5 : 0 ≤ b.sp) (h6 : b.sp ≤ b.way) (hQ : Q (.bool (decide (enough b t)))) : S__law_is_enough [eB b, .int t] Q := ⟨(b, t, k), rfl, ⟨h0, h1, h2, h3, h4, h5, h6⟩, hQ⟩
def S__law_needed : Sd := SpE (α := Bn × Nat) (fun ⟨b, k⟩ => [eB b]) (fun ⟨b, k⟩ => BnB k b ∧ k ≤ 900 ∧ Bd 900 b.sil) (fun ⟨b, k⟩ => .int b.need)
theorem m__law_needed : MonoP S__law_needed := m_SpE
theorem u__law_needed {b : Bn} {k : Nat} {Q : PyData → Prop} (h0 : BnB k b) (h1 : k ≤ 900) (h2 : Bd 900 b.sil) (hQ : Q (.int b.need)) : S__law_needed [eB b] Q := ⟨(b, k), rfl, ⟨h0, h1, h2⟩, hQ⟩
def S_timeline : Sd := SpE (α := Shw) (fun w => [eW w]) (fun w => ShwB w) (fun w => .tuple (tmF w.b.need w.sc w.sc.length))
theorem m_timeline : MonoP S_timeline := m_SpE
theorem u_timeline {w : Shw} {Q : PyData → Prop} (h0 : ShwB w) (hQ : Q (.tuple (tmF w.b.need w.sc w.sc.length))) : S_timeline [eW w] Q := ⟨(w), rfl, h0, hQ⟩
def S__law_first_enough : Sd := SpR (α := Bn × Int) (fun ⟨b, n⟩ => [eB b, .int n]) (fun ⟨b, n⟩ => BnOk b ∧ 30 ≤ n ∧ n ≤ 1000000000000) (fun ⟨b, n⟩ z => (z = .none ∧ ¬ enough b n) ∨ (∃ t : Int, z = .int t ∧ 1 ≤ t ∧ b.lag ≤ t ∧ t ≤ n ∧ enough b t ∧ ∀ u, 1 ≤ u → b.lag ≤ u → u < t → ¬ enough b u))
theorem m__law_first_enough : MonoP S__law_first_enough := m_SpR
theorem u__law_first_enough {b : Bn} {n : Int} {Q : PyData → Prop} (h0 : BnOk b) (h1 : 30 ≤ n) (h2 : n ≤ 1000000000000) (hQ : ∀ z, ((z = .none ∧ ¬ enough b n) ∨ (∃ t : Int, z = .int t ∧ 1 ≤ t ∧ b.lag ≤ t ∧ t ≤ n ∧ enough b t ∧ ∀ u, 1 ≤ u → b.lag ≤ u → u < t → ¬ enough b u)) → Q z) : S__law_first_enough [eB b, .int n] Q := ⟨(b, n), rfl, ⟨h0, h1, h2⟩, hQ⟩
def S__law_times : Sd := SpE (α := Shw) (fun w => [eW w]) (fun w => ShwB w) (fun w => .list (tmF w.b.need w.sc w.sc.length))
theorem m__law_times : MonoP S__law_times := m_SpE
theorem u__law_times {w : Shw} {Q : PyData → Prop} (h0 : ShwB w) (hQ : Q (.list (tmF w.b.need w.sc w.sc.length))) : S__law_times [eW w] Q := ⟨(w), rfl, h0, hQ⟩
def S__law_picture : Sb := SpB (α := Int × Int × Int) 100 (fun ⟨sp, dp, mo⟩ => [.int sp, .int dp, .int mo]) (fun ⟨sp, dp, mo⟩ => 1 ≤ sp ∧ sp ≤ 20 ∧ 1 ≤ dp ∧ dp ≤ 10 ∧ 0 ≤ mo ∧ mo ≤ 8) (fun ⟨sp, dp, mo⟩ z => ∃ (ls : List Lmp) (rs : List Int), z = eP ls ∧ PicL ls ∧ ls.length ≤ mo.toNat ∧ (∀ l ∈ ls, LmB l ∧ 0 ≤ l.x ∧ l.x ≤ 3 * sp) ∧ LeastR (lxs ls) sp rs ∧ rs.length = ls.length ∧ ∀ r ∈ rs, 0 ≤ r ∧ r < dp)
theorem m__law_picture : MonoB S__law_picture := m_SpB
theorem u__law_picture {sp : Int} {dp : Int} {mo : Int} {m : Nat} {bag : List PyData} {Q : PyData → List PyData → Prop} (hb : Bag m bag) (hm : m + 100 < 2 ^ 60) (h0 : 1 ≤ sp) (h1 : sp ≤ 20) (h2 : 1 ≤ dp) (h3 : dp ≤ 10) (h4 : 0 ≤ mo) (h5 : mo ≤ 8) (hQ : ∀ z bag', (∃ (ls : List Lmp) (rs : List Int), z = eP ls ∧ PicL ls ∧ ls.length ≤ mo.toNat ∧ (∀ l ∈ ls, LmB l ∧ 0 ≤ l.x ∧ l.x ≤ 3 * sp) ∧ LeastR (lxs ls) sp rs ∧ rs.length = ls.length ∧ ∀ r ∈ rs, 0 ≤ r ∧ r < dp) → Bag (m + 100) bag' → Q z bag') : S__law_picture bag [.int sp, .int dp, .int mo] Q := ⟨(sp, dp, mo), m, hb, hm, rfl, ⟨h0, h1, h2, h3, h4, h5⟩, hQ⟩
def S__law_show_bounds : Sb := SpB (α := Unit) 20 (fun _ => []) (fun _ => True) (fun _ z => ∃ b : Bn, z = eB b ∧ BnOk b ∧ 4 ≤ b.sp ∧ b.sp ≤ 20 ∧ b.deep ≤ 3 ∧ b.wind ≤ 1)
theorem m__law_show_bounds : MonoB S__law_show_bounds := m_SpB
theorem u__law_show_bounds  {m : Nat} {bag : List PyData} {Q : PyData → List PyData → Prop} (hb : Bag m bag) (hm : m + 20 < 2 ^ 60)  (hQ : ∀ z bag', (∃ b : Bn, z = eB b ∧ BnOk b ∧ 4 ≤ b.sp ∧ b.sp ≤ 20 ∧ b.deep ≤ 3 ∧ b.wind ≤ 1) → Bag (m + 20) bag' → Q z bag') : S__law_show_bounds bag [] Q := ⟨(), m, hb, hm, rfl, trivial, hQ⟩
def S__law_show_of : Sb := SpB (α := Bool × Bn × (List P2) × (List Scn) × Int) 3 (fun ⟨c, b, ps, sc, mr⟩ => [eB b, seqD c (ps.map enc2), seqD c (sc.map eSc), .int mr]) (fun ⟨c, b, ps, sc, mr⟩ => sc.length ≤ 4 ∧ (∀ s ∈ sc, 0 ≤ s.tk ∧ s.tk ≤ 20000 ∧ 0 ≤ s.hd ∧ s.hd ≤ 1000) ∧ 0 ≤ mr ∧ mr ≤ 10) (fun ⟨c, b, ps, sc, mr⟩ z => ∃ w : Shw, z = eW w ∧ w.b = b ∧ w.pads = ps ∧ w.sc = sc ∧ 0 ≤ w.full ∧ w.full ≤ 1000000 ∧ 0 ≤ w.hold ∧ w.hold ≤ 2 ∧ 1 ≤ w.fly ∧ w.fly ≤ 3 ∧ w.full = chN w + mr)
theorem m__law_show_of : MonoB S__law_show_of := m_SpB
theorem u__law_show_of {c : Bool} {b : Bn} {ps : List P2} {sc : List Scn} {mr : Int} {m : Nat} {bag : List PyData} {Q : PyData → List PyData → Prop} (hb : Bag m bag) (hm : m + 3 < 2 ^ 60) (h0 : sc.length ≤ 4) (h1 : (∀ s ∈ sc, 0 ≤ s.tk ∧ s.tk ≤ 20000 ∧ 0 ≤ s.hd ∧ s.hd ≤ 1000)) (h2 : 0 ≤ mr) (h3 : mr ≤ 10) (hQ : ∀ z bag', (∃ w : Shw, z = eW w ∧ w.b = b ∧ w.pads = ps ∧ w.sc = sc ∧ 0 ≤ w.full ∧ w.full ≤ 1000000 ∧ 0 ≤ w.hold ∧ w.hold ≤ 2 ∧ 1 ≤ w.fly ∧ w.fly ≤ 3 ∧ w.full = chN w + mr) → Bag (m + 3) bag' → Q z bag') : S__law_show_of bag [eB b, seqD c (ps.map enc2), seqD c (sc.map eSc), .int mr] Q := ⟨(c, b, ps, sc, mr), m, hb, hm, rfl, ⟨h0, h1, h2, h3⟩, hQ⟩
def S__law_part : Sb := SpB (α := Int) 2 (fun c => [.int c]) (fun c => 0 ≤ c ∧ c ≤ 100) (fun c z => ∃ q : Rat, z = fr q ∧ Sz 12 q)
theorem m__law_part : MonoB S__law_part := m_SpB
theorem u__law_part {c : Int} {m : Nat} {bag : List PyData} {Q : PyData → List PyData → Prop} (hb : Bag m bag) (hm : m + 2 < 2 ^ 60) (h0 : 0 ≤ c) (h1 : c ≤ 100) (hQ : ∀ z bag', (∃ q : Rat, z = fr q ∧ Sz 12 q) → Bag (m + 2) bag' → Q z bag') : S__law_part bag [.int c] Q := ⟨(c), m, hb, hm, rfl, ⟨h0, h1⟩, hQ⟩
def S__law_wind : Sb := SpB (α := Int) 2 (fun c => [.int c]) (fun c => 0 ≤ c ∧ c ≤ 100) (fun c z => ∃ p : Rat × Rat, z = eWi p ∧ Sz 12 p.1 ∧ Sz 12 p.2)
theorem m__law_wind : MonoB S__law_wind := m_SpB
theorem u__law_wind {c : Int} {m : Nat} {bag : List PyData} {Q : PyData → List PyData → Prop} (hb : Bag m bag) (hm : m + 2 < 2 ^ 60) (h0 : 0 ≤ c) (h1 : c ≤ 100) (hQ : ∀ z bag', (∃ p : Rat × Rat, z = eWi p ∧ Sz 12 p.1 ∧ Sz 12 p.2) → Bag (m + 2) bag' → Q z bag') : S__law_wind bag [.int c] Q := ⟨(c), m, hb, hm, rfl, ⟨h0, h1⟩, hQ⟩
def S_fall_of : Sd := SpE (α := Shw × Ngt × Nat) (fun ⟨w, N, c⟩ => [eW w, eN N, .int (c : Int)]) (fun ⟨w, N, c⟩ => ShwB w ∧ NgtOk w N ∧ c < w.pads.length) (fun ⟨w, N, c⟩ => oR (fallQ w N c))
theorem m_fall_of : MonoP S_fall_of := m_SpE
theorem u_fall_of {w : Shw} {N : Ngt} {c : Nat} {Q : PyData → Prop} (h0 : ShwB w) (h1 : NgtOk w N) (h2 : c < w.pads.length) (hQ : Q (oR (fallQ w N c))) : S_fall_of [eW w, eN N, .int (c : Int)] Q := ⟨(w, N, c), rfl, ⟨h0, h1, h2⟩, hQ⟩
def S__law_writing : Sd := SpE (α := Shw × Nat × Scn) (fun ⟨w, i, s⟩ => [eW w, .int i]) (fun ⟨w, i, s⟩ => ShwB w ∧ w.sc[i]? = some s) (fun ⟨w, i, s⟩ => .int ((tmS w.b.need w.sc i).2 - w.b.lag - w.b.clk - w.b.sil - w.b.cuts))
theorem m__law_writing : MonoP S__law_writing := m_SpE
theorem u__law_writing {w : Shw} {i : Nat} {s : Scn} {Q : PyData → Prop} (h0 : ShwB w) (h1 : w.sc[i]? = some s) (hQ : Q (.int ((tmS w.b.need w.sc i).2 - w.b.lag - w.b.clk - w.b.sil - w.b.cuts))) : S__law_writing [eW w, .int i] Q := ⟨(w, i, s), rfl, ⟨h0, h1⟩, hQ⟩
def S__law_show : Sb := SpB (α := Int × Int) 2000 (fun ⟨mp, ms⟩ => [.int mp, .int ms]) (fun ⟨mp, ms⟩ => 1 ≤ mp ∧ mp ≤ 8 ∧ 1 ≤ ms ∧ ms ≤ 4) (fun ⟨mp, ms⟩ z => ∃ w : Shw, z = eW w ∧ ShwB w ∧ ShwL w ∧ w.pads.length ≤ mp.toNat ∧ w.sc.length ≤ ms.toNat)
theorem m__law_show : MonoB S__law_show := m_SpB
theorem u__law_show {mp : Int} {ms : Int} {m : Nat} {bag : List PyData} {Q : PyData → List PyData → Prop} (hb : Bag m bag) (hm : m + 2000 < 2 ^ 60) (h0 : 1 ≤ mp) (h1 : mp ≤ 8) (h2 : 1 ≤ ms) (h3 : ms ≤ 4) (hQ : ∀ z bag', (∃ w : Shw, z = eW w ∧ ShwB w ∧ ShwL w ∧ w.pads.length ≤ mp.toNat ∧ w.sc.length ≤ ms.toNat) → Bag (m + 2000) bag' → Q z bag') : S__law_show bag [.int mp, .int ms] Q := ⟨(mp, ms), m, hb, hm, rfl, ⟨h0, h1, h2, h3⟩, hQ⟩
def S__law_fall : Sd := SpE (α := Shw × Ngt × Nat) (fun ⟨w, N, c⟩ => [eW w, eN N, .int (c : Int)]) (fun ⟨w, N, c⟩ => ShwB w ∧ NgtOk w N ∧ c < w.pads.length) (fun ⟨w, N, c⟩ => oR (fallQ w N c))
theorem m__law_fall : MonoP S__law_fall := m_SpE
theorem u__law_fall {w : Shw} {N : Ngt} {c : Nat} {Q : PyData → Prop} (h0 : ShwB w) (h1 : NgtOk w N) (h2 : c < w.pads.length) (hQ : Q (oR (fallQ w N c))) : S__law_fall [eW w, eN N, .int (c : Int)] Q := ⟨(w, N, c), rfl, ⟨h0, h1, h2⟩, hQ⟩
def S_falls_of : Sd := SpE (α := Shw × Ngt) (fun ⟨w, N⟩ => [eW w, eN N]) (fun ⟨w, N⟩ => ShwB w ∧ NgtOk w N) (fun ⟨w, N⟩ => .list (fallsD w N))
theorem m_falls_of : MonoP S_falls_of := m_SpE
theorem u_falls_of {w : Shw} {N : Ngt} {Q : PyData → Prop} (h0 : ShwB w) (h1 : NgtOk w N) (hQ : Q (.list (fallsD w N))) : S_falls_of [eW w, eN N] Q := ⟨(w, N), rfl, ⟨h0, h1⟩, hQ⟩
def S__law_moment : Sb := SpB (α := Shw) 4 (fun w => [eW w]) (fun w => ShwB w ∧ 1 ≤ w.sc.length) (fun w z => ∃ q : Rat, z = fr q ∧ Sz 60 q)
theorem m__law_moment : MonoB S__law_moment := m_SpB
theorem u__law_moment {w : Shw} {m : Nat} {bag : List PyData} {Q : PyData → List PyData → Prop} (hb : Bag m bag) (hm : m + 4 < 2 ^ 60) (h0 : ShwB w) (h1 : 1 ≤ w.sc.length) (hQ : ∀ z bag', (∃ q : Rat, z = fr q ∧ Sz 60 q) → Bag (m + 4) bag' → Q z bag') : S__law_moment bag [eW w] Q := ⟨(w), m, hb, hm, rfl, ⟨h0, h1⟩, hQ⟩
def S_struck : Sd := SpE (α := Shw × Ngt) (fun ⟨w, N⟩ => [eW w, eN N]) (fun ⟨w, N⟩ => ShwB w ∧ NgtOk w N) (fun ⟨w, N⟩ => .tuple (struckL w N))
theorem m_struck : MonoP S_struck := m_SpE
theorem u_struck {w : Shw} {N : Ngt} {Q : PyData → Prop} (h0 : ShwB w) (h1 : NgtOk w N) (hQ : Q (.tuple (struckL w N))) : S_struck [eW w, eN N] Q := ⟨(w, N), rfl, ⟨h0, h1⟩, hQ⟩
def S__law_night : Sb := SpB (α := Shw × Int) 400 (fun ⟨w, o⟩ => [eW w, .int o]) (fun ⟨w, o⟩ => ShwB w ∧ 1 ≤ w.sc.length ∧ w.pads.length ≤ 4 ∧ 1 ≤ o ∧ o ≤ 10) (fun ⟨w, o⟩ z => ∃ N : Ngt, z = eN N ∧ NgtOk w N)
theorem m__law_night : MonoB S__law_night := m_SpB
theorem u__law_night {w : Shw} {o : Int} {m : Nat} {bag : List PyData} {Q : PyData → List PyData → Prop} (hb : Bag m bag) (hm : m + 400 < 2 ^ 60) (h0 : ShwB w) (h1 : 1 ≤ w.sc.length) (h2 : w.pads.length ≤ 4) (h3 : 1 ≤ o) (h4 : o ≤ 10) (hQ : ∀ z bag', (∃ N : Ngt, z = eN N ∧ NgtOk w N) → Bag (m + 400) bag' → Q z bag') : S__law_night bag [eW w, .int o] Q := ⟨(w, o), m, hb, hm, rfl, ⟨h0, h1, h2, h3, h4⟩, hQ⟩
def S_law : Sd := fun xs Q => ∃ ns : List Int, xs = [.list (ns.map .int)] ∧ Q (.bool true)
theorem m_law : MonoP S_law := fun xs Q Q' hq ⟨ns, h1, h2⟩ => ⟨ns, h1, hq _ h2⟩
theorem law_spec : ∀ ns : List Int, ns.length ≤ 63 → S_law [.list (ns.map .int)] fun z => z = .bool true := fun ns _ => ⟨ns, rfl, rfl⟩
local macro_rules | `(tactic| walk_at "K61Z0") => `(tactic| simp only [dSeq, dAsg, dCB, dCons, dNil, dVar, onVs, vals, val, slot, setR, fGcd, dIfS, dTV, onV2, fLt, fLe, fGt, fGe, fAdd, fSub, fMul, fDiv, fMod, fI0, dC, dUn, onV, fNeg, dNext, dRet, dTup, onD, dats, fDivZ, fI, fPow, Few, retP, fAbs, fInt, fMax, fMin, fLen, fSqrt, fEq, fNe, dNot, dAnd, dOr, dAndV, dOrV, dNotV, dIfE, dDrop, dRetN, dPar, noO, dSetL, dLst, dOfL, dOwnM, onOwn, onDat, kAppend, kInsert, dSetItem, dAddItem, onItems, onInt, dNoPart, dPart, dSlice, onL, litems, dSlL, dCat, onM, mitems, dRng1, dRng2, dCallP, dCallB, dCallF, noSelf, onArgs, dats2, dIsi, tyName, dYes, dgCons, dgNil, retB, dBreak, dCont, ne_eq, not_false_eq_true, true_and, and_true, List.getElem?_cons_zero, List.getElem?_cons_succ, List.set_cons_zero, List.set_cons_succ, Option.map, List.length_cons, List.length_nil, dParM, dmNil, dmD, dmL, setM, dLc_eq, dLc2_eq, dFor_eq, dSortSet, dSort, dListOf, dIsN, dNotN, isNo, dAug, dMulA, dgUnl, dSlT, onT, dEnum, dZip, dZipM, dRetL, dPar3, dRevT, dLstRg, dTupRg, dRg1, dRg2, dChainLe, List.nil_append, List.cons_append, if_true, if_false, dFrz, dLcO, dMin2D, dAppX, dParL, dParLL, dRepL, fMax3, dNewDic, dDicPut, dDicGet, dSortDic, onDic, onKey, dLcW, dZipX, dParR, dDead, dSortD, dSortDT, fNeS, fEqS, dgSet, dDGet, onDict_eq, onKeyD_int, onKeyD_str, dDIn, dSortDK, onDict1_eq, dDictL, dDictEn, dDictZip, onSq1_eq, onSq2_eq, onSq_t, onSq_l, onSq_o, dNewD, dDicI, dNewDik, dDikPut, onDik, dFrzD, dNew4, dIndexD, onLst_eq, dIfL, dOrT, dAndT, onTru_int, onTru_bool, onTru_none, onTru_tuple, onTru_list, dTupZip, dZip3, dFgt, fIsB, fNotB, fInA_l, fInA_t, fNotInA_l, fNotInA_t, List.map_cons, List.map_nil, fw0, fw1, fw2, fw3, fw4, fw5, fw6, fw7, fw8, fw9, fw10, fw11, fw12, fw13, fw14, fw15, dExtend, dExtendT, dLstDn, dMaxDf, dOp_ap, dIx_ap, dCatT_ap, dRepT_ap, items_l, items_t, items_o, ti_t, dgT_t, seqs_l, seqs_t, seqs_o, dSeqI_eq, wk_l, wk_t, wk_eP, wk_o, dTupOf_eq, tu_t, tu_l, tu_o, tu_eP, dTupA_eq, ta_t, ta_l, ta_o, ta_eP, items_eW, items_eB, items_eSc, items_eLm, items_eP, items_eL, items_pr, items_enc2, items_eTm, ti_eB, ti_eW, ti_eLm, ti_eP, dgT_eSc, dgT_eLm, dgT_eL, dgT_pr, dgT_enc2, dgT_eW, dgT_eTm, seqs_eP, on0, on1, on2, on3, on4, on5, on6, on7, on8])
local macro_rules | `(tactic| walk_at "K61Z1") => `(tactic| simp only [dSeq, dAsg, dCB, dCons, dNil, dVar, onVs, vals, val, slot, setR, fGcd, dIfS, dTV, dOp, dBin, onV2, fLt, fLe, fGt, fGe, fAdd, fSub, fMul, fDiv, fMod, fI0, dC, dUn, onV, fNeg, dNext, dRet, dTup, onD, dats, fDivZ, fI, fPow, Few, retP, fAbs, fInt, fMax, fMin, fLen, fSqrt, fEq, fNe, dNot, dAnd, dOr, dAndV, dOrV, dNotV, dIfE, dDrop, dRetN, dPar, noO, dSetL, dLst, dOfL, dOwnM, onOwn, onDat, kAppend, kInsert, dSetItem, dAddItem, dIx, onItems, items, onInt, dNoPart, dPart, dSlice, onL, litems, dSlL, dCat, onM, mitems, dTupOf, dSeqI, dRng1, dRng2, dCallP, dCallB, dCallF, noSelf, onArgs, dats2, dIsi, tyName, dYes, dgTup, dgCons, dgNil, retB, dBreak, dCont, ne_eq, not_false_eq_true, true_and, and_true, List.getElem?_cons_zero, List.getElem?_cons_succ, List.set_cons_zero, List.set_cons_succ, Option.map, List.length_cons, List.length_nil, dParM, dmNil, dmD, dmL, setM, dLc_eq, dLc2_eq, dFor_eq, dSortSet, dSort, dListOf, dIsN, dNotN, isNo, dAug, dMulA, dgUnl, dCatT, dSlT, onT, titems, dEnum, dZip, dZipM, seqs, dRetL, dPar3, dRevT, dLstRg, dTupRg, dRg1, dRg2, dChainLe, List.nil_append, List.cons_append, if_true, if_false, dFrz, dLcO, dMin2D, dAppX, dParL, dParLL, dRepL, fMax3, dNewDic, dDicPut, dDicGet, dSortDic, onDic, onKey, dLcW, dZipX, dParR, dDead, dSortD, dSortDT, fNeS, fEqS, dgSet, dDGet, onDict_eq, onKeyD_int, onKeyD_str, dDIn, dSortDK, onDict1_eq, dDictL, dDictEn, dDictZip, onSq1_eq, onSq2_eq, onSq_t, onSq_l, onSq_o, dNewD, dDicI, dNewDik, dDikPut, onDik, dFrzD, dNew4, dIndexD, onLst_eq, dIfL, dOrT, dAndT, onTru_int, onTru_bool, onTru_none, onTru_tuple, onTru_list, dTupA, tupA, dTupZip, dZip3, dFgt, fIsB, fNotB, fInA_l, fInA_t, fNotInA_l, fNotInA_t, List.map_cons, List.map_nil, fw0, fw1, fw2, fw3, fw4, fw5, fw6, fw7, fw8, fw9, fw10, fw11, fw12, fw13, fw14, fw15])
local macro_rules | `(tactic| walk_at "K61Z2") => `(tactic| simp only [dSeq, dAsg, dCB, dCons, dNil, dVar, onVs, vals, val, slot, setR, fGcd, dIfS, dTV, onV2, fLt, fLe, fGt, fGe, fAdd, fSub, fMul, fDiv, fMod, fI0, dC, dUn, onV, fNeg, dNext, dRet, dTup, onD, dats, fDivZ, fI, fPow, Few, retP, fAbs, fInt, fMax, fMin, fLen, fSqrt, fEq, fNe, dNot, dAnd, dOr, dAndV, dOrV, dNotV, dIfE, dDrop, dRetN, dPar, noO, dSetL, dLst, dOfL, dOwnM, onOwn, onDat, kAppend, kInsert, dSetItem, dAddItem, onItems, onInt, dNoPart, dPart, dSlice, onL, litems, dSlL, dCat, onM, mitems, dRng1, dRng2, dCallP, dCallB, dCallF, noSelf, onArgs, dats2, dIsi, tyName, dYes, dgCons, dgNil, retB, dBreak, dCont, ne_eq, not_false_eq_true, true_and, and_true, List.getElem?_cons_zero, List.getElem?_cons_succ, List.set_cons_zero, List.set_cons_succ, Option.map, List.length_cons, List.length_nil, dParM, dmNil, dmD, dmL, setM, dLc_eq, dLc2_eq, dFor_eq, dSortSet, dSort, dListOf, dIsN, dNotN, isNo, dAug, dMulA, dgUnl, dSlT, onT, dEnum, dZip, dZipM, dRetL, dPar3, dRevT, dLstRg, dTupRg, dRg1, dRg2, dChainLe, List.nil_append, List.cons_append, if_true, if_false, dFrz, dLcO, dMin2D, dAppX, dParL, dParLL, dRepL, fMax3, dNewDic, dDicPut, dDicGet, dSortDic, onDic, onKey, dLcW, dZipX, dParR, dDead, dSortD, dSortDT, fNeS, fEqS, dgSet, dDGet, onDict_eq, onKeyD_int, onKeyD_str, dDIn, dSortDK, onDict1_eq, dDictL, dDictEn, dDictZip, onSq1_eq, onSq2_eq, onSq_t, onSq_l, onSq_o, dNewD, dDicI, dNewDik, dDikPut, onDik, dFrzD, dNew4, dIndexD, onLst_eq, dIfL, dOrT, dAndT, onTru_int, onTru_bool, onTru_none, onTru_tuple, onTru_list, dTupZip, dZip3, dFgt, fIsB, fNotB, fInA_l, fInA_t, fNotInA_l, fNotInA_t, List.map_cons, List.map_nil, fw0, fw1, fw2, fw3, fw4, fw5, fw6, fw7, fw8, fw9, fw10, fw11, fw12, fw13, fw14, fw15, dExtend, dExtendT, dLstDn, dMaxDf, dOp_ap, dIx_ap, dCatT_ap, dRepT_ap, items_l, items_t, items_o, ti_t, dgT_t, seqs_l, seqs_t, seqs_o, dSeqI_eq, wk_l, wk_t, wk_eP, wk_o, dTupOf_eq, tu_t, tu_l, tu_o, tu_eP, dTupA_eq, ta_t, ta_l, ta_o, ta_eP, items_eW, items_eB, items_eSc, items_eLm, items_eP, items_eL, items_pr, items_enc2, items_eTm, ti_eB, ti_eW, ti_eLm, ti_eP, dgT_eSc, dgT_eLm, dgT_eL, dgT_pr, dgT_enc2, dgT_eW, dgT_eTm, seqs_eP, on0, on1, on2, on3, on4, on5, on6, on7, on8, wipeR])
local macro_rules | `(tactic| walk_at "K61Z3") => `(tactic| simp only [dSeq, dAsg, dCB, dCons, dNil, dVar, onVs, vals, val, slot, setR, fGcd, dIfS, dTV, dOp, dBin, onV2, fLt, fLe, fGt, fGe, fAdd, fSub, fMul, fDiv, fMod, fI0, dC, dUn, onV, fNeg, dNext, dRet, dTup, onD, dats, fDivZ, fI, fPow, Few, retP, fAbs, fInt, fMax, fMin, fLen, fSqrt, fEq, fNe, dNot, dAnd, dOr, dAndV, dOrV, dNotV, dIfE, dDrop, dRetN, dPar, noO, dSetL, dLst, dOfL, dOwnM, onOwn, onDat, kAppend, kInsert, dSetItem, dAddItem, dIx, onItems, items, onInt, dNoPart, dPart, dSlice, onL, litems, dSlL, dCat, onM, mitems, dTupOf, dSeqI, dRng1, dRng2, dCallP, dCallB, dCallF, noSelf, onArgs, dats2, dIsi, tyName, dYes, dgTup, dgCons, dgNil, retB, dBreak, dCont, ne_eq, not_false_eq_true, true_and, and_true, List.getElem?_cons_zero, List.getElem?_cons_succ, List.set_cons_zero, List.set_cons_succ, Option.map, List.length_cons, List.length_nil, dParM, dmNil, dmD, dmL, setM, dLc_eq, dLc2_eq, dFor_eq, dSortSet, dSort, dListOf, dIsN, dNotN, isNo, dAug, dMulA, dgUnl, dCatT, dSlT, onT, titems, dEnum, dZip, dZipM, seqs, dRetL, dPar3, dRevT, dLstRg, dTupRg, dRg1, dRg2, dChainLe, List.nil_append, List.cons_append, if_true, if_false, dFrz, dLcO, dMin2D, dAppX, dParL, dParLL, dRepL, fMax3, dNewDic, dDicPut, dDicGet, dSortDic, onDic, onKey, dLcW, dZipX, dParR, dDead, dSortD, dSortDT, fNeS, fEqS, dgSet, dDGet, onDict_eq, onKeyD_int, onKeyD_str, dDIn, dSortDK, onDict1_eq, dDictL, dDictEn, dDictZip, onSq1_eq, onSq2_eq, onSq_t, onSq_l, onSq_o, dNewD, dDicI, dNewDik, dDikPut, onDik, dFrzD, dNew4, dIndexD, onLst_eq, dIfL, dOrT, dAndT, onTru_int, onTru_bool, onTru_none, onTru_tuple, onTru_list, dTupA, tupA, dTupZip, dZip3, dFgt, fIsB, fNotB, fInA_l, fInA_t, fNotInA_l, fNotInA_t, List.map_cons, List.map_nil, fw0, fw1, fw2, fw3, fw4, fw5, fw6, fw7, fw8, fw9, fw10, fw11, fw12, fw13, fw14, fw15, fr, on0, on1])
local macro_rules | `(tactic| walk_at "K61Z4") => `(tactic| simp only [dSeq, dAsg, dCB, dCons, dNil, dVar, onVs, vals, val, slot, setR, fGcd, dIfS, dTV, onV2, fLt, fLe, fGt, fGe, fAdd, fSub, fMul, fDiv, fMod, fI0, dC, dUn, onV, fNeg, dNext, dRet, dTup, onD, dats, fDivZ, fI, fPow, Few, retP, fAbs, fInt, fMax, fMin, fLen, fSqrt, fEq, fNe, dNot, dAnd, dOr, dAndV, dOrV, dNotV, dIfE, dDrop, dRetN, dPar, noO, dSetL, dLst, dOfL, dOwnM, onOwn, onDat, kAppend, kInsert, dSetItem, dAddItem, onItems, onInt, dNoPart, dPart, dSlice, onL, litems, dSlL, dCat, onM, mitems, dRng1, dRng2, dCallP, dCallB, dCallF, noSelf, onArgs, dats2, dIsi, tyName, dYes, dgCons, dgNil, retB, dBreak, dCont, ne_eq, not_false_eq_true, true_and, and_true, List.getElem?_cons_zero, List.getElem?_cons_succ, List.set_cons_zero, List.set_cons_succ, Option.map, List.length_cons, List.length_nil, dParM, dmNil, dmD, dmL, setM, dLc_eq, dLc2_eq, dFor_eq, dSortSet, dSort, dListOf, dIsN, dNotN, isNo, dAug, dMulA, dgUnl, dSlT, onT, dEnum, dZip, dZipM, dRetL, dPar3, dRevT, dLstRg, dTupRg, dRg1, dRg2, dChainLe, List.nil_append, List.cons_append, if_true, if_false, dFrz, dLcO, dMin2D, dAppX, dParL, dParLL, dRepL, fMax3, dNewDic, dDicPut, dDicGet, dSortDic, onDic, onKey, dLcW, dZipX, dParR, dDead, dSortD, dSortDT, fNeS, fEqS, dgSet, dDGet, onDict_eq, onKeyD_int, onKeyD_str, dDIn, dSortDK, onDict1_eq, dDictL, dDictEn, dDictZip, onSq1_eq, onSq2_eq, onSq_t, onSq_l, onSq_o, dNewD, dDicI, dNewDik, dDikPut, onDik, dFrzD, dNew4, dIndexD, onLst_eq, dIfL, dOrT, dAndT, onTru_int, onTru_bool, onTru_none, onTru_tuple, onTru_list, dTupZip, dZip3, dFgt, fIsB, fNotB, fInA_l, fInA_t, fNotInA_l, fNotInA_t, List.map_cons, List.map_nil, fw0, fw1, fw2, fw3, fw4, fw5, fw6, fw7, fw8, fw9, fw10, fw11, fw12, fw13, fw14, fw15, dExtend, dExtendT, dLstDn, dMaxDf, dOp_ap, dIx_ap, dCatT_ap, dRepT_ap, items_l, items_t, items_o, ti_t, dgT_t, seqs_l, seqs_t, seqs_o, dSeqI_eq, wk_l, wk_t, wk_eP, wk_o, dTupOf_eq, tu_t, tu_l, tu_o, tu_eP, dTupA_eq, ta_t, ta_l, ta_o, ta_eP, items_eW, items_eB, items_eSc, items_eLm, items_eP, items_eL, items_pr, items_enc2, items_eTm, ti_eB, ti_eW, ti_eLm, ti_eP, dgT_eSc, dgT_eLm, dgT_eL, dgT_pr, dgT_enc2, dgT_eW, dgT_eTm, seqs_eP, on0, on1, on2, on3, on4, on5, on6, on7, on8, on3])
local macro_rules | `(tactic| walk_at "K61Z5") => `(tactic| simp only [dSeq, dAsg, dCB, dCons, dNil, dVar, onVs, vals, val, slot, setR, fGcd, dIfS, dTV, onV2, fLt, fLe, fGt, fGe, fAdd, fSub, fMul, fDiv, fMod, fI0, dC, dUn, onV, fNeg, dNext, dRet, dTup, onD, dats, fDivZ, fI, fPow, Few, retP, fAbs, fInt, fMax, fMin, fLen, fSqrt, fEq, fNe, dNot, dAnd, dOr, dAndV, dOrV, dNotV, dIfE, dDrop, dRetN, dPar, noO, dSetL, dLst, dOfL, dOwnM, onOwn, onDat, kAppend, kInsert, dSetItem, dAddItem, onItems, onInt, dNoPart, dPart, dSlice, onL, litems, dSlL, dCat, onM, mitems, dRng1, dRng2, dCallP, dCallB, dCallF, noSelf, onArgs, dats2, dIsi, tyName, dYes, dgCons, dgNil, retB, dBreak, dCont, ne_eq, not_false_eq_true, true_and, and_true, List.getElem?_cons_zero, List.getElem?_cons_succ, List.set_cons_zero, List.set_cons_succ, Option.map, List.length_cons, List.length_nil, dParM, dmNil, dmD, dmL, setM, dLc_eq, dLc2_eq, dFor_eq, dSortSet, dSort, dListOf, dIsN, dNotN, isNo, dAug, dMulA, dgUnl, dSlT, onT, dEnum, dZip, dZipM, dRetL, dPar3, dRevT, dLstRg, dTupRg, dRg1, dRg2, dChainLe, List.nil_append, List.cons_append, if_true, if_false, dFrz, dLcO, dMin2D, dAppX, dParL, dParLL, dRepL, fMax3, dNewDic, dDicPut, dDicGet, dSortDic, onDic, onKey, dLcW, dZipX, dParR, dDead, dSortD, dSortDT, fNeS, fEqS, dgSet, dDGet, onDict_eq, onKeyD_int, onKeyD_str, dDIn, dSortDK, onDict1_eq, dDictL, dDictEn, dDictZip, onSq1_eq, onSq2_eq, onSq_t, onSq_l, onSq_o, dNewD, dDicI, dNewDik, dDikPut, onDik, dFrzD, dNew4, dIndexD, onLst_eq, dIfL, dOrT, dAndT, onTru_int, onTru_bool, onTru_none, onTru_tuple, onTru_list, dTupZip, dZip3, dFgt, fIsB, fNotB, fInA_l, fInA_t, fNotInA_l, fNotInA_t, List.map_cons, List.map_nil, fw0, fw1, fw2, fw3, fw4, fw5, fw6, fw7, fw8, fw9, fw10, fw11, fw12, fw13, fw14, fw15, dExtend, dExtendT, dLstDn, dMaxDf, dOp_ap, dIx_ap, dCatT_ap, dRepT_ap, items_l, items_t, items_o, ti_t, dgT_t, seqs_l, seqs_t, seqs_o, dSeqI_eq, wk_l, wk_t, wk_eP, wk_o, dTupOf_eq, tu_t, tu_l, tu_o, tu_eP, dTupA_eq, ta_t, ta_l, ta_o, ta_eP, items_eW, items_eB, items_eSc, items_eLm, items_eP, items_eL, items_pr, items_enc2, items_eTm, ti_eB, ti_eW, ti_eLm, ti_eP, dgT_eSc, dgT_eLm, dgT_eL, dgT_pr, dgT_enc2, dgT_eW, dgT_eTm, seqs_eP, on0, on1, on2, on3, on4, on5, on6, on7, on8, Bool.not_true, Bool.false_eq_true, if_false])
section
variable {P : Program} {w : World} {K : PySem.W.Frag} {mg : Str → Option Value} {base : Heap} {TT : List (Addr × Str)}
set_option maxHeartbeats 4000000 in
theorem ok_reduced {f : Addr} {fd : FuncData} (W : Fun K "reduced" "reduced" s_reduced f fd) (T : Bi mg) :
    FnG P w K mg base CX0 1 f fd ["n", "d"] (spP K TT [.d, .d] S_reduced) := by
  refine fnP W sc_reduced rfl fun cdv A out s H E Nn hr hgd => ⟨_, _, (dss_cons (ds_set (i := 2) sc_reduced.nd (pd_callM cr_gcd sc_gcd rfl T.i_gcd (pda_cons (pdv 0) (pda_cons (pdv 1) pda_nil))) fixP)
      (dss_cons (ds_if (pt_lt (pdv 1) pd_int) (dss_one (ds_set (i := 2) sc_reduced.nd (pd_neg (pdv 2)) fixP)) dss_nil)
      (dss_one (ds_ret (pd_tup (pda_cons (pd_divZ (pdv 0) (pdv 2)) (pda_cons (pd_divZ (pdv 1) (pdv 2)) pda_nil))))))), ?_⟩
  clear W T hr hgd
  rintro xs Q hl ⟨⟨n, d⟩, rfl, ⟨h0, h1⟩, hQ⟩
  clear hl
  replace hQ : Q (fr (n /. d)) := hQ
  have e : rhoP nm_reduced.length [.d, .d] [.int n, .int d] = [some (.d (.int n)), some (.d (.int d)), none] := rfl
  rw [e]
  clear e
  walk_at "K61Z1"
  have hg := red_num (n := n) (d := d) h0 rfl
  by_cases hd : d < 0
  · rw [if_pos hd] at hg
    refine ite_t hd ⟨cdz hg.2.2.1 (k := 9000) (Nat.lt_of_le_of_lt hg.2.2.2 h1), cdz hg.2.2.1 (k := 9000) (Nat.lt_of_le_of_lt hg.2.2.2 h1), ?_⟩
    rw [hg.1, hg.2.1]; exact hQ
  · rw [if_neg hd] at hg
    refine ite_f hd ⟨cdz hg.2.2.1 (k := 9000) (Nat.lt_of_le_of_lt hg.2.2.2 h1), cdz hg.2.2.1 (k := 9000) (Nat.lt_of_le_of_lt hg.2.2.2 h1), ?_⟩
    rw [hg.1, hg.2.1]; exact hQ
set_option maxHeartbeats 4000000 in
theorem ok_compared {f : Addr} {fd : FuncData} (W : Fun K "compared" "compared" s_compared f fd) (T : Bi mg) :
    FnG P w K mg base CX0 1 f fd ["one", "other"] (spP K TT [.d, .d] S_compared) := by
  refine fnP W sc_compared rfl fun cdv A out s H E Nn hr hgd => ⟨_, _, (dss_cons (ds_par (i := 2) (j := 3) rfl sc_compared.nd (pda_cons (pd_mul (pd_ix (pdv 0) pd_int (fun _ _ => rfl)) (pd_ix (pdv 1) pd_int (fun _ _ => rfl))) (pda_cons (pd_mul (pd_ix (pdv 1) pd_int (fun _ _ => rfl)) (pd_ix (pdv 0) pd_int (fun _ _ => rfl))) pda_nil)) fixP fixP)
      (dss_cons (ds_if (pt_lt (pdv 2) (pdv 3)) (dss_one (ds_ret (pd_neg pd_int))) dss_nil)
      (dss_cons (ds_if (pt_gt (pdv 2) (pdv 3)) (dss_one (ds_ret pd_int)) dss_nil)
      (dss_one (ds_ret pd_int))))), ?_⟩
  clear W T hr hgd
  rintro xs Q hl ⟨⟨p, r, j, k⟩, rfl, ⟨h0, h1, h2⟩, hQ⟩
  clear hl
  replace hQ : Q (.int (cmpR p r)) := hQ
  have e : rhoP nm_compared.length [.d, .d] [fr p, fr r] = [some (.d (fr p)), some (.d (fr r)), none, none] := rfl
  rw [e]
  clear e
  walk_at "K61Z3"
  refine ⟨cmb h0.n h1.d (by omega), cmb h1.n h0.d (by omega), ?_⟩
  unfold cmpR at hQ
  by_cases h : p < r
  · rw [if_pos h] at hQ
    exact ite_t (lt_fr.mpr h) hQ
  · rw [if_neg h] at hQ
    refine ite_f (fun z => h (lt_fr.mp z)) ?_
    by_cases h' : r < p
    · rw [if_pos h'] at hQ
      exact ite_t (lt_fr.mpr h') hQ
    · rw [if_neg h'] at hQ
      exact ite_f (fun z => h' (lt_fr.mp z)) hQ
set_option maxHeartbeats 4000000 in
theorem ok_lag_of {f : Addr} {fd : FuncData} (W : Fun K "lag_of" "lag_of" s_lag_of f fd) (T : Bi mg) :
    FnG P w K mg base CX0 1 f fd ["bounds"] (spP K TT [.d] S_lag_of) := by
  refine fnP W sc_lag_of rfl fun cdv A out s H E Nn hr hgd => ⟨_, _, (dss_one (ds_ret (pd_add (pd_ix (pdv 0) pd_int (fun _ _ => rfl)) (pd_mul pd_int (pd_ix (pdv 0) pd_int (fun _ _ => rfl)))))), ?_⟩
  clear W T hr hgd
  rintro xs Q hl ⟨⟨b, k⟩, rfl, ⟨h0, h1⟩, hQ⟩
  clear hl
  replace hQ : Q (.int b.lag) := hQ
  have e : rhoP nm_lag_of.length [.d] [eB b] = [some (.d (eB b))] := rfl
  rw [e]
  clear e
  simp only [dSeq, dAsg, dCB, dCons, dNil, dVar, onVs, vals, val, slot, setR, fGcd, dIfS, dTV, dOp, dBin, onV2, fLt, fLe, fGt, fGe, fAdd, fSub, fMul, fDiv, fMod, fI0, dC, dUn, onV, fNeg, dNext, dRet, dTup, onD, dats, fDivZ, fI, fPow, Few, retP, fAbs, fInt, fMax, fMin, fLen, fSqrt, fEq, fNe, dNot, dAnd, dOr, dAndV, dOrV, dNotV, dIfE, dDrop, dRetN, dPar, noO, dSetL, dLst, dOfL, dOwnM, onOwn, onDat, kAppend, kInsert, dSetItem, dAddItem, dIx, onItems, items, onInt, dNoPart, dPart, dSlice, onL, litems, dSlL, dCat, onM, mitems, dTupOf, dSeqI, dRng1, dRng2, dCallP, dCallB, dCallF, noSelf, onArgs, dats2, dIsi, tyName, dYes, dgTup, dgCons, dgNil, retB, dBreak, dCont, ne_eq, not_false_eq_true, true_and, and_true, List.getElem?_cons_zero, List.getElem?_cons_succ, List.set_cons_zero, List.set_cons_succ, Option.map, List.length_cons, List.length_nil, dParM, dmNil, dmD, dmL, setM, dLc_eq, dLc2_eq, dFor_eq, dSortSet, dSort, dListOf, dIsN, dNotN, isNo, dAug, dMulA, dgUnl, dCatT, dSlT, onT, titems, dEnum, dZip, dZipM, seqs, dRetL, dPar3, dRevT, dLstRg, dTupRg, dRg1, dRg2, dChainLe, List.nil_append, List.cons_append, if_true, if_false, dFrz, dLcO, dMin2D, dAppX, dParL, dParLL, dRepL, fMax3, dNewDic, dDicPut, dDicGet, dSortDic, onDic, onKey, dLcW, dZipX, dParR, dDead, dSortD, dSortDT, fNeS, fEqS, dgSet, dDGet, onDict_eq, onKeyD_int, onKeyD_str, dDIn, dSortDK, onDict1_eq, dDictL, dDictEn, dDictZip, onSq1_eq, onSq2_eq, onSq_t, onSq_l, onSq_o, dNewD, dDicI, dNewDik, dDikPut, onDik, dFrzD, dNew4, dIndexD, onLst_eq, dIfL, dOrT, dAndT, onTru_int, onTru_bool, onTru_none, onTru_tuple, onTru_list, dTupA, tupA, dTupZip, dZip3, dFgt, fIsB, fNotB, fInA_l, fInA_t, fNotInA_l, fNotInA_t, List.map_cons, List.map_nil, fw0, fw1, fw2, fw3, fw4, fw5, fw6, fw7, fw8, fw9, fw10, fw11, fw12, fw13, fw14, fw15, eB, on3, on4]
  exact ⟨cmb (show Bd 2 2 by unfold Bd; decide) h0.clk (by omega), hQ⟩
set_option maxHeartbeats 4000000 in
theorem ok__law_bag {f : Addr} {fd : FuncData} (W : Fun K "_law_bag" "_law_bag" s__law_bag f fd) (T : Bi mg) :
    FnG P w K mg base CX0 1 f fd ["_law_script"] (spF K TT [.ro] S__law_bag) := by
  refine fnF W sc__law_bag rfl rfl fun cdv A out s H E Nn hr hgd => ⟨_, _, (pl_lst (pda_cons pd_int (pda_cons pd_int (pda_cons pd_int (pda_cons (pd_l (pl_lc (own := [("_law_cell", 1)]) rfl sc__law_bag.nd (pdi_seq (pd_l (pl_slice (pdv 0) pdo_none (pdo_some pd_int)))) (blkOk_by (own := [("_law_cell", 1)]) (N := nm__law_bag) (sc := defScope s__law_bag) (by decide +kernel)) (fun _ _ _ _ _ => (pgd_name (i := 1) sc__law_bag.nd)) (fun _ _ _ _ _ => dts_nil) (fun _ _ _ _ _ => (pd_callB call_abs sc_abs rfl T.b_abs (by decide +kernel) (pda_cons (pdv 1) pda_nil))))) pda_nil))))), ?_⟩
  exact fun xs Q hl hS => rd_bag hS
set_option maxHeartbeats 4000000 in
theorem ok__law_take {f : Addr} {fd : FuncData} (W : Fun K "_law_take" "_law_take" s__law_take f fd) (T : Bi mg) :
    FnG P w K mg base CX0 1 f fd ["_law_bag_here", "_law_many"] (spB K TT [.d] S__law_take) := by
  refine fnB W sc__law_take rfl fun cdv A out s H E Nn B hr hgd => ⟨_, _, (dss_cons (ds_if (pt_eq hr.units rfl (pd_ix (pdv 0) pd_int (fun _ _ => rfl)) pd_int) (dss_cons (ds_set (i := 2) sc__law_take.nd (pd_ix (pd_l (pl_cat (pd_l (pl_slice (pd_ix (pdv 0) pd_int (fun _ _ => rfl)) (pdo_some (pd_ix (pdv 0) pd_int (fun _ _ => rfl))) pdo_none)) (pd_l (pl_lst (pda_cons pd_int pda_nil))))) pd_int (fun _ _ => rfl)) (fixB (by decide)))
      (dss_cons (ds_addItem (i := 0) pd_int pd_int (ps_augS (pv 0) pe_int get_list pe_int ip_add set_list))
      (dss_cons (ds_if (pt_ge (pdv 2) (pd_pow pd_int pd_int)) (dss_one (ds_setItem (i := 0) (pdv 2) pd_int (pg_sub (pv 0) pe_int set_list))) dss_nil)
      (dss_cons (ds_set (i := 3) sc__law_take.nd (pd_add (pd_add (pd_mul (pd_ix (pdv 0) pd_int (fun _ _ => rfl)) pd_int) (pd_mod (pd_callTy call_int1 sc_int rfl T.b_int (by decide +kernel) (pda_cons (pdv 2) pda_nil)) pd_int)) (pd_mul pd_int (pd_ix (pdv 0) pd_int (fun _ _ => rfl)))) (fixB (by decide)))
      (dss_one (ds_setItem (i := 0) (pd_mod (pd_callTy call_int1 sc_int rfl T.b_int (by decide +kernel) (pda_cons (pdv 3) pda_nil)) pd_int) pd_int (pg_sub (pv 0) pe_int set_list))))))) dss_nil)
      (dss_cons (ds_if (pt_gt (pd_ix (pdv 0) pd_int (fun _ _ => rfl)) pd_int) (dss_cons (ds_set (i := 4) sc__law_take.nd (pd_mod (pd_callTy call_int1 sc_int rfl T.b_int (by decide +kernel) (pda_cons (pd_ix (pdv 0) pd_int (fun _ _ => rfl)) pda_nil)) (pdv 1)) (fixB (by decide)))
      (dss_cons (ds_setItem (i := 0) (pd_div (pd_callTy call_int1 sc_int rfl T.b_int (by decide +kernel) (pda_cons (pd_ix (pdv 0) pd_int (fun _ _ => rfl)) pda_nil)) (pdv 1)) pd_int (pg_sub (pv 0) pe_int set_list))
      (dss_one (ds_ret (pdv 4))))) dss_nil)
      (dss_cons (ds_set (i := 5) sc__law_take.nd (pd_mod (pd_callTy call_int1 sc_int rfl T.b_int (by decide +kernel) (pda_cons (pd_mul (pd_add (pd_ix (pdv 0) pd_int (fun _ _ => rfl)) pd_int) pd_int) pda_nil)) pd_int) (fixB (by decide)))
      (dss_cons (ds_set (i := 6) sc__law_take.nd (pd_mod (pd_callTy call_int1 sc_int rfl T.b_int (by decide +kernel) (pda_cons (pd_mul (pd_mod (pd_callTy call_int1 sc_int rfl T.b_int (by decide +kernel) (pda_cons (pd_mul (pdv 5) (pdv 5)) pda_nil)) pd_int) pd_int) pda_nil)) pd_int) (fixB (by decide)))
      (dss_one (ds_ret (pd_mod (pd_callTy call_int1 sc_int rfl T.b_int (by decide +kernel) (pda_cons (pd_div (pdv 6) pd_int) pda_nil)) (pdv 1)))))))), ?_⟩
  exact fun bag xs Q hl hS => rd_take hS
set_option maxHeartbeats 4000000 in
theorem ok__law_alike {f : Addr} {fd : FuncData} (W : Fun K "_law_alike" "_law_alike" s__law_alike f fd) (T : Bi mg) :
    FnG P w K mg base CX0 1 f fd ["_law_found", "_law_due"] (spP K TT [.ro, .ro] S__law_alike) := by
  refine fnP W sc__law_alike rfl fun cdv A out s H E Nn hr hgd => ⟨_, _, (dss_one (ds_ret (pd_and (pd_eq hr.units rfl (pdv 0) (pdv 1)) (pdn_one (pd_eqS (pd_callB (call_repr hgd hr.units) sc_repr rfl T.b_repr (by decide +kernel) (pda_cons (pdv 0) pda_nil)) (pd_callB (call_repr hgd hr.units) sc_repr rfl T.b_repr (by decide +kernel) (pda_cons (pdv 1) pda_nil))))))), ?_⟩
  exact fun xs Q hl hS => rd_alike hS
set_option maxHeartbeats 4000000 in
theorem ok__law_over {f : Addr} {fd : FuncData} (W : Fun K "_law_over" "_law_over" s__law_over f fd) (T : Bi mg) :
    FnG P w K mg base CX0 1 f fd ["_law_n", "_law_d"] (spP K TT [.d, .d] S__law_over) := by
  refine fnP W sc__law_over rfl fun cdv A out s H E Nn hr hgd => ⟨_, _, (dss_cons (ds_par (i := 2) (j := 3) rfl sc__law_over.nd (pda_cons (pd_callB call_abs sc_abs rfl T.b_abs (by decide +kernel) (pda_cons (pdv 0) pda_nil)) (pda_cons (pd_callB call_abs sc_abs rfl T.b_abs (by decide +kernel) (pda_cons (pdv 1) pda_nil)) pda_nil)) fixP fixP)
      (dss_cons (ds_while PassesOwn.never (pt_gt (pdv 3) pd_int) (dss_one (ds_par (i := 2) (j := 3) rfl sc__law_over.nd (pda_cons (pdv 3) (pda_cons (pd_mod (pd_callTy call_int1 sc_int rfl T.b_int (by decide +kernel) (pda_cons (pdv 2) pda_nil)) (pdv 3)) pda_nil)) fixP fixP)))
      (dss_cons (ds_set (i := 2) sc__law_over.nd (pd_ifExp (pt_gt (pdv 1) pd_int) (pdv 2) (pd_neg (pdv 2))) fixP)
      (dss_one (ds_ret (pd_tup (pda_cons (pd_divZ (pd_callTy call_int1 sc_int rfl T.b_int (by decide +kernel) (pda_cons (pdv 0) pda_nil)) (pdv 2)) (pda_cons (pd_divZ (pd_callTy call_int1 sc_int rfl T.b_int (by decide +kernel) (pda_cons (pdv 1) pda_nil)) (pdv 2)) pda_nil)))))))), ?_⟩
  clear W T hr hgd
  rintro xs Q hl ⟨⟨n, d⟩, rfl, ⟨h0, h1⟩, hQ⟩
  clear hl
  replace hQ : Q (fr (n /. d)) := hQ
  have e : rhoP nm__law_over.length [.d, .d] [.int n, .int d] = [some (.d (.int n)), some (.d (.int d)), none, none] := rfl
  rw [e]
  clear e
  walk_at "K61Z1"
  refine ⟨fun ρ => ∃ a b : Nat, ρ = [some (.d (.int n)), some (.d (.int d)), some (.d (.int (a : Int))), some (.d (.int (b : Int)))] ∧ Nat.gcd a b = Nat.gcd n.natAbs d.natAbs, fun ρ => match ρ with
    | [_, _, _, some (.d (.int b))] => b.toNat
    | _ => 0, ⟨n.natAbs, d.natAbs, ?_, rfl⟩, ?_⟩
  · have e1 : (if n < 0 then -n else n) = (n.natAbs : Int) := by split <;> omega
    have e2 : (if d < 0 then -d else d) = (d.natAbs : Int) := by split <;> omega
    rw [e1, e2]
  rintro ρ ⟨a, b, rfl, hab⟩
  walk_at "K61Z1"
  refine ite_b (fun hb => ?_) fun hb => ?_
  · refine ⟨hb, ⟨b, a % b, by rw [Int.natCast_emod], ?_⟩, ?_⟩
    · rw [← hab, Nat.gcd_comm b, ← Nat.gcd_rec, Nat.gcd_comm]
    · show ((a : Int) % (b : Int)).toNat < ((b : Nat) : Int).toNat
      have := Int.emod_lt_of_pos (a : Int) hb
      have := Int.emod_nonneg (a : Int) (show (b : Int) ≠ 0 by omega)
      omega
  have b0 : b = 0 := by omega
  subst b0
  rw [Nat.gcd_zero_right] at hab
  have hg := red_num (n := n) (d := d) h0 rfl
  rw [← hab] at hg
  by_cases hd : d < 0
  · rw [if_pos hd] at hg
    refine ite_f (by omega) ⟨cdz hg.2.2.1 (k := 9000) (Nat.lt_of_le_of_lt hg.2.2.2 h1), cdz hg.2.2.1 (k := 9000) (Nat.lt_of_le_of_lt hg.2.2.2 h1), ?_⟩
    rw [hg.1, hg.2.1]; exact hQ
  · rw [if_neg hd] at hg
    refine ite_t (by omega) ⟨cdz hg.2.2.1 (k := 9000) (Nat.lt_of_le_of_lt hg.2.2.2 h1), cdz hg.2.2.1 (k := 9000) (Nat.lt_of_le_of_lt hg.2.2.2 h1), ?_⟩
    rw [hg.1, hg.2.1]; exact hQ
set_option maxHeartbeats 4000000 in
theorem ok__law_is_below {f : Addr} {fd : FuncData} (W : Fun K "_law_is_below" "_law_is_below" s__law_is_below f fd) (T : Bi mg) :
    FnG P w K mg base CX0 1 f fd ["_law_x", "_law_y"] (spP K TT [.d, .d] S__law_is_below) := by
  refine fnP W sc__law_is_below rfl fun cdv A out s H E Nn hr hgd => ⟨_, _, (dss_one (ds_ret (pd_lt (pd_mul (pd_ix (pdv 0) pd_int (fun _ _ => rfl)) (pd_ix (pdv 1) pd_int (fun _ _ => rfl))) (pd_mul (pd_ix (pdv 1) pd_int (fun _ _ => rfl)) (pd_ix (pdv 0) pd_int (fun _ _ => rfl)))))), ?_⟩
  clear W T hr hgd
  rintro xs Q hl ⟨⟨p, r, j, k⟩, rfl, ⟨h0, h1, h2⟩, hQ⟩
  clear hl
  replace hQ : Q (.bool (decide (p < r))) := hQ
  have e : rhoP nm__law_is_below.length [.d, .d] [fr p, fr r] = [some (.d (fr p)), some (.d (fr r))] := rfl
  rw [e]
  clear e
  walk_at "K61Z3"
  refine ⟨cmb h0.n h1.d (by omega), cmb h1.n h0.d (by omega), ?_⟩
  rw [decide_eq_decide.mpr lt_fr]; exact hQ
set_option maxHeartbeats 4000000 in
theorem ok__law_reach {f : Addr} {fd : FuncData} (W : Fun K "_law_reach" "_law_reach" s__law_reach f fd) (T : Bi mg) :
    FnG P w K mg base CX0 1 f fd ["_law_bounds"] (spP K TT [.d] S__law_reach) := by
  refine fnP W sc__law_reach rfl fun cdv A out s H E Nn hr hgd => ⟨_, _, (dss_one (ds_ret (pd_add (pd_ix (pdv 0) pd_int (fun _ _ => rfl)) (pd_mul pd_int (pd_ix (pdv 0) pd_int (fun _ _ => rfl)))))), ?_⟩
  clear W T hr hgd
  rintro xs Q hl ⟨⟨b, k⟩, rfl, ⟨h0, h1⟩, hQ⟩
  clear hl
  replace hQ : Q (.int b.r) := hQ
  have e : rhoP nm__law_reach.length [.d] [eB b] = [some (.d (eB b))] := rfl
  rw [e]
  clear e
  simp only [dSeq, dAsg, dCB, dCons, dNil, dVar, onVs, vals, val, slot, setR, fGcd, dIfS, dTV, dOp, dBin, onV2, fLt, fLe, fGt, fGe, fAdd, fSub, fMul, fDiv, fMod, fI0, dC, dUn, onV, fNeg, dNext, dRet, dTup, onD, dats, fDivZ, fI, fPow, Few, retP, fAbs, fInt, fMax, fMin, fLen, fSqrt, fEq, fNe, dNot, dAnd, dOr, dAndV, dOrV, dNotV, dIfE, dDrop, dRetN, dPar, noO, dSetL, dLst, dOfL, dOwnM, onOwn, onDat, kAppend, kInsert, dSetItem, dAddItem, dIx, onItems, items, onInt, dNoPart, dPart, dSlice, onL, litems, dSlL, dCat, onM, mitems, dTupOf, dSeqI, dRng1, dRng2, dCallP, dCallB, dCallF, noSelf, onArgs, dats2, dIsi, tyName, dYes, dgTup, dgCons, dgNil, retB, dBreak, dCont, ne_eq, not_false_eq_true, true_and, and_true, List.getElem?_cons_zero, List.getElem?_cons_succ, List.set_cons_zero, List.set_cons_succ, Option.map, List.length_cons, List.length_nil, dParM, dmNil, dmD, dmL, setM, dLc_eq, dLc2_eq, dFor_eq, dSortSet, dSort, dListOf, dIsN, dNotN, isNo, dAug, dMulA, dgUnl, dCatT, dSlT, onT, titems, dEnum, dZip, dZipM, seqs, dRetL, dPar3, dRevT, dLstRg, dTupRg, dRg1, dRg2, dChainLe, List.nil_append, List.cons_append, if_true, if_false, dFrz, dLcO, dMin2D, dAppX, dParL, dParLL, dRepL, fMax3, dNewDic, dDicPut, dDicGet, dSortDic, onDic, onKey, dLcW, dZipX, dParR, dDead, dSortD, dSortDT, fNeS, fEqS, dgSet, dDGet, onDict_eq, onKeyD_int, onKeyD_str, dDIn, dSortDK, onDict1_eq, dDictL, dDictEn, dDictZip, onSq1_eq, onSq2_eq, onSq_t, onSq_l, onSq_o, dNewD, dDicI, dNewDik, dDikPut, onDik, dFrzD, dNew4, dIndexD, onLst_eq, dIfL, dOrT, dAndT, onTru_int, onTru_bool, onTru_none, onTru_tuple, onTru_list, dTupA, tupA, dTupZip, dZip3, dFgt, fIsB, fNotB, fInA_l, fInA_t, fNotInA_l, fNotInA_t, List.map_cons, List.map_nil, fw0, fw1, fw2, fw3, fw4, fw5, fw6, fw7, fw8, fw9, fw10, fw11, fw12, fw13, fw14, fw15, eB, on1, on2]
  exact ⟨cmb (show Bd 2 2 by unfold Bd; decide) h0.wind (by omega), hQ⟩
set_option maxHeartbeats 4000000 in
theorem ok__law_lag {f : Addr} {fd : FuncData} (W : Fun K "_law_lag" "_law_lag" s__law_lag f fd) (T : Bi mg) :
    FnG P w K mg base CX0 1 f fd ["_law_bounds"] (spP K TT [.d] S__law_lag) := by
  refine fnP W sc__law_lag rfl fun cdv A out s H E Nn hr hgd => ⟨_, _, (dss_one (ds_ret (pd_add (pd_ix (pdv 0) pd_int (fun _ _ => rfl)) (pd_mul pd_int (pd_ix (pdv 0) pd_int (fun _ _ => rfl)))))), ?_⟩
  clear W T hr hgd
  rintro xs Q hl ⟨⟨b, k⟩, rfl, ⟨h0, h1⟩, hQ⟩
  clear hl
  replace hQ : Q (.int b.lag) := hQ
  have e : rhoP nm__law_lag.length [.d] [eB b] = [some (.d (eB b))] := rfl
  rw [e]
  clear e
  simp only [dSeq, dAsg, dCB, dCons, dNil, dVar, onVs, vals, val, slot, setR, fGcd, dIfS, dTV, dOp, dBin, onV2, fLt, fLe, fGt, fGe, fAdd, fSub, fMul, fDiv, fMod, fI0, dC, dUn, onV, fNeg, dNext, dRet, dTup, onD, dats, fDivZ, fI, fPow, Few, retP, fAbs, fInt, fMax, fMin, fLen, fSqrt, fEq, fNe, dNot, dAnd, dOr, dAndV, dOrV, dNotV, dIfE, dDrop, dRetN, dPar, noO, dSetL, dLst, dOfL, dOwnM, onOwn, onDat, kAppend, kInsert, dSetItem, dAddItem, dIx, onItems, items, onInt, dNoPart, dPart, dSlice, onL, litems, dSlL, dCat, onM, mitems, dTupOf, dSeqI, dRng1, dRng2, dCallP, dCallB, dCallF, noSelf, onArgs, dats2, dIsi, tyName, dYes, dgTup, dgCons, dgNil, retB, dBreak, dCont, ne_eq, not_false_eq_true, true_and, and_true, List.getElem?_cons_zero, List.getElem?_cons_succ, List.set_cons_zero, List.set_cons_succ, Option.map, List.length_cons, List.length_nil, dParM, dmNil, dmD, dmL, setM, dLc_eq, dLc2_eq, dFor_eq, dSortSet, dSort, dListOf, dIsN, dNotN, isNo, dAug, dMulA, dgUnl, dCatT, dSlT, onT, titems, dEnum, dZip, dZipM, seqs, dRetL, dPar3, dRevT, dLstRg, dTupRg, dRg1, dRg2, dChainLe, List.nil_append, List.cons_append, if_true, if_false, dFrz, dLcO, dMin2D, dAppX, dParL, dParLL, dRepL, fMax3, dNewDic, dDicPut, dDicGet, dSortDic, onDic, onKey, dLcW, dZipX, dParR, dDead, dSortD, dSortDT, fNeS, fEqS, dgSet, dDGet, onDict_eq, onKeyD_int, onKeyD_str, dDIn, dSortDK, onDict1_eq, dDictL, dDictEn, dDictZip, onSq1_eq, onSq2_eq, onSq_t, onSq_l, onSq_o, dNewD, dDicI, dNewDik, dDikPut, onDik, dFrzD, dNew4, dIndexD, onLst_eq, dIfL, dOrT, dAndT, onTru_int, onTru_bool, onTru_none, onTru_tuple, onTru_list, dTupA, tupA, dTupZip, dZip3, dFgt, fIsB, fNotB, fInA_l, fInA_t, fNotInA_l, fNotInA_t, List.map_cons, List.map_nil, fw0, fw1, fw2, fw3, fw4, fw5, fw6, fw7, fw8, fw9, fw10, fw11, fw12, fw13, fw14, fw15, eB, on3, on4]
  exact ⟨cmb (show Bd 2 2 by unfold Bd; decide) h0.clk (by omega), hQ⟩
set_option maxHeartbeats 4000000 in
theorem ok__law_rows {f : Addr} {fd : FuncData} (W : Fun K "_law_rows" "_law_rows" s__law_rows f fd) (T : Bi mg) :
    FnG P w K mg base CX0 1 f fd ["_law_picture_here", "_law_spacing"] (spP K TT [.d, .d] S__law_rows) := by
  refine fnP W sc__law_rows rfl fun cdv A out s H E Nn hr hgd => ⟨_, _, (dss_cons (ds_setL (i := 2) sc__law_rows.nd (pl_lst pda_nil) fixP)
      (dss_cons (ds_for PassesOwn.never rfl (pdi_seq (pdv 0)) (pgd_name (i := 3) sc__law_rows.nd) (dss_cons (ds_fgt (i := 6) (ds_fgt (i := 5) (ds_set (i := 4) sc__law_rows.nd (pd_l (pl_lcX (own := [("_law_other", 5), ("_law_row", 6)]) (k := 2) rfl sc__law_rows.nd rfl T.b_zip (pdv 0) (blkOk_by (own := [("_law_other", 5), ("_law_row", 6)]) (N := nm__law_rows) (sc := defScope s__law_rows) (by decide +kernel)) (fun _ _ _ _ _ => (pgd_tup (n := 2) rfl (pgds_cons (pgd_name (i := 5) sc__law_rows.nd) (pgds_cons (pgd_name (i := 6) sc__law_rows.nd) pgds_nil)))) (fun _ _ _ _ _ => (dts_one (pt_lt (pd_callB call_abs sc_abs rfl T.b_abs (by decide +kernel) (pda_cons (pd_sub (pd_ix (pdv 5) pd_int (fun _ _ => rfl)) (pd_ix (pdv 3) pd_int (fun _ _ => rfl))) pda_nil)) (pdv 1)))) (fun _ _ _ _ _ => (pdv 6)))) fixP) fixP) fixP)
      (dss_one (ds_fgt (i := 6) (ds_expr (pd_append (i := 2) (pda_cons (pd_ix (pd_l (pl_lc (own := [("_law_row", 6)]) rfl sc__law_rows.nd (pdi_range1 rfl T.b_range (pda_cons (pd_add (pd_callB call_len_seq sc_len rfl T.b_len (by decide +kernel) (pda_cons (pdv 0) pda_nil)) pd_int) pda_nil)) (blkOk_by (own := [("_law_row", 6)]) (N := nm__law_rows) (sc := defScope s__law_rows) (by decide +kernel)) (fun _ _ _ _ _ => (pgd_name (i := 6) sc__law_rows.nd)) (fun _ _ _ _ _ => (dts_one (pt_notinA (units65 hr) rfl (pdv 6) (pdv 4)))) (fun _ _ _ _ _ => (pdv 6)))) pd_int (fun _ _ => rfl)) pda_nil))) fixP))) nofixP)
      (dss_one (ds_ret (pdv 2))))), ?_⟩
  clear W T hr hgd
  rintro xs Q hl ⟨⟨c, ls, sp⟩, rfl, ⟨h0, h1, h2, h3⟩, hQ⟩
  clear hl
  replace hQ : ∀ z, (∃ rs : List Int, LeastR (lxs ls) sp rs ∧ rs.length = ls.length ∧ (∀ r ∈ rs, 0 ≤ r ∧ r ≤ 1000) ∧ z = .list (rs.map .int)) → Q z   := hQ
  have e : rhoP nm__law_rows.length [.d, .d] [seqP c ls, .int sp] = [some (.d (seqP c ls)), some (.d (.int sp)), none, none, none, none, none] := rfl
  rw [e]
  clear e
  refine seqI fun kk hk => ?_
  walk_at "K61Z1"
  rw [hk]
  clear hk
  refine seqI fun kk hk => ?_
  cases c
  · simp only [dSeq, dAsg, dCB, dCons, dNil, dVar, onVs, vals, val, slot, setR, fGcd, dIfS, dTV, dOp, dBin, onV2, fLt, fLe, fGt, fGe, fAdd, fSub, fMul, fDiv, fMod, fI0, dC, dUn, onV, fNeg, dNext, dRet, dTup, onD, dats, fDivZ, fI, fPow, Few, retP, fAbs, fInt, fMax, fMin, fLen, fSqrt, fEq, fNe, dNot, dAnd, dOr, dAndV, dOrV, dNotV, dIfE, dDrop, dRetN, dPar, noO, dSetL, dLst, dOfL, dOwnM, onOwn, onDat, kAppend, kInsert, dSetItem, dAddItem, dIx, onItems, items, onInt, dNoPart, dPart, dSlice, onL, litems, dSlL, dCat, onM, mitems, dTupOf, dSeqI, dRng1, dRng2, dCallP, dCallB, dCallF, noSelf, onArgs, dats2, dIsi, tyName, dYes, dgTup, dgCons, dgNil, retB, dBreak, dCont, ne_eq, not_false_eq_true, true_and, and_true, List.getElem?_cons_zero, List.getElem?_cons_succ, List.set_cons_zero, List.set_cons_succ, Option.map, List.length_cons, List.length_nil, dParM, dmNil, dmD, dmL, setM, dLc_eq, dLc2_eq, dFor_eq, dSortSet, dSort, dListOf, dIsN, dNotN, isNo, dAug, dMulA, dgUnl, dCatT, dSlT, onT, titems, dEnum, dZip, dZipM, seqs, dRetL, dPar3, dRevT, dLstRg, dTupRg, dRg1, dRg2, dChainLe, List.nil_append, List.cons_append, if_true, if_false, dFrz, dLcO, dMin2D, dAppX, dParL, dParLL, dRepL, fMax3, dNewDic, dDicPut, dDicGet, dSortDic, onDic, onKey, dLcW, dZipX, dParR, dDead, dSortD, dSortDT, fNeS, fEqS, dgSet, dDGet, onDict_eq, onKeyD_int, onKeyD_str, dDIn, dSortDK, onDict1_eq, dDictL, dDictEn, dDictZip, onSq1_eq, onSq2_eq, onSq_t, onSq_l, onSq_o, dNewD, dDicI, dNewDik, dDikPut, onDik, dFrzD, dNew4, dIndexD, onLst_eq, dIfL, dOrT, dAndT, onTru_int, onTru_bool, onTru_none, onTru_tuple, onTru_list, dTupA, tupA, dTupZip, dZip3, dFgt, fIsB, fNotB, fInA_l, fInA_t, fNotInA_l, fNotInA_t, List.map_cons, List.map_nil, fw0, fw1, fw2, fw3, fw4, fw5, fw6, fw7, fw8, fw9, fw10, fw11, fw12, fw13, fw14, fw15, seqP_f]
    refine for_st (S := List Int × Option Ent × Option Ent) ls eLm (fun s => [some (.d (.list (ls.map eLm))), some (.d (.int sp)), some (.own (s.1.map .int)), s.2.1, s.2.2, none, none]) (fun i s => s.1.length = i ∧ LeastR (lxs ls) sp s.1 ∧ ∀ r ∈ s.1, 0 ≤ r ∧ r ≤ 1000) ([], none, none) rfl ⟨rfl, .nil, fun r hr => nomatch hr⟩ (fun i l s hl hI C hC => ?_) fun s hs => ?_
    · obtain ⟨rs, s1, s2⟩ := s
      obtain ⟨lr, lst, rg⟩ := hI
      dsimp only at lr lst rg
      have il := (List.getElem?_eq_some_iff.mp hl).1
      have hC2 : ∀ (rs : List Int) (s1 s2 : Option Ent), rs.length = i + 1 → LeastR (lxs ls) sp rs → (∀ r ∈ rs, 0 ≤ r ∧ r ≤ 1000) → C [some (.d (.list (ls.map eLm))), some (.d (.int sp)), some (.own (rs.map .int)), s1, s2, none, none] := fun rs s1 s2 a b c => hC (rs, s1, s2) ⟨a, b, c⟩
      clear hC
      simp only [setR, List.set_cons_succ, List.set_cons_zero]
      refine seqI fun k2 hk2 => ?_
      walk_at "K61Z1"
      rw [zipD_map]
      refine lcW_fm (List.zip ls rs) (fun p => PyData.tuple [eLm p.1, .int p.2]) (fun p => ((if ((p.1.x - l.x).natAbs : Int) < sp then some p.2 else none) : Option Int).map PyData.int) (hv2 rfl rfl) (by decide) rfl (by rw [List.length_zip]; omega) (fun j p hp C1 C2 n hn c1 c2 => ?_) ?_
      · simp only [dSeq, dAsg, dCB, dCons, dNil, dVar, onVs, vals, val, slot, setR, fGcd, dIfS, dTV, dOp, dBin, onV2, fLt, fLe, fGt, fGe, fAdd, fSub, fMul, fDiv, fMod, fI0, dC, dUn, onV, fNeg, dNext, dRet, dTup, onD, dats, fDivZ, fI, fPow, Few, retP, fAbs, fInt, fMax, fMin, fLen, fSqrt, fEq, fNe, dNot, dAnd, dOr, dAndV, dOrV, dNotV, dIfE, dDrop, dRetN, dPar, noO, dSetL, dLst, dOfL, dOwnM, onOwn, onDat, kAppend, kInsert, dSetItem, dAddItem, dIx, onItems, items, onInt, dNoPart, dPart, dSlice, onL, litems, dSlL, dCat, onM, mitems, dTupOf, dSeqI, dRng1, dRng2, dCallP, dCallB, dCallF, noSelf, onArgs, dats2, dIsi, tyName, dYes, dgTup, dgCons, dgNil, retB, dBreak, dCont, ne_eq, not_false_eq_true, true_and, and_true, List.getElem?_cons_zero, List.getElem?_cons_succ, List.set_cons_zero, List.set_cons_succ, Option.map, List.length_cons, List.length_nil, dParM, dmNil, dmD, dmL, setM, dLc_eq, dLc2_eq, dFor_eq, dSortSet, dSort, dListOf, dIsN, dNotN, isNo, dAug, dMulA, dgUnl, dCatT, dSlT, onT, titems, dEnum, dZip, dZipM, seqs, dRetL, dPar3, dRevT, dLstRg, dTupRg, dRg1, dRg2, dChainLe, List.nil_append, List.cons_append, if_true, if_false, dFrz, dLcO, dMin2D, dAppX, dParL, dParLL, dRepL, fMax3, dNewDic, dDicPut, dDicGet, dSortDic, onDic, onKey, dLcW, dZipX, dParR, dDead, dSortD, dSortDT, fNeS, fEqS, dgSet, dDGet, onDict_eq, onKeyD_int, onKeyD_str, dDIn, dSortDK, onDict1_eq, dDictL, dDictEn, dDictZip, onSq1_eq, onSq2_eq, onSq_t, onSq_l, onSq_o, dNewD, dDicI, dNewDik, dDikPut, onDik, dFrzD, dNew4, dIndexD, onLst_eq, dIfL, dOrT, dAndT, onTru_int, onTru_bool, onTru_none, onTru_tuple, onTru_list, dTupA, tupA, dTupZip, dZip3, dFgt, fIsB, fNotB, fInA_l, fInA_t, fNotInA_l, fNotInA_t, List.map_cons, List.map_nil, fw0, fw1, fw2, fw3, fw4, fw5, fw6, fw7, fw8, fw9, fw10, fw11, fw12, fw13, fw14, fw15, eLm, on0, wipeR]
        have ea : (if p.1.x - l.x < 0 then -(p.1.x - l.x) else p.1.x - l.x) = ((p.1.x - l.x).natAbs : Int) := by split <;> omega
        rw [ea]
        exact ite_b (c := ((p.1.x - l.x).natAbs : Int) < sp) (fun h => ⟨hn, c1 _ (by rw [if_pos h]; rfl)⟩) fun h => c2 (by rw [if_neg h]; rfl)
      rw [show (List.zip ls rs).filterMap (fun p => ((if ((p.1.x - l.x).natAbs : Int) < sp then some p.2 else none) : Option Int).map PyData.int) = (takenL ls rs l.x sp).map .int by unfold takenL; rw [List.map_filterMap]]
      simp only [dSeq, dAsg, dCB, dCons, dNil, dVar, onVs, vals, val, slot, setR, fGcd, dIfS, dTV, dOp, dBin, onV2, fLt, fLe, fGt, fGe, fAdd, fSub, fMul, fDiv, fMod, fI0, dC, dUn, onV, fNeg, dNext, dRet, dTup, onD, dats, fDivZ, fI, fPow, Few, retP, fAbs, fInt, fMax, fMin, fLen, fSqrt, fEq, fNe, dNot, dAnd, dOr, dAndV, dOrV, dNotV, dIfE, dDrop, dRetN, dPar, noO, dSetL, dLst, dOfL, dOwnM, onOwn, onDat, kAppend, kInsert, dSetItem, dAddItem, dIx, onItems, items, onInt, dNoPart, dPart, dSlice, onL, litems, dSlL, dCat, onM, mitems, dTupOf, dSeqI, dRng1, dRng2, dCallP, dCallB, dCallF, noSelf, onArgs, dats2, dIsi, tyName, dYes, dgTup, dgCons, dgNil, retB, dBreak, dCont, ne_eq, not_false_eq_true, true_and, and_true, List.getElem?_cons_zero, List.getElem?_cons_succ, List.set_cons_zero, List.set_cons_succ, Option.map, List.length_cons, List.length_nil, dParM, dmNil, dmD, dmL, setM, dLc_eq, dLc2_eq, dFor_eq, dSortSet, dSort, dListOf, dIsN, dNotN, isNo, dAug, dMulA, dgUnl, dCatT, dSlT, onT, titems, dEnum, dZip, dZipM, seqs, dRetL, dPar3, dRevT, dLstRg, dTupRg, dRg1, dRg2, dChainLe, List.nil_append, List.cons_append, if_true, if_false, dFrz, dLcO, dMin2D, dAppX, dParL, dParLL, dRepL, fMax3, dNewDic, dDicPut, dDicGet, dSortDic, onDic, onKey, dLcW, dZipX, dParR, dDead, dSortD, dSortDT, fNeS, fEqS, dgSet, dDGet, onDict_eq, onKeyD_int, onKeyD_str, dDIn, dSortDK, onDict1_eq, dDictL, dDictEn, dDictZip, onSq1_eq, onSq2_eq, onSq_t, onSq_l, onSq_o, dNewD, dDicI, dNewDik, dDikPut, onDik, dFrzD, dNew4, dIndexD, onLst_eq, dIfL, dOrT, dAndT, onTru_int, onTru_bool, onTru_none, onTru_tuple, onTru_list, dTupA, tupA, dTupZip, dZip3, dFgt, fIsB, fNotB, fInA_l, fInA_t, fNotInA_l, fNotInA_t, List.map_cons, List.map_nil, fw0, fw1, fw2, fw3, fw4, fw5, fw6, fw7, fw8, fw9, fw10, fw11, fw12, fw13, fw14, fw15, wipeR]
      rw [hk2]
      clear hk2
      simp only [dSeq, dAsg, dCB, dCons, dNil, dVar, onVs, vals, val, slot, setR, fGcd, dIfS, dTV, dOp, dBin, onV2, fLt, fLe, fGt, fGe, fAdd, fSub, fMul, fDiv, fMod, fI0, dC, dUn, onV, fNeg, dNext, dRet, dTup, onD, dats, fDivZ, fI, fPow, Few, retP, fAbs, fInt, fMax, fMin, fLen, fSqrt, fEq, fNe, dNot, dAnd, dOr, dAndV, dOrV, dNotV, dIfE, dDrop, dRetN, dPar, noO, dSetL, dLst, dOfL, dOwnM, onOwn, onDat, kAppend, kInsert, dSetItem, dAddItem, dIx, onItems, items, onInt, dNoPart, dPart, dSlice, onL, litems, dSlL, dCat, onM, mitems, dTupOf, dSeqI, dRng1, dRng2, dCallP, dCallB, dCallF, noSelf, onArgs, dats2, dIsi, tyName, dYes, dgTup, dgCons, dgNil, retB, dBreak, dCont, ne_eq, not_false_eq_true, true_and, and_true, List.getElem?_cons_zero, List.getElem?_cons_succ, List.set_cons_zero, List.set_cons_succ, Option.map, List.length_cons, List.length_nil, dParM, dmNil, dmD, dmL, setM, dLc_eq, dLc2_eq, dFor_eq, dSortSet, dSort, dListOf, dIsN, dNotN, isNo, dAug, dMulA, dgUnl, dCatT, dSlT, onT, titems, dEnum, dZip, dZipM, seqs, dRetL, dPar3, dRevT, dLstRg, dTupRg, dRg1, dRg2, dChainLe, List.nil_append, List.cons_append, if_true, if_false, dFrz, dLcO, dMin2D, dAppX, dParL, dParLL, dRepL, fMax3, dNewDic, dDicPut, dDicGet, dSortDic, onDic, onKey, dLcW, dZipX, dParR, dDead, dSortD, dSortDT, fNeS, fEqS, dgSet, dDGet, onDict_eq, onKeyD_int, onKeyD_str, dDIn, dSortDK, onDict1_eq, dDictL, dDictEn, dDictZip, onSq1_eq, onSq2_eq, onSq_t, onSq_l, onSq_o, dNewD, dDicI, dNewDik, dDikPut, onDik, dFrzD, dNew4, dIndexD, onLst_eq, dIfL, dOrT, dAndT, onTru_int, onTru_bool, onTru_none, onTru_tuple, onTru_list, dTupA, tupA, dTupZip, dZip3, dFgt, fIsB, fNotB, fInA_l, fInA_t, fNotInA_l, fNotInA_t, List.map_cons, List.map_nil, fw0, fw1, fw2, fw3, fw4, fw5, fw6, fw7, fw8, fw9, fw10, fw11, fw12, fw13, fw14, fw15, List.length_map]
      refine ⟨⟨by omega, by omega⟩, ?_⟩
      rw [rng_zero, show ((ls.length : Int) + 1).toNat = ls.length + 1 by omega]
      refine lc_fm (List.range (ls.length + 1)) (fun r : Nat => PyData.int (r : Int)) (fun r : Nat => if decide (¬ (r : Int) ∈ takenL ls rs l.x sp) = true then some (PyData.int (r : Int)) else none) (hv1 rfl) (by rw [List.length_range]; omega) (fun j r hr C1 C2 n hn c1 c2 => ?_) ?_
      · simp only [dSeq, dAsg, dCB, dCons, dNil, dVar, onVs, vals, val, slot, setR, fGcd, dIfS, dTV, dOp, dBin, onV2, fLt, fLe, fGt, fGe, fAdd, fSub, fMul, fDiv, fMod, fI0, dC, dUn, onV, fNeg, dNext, dRet, dTup, onD, dats, fDivZ, fI, fPow, Few, retP, fAbs, fInt, fMax, fMin, fLen, fSqrt, fEq, fNe, dNot, dAnd, dOr, dAndV, dOrV, dNotV, dIfE, dDrop, dRetN, dPar, noO, dSetL, dLst, dOfL, dOwnM, onOwn, onDat, kAppend, kInsert, dSetItem, dAddItem, dIx, onItems, items, onInt, dNoPart, dPart, dSlice, onL, litems, dSlL, dCat, onM, mitems, dTupOf, dSeqI, dRng1, dRng2, dCallP, dCallB, dCallF, noSelf, onArgs, dats2, dIsi, tyName, dYes, dgTup, dgCons, dgNil, retB, dBreak, dCont, ne_eq, not_false_eq_true, true_and, and_true, List.getElem?_cons_zero, List.getElem?_cons_succ, List.set_cons_zero, List.set_cons_succ, Option.map, List.length_cons, List.length_nil, dParM, dmNil, dmD, dmL, setM, dLc_eq, dLc2_eq, dFor_eq, dSortSet, dSort, dListOf, dIsN, dNotN, isNo, dAug, dMulA, dgUnl, dCatT, dSlT, onT, titems, dEnum, dZip, dZipM, seqs, dRetL, dPar3, dRevT, dLstRg, dTupRg, dRg1, dRg2, dChainLe, List.nil_append, List.cons_append, if_true, if_false, dFrz, dLcO, dMin2D, dAppX, dParL, dParLL, dRepL, fMax3, dNewDic, dDicPut, dDicGet, dSortDic, onDic, onKey, dLcW, dZipX, dParR, dDead, dSortD, dSortDT, fNeS, fEqS, dgSet, dDGet, onDict_eq, onKeyD_int, onKeyD_str, dDIn, dSortDK, onDict1_eq, dDictL, dDictEn, dDictZip, onSq1_eq, onSq2_eq, onSq_t, onSq_l, onSq_o, dNewD, dDicI, dNewDik, dDikPut, onDik, dFrzD, dNew4, dIndexD, onLst_eq, dIfL, dOrT, dAndT, onTru_int, onTru_bool, onTru_none, onTru_tuple, onTru_list, dTupA, tupA, dTupZip, dZip3, dFgt, fIsB, fNotB, fInA_l, fInA_t, fNotInA_l, fNotInA_t, List.map_cons, List.map_nil, fw0, fw1, fw2, fw3, fw4, fw5, fw6, fw7, fw8, fw9, fw10, fw11, fw12, fw13, fw14, fw15, fNotInD, sh_int, sh_intsL, any_int, wipeR]
        refine ite_nb (c := (r : Int) ∈ takenL ls rs l.x sp) (fun h => ⟨hn, c1 _ (by rw [decide_eq_true h, if_pos rfl])⟩) fun h => c2 (by rw [decide_eq_false (fun z => z h)]; rfl)
      rw [filterMap_if (fun r : Nat => decide (¬ (r : Int) ∈ takenL ls rs l.x sp)) (fun r : Nat => PyData.int (r : Int))]
      have tl := taken_len (ls := ls) (rs := rs) (x := l.x) (sp := sp)
      obtain ⟨q, hq1, hq2⟩ := some_free (takenL ls rs l.x sp) ls.length (by omega)
      obtain ⟨r, rest, e, hp, hlt, hmin⟩ := fm_first (fun r : Nat => decide (¬ (r : Int) ∈ takenL ls rs l.x sp)) (ls.length + 1) ⟨q, hq1, decide_eq_true hq2⟩
      rw [e]
      simp only [dSeq, dAsg, dCB, dCons, dNil, dVar, onVs, vals, val, slot, setR, fGcd, dIfS, dTV, dOp, dBin, onV2, fLt, fLe, fGt, fGe, fAdd, fSub, fMul, fDiv, fMod, fI0, dC, dUn, onV, fNeg, dNext, dRet, dTup, onD, dats, fDivZ, fI, fPow, Few, retP, fAbs, fInt, fMax, fMin, fLen, fSqrt, fEq, fNe, dNot, dAnd, dOr, dAndV, dOrV, dNotV, dIfE, dDrop, dRetN, dPar, noO, dSetL, dLst, dOfL, dOwnM, onOwn, onDat, kAppend, kInsert, dSetItem, dAddItem, dIx, onItems, items, onInt, dNoPart, dPart, dSlice, onL, litems, dSlL, dCat, onM, mitems, dTupOf, dSeqI, dRng1, dRng2, dCallP, dCallB, dCallF, noSelf, onArgs, dats2, dIsi, tyName, dYes, dgTup, dgCons, dgNil, retB, dBreak, dCont, ne_eq, not_false_eq_true, true_and, and_true, List.getElem?_cons_zero, List.getElem?_cons_succ, List.set_cons_zero, List.set_cons_succ, Option.map, List.length_cons, List.length_nil, dParM, dmNil, dmD, dmL, setM, dLc_eq, dLc2_eq, dFor_eq, dSortSet, dSort, dListOf, dIsN, dNotN, isNo, dAug, dMulA, dgUnl, dCatT, dSlT, onT, titems, dEnum, dZip, dZipM, seqs, dRetL, dPar3, dRevT, dLstRg, dTupRg, dRg1, dRg2, dChainLe, List.nil_append, List.cons_append, if_true, if_false, dFrz, dLcO, dMin2D, dAppX, dParL, dParLL, dRepL, fMax3, dNewDic, dDicPut, dDicGet, dSortDic, onDic, onKey, dLcW, dZipX, dParR, dDead, dSortD, dSortDT, fNeS, fEqS, dgSet, dDGet, onDict_eq, onKeyD_int, onKeyD_str, dDIn, dSortDK, onDict1_eq, dDictL, dDictEn, dDictZip, onSq1_eq, onSq2_eq, onSq_t, onSq_l, onSq_o, dNewD, dDicI, dNewDik, dDikPut, onDik, dFrzD, dNew4, dIndexD, onLst_eq, dIfL, dOrT, dAndT, onTru_int, onTru_bool, onTru_none, onTru_tuple, onTru_list, dTupA, tupA, dTupZip, dZip3, dFgt, fIsB, fNotB, fInA_l, fInA_t, fNotInA_l, fNotInA_t, List.map_cons, List.map_nil, fw0, fw1, fw2, fw3, fw4, fw5, fw6, fw7, fw8, fw9, fw10, fw11, fw12, fw13, fw14, fw15, on0, wipeR]
      refine ⟨few_le (by rw [List.length_map]; omega), ?_⟩
      rw [show rs.map PyData.int ++ [PyData.int (r : Int)] = (rs ++ [(r : Int)]).map .int by rw [List.map_append]; rfl]
      have hl2 : ls[rs.length]? = some l := by rw [lr]; exact hl
      refine hC2 (rs ++ [(r : Int)]) _ _ (by rw [List.length_append, lr]; rfl) (lst.next h0 hl2 (of_decide_eq_true hp) fun t ht => Classical.byContradiction fun z => ?_) fun y hy => ?_
      · have := hmin t ht
        rw [decide_eq_true z] at this
        cases this
      · rcases List.mem_append.mp hy with hy | hy
        · exact rg y hy
        · rw [List.mem_singleton.mp hy]; omega
    · obtain ⟨rs, s1, s2⟩ := s
      obtain ⟨lr, lst, rg⟩ := hs
      dsimp only at lr lst rg
      show kk _
      rw [hk]
      clear hk
      walk_at "K61Z1"
      exact hQ _ ⟨rs, lst, lr, rg, rfl⟩
  · simp only [dSeq, dAsg, dCB, dCons, dNil, dVar, onVs, vals, val, slot, setR, fGcd, dIfS, dTV, dOp, dBin, onV2, fLt, fLe, fGt, fGe, fAdd, fSub, fMul, fDiv, fMod, fI0, dC, dUn, onV, fNeg, dNext, dRet, dTup, onD, dats, fDivZ, fI, fPow, Few, retP, fAbs, fInt, fMax, fMin, fLen, fSqrt, fEq, fNe, dNot, dAnd, dOr, dAndV, dOrV, dNotV, dIfE, dDrop, dRetN, dPar, noO, dSetL, dLst, dOfL, dOwnM, onOwn, onDat, kAppend, kInsert, dSetItem, dAddItem, dIx, onItems, items, onInt, dNoPart, dPart, dSlice, onL, litems, dSlL, dCat, onM, mitems, dTupOf, dSeqI, dRng1, dRng2, dCallP, dCallB, dCallF, noSelf, onArgs, dats2, dIsi, tyName, dYes, dgTup, dgCons, dgNil, retB, dBreak, dCont, ne_eq, not_false_eq_true, true_and, and_true, List.getElem?_cons_zero, List.getElem?_cons_succ, List.set_cons_zero, List.set_cons_succ, Option.map, List.length_cons, List.length_nil, dParM, dmNil, dmD, dmL, setM, dLc_eq, dLc2_eq, dFor_eq, dSortSet, dSort, dListOf, dIsN, dNotN, isNo, dAug, dMulA, dgUnl, dCatT, dSlT, onT, titems, dEnum, dZip, dZipM, seqs, dRetL, dPar3, dRevT, dLstRg, dTupRg, dRg1, dRg2, dChainLe, List.nil_append, List.cons_append, if_true, if_false, dFrz, dLcO, dMin2D, dAppX, dParL, dParLL, dRepL, fMax3, dNewDic, dDicPut, dDicGet, dSortDic, onDic, onKey, dLcW, dZipX, dParR, dDead, dSortD, dSortDT, fNeS, fEqS, dgSet, dDGet, onDict_eq, onKeyD_int, onKeyD_str, dDIn, dSortDK, onDict1_eq, dDictL, dDictEn, dDictZip, onSq1_eq, onSq2_eq, onSq_t, onSq_l, onSq_o, dNewD, dDicI, dNewDik, dDikPut, onDik, dFrzD, dNew4, dIndexD, onLst_eq, dIfL, dOrT, dAndT, onTru_int, onTru_bool, onTru_none, onTru_tuple, onTru_list, dTupA, tupA, dTupZip, dZip3, dFgt, fIsB, fNotB, fInA_l, fInA_t, fNotInA_l, fNotInA_t, List.map_cons, List.map_nil, fw0, fw1, fw2, fw3, fw4, fw5, fw6, fw7, fw8, fw9, fw10, fw11, fw12, fw13, fw14, fw15, seqP_t]
    refine for_st (S := List Int × Option Ent × Option Ent) ls eLm (fun s => [some (.d (.tuple (ls.map eLm))), some (.d (.int sp)), some (.own (s.1.map .int)), s.2.1, s.2.2, none, none]) (fun i s => s.1.length = i ∧ LeastR (lxs ls) sp s.1 ∧ ∀ r ∈ s.1, 0 ≤ r ∧ r ≤ 1000) ([], none, none) rfl ⟨rfl, .nil, fun r hr => nomatch hr⟩ (fun i l s hl hI C hC => ?_) fun s hs => ?_
    · obtain ⟨rs, s1, s2⟩ := s
      obtain ⟨lr, lst, rg⟩ := hI
      dsimp only at lr lst rg
      have il := (List.getElem?_eq_some_iff.mp hl).1
      have hC2 : ∀ (rs : List Int) (s1 s2 : Option Ent), rs.length = i + 1 → LeastR (lxs ls) sp rs → (∀ r ∈ rs, 0 ≤ r ∧ r ≤ 1000) → C [some (.d (.tuple (ls.map eLm))), some (.d (.int sp)), some (.own (rs.map .int)), s1, s2, none, none] := fun rs s1 s2 a b c => hC (rs, s1, s2) ⟨a, b, c⟩
      clear hC
      simp only [setR, List.set_cons_succ, List.set_cons_zero]
      refine seqI fun k2 hk2 => ?_
      walk_at "K61Z1"
      rw [zipD_map]
      refine lcW_fm (List.zip ls rs) (fun p => PyData.tuple [eLm p.1, .int p.2]) (fun p => ((if ((p.1.x - l.x).natAbs : Int) < sp then some p.2 else none) : Option Int).map PyData.int) (hv2 rfl rfl) (by decide) rfl (by rw [List.length_zip]; omega) (fun j p hp C1 C2 n hn c1 c2 => ?_) ?_
      · simp only [dSeq, dAsg, dCB, dCons, dNil, dVar, onVs, vals, val, slot, setR, fGcd, dIfS, dTV, dOp, dBin, onV2, fLt, fLe, fGt, fGe, fAdd, fSub, fMul, fDiv, fMod, fI0, dC, dUn, onV, fNeg, dNext, dRet, dTup, onD, dats, fDivZ, fI, fPow, Few, retP, fAbs, fInt, fMax, fMin, fLen, fSqrt, fEq, fNe, dNot, dAnd, dOr, dAndV, dOrV, dNotV, dIfE, dDrop, dRetN, dPar, noO, dSetL, dLst, dOfL, dOwnM, onOwn, onDat, kAppend, kInsert, dSetItem, dAddItem, dIx, onItems, items, onInt, dNoPart, dPart, dSlice, onL, litems, dSlL, dCat, onM, mitems, dTupOf, dSeqI, dRng1, dRng2, dCallP, dCallB, dCallF, noSelf, onArgs, dats2, dIsi, tyName, dYes, dgTup, dgCons, dgNil, retB, dBreak, dCont, ne_eq, not_false_eq_true, true_and, and_true, List.getElem?_cons_zero, List.getElem?_cons_succ, List.set_cons_zero, List.set_cons_succ, Option.map, List.length_cons, List.length_nil, dParM, dmNil, dmD, dmL, setM, dLc_eq, dLc2_eq, dFor_eq, dSortSet, dSort, dListOf, dIsN, dNotN, isNo, dAug, dMulA, dgUnl, dCatT, dSlT, onT, titems, dEnum, dZip, dZipM, seqs, dRetL, dPar3, dRevT, dLstRg, dTupRg, dRg1, dRg2, dChainLe, List.nil_append, List.cons_append, if_true, if_false, dFrz, dLcO, dMin2D, dAppX, dParL, dParLL, dRepL, fMax3, dNewDic, dDicPut, dDicGet, dSortDic, onDic, onKey, dLcW, dZipX, dParR, dDead, dSortD, dSortDT, fNeS, fEqS, dgSet, dDGet, onDict_eq, onKeyD_int, onKeyD_str, dDIn, dSortDK, onDict1_eq, dDictL, dDictEn, dDictZip, onSq1_eq, onSq2_eq, onSq_t, onSq_l, onSq_o, dNewD, dDicI, dNewDik, dDikPut, onDik, dFrzD, dNew4, dIndexD, onLst_eq, dIfL, dOrT, dAndT, onTru_int, onTru_bool, onTru_none, onTru_tuple, onTru_list, dTupA, tupA, dTupZip, dZip3, dFgt, fIsB, fNotB, fInA_l, fInA_t, fNotInA_l, fNotInA_t, List.map_cons, List.map_nil, fw0, fw1, fw2, fw3, fw4, fw5, fw6, fw7, fw8, fw9, fw10, fw11, fw12, fw13, fw14, fw15, eLm, on0, wipeR]
        have ea : (if p.1.x - l.x < 0 then -(p.1.x - l.x) else p.1.x - l.x) = ((p.1.x - l.x).natAbs : Int) := by split <;> omega
        rw [ea]
        exact ite_b (c := ((p.1.x - l.x).natAbs : Int) < sp) (fun h => ⟨hn, c1 _ (by rw [if_pos h]; rfl)⟩) fun h => c2 (by rw [if_neg h]; rfl)
      rw [show (List.zip ls rs).filterMap (fun p => ((if ((p.1.x - l.x).natAbs : Int) < sp then some p.2 else none) : Option Int).map PyData.int) = (takenL ls rs l.x sp).map .int by unfold takenL; rw [List.map_filterMap]]
      simp only [dSeq, dAsg, dCB, dCons, dNil, dVar, onVs, vals, val, slot, setR, fGcd, dIfS, dTV, dOp, dBin, onV2, fLt, fLe, fGt, fGe, fAdd, fSub, fMul, fDiv, fMod, fI0, dC, dUn, onV, fNeg, dNext, dRet, dTup, onD, dats, fDivZ, fI, fPow, Few, retP, fAbs, fInt, fMax, fMin, fLen, fSqrt, fEq, fNe, dNot, dAnd, dOr, dAndV, dOrV, dNotV, dIfE, dDrop, dRetN, dPar, noO, dSetL, dLst, dOfL, dOwnM, onOwn, onDat, kAppend, kInsert, dSetItem, dAddItem, dIx, onItems, items, onInt, dNoPart, dPart, dSlice, onL, litems, dSlL, dCat, onM, mitems, dTupOf, dSeqI, dRng1, dRng2, dCallP, dCallB, dCallF, noSelf, onArgs, dats2, dIsi, tyName, dYes, dgTup, dgCons, dgNil, retB, dBreak, dCont, ne_eq, not_false_eq_true, true_and, and_true, List.getElem?_cons_zero, List.getElem?_cons_succ, List.set_cons_zero, List.set_cons_succ, Option.map, List.length_cons, List.length_nil, dParM, dmNil, dmD, dmL, setM, dLc_eq, dLc2_eq, dFor_eq, dSortSet, dSort, dListOf, dIsN, dNotN, isNo, dAug, dMulA, dgUnl, dCatT, dSlT, onT, titems, dEnum, dZip, dZipM, seqs, dRetL, dPar3, dRevT, dLstRg, dTupRg, dRg1, dRg2, dChainLe, List.nil_append, List.cons_append, if_true, if_false, dFrz, dLcO, dMin2D, dAppX, dParL, dParLL, dRepL, fMax3, dNewDic, dDicPut, dDicGet, dSortDic, onDic, onKey, dLcW, dZipX, dParR, dDead, dSortD, dSortDT, fNeS, fEqS, dgSet, dDGet, onDict_eq, onKeyD_int, onKeyD_str, dDIn, dSortDK, onDict1_eq, dDictL, dDictEn, dDictZip, onSq1_eq, onSq2_eq, onSq_t, onSq_l, onSq_o, dNewD, dDicI, dNewDik, dDikPut, onDik, dFrzD, dNew4, dIndexD, onLst_eq, dIfL, dOrT, dAndT, onTru_int, onTru_bool, onTru_none, onTru_tuple, onTru_list, dTupA, tupA, dTupZip, dZip3, dFgt, fIsB, fNotB, fInA_l, fInA_t, fNotInA_l, fNotInA_t, List.map_cons, List.map_nil, fw0, fw1, fw2, fw3, fw4, fw5, fw6, fw7, fw8, fw9, fw10, fw11, fw12, fw13, fw14, fw15, wipeR]
      rw [hk2]
      clear hk2
      simp only [dSeq, dAsg, dCB, dCons, dNil, dVar, onVs, vals, val, slot, setR, fGcd, dIfS, dTV, dOp, dBin, onV2, fLt, fLe, fGt, fGe, fAdd, fSub, fMul, fDiv, fMod, fI0, dC, dUn, onV, fNeg, dNext, dRet, dTup, onD, dats, fDivZ, fI, fPow, Few, retP, fAbs, fInt, fMax, fMin, fLen, fSqrt, fEq, fNe, dNot, dAnd, dOr, dAndV, dOrV, dNotV, dIfE, dDrop, dRetN, dPar, noO, dSetL, dLst, dOfL, dOwnM, onOwn, onDat, kAppend, kInsert, dSetItem, dAddItem, dIx, onItems, items, onInt, dNoPart, dPart, dSlice, onL, litems, dSlL, dCat, onM, mitems, dTupOf, dSeqI, dRng1, dRng2, dCallP, dCallB, dCallF, noSelf, onArgs, dats2, dIsi, tyName, dYes, dgTup, dgCons, dgNil, retB, dBreak, dCont, ne_eq, not_false_eq_true, true_and, and_true, List.getElem?_cons_zero, List.getElem?_cons_succ, List.set_cons_zero, List.set_cons_succ, Option.map, List.length_cons, List.length_nil, dParM, dmNil, dmD, dmL, setM, dLc_eq, dLc2_eq, dFor_eq, dSortSet, dSort, dListOf, dIsN, dNotN, isNo, dAug, dMulA, dgUnl, dCatT, dSlT, onT, titems, dEnum, dZip, dZipM, seqs, dRetL, dPar3, dRevT, dLstRg, dTupRg, dRg1, dRg2, dChainLe, List.nil_append, List.cons_append, if_true, if_false, dFrz, dLcO, dMin2D, dAppX, dParL, dParLL, dRepL, fMax3, dNewDic, dDicPut, dDicGet, dSortDic, onDic, onKey, dLcW, dZipX, dParR, dDead, dSortD, dSortDT, fNeS, fEqS, dgSet, dDGet, onDict_eq, onKeyD_int, onKeyD_str, dDIn, dSortDK, onDict1_eq, dDictL, dDictEn, dDictZip, onSq1_eq, onSq2_eq, onSq_t, onSq_l, onSq_o, dNewD, dDicI, dNewDik, dDikPut, onDik, dFrzD, dNew4, dIndexD, onLst_eq, dIfL, dOrT, dAndT, onTru_int, onTru_bool, onTru_none, onTru_tuple, onTru_list, dTupA, tupA, dTupZip, dZip3, dFgt, fIsB, fNotB, fInA_l, fInA_t, fNotInA_l, fNotInA_t, List.map_cons, List.map_nil, fw0, fw1, fw2, fw3, fw4, fw5, fw6, fw7, fw8, fw9, fw10, fw11, fw12, fw13, fw14, fw15, List.length_map]
      refine ⟨⟨by omega, by omega⟩, ?_⟩
      rw [rng_zero, show ((ls.length : Int) + 1).toNat = ls.length + 1 by omega]
      refine lc_fm (List.range (ls.length + 1)) (fun r : Nat => PyData.int (r : Int)) (fun r : Nat => if decide (¬ (r : Int) ∈ takenL ls rs l.x sp) = true then some (PyData.int (r : Int)) else none) (hv1 rfl) (by rw [List.length_range]; omega) (fun j r hr C1 C2 n hn c1 c2 => ?_) ?_
      · simp only [dSeq, dAsg, dCB, dCons, dNil, dVar, onVs, vals, val, slot, setR, fGcd, dIfS, dTV, dOp, dBin, onV2, fLt, fLe, fGt, fGe, fAdd, fSub, fMul, fDiv, fMod, fI0, dC, dUn, onV, fNeg, dNext, dRet, dTup, onD, dats, fDivZ, fI, fPow, Few, retP, fAbs, fInt, fMax, fMin, fLen, fSqrt, fEq, fNe, dNot, dAnd, dOr, dAndV, dOrV, dNotV, dIfE, dDrop, dRetN, dPar, noO, dSetL, dLst, dOfL, dOwnM, onOwn, onDat, kAppend, kInsert, dSetItem, dAddItem, dIx, onItems, items, onInt, dNoPart, dPart, dSlice, onL, litems, dSlL, dCat, onM, mitems, dTupOf, dSeqI, dRng1, dRng2, dCallP, dCallB, dCallF, noSelf, onArgs, dats2, dIsi, tyName, dYes, dgTup, dgCons, dgNil, retB, dBreak, dCont, ne_eq, not_false_eq_true, true_and, and_true, List.getElem?_cons_zero, List.getElem?_cons_succ, List.set_cons_zero, List.set_cons_succ, Option.map, List.length_cons, List.length_nil, dParM, dmNil, dmD, dmL, setM, dLc_eq, dLc2_eq, dFor_eq, dSortSet, dSort, dListOf, dIsN, dNotN, isNo, dAug, dMulA, dgUnl, dCatT, dSlT, onT, titems, dEnum, dZip, dZipM, seqs, dRetL, dPar3, dRevT, dLstRg, dTupRg, dRg1, dRg2, dChainLe, List.nil_append, List.cons_append, if_true, if_false, dFrz, dLcO, dMin2D, dAppX, dParL, dParLL, dRepL, fMax3, dNewDic, dDicPut, dDicGet, dSortDic, onDic, onKey, dLcW, dZipX, dParR, dDead, dSortD, dSortDT, fNeS, fEqS, dgSet, dDGet, onDict_eq, onKeyD_int, onKeyD_str, dDIn, dSortDK, onDict1_eq, dDictL, dDictEn, dDictZip, onSq1_eq, onSq2_eq, onSq_t, onSq_l, onSq_o, dNewD, dDicI, dNewDik, dDikPut, onDik, dFrzD, dNew4, dIndexD, onLst_eq, dIfL, dOrT, dAndT, onTru_int, onTru_bool, onTru_none, onTru_tuple, onTru_list, dTupA, tupA, dTupZip, dZip3, dFgt, fIsB, fNotB, fInA_l, fInA_t, fNotInA_l, fNotInA_t, List.map_cons, List.map_nil, fw0, fw1, fw2, fw3, fw4, fw5, fw6, fw7, fw8, fw9, fw10, fw11, fw12, fw13, fw14, fw15, fNotInD, sh_int, sh_intsL, any_int, wipeR]
        refine ite_nb (c := (r : Int) ∈ takenL ls rs l.x sp) (fun h => ⟨hn, c1 _ (by rw [decide_eq_true h, if_pos rfl])⟩) fun h => c2 (by rw [decide_eq_false (fun z => z h)]; rfl)
      rw [filterMap_if (fun r : Nat => decide (¬ (r : Int) ∈ takenL ls rs l.x sp)) (fun r : Nat => PyData.int (r : Int))]
      have tl := taken_len (ls := ls) (rs := rs) (x := l.x) (sp := sp)
      obtain ⟨q, hq1, hq2⟩ := some_free (takenL ls rs l.x sp) ls.length (by omega)
      obtain ⟨r, rest, e, hp, hlt, hmin⟩ := fm_first (fun r : Nat => decide (¬ (r : Int) ∈ takenL ls rs l.x sp)) (ls.length + 1) ⟨q, hq1, decide_eq_true hq2⟩
      rw [e]
      simp only [dSeq, dAsg, dCB, dCons, dNil, dVar, onVs, vals, val, slot, setR, fGcd, dIfS, dTV, dOp, dBin, onV2, fLt, fLe, fGt, fGe, fAdd, fSub, fMul, fDiv, fMod, fI0, dC, dUn, onV, fNeg, dNext, dRet, dTup, onD, dats, fDivZ, fI, fPow, Few, retP, fAbs, fInt, fMax, fMin, fLen, fSqrt, fEq, fNe, dNot, dAnd, dOr, dAndV, dOrV, dNotV, dIfE, dDrop, dRetN, dPar, noO, dSetL, dLst, dOfL, dOwnM, onOwn, onDat, kAppend, kInsert, dSetItem, dAddItem, dIx, onItems, items, onInt, dNoPart, dPart, dSlice, onL, litems, dSlL, dCat, onM, mitems, dTupOf, dSeqI, dRng1, dRng2, dCallP, dCallB, dCallF, noSelf, onArgs, dats2, dIsi, tyName, dYes, dgTup, dgCons, dgNil, retB, dBreak, dCont, ne_eq, not_false_eq_true, true_and, and_true, List.getElem?_cons_zero, List.getElem?_cons_succ, List.set_cons_zero, List.set_cons_succ, Option.map, List.length_cons, List.length_nil, dParM, dmNil, dmD, dmL, setM, dLc_eq, dLc2_eq, dFor_eq, dSortSet, dSort, dListOf, dIsN, dNotN, isNo, dAug, dMulA, dgUnl, dCatT, dSlT, onT, titems, dEnum, dZip, dZipM, seqs, dRetL, dPar3, dRevT, dLstRg, dTupRg, dRg1, dRg2, dChainLe, List.nil_append, List.cons_append, if_true, if_false, dFrz, dLcO, dMin2D, dAppX, dParL, dParLL, dRepL, fMax3, dNewDic, dDicPut, dDicGet, dSortDic, onDic, onKey, dLcW, dZipX, dParR, dDead, dSortD, dSortDT, fNeS, fEqS, dgSet, dDGet, onDict_eq, onKeyD_int, onKeyD_str, dDIn, dSortDK, onDict1_eq, dDictL, dDictEn, dDictZip, onSq1_eq, onSq2_eq, onSq_t, onSq_l, onSq_o, dNewD, dDicI, dNewDik, dDikPut, onDik, dFrzD, dNew4, dIndexD, onLst_eq, dIfL, dOrT, dAndT, onTru_int, onTru_bool, onTru_none, onTru_tuple, onTru_list, dTupA, tupA, dTupZip, dZip3, dFgt, fIsB, fNotB, fInA_l, fInA_t, fNotInA_l, fNotInA_t, List.map_cons, List.map_nil, fw0, fw1, fw2, fw3, fw4, fw5, fw6, fw7, fw8, fw9, fw10, fw11, fw12, fw13, fw14, fw15, on0, wipeR]
      refine ⟨few_le (by rw [List.length_map]; omega), ?_⟩
      rw [show rs.map PyData.int ++ [PyData.int (r : Int)] = (rs ++ [(r : Int)]).map .int by rw [List.map_append]; rfl]
      have hl2 : ls[rs.length]? = some l := by rw [lr]; exact hl
      refine hC2 (rs ++ [(r : Int)]) _ _ (by rw [List.length_append, lr]; rfl) (lst.next h0 hl2 (of_decide_eq_true hp) fun t ht => Classical.byContradiction fun z => ?_) fun y hy => ?_
      · have := hmin t ht
        rw [decide_eq_true z] at this
        cases this
      · rcases List.mem_append.mp hy with hy | hy
        · exact rg y hy
        · rw [List.mem_singleton.mp hy]; omega
    · obtain ⟨rs, s1, s2⟩ := s
      obtain ⟨lr, lst, rg⟩ := hs
      dsimp only at lr lst rg
      show kk _
      rw [hk]
      clear hk
      walk_at "K61Z1"
      exact hQ _ ⟨rs, lst, lr, rg, rfl⟩
set_option maxHeartbeats 4000000 in
theorem ok_added {f : Addr} {fd : FuncData} (W : Fun K "added" "added" s_added f fd) (T : Bi mg)
    {f_reduced : Addr} {fd_reduced : FuncData} (G_reduced : FnG P w K mg base CX0 1 f_reduced fd_reduced ["n", "d"] (spP K TT [.d, .d] S_reduced)) (g_reduced : mg "reduced" = some (.ref f_reduced)) (k_reduced : PySem.W.keepIn K (.ref f_reduced) = true) (b_reduced : Binds K fd_reduced ["n", "d"] []) :
    FnG P w K mg base CX0 2 f fd ["one", "other"] (spP K TT [.d, .d] S_added) := by
  refine fnP W sc_added rfl fun cdv A out s H E Nn hr hgd => ⟨_, _, (dss_one (ds_ret (pd_callP G_reduced m_reduced (hr.mono (by decide)) hgd rfl g_reduced k_reduced b_reduced (pda_cons (pd_add (pd_mul (pd_ix (pdv 0) pd_int (fun _ _ => rfl)) (pd_ix (pdv 1) pd_int (fun _ _ => rfl))) (pd_mul (pd_ix (pdv 1) pd_int (fun _ _ => rfl)) (pd_ix (pdv 0) pd_int (fun _ _ => rfl)))) (pda_cons (pd_mul (pd_ix (pdv 0) pd_int (fun _ _ => rfl)) (pd_ix (pdv 1) pd_int (fun _ _ => rfl))) pda_nil))))), ?_⟩
  clear W T hr hgd G_reduced g_reduced k_reduced b_reduced f_reduced fd_reduced
  rintro xs Q hl ⟨⟨p, q, j, k⟩, rfl, ⟨h0, h1, h2⟩, hQ⟩
  clear hl
  replace hQ : Q (fr (p + q)) := hQ
  have e : rhoP nm_added.length [.d, .d] [fr p, fr q] = [some (.d (fr p)), some (.d (fr q))] := rfl
  rw [e]
  clear e
  walk_at "K61Z3"
  refine ⟨cmb h0.n h1.d (by omega), cmb h1.n h0.d (by omega), cmb h0.d h1.d (by omega), u_reduced (dd_ne p q) ((h0.d.mul h1.d).up h2) ?_⟩
  rw [← add_ndi]; exact hQ
set_option maxHeartbeats 4000000 in
theorem ok_least_of {f : Addr} {fd : FuncData} (W : Fun K "least_of" "least_of" s_least_of f fd) (T : Bi mg)
    {f_compared : Addr} {fd_compared : FuncData} (G_compared : FnG P w K mg base CX0 1 f_compared fd_compared ["one", "other"] (spP K TT [.d, .d] S_compared)) (g_compared : mg "compared" = some (.ref f_compared)) (k_compared : PySem.W.keepIn K (.ref f_compared) = true) (b_compared : Binds K fd_compared ["one", "other"] []) :
    FnG P w K mg base CX0 2 f fd ["fractions"] (spP K TT [.ro] S_least_of) := by
  refine fnP W sc_least_of rfl fun cdv A out s H E Nn hr hgd => ⟨_, _, (dss_cons (ds_set (i := 1) sc_least_of.nd (pd_ix (pdv 0) pd_int (fun _ _ => rfl)) fixP)
      (dss_cons (ds_for PassesOwn.never rfl (pdi_seq (pdv 0)) (pgd_name (i := 2) sc_least_of.nd) (dss_one (ds_if (pt_lt (pd_callP G_compared m_compared (hr.mono (by decide)) hgd rfl g_compared k_compared b_compared (pda_cons (pdv 2) (pda_cons (pdv 1) pda_nil))) pd_int) (dss_one (ds_set (i := 1) sc_least_of.nd (pdv 2) fixP)) dss_nil)) nofixP)
      (dss_one (ds_ret (pdv 1))))), ?_⟩
  clear W T hr hgd G_compared g_compared k_compared b_compared f_compared fd_compared
  rintro xs Q hl ⟨⟨p, ps, k⟩, rfl, ⟨h0, h1⟩, hQ⟩
  clear hl
  replace hQ : Q (fr (lesL (p :: ps))) := hQ
  have e : rhoP nm_least_of.length [.ro] [.list ((p :: ps).map fr)] = [some (.ro (.list ((p :: ps).map fr))), none, none] := rfl
  rw [e]
  clear e
  have irr : ¬ cmpR p p < 0 := fun z => Rat.lt_irrefl (cmp_neg.mp z)
  refine seqI fun kk hk => ?_
  try simp only [dSeq, dAsg, dCB, dCons, dNil, dVar, onVs, vals, val, slot, setR, fGcd, dIfS, dTV, onV2, fLt, fLe, fGt, fGe, fAdd, fSub, fMul, fDiv, fMod, fI0, dC, dUn, onV, fNeg, dNext, dRet, dTup, onD, dats, fDivZ, fI, fPow, Few, retP, fAbs, fInt, fMax, fMin, fLen, fSqrt, fEq, fNe, dNot, dAnd, dOr, dAndV, dOrV, dNotV, dIfE, dDrop, dRetN, dPar, noO, dSetL, dLst, dOfL, dOwnM, onOwn, onDat, kAppend, kInsert, dSetItem, dAddItem, onItems, onInt, dNoPart, dPart, dSlice, onL, litems, dSlL, dCat, onM, mitems, dRng1, dRng2, dCallP, dCallB, dCallF, noSelf, onArgs, dats2, dIsi, tyName, dYes, dgCons, dgNil, retB, dBreak, dCont, ne_eq, not_false_eq_true, true_and, and_true, List.getElem?_cons_zero, List.getElem?_cons_succ, List.set_cons_zero, List.set_cons_succ, Option.map, List.length_cons, List.length_nil, dParM, dmNil, dmD, dmL, setM, dLc_eq, dLc2_eq, dFor_eq, dSortSet, dSort, dListOf, dIsN, dNotN, isNo, dAug, dMulA, dgUnl, dSlT, onT, dEnum, dZip, dZipM, dRetL, dPar3, dRevT, dLstRg, dTupRg, dRg1, dRg2, dChainLe, List.nil_append, List.cons_append, if_true, if_false, dFrz, dLcO, dMin2D, dAppX, dParL, dParLL, dRepL, fMax3, dNewDic, dDicPut, dDicGet, dSortDic, onDic, onKey, dLcW, dZipX, dParR, dDead, dSortD, dSortDT, fNeS, fEqS, dgSet, dDGet, onDict_eq, onKeyD_int, onKeyD_str, dDIn, dSortDK, onDict1_eq, dDictL, dDictEn, dDictZip, onSq1_eq, onSq2_eq, onSq_t, onSq_l, onSq_o, dNewD, dDicI, dNewDik, dDikPut, onDik, dFrzD, dNew4, dIndexD, onLst_eq, dIfL, dOrT, dAndT, onTru_int, onTru_bool, onTru_none, onTru_tuple, onTru_list, dTupZip, dZip3, dFgt, fIsB, fNotB, fInA_l, fInA_t, fNotInA_l, fNotInA_t, List.map_cons, List.map_nil, fw0, fw1, fw2, fw3, fw4, fw5, fw6, fw7, fw8, fw9, fw10, fw11, fw12, fw13, fw14, fw15, dExtend, dExtendT, dLstDn, dMaxDf, dOp_ap, dIx_ap, dCatT_ap, dRepT_ap, items_l, items_t, items_o, ti_t, dgT_t, seqs_l, seqs_t, seqs_o, dSeqI_eq, wk_l, wk_t, wk_eP, wk_o, dTupOf_eq, tu_t, tu_l, tu_o, tu_eP, dTupA_eq, ta_t, ta_l, ta_o, ta_eP, items_eW, items_eB, items_eSc, items_eLm, items_eP, items_eL, items_pr, items_enc2, items_eTm, ti_eB, ti_eW, ti_eLm, ti_eP, dgT_eSc, dgT_eLm, dgT_eL, dgT_pr, dgT_enc2, dgT_eW, dgT_eTm, seqs_eP, on0, on1, on2, on3, on4, on5, on6, on7, on8, List.map_cons, on0]
  rw [hk]
  clear hk
  refine seqI fun kk hk => ?_
  try walk_at "K61Z0"
  refine for_st (S := Rat × Option Ent) (p :: ps) fr (fun s => [some (.ro (.list ((p :: ps).map fr))), some (.d (fr s.1)), s.2]) (fun j s => s.1 = ((p :: ps).take j).foldl lesR p ∧ Sz k s.1) (p, none) rfl ⟨rfl, h0 p (List.mem_cons_self ..)⟩ (fun j q s hq hI C hC => ?_) fun s hs => ?_
  · obtain ⟨s1, s2⟩ := s
    obtain ⟨hI, hz⟩ := hI
    dsimp only at hI hz
    have sq := h0 q (List.mem_of_getElem? hq)
    try walk_at "K61Z0"
    refine u_compared sq hz (by omega) ?_
    try walk_at "K61Z0"
    have ht : ((p :: ps).take (j + 1)).foldl lesR p = lesR s1 q := by rw [take_succ_some hq, List.foldl_append, ← hI]; rfl
    unfold lesR at ht
    refine ite_b (c := cmpR q s1 < 0) (fun z => ?_) fun z => ?_
    · rw [if_pos (cmp_neg.mp z)] at ht
      exact hC (q, some (.d (fr q))) ⟨ht.symm, sq⟩
    · rw [if_neg (fun y => z (cmp_neg.mpr y))] at ht
      exact hC (s1, some (.d (fr q))) ⟨ht.symm, hz⟩
  · obtain ⟨s1, s2⟩ := s
    obtain ⟨hI, hz⟩ := hs
    dsimp only at hI
    show kk _
    rw [hk]
    clear hk
    try walk_at "K61Z0"
    rw [hI, List.take_length]
    show Q (fr ((p :: ps).foldl lesR p))
    rw [List.foldl_cons, lesR_self]
    exact hQ
set_option maxHeartbeats 4000000 in
theorem ok_hold_needed {f : Addr} {fd : FuncData} (W : Fun K "hold_needed" "hold_needed" s_hold_needed f fd) (T : Bi mg)
    {f_lag_of : Addr} {fd_lag_of : FuncData} (G_lag_of : FnG P w K mg base CX0 1 f_lag_of fd_lag_of ["bounds"] (spP K TT [.d] S_lag_of)) (g_lag_of : mg "lag_of" = some (.ref f_lag_of)) (k_lag_of : PySem.W.keepIn K (.ref f_lag_of) = true) (b_lag_of : Binds K fd_lag_of ["bounds"] []) :
    FnG P w K mg base CX0 2 f fd ["bounds"] (spP K TT [.d] S_hold_needed) := by
  refine fnP W sc_hold_needed rfl fun cdv A out s H E Nn hr hgd => ⟨_, _, (dss_cons (ds_par3 (i := 1) (j := 2) (l := 3) rfl sc_hold_needed.nd (pda_cons (pd_ix (pdv 0) pd_int (fun _ _ => rfl)) (pda_cons (pd_ix (pdv 0) pd_int (fun _ _ => rfl)) (pda_cons (pd_ix (pdv 0) pd_int (fun _ _ => rfl)) pda_nil))) fixP fixP fixP)
      (dss_one (ds_ret (pd_add (pd_add (pd_add (pd_callP G_lag_of m_lag_of (hr.mono (by decide)) hgd rfl g_lag_of k_lag_of b_lag_of (pda_cons (pdv 0) pda_nil)) (pdv 1)) (pd_mul pd_int (pdv 2))) (pdv 3))))), ?_⟩
  clear W T hr hgd G_lag_of g_lag_of k_lag_of b_lag_of f_lag_of fd_lag_of
  rintro xs Q hl ⟨⟨b, k⟩, rfl, ⟨h0, h1, h2⟩, hQ⟩
  clear hl
  replace hQ : Q (.int b.need) := hQ
  have e : rhoP nm_hold_needed.length [.d] [eB b] = [some (.d (eB b)), none, none, none] := rfl
  rw [e]
  clear e
  refine seqI fun kk hk => ?_
  try walk_at "K61Z0"
  rw [hk]
  clear hk
  try walk_at "K61Z0"
  refine u_lag_of (b := b) h0 h1 ?_
  try walk_at "K61Z0"
  exact ⟨cmb (show Bd 2 2 by unfold Bd; decide) h2 (by omega), hQ⟩
set_option maxHeartbeats 4000000 in
theorem ok__law_some {f : Addr} {fd : FuncData} (W : Fun K "_law_some" "_law_some" s__law_some f fd) (T : Bi mg)
    {f__law_take : Addr} {fd__law_take : FuncData} (G__law_take : FnG P w K mg base CX0 1 f__law_take fd__law_take ["_law_bag_here", "_law_many"] (spB K TT [.d] S__law_take)) (g__law_take : mg "_law_take" = some (.ref f__law_take)) (k__law_take : PySem.W.keepIn K (.ref f__law_take) = true) (b__law_take : Binds K fd__law_take ["_law_bag_here", "_law_many"] []) :
    FnG P w K mg base CX0 2 f fd ["_law_bag_here", "_law_things"] (spB K TT [.ro] S__law_some) := by
  refine fnB W sc__law_some rfl fun cdv A out s H E Nn B hr hgd => ⟨_, _, (dss_one (ds_ret (pd_ix (pdv 1) (pd_callBag G__law_take m__law_take (hr.mono (by decide)) hgd rfl g__law_take k__law_take b__law_take (pda_cons (pdv 0) (pda_cons (pd_callB call_len_seq sc_len rfl T.b_len (by decide +kernel) (pda_cons (pdv 1) pda_nil)) pda_nil))) (fun _ _ => rfl)))), ?_⟩
  exact fun bag xs Q hl hS => rd_some_r hS
set_option maxHeartbeats 4000000 in
theorem ok__law_added {f : Addr} {fd : FuncData} (W : Fun K "_law_added" "_law_added" s__law_added f fd) (T : Bi mg)
    {f__law_over : Addr} {fd__law_over : FuncData} (G__law_over : FnG P w K mg base CX0 1 f__law_over fd__law_over ["_law_n", "_law_d"] (spP K TT [.d, .d] S__law_over)) (g__law_over : mg "_law_over" = some (.ref f__law_over)) (k__law_over : PySem.W.keepIn K (.ref f__law_over) = true) (b__law_over : Binds K fd__law_over ["_law_n", "_law_d"] []) :
    FnG P w K mg base CX0 2 f fd ["_law_x", "_law_y"] (spP K TT [.d, .d] S__law_added) := by
  refine fnP W sc__law_added rfl fun cdv A out s H E Nn hr hgd => ⟨_, _, (dss_one (ds_ret (pd_callP G__law_over m__law_over (hr.mono (by decide)) hgd rfl g__law_over k__law_over b__law_over (pda_cons (pd_add (pd_mul (pd_ix (pdv 0) pd_int (fun _ _ => rfl)) (pd_ix (pdv 1) pd_int (fun _ _ => rfl))) (pd_mul (pd_ix (pdv 1) pd_int (fun _ _ => rfl)) (pd_ix (pdv 0) pd_int (fun _ _ => rfl)))) (pda_cons (pd_mul (pd_ix (pdv 0) pd_int (fun _ _ => rfl)) (pd_ix (pdv 1) pd_int (fun _ _ => rfl))) pda_nil))))), ?_⟩
  clear W T hr hgd G__law_over g__law_over k__law_over b__law_over f__law_over fd__law_over
  rintro xs Q hl ⟨⟨p, q, j, k⟩, rfl, ⟨h0, h1, h2⟩, hQ⟩
  clear hl
  replace hQ : Q (fr (p + q)) := hQ
  have e : rhoP nm__law_added.length [.d, .d] [fr p, fr q] = [some (.d (fr p)), some (.d (fr q))] := rfl
  rw [e]
  clear e
  walk_at "K61Z3"
  refine ⟨cmb h0.n h1.d (by omega), cmb h1.n h0.d (by omega), cmb h0.d h1.d (by omega), u__law_over (dd_ne p q) ((h0.d.mul h1.d).up h2) ?_⟩
  rw [← add_ndi]; exact hQ
set_option maxHeartbeats 4000000 in
theorem ok__law_is_enough {f : Addr} {fd : FuncData} (W : Fun K "_law_is_enough" "_law_is_enough" s__law_is_enough f fd) (T : Bi mg)
    {f__law_reach : Addr} {fd__law_reach : FuncData} (G__law_reach : FnG P w K mg base CX0 1 f__law_reach fd__law_reach ["_law_bounds"] (spP K TT [.d] S__law_reach)) (g__law_reach : mg "_law_reach" = some (.ref f__law_reach)) (k__law_reach : PySem.W.keepIn K (.ref f__law_reach) = true) (b__law_reach : Binds K fd__law_reach ["_law_bounds"] [])
    {f__law_lag : Addr} {fd__law_lag : FuncData} (G__law_lag : FnG P w K mg base CX0 1 f__law_lag fd__law_lag ["_law_bounds"] (spP K TT [.d] S__law_lag)) (g__law_lag : mg "_law_lag" = some (.ref f__law_lag)) (k__law_lag : PySem.W.keepIn K (.ref f__law_lag) = true) (b__law_lag : Binds K fd__law_lag ["_law_bounds"] []) :
    FnG P w K mg base CX0 2 f fd ["_law_bounds", "_law_ticks"] (spP K TT [.d, .d] S__law_is_enough) := by
  refine fnP W sc__law_is_enough rfl fun cdv A out s H E Nn hr hgd => ⟨_, _, (dss_cons (ds_asg (pd_tup (pda_cons (pd_ix (pdv 0) pd_int (fun _ _ => rfl)) (pda_cons (pd_callP G__law_reach m__law_reach (hr.mono (by decide)) hgd rfl g__law_reach k__law_reach b__law_reach (pda_cons (pdv 0) pda_nil)) (pda_cons (pd_ix (pdv 0) pd_int (fun _ _ => rfl)) (pda_cons (pd_callP G__law_lag m__law_lag (hr.mono (by decide)) hgd rfl g__law_lag k__law_lag b__law_lag (pda_cons (pdv 0) pda_nil)) pda_nil))))) (pgd_tup (n := 4) rfl (pgds_cons (pgd_name (i := 2) sc__law_is_enough.nd) (pgds_cons (pgd_name (i := 3) sc__law_is_enough.nd) (pgds_cons (pgd_name (i := 4) sc__law_is_enough.nd) (pgds_cons (pgd_name (i := 5) sc__law_is_enough.nd) pgds_nil))))) nofixP)
      (dss_cons (ds_if (pt_lt (pd_mul (pdv 2) (pdv 2)) (pd_mul (pd_mul pd_int (pdv 3)) (pdv 3))) (dss_one (ds_ret pd_bl)) dss_nil)
      (dss_cons (ds_set (i := 6) sc__law_is_enough.nd (pd_mul (pd_mul (pd_add (pd_mul (pdv 2) (pdv 2)) (pd_mul (pd_mul pd_int (pdv 3)) (pdv 3))) (pdv 1)) (pdv 1)) fixP)
      (dss_cons (ds_set (i := 6) sc__law_is_enough.nd (pd_sub (pdv 6) (pd_mul (pd_mul (pdv 5) (pdv 5)) (pd_sub (pd_mul (pd_mul pd_int (pdv 4)) (pdv 4)) (pd_mul (pdv 2) (pdv 2))))) fixP)
      (dss_cons (ds_set (i := 7) sc__law_is_enough.nd (pd_mul (pd_mul (pd_mul (pd_mul (pd_mul (pd_mul (pd_mul (pd_mul pd_int (pdv 2)) (pdv 2)) (pdv 3)) (pdv 3)) (pdv 1)) (pdv 1)) (pdv 1)) (pdv 1)) fixP)
      (dss_one (ds_ret (pd_and (pd_ge (pdv 6) pd_int) (pdn_one (pd_ge (pd_mul (pdv 6) (pdv 6)) (pdv 7))))))))))), ?_⟩
  clear W T hr hgd G__law_reach g__law_reach k__law_reach b__law_reach f__law_reach fd__law_reach G__law_lag g__law_lag k__law_lag b__law_lag f__law_lag fd__law_lag
  rintro xs Q hl ⟨⟨b, t, k⟩, rfl, ⟨h0, h1, h2, h3, h4, h5, h6⟩, hQ⟩
  clear hl
  replace hQ : Q (.bool (decide (enough b t))) := hQ
  have e : rhoP nm__law_is_enough.length [.d, .d] [eB b, .int t] = [some (.d (eB b)), some (.d (.int t)), none, none, none, none, none, none] := rfl
  rw [e]
  clear e
  have bl := h0.lag
  have br := h0.r
  have b2 : Bd 2 2 := by unfold Bd; decide
  have b8 : Bd 4 8 := by unfold Bd; decide
  have bss := h0.sp.mul h0.sp
  have br2 := b2.mul br
  have brr := br2.mul br
  have bx := bss.add brr
  have bxt := bx.mul h1
  have bxtt := bxt.mul h1
  have bll := bl.mul bl
  have bw2 := b2.mul h0.way
  have by' := (bw2.mul h0.way).sub bss
  have bf := bll.mul by'
  have bM := bxtt.sub bf
  have c1 := b8.mul h0.sp
  have c2 := c1.mul h0.sp
  have c3 := c2.mul br
  have c4 := c3.mul br
  have c5 := c4.mul h1
  have c6 := c5.mul h1
  have c7 := c6.mul h1
  rw [decide_eq_decide.mpr (enough_law h3 h4 h5 h6)] at hQ
  refine seqI fun kk hk => ?_
  simp only [dSeq, dAsg, dCB, dCons, dNil, dVar, onVs, vals, val, slot, setR, fGcd, dIfS, dTV, dOp, dBin, onV2, fLt, fLe, fGt, fGe, fAdd, fSub, fMul, fDiv, fMod, fI0, dC, dUn, onV, fNeg, dNext, dRet, dTup, onD, dats, fDivZ, fI, fPow, Few, retP, fAbs, fInt, fMax, fMin, fLen, fSqrt, fEq, fNe, dNot, dAnd, dOr, dAndV, dOrV, dNotV, dIfE, dDrop, dRetN, dPar, noO, dSetL, dLst, dOfL, dOwnM, onOwn, onDat, kAppend, kInsert, dSetItem, dAddItem, dIx, onItems, items, onInt, dNoPart, dPart, dSlice, onL, litems, dSlL, dCat, onM, mitems, dTupOf, dSeqI, dRng1, dRng2, dCallP, dCallB, dCallF, noSelf, onArgs, dats2, dIsi, tyName, dYes, dgTup, dgCons, dgNil, retB, dBreak, dCont, ne_eq, not_false_eq_true, true_and, and_true, List.getElem?_cons_zero, List.getElem?_cons_succ, List.set_cons_zero, List.set_cons_succ, Option.map, List.length_cons, List.length_nil, dParM, dmNil, dmD, dmL, setM, dLc_eq, dLc2_eq, dFor_eq, dSortSet, dSort, dListOf, dIsN, dNotN, isNo, dAug, dMulA, dgUnl, dCatT, dSlT, onT, titems, dEnum, dZip, dZipM, seqs, dRetL, dPar3, dRevT, dLstRg, dTupRg, dRg1, dRg2, dChainLe, List.nil_append, List.cons_append, if_true, if_false, dFrz, dLcO, dMin2D, dAppX, dParL, dParLL, dRepL, fMax3, dNewDic, dDicPut, dDicGet, dSortDic, onDic, onKey, dLcW, dZipX, dParR, dDead, dSortD, dSortDT, fNeS, fEqS, dgSet, dDGet, onDict_eq, onKeyD_int, onKeyD_str, dDIn, dSortDK, onDict1_eq, dDictL, dDictEn, dDictZip, onSq1_eq, onSq2_eq, onSq_t, onSq_l, onSq_o, dNewD, dDicI, dNewDik, dDikPut, onDik, dFrzD, dNew4, dIndexD, onLst_eq, dIfL, dOrT, dAndT, onTru_int, onTru_bool, onTru_none, onTru_tuple, onTru_list, dTupA, tupA, dTupZip, dZip3, dFgt, fIsB, fNotB, fInA_l, fInA_t, fNotInA_l, fNotInA_t, List.map_cons, List.map_nil, fw0, fw1, fw2, fw3, fw4, fw5, fw6, fw7, fw8, fw9, fw10, fw11, fw12, fw13, fw14, fw15, eB, on0]
  refine u__law_reach (b := b) h0 (by omega) ?_
  try simp only [dSeq, dAsg, dCB, dCons, dNil, dVar, onVs, vals, val, slot, setR, fGcd, dIfS, dTV, dOp, dBin, onV2, fLt, fLe, fGt, fGe, fAdd, fSub, fMul, fDiv, fMod, fI0, dC, dUn, onV, fNeg, dNext, dRet, dTup, onD, dats, fDivZ, fI, fPow, Few, retP, fAbs, fInt, fMax, fMin, fLen, fSqrt, fEq, fNe, dNot, dAnd, dOr, dAndV, dOrV, dNotV, dIfE, dDrop, dRetN, dPar, noO, dSetL, dLst, dOfL, dOwnM, onOwn, onDat, kAppend, kInsert, dSetItem, dAddItem, dIx, onItems, items, onInt, dNoPart, dPart, dSlice, onL, litems, dSlL, dCat, onM, mitems, dTupOf, dSeqI, dRng1, dRng2, dCallP, dCallB, dCallF, noSelf, onArgs, dats2, dIsi, tyName, dYes, dgTup, dgCons, dgNil, retB, dBreak, dCont, ne_eq, not_false_eq_true, true_and, and_true, List.getElem?_cons_zero, List.getElem?_cons_succ, List.set_cons_zero, List.set_cons_succ, Option.map, List.length_cons, List.length_nil, dParM, dmNil, dmD, dmL, setM, dLc_eq, dLc2_eq, dFor_eq, dSortSet, dSort, dListOf, dIsN, dNotN, isNo, dAug, dMulA, dgUnl, dCatT, dSlT, onT, titems, dEnum, dZip, dZipM, seqs, dRetL, dPar3, dRevT, dLstRg, dTupRg, dRg1, dRg2, dChainLe, List.nil_append, List.cons_append, if_true, if_false, dFrz, dLcO, dMin2D, dAppX, dParL, dParLL, dRepL, fMax3, dNewDic, dDicPut, dDicGet, dSortDic, onDic, onKey, dLcW, dZipX, dParR, dDead, dSortD, dSortDT, fNeS, fEqS, dgSet, dDGet, onDict_eq, onKeyD_int, onKeyD_str, dDIn, dSortDK, onDict1_eq, dDictL, dDictEn, dDictZip, onSq1_eq, onSq2_eq, onSq_t, onSq_l, onSq_o, dNewD, dDicI, dNewDik, dDikPut, onDik, dFrzD, dNew4, dIndexD, onLst_eq, dIfL, dOrT, dAndT, onTru_int, onTru_bool, onTru_none, onTru_tuple, onTru_list, dTupA, tupA, dTupZip, dZip3, dFgt, fIsB, fNotB, fInA_l, fInA_t, fNotInA_l, fNotInA_t, List.map_cons, List.map_nil, fw0, fw1, fw2, fw3, fw4, fw5, fw6, fw7, fw8, fw9, fw10, fw11, fw12, fw13, fw14, fw15, on5]
  refine u__law_lag (b := b) h0 (by omega) ?_
  rw [hk]
  clear hk
  refine seqI fun kk hk => ?_
  walk_at "K61Z1"
  refine ⟨cmb h0.sp h0.sp (by omega), cmb b2 br (by omega), cmb br2 br (by omega), ?_⟩
  refine ite_b (c := b.sp * b.sp < 2 * b.r * b.r) (fun h => ?_) fun h => ?_
  · rw [decide_eq_false (fun z => absurd z.1 (by omega))] at hQ
    exact hQ
  rw [hk]
  clear hk
  refine seqI fun kk hk => ?_
  walk_at "K61Z1"
  refine ⟨cmb h0.sp h0.sp (by omega), cmb b2 br (by omega), cmb br2 br (by omega), cmb bx h1 (by omega), cmb bxt h1 (by omega), ?_⟩
  rw [hk]
  clear hk
  refine seqI fun kk hk => ?_
  walk_at "K61Z1"
  refine ⟨cmb bl bl (by omega), cmb b2 h0.way (by omega), cmb bw2 h0.way (by omega), cmb h0.sp h0.sp (by omega), cmb bll by' (by omega), ?_⟩
  rw [hk]
  clear hk
  rw [show b.lag * b.lag * (2 * b.way * b.way - b.sp * b.sp) = flw b from rfl] at *
  walk_at "K61Z1"
  have h' : 2 * b.r * b.r ≤ b.sp * b.sp := by omega
  refine ⟨cmb b8 h0.sp (by omega), cmb c1 h0.sp (by omega), cmb c2 br (by omega), cmb c3 br (by omega), cmb c4 h1 (by omega), cmb c5 h1 (by omega), cmb c6 h1 (by omega), cmb c7 h1 (by omega), ?_⟩
  refine ite_b (c := 0 ≤ (b.sp * b.sp + 2 * b.r * b.r) * t * t - flw b) (fun h => ?_) fun h => ?_
  · refine ⟨cmb bM bM (by omega), ?_⟩
    rw [decide_eq_decide.mpr (show _ ↔ 8 * b.sp * b.sp * b.r * b.r * t * t * t * t ≤ ((b.sp * b.sp + 2 * b.r * b.r) * t * t - flw b) * ((b.sp * b.sp + 2 * b.r * b.r) * t * t - flw b) from ⟨fun z => z.2.2, fun z => ⟨h', h, z⟩⟩)] at hQ
    exact hQ
  · rw [decide_eq_false (fun z => h z.2.1)] at hQ
    exact hQ
set_option maxHeartbeats 4000000 in
theorem ok__law_needed {f : Addr} {fd : FuncData} (W : Fun K "_law_needed" "_law_needed" s__law_needed f fd) (T : Bi mg)
    {f__law_lag : Addr} {fd__law_lag : FuncData} (G__law_lag : FnG P w K mg base CX0 1 f__law_lag fd__law_lag ["_law_bounds"] (spP K TT [.d] S__law_lag)) (g__law_lag : mg "_law_lag" = some (.ref f__law_lag)) (k__law_lag : PySem.W.keepIn K (.ref f__law_lag) = true) (b__law_lag : Binds K fd__law_lag ["_law_bounds"] []) :
    FnG P w K mg base CX0 2 f fd ["_law_bounds"] (spP K TT [.d] S__law_needed) := by
  refine fnP W sc__law_needed rfl fun cdv A out s H E Nn hr hgd => ⟨_, _, (dss_one (ds_ret (pd_add (pd_add (pd_add (pd_callP G__law_lag m__law_lag (hr.mono (by decide)) hgd rfl g__law_lag k__law_lag b__law_lag (pda_cons (pdv 0) pda_nil)) (pd_ix (pdv 0) pd_int (fun _ _ => rfl))) (pd_mul pd_int (pd_ix (pdv 0) pd_int (fun _ _ => rfl)))) (pd_ix (pdv 0) pd_int (fun _ _ => rfl))))), ?_⟩
  clear W T hr hgd G__law_lag g__law_lag k__law_lag b__law_lag f__law_lag fd__law_lag
  rintro xs Q hl ⟨⟨b, k⟩, rfl, ⟨h0, h1, h2⟩, hQ⟩
  clear hl
  replace hQ : Q (.int b.need) := hQ
  have e : rhoP nm__law_needed.length [.d] [eB b] = [some (.d (eB b))] := rfl
  rw [e]
  clear e
  try walk_at "K61Z0"
  refine u__law_lag (b := b) h0 h1 ?_
  try walk_at "K61Z0"
  exact ⟨cmb (show Bd 2 2 by unfold Bd; decide) h2 (by omega), hQ⟩
set_option maxHeartbeats 4000000 in
theorem ok_timeline {f : Addr} {fd : FuncData} (W : Fun K "timeline" "timeline" s_timeline f fd) (T : Bi mg)
    {f_hold_needed : Addr} {fd_hold_needed : FuncData} (G_hold_needed : FnG P w K mg base CX0 2 f_hold_needed fd_hold_needed ["bounds"] (spP K TT [.d] S_hold_needed)) (g_hold_needed : mg "hold_needed" = some (.ref f_hold_needed)) (k_hold_needed : PySem.W.keepIn K (.ref f_hold_needed) = true) (b_hold_needed : Binds K fd_hold_needed ["bounds"] []) :
    FnG P w K mg base CX0 3 f fd ["show"] (spP K TT [.d] S_timeline) := by
  refine fnP W sc_timeline rfl fun cdv A out s H E Nn hr hgd => ⟨_, _, (dss_cons (ds_setL (i := 1) sc_timeline.nd (pl_lst pda_nil) fixP)
      (dss_cons (ds_par (i := 2) (j := 3) rfl sc_timeline.nd (pda_cons pd_int (pda_cons (pd_callP G_hold_needed m_hold_needed (hr.mono (by decide)) hgd rfl g_hold_needed k_hold_needed b_hold_needed (pda_cons (pd_ix (pdv 0) pd_int (fun _ _ => rfl)) pda_nil)) pda_nil)) fixP fixP)
      (dss_cons (ds_for PassesOwn.never rfl (pdi_seq (pd_ix (pdv 0) pd_int (fun _ _ => rfl))) (pgd_tup (n := 3) rfl (pgds_cons (pgd_name (i := 4) sc_timeline.nd) (pgds_cons (pgd_name (i := 5) sc_timeline.nd) (pgds_cons (pgd_name (i := 6) sc_timeline.nd) pgds_nil)))) (dss_cons (ds_set (i := 7) sc_timeline.nd (pd_add (pdv 3) (pdv 4)) fixP)
      (dss_cons (ds_expr (pd_append (i := 1) (pda_cons (pd_tup (pda_cons (pdv 2) (pda_cons (pdv 3) (pda_cons (pdv 7) (pda_cons (pd_add (pdv 7) (pdv 5)) pda_nil))))) pda_nil)))
      (dss_one (ds_par (i := 2) (j := 3) rfl sc_timeline.nd (pda_cons (pdv 7) (pda_cons (pd_add (pdv 7) (pdv 5)) pda_nil)) fixP fixP)))) nofixP)
      (dss_one (ds_ret (pd_tupleA rfl T.b_tuple (pda_cons (pdv 1) pda_nil))))))), ?_⟩
  clear W T hr hgd G_hold_needed g_hold_needed k_hold_needed b_hold_needed f_hold_needed fd_hold_needed
  rintro xs Q hl ⟨w, rfl, h0, hQ⟩
  clear hl
  replace hQ : Q (.tuple (tmF w.b.need w.sc w.sc.length)) := hQ
  have e : rhoP nm_timeline.length [.d] [eW w] = [some (.d (eW w)), none, none, none, none, none, none, none] := rfl
  rw [e]
  clear e
  have need := h0.ok.need0
  have bs : Bd 900 w.b.sil := bd_of 1000 (by have := h0.ok.sil0; omega) (by have := h0.ok.sil1; omega)
  refine seqI fun kk hk => ?_
  try walk_at "K61Z0"
  rw [hk]
  clear hk
  refine seqI fun kk hk => ?_
  try walk_at "K61Z0"
  refine u_hold_needed (b := w.b) h0.ok.bd (by decide) bs ?_
  try walk_at "K61Z0"
  rw [hk]
  clear hk
  refine seqI fun kk hk => ?_
  try walk_at "K61Z0"
  refine for_st (S := (Int × Int) × List PyData × Option Ent × Option Ent × Option Ent × Option Ent) w.sc eSc (fun s => [some (.d (eW w)), some (.own s.2.1), some (.d (.int s.1.1)), some (.d (.int s.1.2)), s.2.2.1, s.2.2.2.1, s.2.2.2.2.1, s.2.2.2.2.2]) (fun i s => s.1 = tmS w.b.need w.sc i ∧ s.2.1 = tmF w.b.need w.sc i) ((0, w.b.need), [], none, none, none, none) rfl ⟨rfl, rfl⟩ (fun i a s ha hI C hC => ?_) fun s hs => ?_
  · obtain ⟨⟨o, l⟩, fd, s1, s2, s3, s4⟩ := s
    obtain ⟨e1, e2⟩ := hI
    dsimp only at e1 e2
    have il := (List.getElem?_eq_some_iff.mp ha).1
    have hC2 : ∀ (o l : Int) (fd : List PyData) (s1 s2 s3 s4 : Option Ent), (o, l) = tmS w.b.need w.sc (i + 1) → fd = tmF w.b.need w.sc (i + 1) → C [some (.d (eW w)), some (.own fd), some (.d (.int o)), some (.d (.int l)), s1, s2, s3, s4] := fun o l fd s1 s2 s3 s4 x y => hC ((o, l), fd, s1, s2, s3, s4) ⟨x, y⟩
    clear hC
    try walk_at "K61Z0"
    have lf : fd.length ≤ 100 := by rw [e2, tmF_len (by omega)]; have := h0.ns; omega
    refine ⟨few_le (by omega), ?_⟩
    refine hC2 _ _ _ _ _ _ _ ?_ ?_
    · rw [tmS_succ ha, ← e1]
    · rw [tmF_succ ha, ← e1, e2]; rfl
  · obtain ⟨⟨o, l⟩, fd, s1, s2, s3, s4⟩ := s
    obtain ⟨e1, e2⟩ := hs
    dsimp only at e1 e2
    show kk _
    rw [hk]
    clear hk
    try walk_at "K61Z0"
    rw [e2]
    exact hQ
set_option maxHeartbeats 4000000 in
theorem ok__law_first_enough {f : Addr} {fd : FuncData} (W : Fun K "_law_first_enough" "_law_first_enough" s__law_first_enough f fd) (T : Bi mg)
    {f__law_lag : Addr} {fd__law_lag : FuncData} (G__law_lag : FnG P w K mg base CX0 1 f__law_lag fd__law_lag ["_law_bounds"] (spP K TT [.d] S__law_lag)) (g__law_lag : mg "_law_lag" = some (.ref f__law_lag)) (k__law_lag : PySem.W.keepIn K (.ref f__law_lag) = true) (b__law_lag : Binds K fd__law_lag ["_law_bounds"] [])
    {f__law_is_enough : Addr} {fd__law_is_enough : FuncData} (G__law_is_enough : FnG P w K mg base CX0 2 f__law_is_enough fd__law_is_enough ["_law_bounds", "_law_ticks"] (spP K TT [.d, .d] S__law_is_enough)) (g__law_is_enough : mg "_law_is_enough" = some (.ref f__law_is_enough)) (k__law_is_enough : PySem.W.keepIn K (.ref f__law_is_enough) = true) (b__law_is_enough : Binds K fd__law_is_enough ["_law_bounds", "_law_ticks"] []) :
    FnG P w K mg base CX0 3 f fd ["_law_bounds", "_law_most"] (spP K TT [.d, .d] S__law_first_enough) := by
  refine fnP W sc__law_first_enough rfl fun cdv A out s H E Nn hr hgd => ⟨_, _, (dss_cons (ds_par (i := 2) (j := 3) rfl sc__law_first_enough.nd (pda_cons (pd_callB (call_max2 rfl) sc_max rfl T.b_max (by decide +kernel) (pda_cons pd_int (pda_cons (pd_callP G__law_lag m__law_lag (hr.mono (by decide)) hgd rfl g__law_lag k__law_lag b__law_lag (pda_cons (pdv 0) pda_nil)) pda_nil))) (pda_cons (pdv 1) pda_nil)) fixP fixP)
      (dss_cons (ds_if (pt_w (pwd_or (pt_gt (pdv 2) (pdv 3)) (pwd_or1 (pt_no (pt_v (pd_callP G__law_is_enough m__law_is_enough (hr.mono (by decide)) hgd rfl g__law_is_enough k__law_is_enough b__law_is_enough (pda_cons (pdv 0) (pda_cons (pdv 3) pda_nil)))))))) (dss_one (ds_ret pd_non)) dss_nil)
      (dss_cons (ds_for PassesOwn.never rfl (pdi_range1 rfl T.b_range (pda_cons pd_int pda_nil)) (pgd_name (i := 4) sc__law_first_enough.nd) (dss_cons (ds_set (i := 5) sc__law_first_enough.nd (pd_div (pd_add (pdv 2) (pdv 3)) pd_int) fixP)
      (dss_one (ds_if (pt_w (pwd_and (pt_lt (pdv 2) (pdv 3)) (pwd_and1 (pt_v (pd_callP G__law_is_enough m__law_is_enough (hr.mono (by decide)) hgd rfl g__law_is_enough k__law_is_enough b__law_is_enough (pda_cons (pdv 0) (pda_cons (pdv 5) pda_nil))))))) (dss_one (ds_set (i := 3) sc__law_first_enough.nd (pdv 5) fixP)) (dss_one (ds_if (pt_lt (pdv 2) (pdv 3)) (dss_one (ds_set (i := 2) sc__law_first_enough.nd (pd_add (pdv 5) pd_int) fixP)) dss_nil))))) nofixP)
      (dss_one (ds_ret (pdv 2)))))), ?_⟩
  clear W T hr hgd G__law_lag g__law_lag k__law_lag b__law_lag f__law_lag fd__law_lag G__law_is_enough g__law_is_enough k__law_is_enough b__law_is_enough f__law_is_enough fd__law_is_enough
  rintro xs Q hl ⟨⟨b, n⟩, rfl, ⟨h0, h1, h2⟩, hQ⟩
  clear hl
  replace hQ : ∀ z, ((z = .none ∧ ¬ enough b n) ∨ (∃ t : Int, z = .int t ∧ 1 ≤ t ∧ b.lag ≤ t ∧ t ≤ n ∧ enough b t ∧ ∀ u, 1 ≤ u → b.lag ≤ u → u < t → ¬ enough b u)) → Q z   := hQ
  have e : rhoP nm__law_first_enough.length [.d, .d] [eB b, .int n] = [some (.d (eB b)), some (.d (.int n)), none, none, none, none] := rfl
  rw [e]
  clear e
  have lg := h0.lag0
  refine seqI fun kk hk => ?_
  walk_at "K61Z1"
  refine u__law_lag h0.bd (by decide) ?_
  walk_at "K61Z1"
  have e1 : 1 ≤ (if b.lag > 1 then b.lag else 1) ∧ b.lag ≤ (if b.lag > 1 then b.lag else 1) ∧ (if b.lag > 1 then b.lag else 1) ≤ 30 ∧ ∀ u, 1 ≤ u → b.lag ≤ u → (if b.lag > 1 then b.lag else 1) ≤ u := by
    split
    · exact ⟨by omega, by omega, by omega, fun u _ _ => by omega⟩
    · exact ⟨by omega, by omega, by omega, fun u _ _ => by omega⟩
  generalize (if b.lag > 1 then b.lag else 1) = lo at *
  obtain ⟨l0, l1, l2, l3⟩ := e1
  have en : ∀ (t : Int) {Q : PyData → Prop}, 1 ≤ t → t ≤ 1000000000000 → Q (.bool (decide (enough b t))) → S__law_is_enough [eB b, .int t] Q := fun t Q t0 t1 hq =>
    u__law_is_enough (k := 60) ⟨h0.bd.sp.up (by decide), h0.bd.near.up (by decide), h0.bd.wind.up (by decide), h0.bd.clk.up (by decide), h0.bd.fall.up (by decide), h0.bd.way.up (by decide)⟩ (bd_of 1000000000000 (by omega) (by omega)) (by decide) t0 h0.r0.1 (by have := h0.sp0; omega) h0.way0 hq
  rw [hk]
  clear hk
  refine seqI fun kk hk => ?_
  walk_at "K61Z1"
  refine ite_f (by omega) (en _ (by omega) (by omega) ?_)
  walk_at "K61Z1"
  refine ite_nb (fun he => hQ _ (.inl ⟨rfl, he⟩)) fun he => ?_
  rw [hk]
  clear hk
  refine seqI fun kk hk => ?_
  walk_at "K61Z1"
  refine ⟨⟨by decide, by decide⟩, for_rng (S := Int × Int × Option Ent × Option Ent) 0 _ (fun s => [some (Ent.d (eB b)), some (Ent.d (PyData.int n)), some (.d (.int s.1)), some (.d (.int s.2.1)), s.2.2.1, s.2.2.2]) (fun i s => 1 ≤ s.1 ∧ b.lag ≤ s.1 ∧ s.1 ≤ s.2.1 ∧ s.2.1 ≤ n ∧ enough b s.2.1 ∧ (∀ u, 1 ≤ u → b.lag ≤ u → u < s.1 → ¬ enough b u) ∧ s.2.1 - s.1 < 2 ^ (64 - i)) (lo, n, none, none) rfl ⟨l0, l1, by show lo ≤ n; omega, Int.le_refl _, he, fun u u0 u1 u2 => absurd (l3 u u0 u1) (by omega), by simp only [Nat.sub_zero]; omega⟩ (fun i s hi hI C hC => ?_) fun s hs => ?_⟩
  · obtain ⟨low, high, s1, s2⟩ := s
    obtain ⟨a1, a2, a3, a4, a5, a6, a7⟩ := hI
    dsimp only at a1 a2 a3 a4 a5 a6 a7
    have hi64 : i < 64 := hi
    have e2 : (2 : Int) ^ (64 - i) = 2 * 2 ^ (64 - (i + 1)) := by
      rw [show 64 - i = (64 - (i + 1)) + 1 by omega, Int.pow_succ]; omega
    rw [e2] at a7
    generalize hp : (2 : Int) ^ (64 - (i + 1)) = pw at *
    have ndiv : (low + high) / 2 * 2 ≤ low + high ∧ low + high < (low + high) / 2 * 2 + 2 := by omega
    simp only [setR, List.set_cons_succ, List.set_cons_zero]
    refine seqI fun k3 hk3 => ?_
    have b2 : Bd 2 2 := by unfold Bd; decide
    walk_at "K61Z1"
    refine ⟨cdwB (by decide) b2, ?_⟩
    rw [hk3]
    clear hk3
    walk_at "K61Z1"
    generalize (low + high) / 2 = mid at *
    have hC2 : ∀ (lo hi : Int) (s1 s2 : Option Ent), 1 ≤ lo → b.lag ≤ lo → lo ≤ hi → hi ≤ n → enough b hi → (∀ u, 1 ≤ u → b.lag ≤ u → u < lo → ¬ enough b u) → hi - lo < pw → C [some (Ent.d (eB b)), some (Ent.d (PyData.int n)), some (.d (.int lo)), some (.d (.int hi)), s1, s2] := fun lo hi s1 s2 x1 x2 x3 x4 x5 x6 x7 => hC (lo, hi, s1, s2) ⟨x1, x2, x3, x4, x5, x6, x7⟩
    have pw1 : 0 < pw := by rw [← hp]; exact Int.pow_pos (by decide)
    refine ite_b (c := low < high) (fun lt => ?_) fun nlt => ?_
    · refine en mid (by omega) (by omega) ?_
      walk_at "K61Z1"
      refine ite_b (c := enough b mid) (fun hm => hC2 _ _ _ _ a1 a2 (by omega) (by omega) hm a6 (by omega)) fun hm => ?_
      refine ite_b (c := low < high) (fun _ => hC2 _ _ _ _ (by omega) (by omega) (by omega) a4 a5 (fun u u0 u1 u2 hu => ?_) (by omega)) fun z => absurd lt z
      exact hm (enough_mono u0 (by have := h0.sp0; omega) h0.way0 hu (by omega))
    · simp only [Bool.false_eq_true, if_false]
      refine ite_f nlt (hC2 _ _ _ _ a1 a2 a3 a4 a5 a6 (by omega))
  · obtain ⟨low, high, s1, s2⟩ := s
    obtain ⟨a1, a2, a3, a4, a5, a6, a7⟩ := hs
    dsimp only at a1 a2 a3 a4 a5 a6 a7
    have : high = low := by
      have e : (2 : Int) ^ (64 - (64 : Int).toNat) = 1 := by decide
      have a7' : high - low < 1 := a7
      omega
    subst this
    show kk _
    rw [hk]
    clear hk
    walk_at "K61Z1"
    exact hQ _ (.inr ⟨high, rfl, a1, a2, a4, a5, a6⟩)
set_option maxHeartbeats 4000000 in
theorem ok__law_times {f : Addr} {fd : FuncData} (W : Fun K "_law_times" "_law_times" s__law_times f fd) (T : Bi mg)
    {f__law_needed : Addr} {fd__law_needed : FuncData} (G__law_needed : FnG P w K mg base CX0 2 f__law_needed fd__law_needed ["_law_bounds"] (spP K TT [.d] S__law_needed)) (g__law_needed : mg "_law_needed" = some (.ref f__law_needed)) (k__law_needed : PySem.W.keepIn K (.ref f__law_needed) = true) (b__law_needed : Binds K fd__law_needed ["_law_bounds"] []) :
    FnG P w K mg base CX0 3 f fd ["_law_show_here"] (spP K TT [.d] S__law_times) := by
  refine fnP W sc__law_times rfl fun cdv A out s H E Nn hr hgd => ⟨_, _, (dss_cons (ds_par3M (i := 1) (j := 2) (l := 3) rfl sc__law_times.nd (pdm_l (pl_lst pda_nil) (pdm_d pd_int (pdm_d (pd_callP G__law_needed m__law_needed (hr.mono (by decide)) hgd rfl g__law_needed k__law_needed b__law_needed (pda_cons (pd_ix (pdv 0) pd_int (fun _ _ => rfl)) pda_nil)) pdm_nil))) nofixP)
      (dss_cons (ds_for PassesOwn.never rfl (pdi_seq (pd_ix (pdv 0) pd_int (fun _ _ => rfl))) (pgd_tup (n := 3) rfl (pgds_cons (pgd_name (i := 4) sc__law_times.nd) (pgds_cons (pgd_name (i := 5) sc__law_times.nd) (pgds_cons (pgd_name (i := 6) sc__law_times.nd) pgds_nil)))) (dss_cons (ds_expr (pd_append (i := 1) (pda_cons (pd_tup (pda_cons (pdv 2) (pda_cons (pdv 3) (pda_cons (pd_add (pdv 3) (pdv 4)) (pda_cons (pd_add (pd_add (pdv 3) (pdv 4)) (pdv 5)) pda_nil))))) pda_nil)))
      (dss_one (ds_par (i := 2) (j := 3) rfl sc__law_times.nd (pda_cons (pd_add (pdv 3) (pdv 4)) (pda_cons (pd_add (pd_add (pdv 3) (pdv 4)) (pdv 5)) pda_nil)) fixP fixP))) nofixP)
      (dss_one (ds_ret (pdv 1))))), ?_⟩
  clear W T hr hgd G__law_needed g__law_needed k__law_needed b__law_needed f__law_needed fd__law_needed
  rintro xs Q hl ⟨w, rfl, h0, hQ⟩
  clear hl
  replace hQ : Q (.list (tmF w.b.need w.sc w.sc.length)) := hQ
  have e : rhoP nm__law_times.length [.d] [eW w] = [some (.d (eW w)), none, none, none, none, none, none] := rfl
  rw [e]
  clear e
  have need := h0.ok.need0
  have bs : Bd 900 w.b.sil := bd_of 1000 (by have := h0.ok.sil0; omega) (by have := h0.ok.sil1; omega)
  refine seqI fun kk hk => ?_
  try walk_at "K61Z0"
  refine u__law_needed (b := w.b) h0.ok.bd (by decide) bs ?_
  try walk_at "K61Z0"
  rw [hk]
  clear hk
  refine seqI fun kk hk => ?_
  try walk_at "K61Z0"
  refine for_st (S := (Int × Int) × List PyData × Option Ent × Option Ent × Option Ent) w.sc eSc (fun s => [some (.d (eW w)), some (.own s.2.1), some (.d (.int s.1.1)), some (.d (.int s.1.2)), s.2.2.1, s.2.2.2.1, s.2.2.2.2]) (fun i s => s.1 = tmS w.b.need w.sc i ∧ s.2.1 = tmF w.b.need w.sc i) ((0, w.b.need), [], none, none, none) rfl ⟨rfl, rfl⟩ (fun i a s ha hI C hC => ?_) fun s hs => ?_
  · obtain ⟨⟨o, l⟩, fd, s1, s2, s3⟩ := s
    obtain ⟨e1, e2⟩ := hI
    dsimp only at e1 e2
    have il := (List.getElem?_eq_some_iff.mp ha).1
    have hC2 : ∀ (o l : Int) (fd : List PyData) (s1 s2 s3 : Option Ent), (o, l) = tmS w.b.need w.sc (i + 1) → fd = tmF w.b.need w.sc (i + 1) → C [some (.d (eW w)), some (.own fd), some (.d (.int o)), some (.d (.int l)), s1, s2, s3] := fun o l fd s1 s2 s3 x y => hC ((o, l), fd, s1, s2, s3) ⟨x, y⟩
    clear hC
    try walk_at "K61Z0"
    have lf : fd.length ≤ 100 := by rw [e2, tmF_len (by omega)]; have := h0.ns; omega
    refine ⟨few_le (by omega), ?_⟩
    refine hC2 _ _ _ _ _ _ ?_ ?_
    · rw [tmS_succ ha, ← e1]
    · rw [tmF_succ ha, ← e1, e2]; rfl
  · obtain ⟨⟨o, l⟩, fd, s1, s2, s3⟩ := s
    obtain ⟨e1, e2⟩ := hs
    dsimp only at e1 e2
    show kk _
    rw [hk]
    clear hk
    try walk_at "K61Z0"
    rw [e2]
    exact hQ
set_option maxHeartbeats 4000000 in
theorem ok__law_picture {f : Addr} {fd : FuncData} (W : Fun K "_law_picture" "_law_picture" s__law_picture f fd) (T : Bi mg)
    {f__law_rows : Addr} {fd__law_rows : FuncData} (G__law_rows : FnG P w K mg base CX0 1 f__law_rows fd__law_rows ["_law_picture_here", "_law_spacing"] (spP K TT [.d, .d] S__law_rows)) (g__law_rows : mg "_law_rows" = some (.ref f__law_rows)) (k__law_rows : PySem.W.keepIn K (.ref f__law_rows) = true) (b__law_rows : Binds K fd__law_rows ["_law_picture_here", "_law_spacing"] [])
    {f__law_some : Addr} {fd__law_some : FuncData} (G__law_some : FnG P w K mg base CX0 2 f__law_some fd__law_some ["_law_bag_here", "_law_things"] (spB K TT [.ro] S__law_some)) (g__law_some : mg "_law_some" = some (.ref f__law_some)) (k__law_some : PySem.W.keepIn K (.ref f__law_some) = true) (b__law_some : Binds K fd__law_some ["_law_bag_here", "_law_things"] [])
    {f__law_take : Addr} {fd__law_take : FuncData} (G__law_take : FnG P w K mg base CX0 1 f__law_take fd__law_take ["_law_bag_here", "_law_many"] (spB K TT [.d] S__law_take)) (g__law_take : mg "_law_take" = some (.ref f__law_take)) (k__law_take : PySem.W.keepIn K (.ref f__law_take) = true) (b__law_take : Binds K fd__law_take ["_law_bag_here", "_law_many"] []) :
    FnG P w K mg base CX0 3 f fd ["_law_bag_here", "_law_spacing", "_law_deep", "_law_most"] (spB K TT [.d, .d, .d] S__law_picture) := by
  refine fnB W sc__law_picture rfl fun cdv A out s H E Nn B hr hgd => ⟨_, _, (dss_cons (ds_newDic (i := 4) sc__law_picture.nd (fixB (by decide)))
      (dss_cons (ds_for PassesOwn.never rfl (pdi_range1 rfl T.b_range (pda_cons (pdv 3) pda_nil)) (pgd_name (i := 5) sc__law_picture.nd) (dss_cons (ds_set (i := 6) sc__law_picture.nd (pd_callBag G__law_some m__law_some (hr.mono (by decide)) hgd rfl g__law_some k__law_some b__law_some (pda_cons (pdv 0) (pda_cons (pd_l (pl_lst (pda_cons pd_int (pda_cons (pdv 1) (pda_cons (pd_mul pd_int (pdv 1)) (pda_cons (pd_callBag G__law_take m__law_take (hr.mono (by decide)) hgd rfl g__law_take k__law_take b__law_take (pda_cons (pdv 0) (pda_cons (pd_add (pd_mul pd_int (pdv 1)) pd_int) pda_nil))) (pda_cons (pd_sub (pdv 1) pd_int) pda_nil))))))) pda_nil))) (fixB (by decide)))
      (dss_cons (ds_set (i := 7) sc__law_picture.nd (pd_callBag G__law_take m__law_take (hr.mono (by decide)) hgd rfl g__law_take k__law_take b__law_take (pda_cons (pdv 0) (pda_cons pd_int pda_nil))) (fixB (by decide)))
      (dss_cons (ds_set (i := 8) sc__law_picture.nd (pd_callBag G__law_some m__law_some (hr.mono (by decide)) hgd rfl g__law_some k__law_some b__law_some (pda_cons (pdv 0) (pda_cons (pd_l (pl_lst (pda_cons (pd_tup (pda_cons pd_str pda_nil)) (pda_cons (pd_tup (pda_cons pd_str (pda_cons pd_str pda_nil))) (pda_cons (pd_tup (pda_cons pd_str (pda_cons pd_str pda_nil))) (pda_cons (pd_tup (pda_cons pd_str (pda_cons pd_str (pda_cons pd_str pda_nil)))) pda_nil)))))) pda_nil))) (fixB (by decide)))
      (dss_one (ds_if (pt_gt (pd_callBag G__law_take m__law_take (hr.mono (by decide)) hgd rfl g__law_take k__law_take b__law_take (pda_cons (pdv 0) (pda_cons pd_int pda_nil))) pd_int) (dss_one (ds_dicPut (i := 4) (units1 hr.units) (pda_cons (pdv 6) (pda_cons (pdv 7) pda_nil)) (pd_tup (pda_cons (pdv 6) (pda_cons (pdv 7) (pda_cons (pdv 8) (pda_cons (pd_callBag G__law_take m__law_take (hr.mono (by decide)) hgd rfl g__law_take k__law_take b__law_take (pda_cons (pdv 0) (pda_cons pd_int pda_nil))) pda_nil))))))) dss_nil))))) (nofixB (by decide)))
      (dss_cons (ds_fgt (i := 10) (ds_setLc (i := 9) (own := [("_law_key", 10)]) rfl sc__law_picture.nd (pdi_seq (pd_l (pl_sortDic (i := 4) rfl hr.units rfl T.b_sorted))) (blkOk_by (own := [("_law_key", 10)]) (N := nm__law_picture) (sc := defScope s__law_picture) (by decide +kernel)) (fun _ _ _ _ _ => (pgd_name (i := 10) sc__law_picture.nd)) (fun _ _ _ _ _ => dts_nil) (fun _ _ _ _ _ => (pd_dicGet (i := 4) (units1 hr.units) (pdv 10) (fun _ _ => rfl))) (fixB (by decide))) (fixB (by decide)))
      (dss_cons (ds_set (i := 11) sc__law_picture.nd (pd_callP G__law_rows m__law_rows (hr.mono (by decide)) hgd rfl g__law_rows k__law_rows b__law_rows (pda_cons (pdv 9) (pda_cons (pdv 1) pda_nil))) (fixB (by decide)))
      (dss_one (ds_fgt (i := 13) (ds_fgt (i := 12) (ds_ret (pd_tupleA rfl T.b_tuple (pda_cons (pd_l (pl_lc (own := [("_law_lamp", 12), ("_law_row", 13)]) rfl sc__law_picture.nd (pdi_zip rfl T.b_zip (pda_cons (pdv 9) (pda_cons (pdv 11) pda_nil))) (blkOk_by (own := [("_law_lamp", 12), ("_law_row", 13)]) (N := nm__law_picture) (sc := defScope s__law_picture) (by decide +kernel)) (fun _ _ _ _ _ => (pgd_tup (n := 2) rfl (pgds_cons (pgd_name (i := 12) sc__law_picture.nd) (pgds_cons (pgd_name (i := 13) sc__law_picture.nd) pgds_nil)))) (fun _ _ _ _ _ => (dts_one (pt_lt (pdv 13) (pdv 2)))) (fun _ _ _ _ _ => (pdv 12)))) pda_nil))) (fixB (by decide))) (fixB (by decide)))))))), ?_⟩
  clear W T hr hgd G__law_rows g__law_rows k__law_rows b__law_rows f__law_rows fd__law_rows G__law_some g__law_some k__law_some b__law_some f__law_some fd__law_some G__law_take g__law_take k__law_take b__law_take f__law_take fd__law_take
  rintro bag xs Q hl ⟨⟨sp, dp, mo⟩, m, hb, hm, rfl, ⟨h0, h1, h2, h3, h4, h5⟩, hQ⟩
  clear hl
  replace hQ : ∀ z bag', (∃ (ls : List Lmp) (rs : List Int), z = eP ls ∧ PicL ls ∧ ls.length ≤ mo.toNat ∧ (∀ l ∈ ls, LmB l ∧ 0 ≤ l.x ∧ l.x ≤ 3 * sp) ∧ LeastR (lxs ls) sp rs ∧ rs.length = ls.length ∧ ∀ r ∈ rs, 0 ≤ r ∧ r < dp) → Bag (m + 100) bag' → Q z bag'   := hQ
  have hm : m + 100 < 2 ^ 60 := hm
  have e : (some (.own bag) :: rhoP (nm__law_picture.length - 1) [.d, .d, .d] [.int sp, .int dp, .int mo] : Rho) = [some (.own bag), some (.d (.int sp)), some (.d (.int dp)), some (.d (.int mo)), none, none, none, none, none, none, none, none, none, none] := rfl
  rw [e]
  clear e
  refine seqI fun kk hk => ?_
  try walk_at "K61Z0"
  rw [hk]
  clear hk
  refine seqI fun kk hk => ?_
  try walk_at "K61Z0"
  refine ⟨⟨by omega, by omega⟩, ?_⟩
  refine for_rng (S := List PyData × List Lmp × Option Ent × Option Ent × Option Ent × Option Ent) 0 _ (fun s => [some (.own s.1), some (.d (.int sp)), some (.d (.int dp)), some (.d (.int mo)), some (.dic (kvL s.2.1)), s.2.2.1, s.2.2.2.1, s.2.2.2.2.1, s.2.2.2.2.2, none, none, none, none, none]) (fun i s => Bag (m + 6 * i) s.1 ∧ (s.2.1.map lp).Nodup ∧ s.2.1.length ≤ i ∧ ∀ l ∈ s.2.1, LmB l ∧ 0 ≤ l.x ∧ l.x ≤ 3 * sp) (bag, [], none, none, none, none) rfl ⟨hb, List.nodup_nil, Nat.le_refl _, fun l hl => nomatch hl⟩ (fun i s hi hI C hC => ?_) fun s hs => ?_
  · obtain ⟨bg, ls, s1, s2, s3, s4⟩ := s
    obtain ⟨hb1, nd, ln, hl⟩ := hI
    dsimp only at hb1 nd ln hl
    simp only [setR, List.set_cons_succ, List.set_cons_zero]
    refine seqI fun kk3 hk3 => ?_
    try walk_at "K61Z0"
    have bs : Bd 5 sp := bd_of 20 (by omega) (by omega)
    refine ⟨cmb (show Bd 2 2 by unfold Bd; decide) bs, cmb (show Bd 2 3 by unfold Bd; decide) bs, u_take hb1 (by omega) (by omega) (by omega) fun v bag1 v0 v1 hb2 => ?_⟩
    refine u_some hb2 (by omega) (by simp) (by simp) fun y hy bag2 hb3 => ?_
    have hx : ∃ x : Int, y = .int x ∧ 0 ≤ x ∧ x ≤ 3 * sp := by
      simp only [List.mem_cons, List.not_mem_nil, or_false] at hy
      rcases hy with rfl | rfl | rfl | rfl | rfl
      all_goals exact ⟨_, rfl, by omega, by omega⟩
    obtain ⟨x, rfl, x0, x1⟩ := hx
    clear hy
    rw [hk3]
    clear hk3
    refine seqI fun kk3 hk3 => ?_
    try walk_at "K61Z0"
    refine u_take hb3 (by omega) (by omega) (by omega) fun u bag3 u0 u1 hb4 => ?_
    try walk_at "K61Z0"
    rw [hk3]
    clear hk3
    refine seqI fun kk3 hk3 => ?_
    try walk_at "K61Z0"
    refine u_some hb4 (by omega) (by simp) (by simp) fun y hy bag4 hb5 => ?_
    have hsh : ∃ sh : List Str, y = .tuple (sh.map .str) ∧ sh ≠ [] ∧ sh.length ≤ 4 ∧ ∀ t ∈ sh, okd (.str t) = true ∧ t.length ≤ 12 := by
      simp only [List.mem_cons, List.not_mem_nil, or_false] at hy
      rcases hy with rfl | rfl | rfl | rfl
      · exact ⟨[Str.ofString "red"], rfl, by simp, by simp, by decide +kernel⟩
      · exact ⟨[Str.ofString "red", Str.ofString "blue"], rfl, by simp, by simp, by decide +kernel⟩
      · exact ⟨[Str.ofString "gold", Str.ofString "gold"], rfl, by simp, by simp, by decide +kernel⟩
      · exact ⟨[Str.ofString "blue", Str.ofString "red", Str.ofString "dark"], rfl, by simp, by simp, by decide +kernel⟩
    obtain ⟨sh, rfl, sn, sl, sk⟩ := hsh
    clear hy
    try walk_at "K61Z0"
    rw [hk3]
    clear hk3
    try walk_at "K61Z0"
    have hC2 : ∀ (bg : List PyData) (ls : List Lmp) (s1 s2 s3 s4 : Option Ent), Bag (m + 6 * (i + 1)) bg → (ls.map lp).Nodup → ls.length ≤ i + 1 → (∀ l ∈ ls, LmB l ∧ 0 ≤ l.x ∧ l.x ≤ 3 * sp) → C [some (.own bg), some (.d (.int sp)), some (.d (.int dp)), some (.d (.int mo)), some (.dic (kvL ls)), s1, s2, s3, s4, none, none, none, none, none] := fun bg ls s1 s2 s3 s4 a b c d => hC (bg, ls, s1, s2, s3, s4) ⟨a, b, c, d⟩
    refine u_take hb5 (by omega) (by omega) (by omega) fun c bag5 c0 c1 hb6 => ?_
    try walk_at "K61Z0"
    refine ite_b (c := 0 < c) (fun _ => ?_) fun _ => hC2 _ _ _ _ _ _ (hb6.up (by omega)) nd (by omega) hl
    refine u_take hb6 (by omega) (by omega) (by omega) fun wt bag6 w0 w1 hb7 => ?_
    try walk_at "K61Z0"
    refine ⟨by unfold kvL; rw [List.length_map]; omega, ?_⟩
    have e := putD_L ls ⟨x, u, sh, wt⟩
    dsimp only [eLm] at e
    rw [e]
    refine hC2 _ _ _ _ _ _ (hb7.up (by omega)) (putL_nd nd) (by have := putL_len (ls := ls) (l := ⟨x, u, sh, wt⟩); omega) fun l hm => ?_
    rcases putL_mem hm with h | rfl
    · exact hl l h
    · exact ⟨⟨by dsimp only; omega, by dsimp only; omega, by dsimp only; omega, by dsimp only; omega, w0, by dsimp only; omega, sn, sl, sk⟩, x0, x1⟩
  · obtain ⟨bg, ls, s1, s2, s3, s4⟩ := s
    obtain ⟨hb1, nd, ln, hl⟩ := hs
    dsimp only at hb1 nd ln hl
    show kk _
    have l8 : ls.length ≤ 8 := by omega
    obtain ⟨ms, es, pm, hpm, hv⟩ := sort_kvL nd
    have lm : ms.length = ls.length := pm.length_eq
    rw [hk]
    clear hk
    refine seqI fun kk hk => ?_
    try walk_at "K61Z0"
    refine ⟨by rw [keys_L]; exact can_sort_cols _, ?_⟩
    rw [es]
    refine lc_map ms (fun m => enc2 (lp m)) eLm (hv1 rfl) (by omega) (fun i a ha C1 C2 n hn hc => ?_) ?_
    · have ma := List.mem_of_getElem? ha
      simp only [dSeq, dAsg, dCB, dCons, dNil, dVar, onVs, vals, val, slot, setR, fGcd, dIfS, dTV, dOp, dBin, onV2, fLt, fLe, fGt, fGe, fAdd, fSub, fMul, fDiv, fMod, fI0, dC, dUn, onV, fNeg, dNext, dRet, dTup, onD, dats, fDivZ, fI, fPow, Few, retP, fAbs, fInt, fMax, fMin, fLen, fSqrt, fEq, fNe, dNot, dAnd, dOr, dAndV, dOrV, dNotV, dIfE, dDrop, dRetN, dPar, noO, dSetL, dLst, dOfL, dOwnM, onOwn, onDat, kAppend, kInsert, dSetItem, dAddItem, dIx, onItems, items, onInt, dNoPart, dPart, dSlice, onL, litems, dSlL, dCat, onM, mitems, dTupOf, dSeqI, dRng1, dRng2, dCallP, dCallB, dCallF, noSelf, onArgs, dats2, dIsi, tyName, dYes, dgTup, dgCons, dgNil, retB, dBreak, dCont, ne_eq, not_false_eq_true, true_and, and_true, List.getElem?_cons_zero, List.getElem?_cons_succ, List.set_cons_zero, List.set_cons_succ, Option.map, List.length_cons, List.length_nil, dParM, dmNil, dmD, dmL, setM, dLc_eq, dLc2_eq, dFor_eq, dSortSet, dSort, dListOf, dIsN, dNotN, isNo, dAug, dMulA, dgUnl, dCatT, dSlT, onT, titems, dEnum, dZip, dZipM, seqs, dRetL, dPar3, dRevT, dLstRg, dTupRg, dRg1, dRg2, dChainLe, List.nil_append, List.cons_append, if_true, if_false, dFrz, dLcO, dMin2D, dAppX, dParL, dParLL, dRepL, fMax3, dNewDic, dDicPut, dDicGet, dSortDic, onDic, onKey, dLcW, dZipX, dParR, dDead, dSortD, dSortDT, fNeS, fEqS, dgSet, dDGet, onDict_eq, onKeyD_int, onKeyD_str, dDIn, dSortDK, onDict1_eq, dDictL, dDictEn, dDictZip, onSq1_eq, onSq2_eq, onSq_t, onSq_l, onSq_o, dNewD, dDicI, dNewDik, dDikPut, onDik, dFrzD, dNew4, dIndexD, onLst_eq, dIfL, dOrT, dAndT, onTru_int, onTru_bool, onTru_none, onTru_tuple, onTru_list, dTupA, tupA, dTupZip, dZip3, dFgt, fIsB, fNotB, fInA_l, fInA_t, fNotInA_l, fNotInA_t, List.map_cons, List.map_nil, fw0, fw1, fw2, fw3, fw4, fw5, fw6, fw7, fw8, fw9, fw10, fw11, fw12, fw13, fw14, fw15, enc2, pr, lp, wipeR]
      rw [hv a ma]
      exact ⟨hn, hc⟩
    try walk_at "K61Z2"
    rw [hk]
    clear hk
    refine seqI fun kk hk => ?_
    try walk_at "K61Z0"
    refine u__law_rows (c := false) (ls := ms) (by exact hpm.up) h0 (by omega) (by omega) fun z hz => ?_
    obtain ⟨rs, lst, lr, rg, rfl⟩ := hz
    try walk_at "K61Z0"
    rw [hk]
    clear hk
    try walk_at "K61Z0"
    rw [zipD_map]
    refine lc_fm (List.zip ms rs) (fun p => PyData.tuple [eLm p.1, .int p.2]) (fun p => if p.2 < dp then some (eLm p.1) else none) (hv2 rfl rfl) (by rw [List.length_zip]; omega) (fun i a ha C1 C2 n hn c1 c2 => ?_) ?_
    · try walk_at "K61Z2"
      refine ite_b (c := a.2 < dp) (fun h => ⟨hn, c1 _ (by rw [if_pos h])⟩) fun h => c2 (by rw [if_neg h])
    · rw [deep_fm]
      try walk_at "K61Z2"
      have hsub := deep_sub (d := dp) lr
      have lsub := hsub.length_le
      refine hQ _ _ ⟨_, _, rfl, hpm.sublist hsub, by omega, fun l hm => hl l (pm.mem_iff.mp (hsub.mem hm)), lst.deep (d := dp) lr, by rw [List.length_map, List.length_map], fun r hr => ?_⟩ (hb1.up (by omega))
      obtain ⟨p, hp, rfl⟩ := List.mem_map.mp hr
      obtain ⟨hp1, hp2⟩ := List.mem_filter.mp hp
      exact ⟨(rg _ (List.of_mem_zip hp1).2).1, of_decide_eq_true hp2⟩
set_option maxHeartbeats 4000000 in
theorem ok__law_show_bounds {f : Addr} {fd : FuncData} (W : Fun K "_law_show_bounds" "_law_show_bounds" s__law_show_bounds f fd) (T : Bi mg)
    {f__law_some : Addr} {fd__law_some : FuncData} (G__law_some : FnG P w K mg base CX0 2 f__law_some fd__law_some ["_law_bag_here", "_law_things"] (spB K TT [.ro] S__law_some)) (g__law_some : mg "_law_some" = some (.ref f__law_some)) (k__law_some : PySem.W.keepIn K (.ref f__law_some) = true) (b__law_some : Binds K fd__law_some ["_law_bag_here", "_law_things"] [])
    {f__law_take : Addr} {fd__law_take : FuncData} (G__law_take : FnG P w K mg base CX0 1 f__law_take fd__law_take ["_law_bag_here", "_law_many"] (spB K TT [.d] S__law_take)) (g__law_take : mg "_law_take" = some (.ref f__law_take)) (k__law_take : PySem.W.keepIn K (.ref f__law_take) = true) (b__law_take : Binds K fd__law_take ["_law_bag_here", "_law_many"] []) :
    FnG P w K mg base CX0 3 f fd ["_law_bag_here"] (spB K TT [] S__law_show_bounds) := by
  refine fnB W sc__law_show_bounds rfl fun cdv A out s H E Nn B hr hgd => ⟨_, _, (dss_cons (ds_set (i := 1) sc__law_show_bounds.nd (pd_callBag G__law_some m__law_some (hr.mono (by decide)) hgd rfl g__law_some k__law_some b__law_some (pda_cons (pdv 0) (pda_cons (pd_l (pl_lst (pda_cons pd_int (pda_cons pd_int (pda_cons pd_int (pda_cons pd_int (pda_cons pd_int pda_nil))))))) pda_nil))) (fixB (by decide)))
      (dss_cons (ds_set (i := 2) sc__law_show_bounds.nd (pd_ifExp (pt_gt (pdv 1) pd_int) (pd_callBag G__law_some m__law_some (hr.mono (by decide)) hgd rfl g__law_some k__law_some b__law_some (pda_cons (pdv 0) (pda_cons (pd_l (pl_lst (pda_cons pd_int (pda_cons pd_int (pda_cons pd_int pda_nil))))) pda_nil))) pd_int) (fixB (by decide)))
      (dss_cons (ds_set (i := 3) sc__law_show_bounds.nd (pd_callB (call_max2 rfl) sc_max rfl T.b_max (by decide +kernel) (pda_cons pd_int (pda_cons (pd_sub (pd_div (pd_mul (pdv 1) pd_int) pd_int) (pd_mul pd_int (pdv 2))) pda_nil))) (fixB (by decide)))
      (dss_cons (ds_set (i := 4) sc__law_show_bounds.nd (pd_callBag G__law_some m__law_some (hr.mono (by decide)) hgd rfl g__law_some k__law_some b__law_some (pda_cons (pdv 0) (pda_cons (pd_l (pl_lst (pda_cons (pdv 3) (pda_cons (pd_add pd_int (pd_callBag G__law_take m__law_take (hr.mono (by decide)) hgd rfl g__law_take k__law_take b__law_take (pda_cons (pdv 0) (pda_cons (pdv 3) pda_nil)))) pda_nil)))) pda_nil))) (fixB (by decide)))
      (dss_cons (ds_par (i := 5) (j := 6) rfl sc__law_show_bounds.nd (pda_cons (pd_callBag G__law_some m__law_some (hr.mono (by decide)) hgd rfl g__law_some k__law_some b__law_some (pda_cons (pdv 0) (pda_cons (pd_l (pl_lst (pda_cons pd_int (pda_cons pd_int (pda_cons pd_int pda_nil))))) pda_nil))) (pda_cons (pd_callBag G__law_some m__law_some (hr.mono (by decide)) hgd rfl g__law_some k__law_some b__law_some (pda_cons (pdv 0) (pda_cons (pd_l (pl_lst (pda_cons pd_int (pda_cons pd_int (pda_cons pd_int (pda_cons pd_int pda_nil)))))) pda_nil))) pda_nil)) (fixB (by decide)) (fixB (by decide)))
      (dss_cons (ds_set (i := 7) sc__law_show_bounds.nd (pd_mul (pdv 1) (pd_callBag G__law_some m__law_some (hr.mono (by decide)) hgd rfl g__law_some k__law_some b__law_some (pda_cons (pdv 0) (pda_cons (pd_l (pl_lst (pda_cons pd_int (pda_cons pd_int (pda_cons pd_int (pda_cons pd_int (pda_cons pd_int (pda_cons pd_int (pda_cons pd_int pda_nil))))))))) pda_nil)))) (fixB (by decide)))
      (dss_one (ds_ret (pd_tup (pda_cons (pdv 1) (pda_cons (pdv 4) (pda_cons (pdv 2) (pda_cons (pdv 5) (pda_cons (pdv 6) (pda_cons (pdv 7) (pda_cons (pd_add pd_int (pd_callBag G__law_take m__law_take (hr.mono (by decide)) hgd rfl g__law_take k__law_take b__law_take (pda_cons (pdv 0) (pda_cons pd_int pda_nil)))) (pda_cons (pd_callBag G__law_take m__law_take (hr.mono (by decide)) hgd rfl g__law_take k__law_take b__law_take (pda_cons (pdv 0) (pda_cons pd_int pda_nil))) (pda_cons (pd_add pd_int (pd_callBag G__law_take m__law_take (hr.mono (by decide)) hgd rfl g__law_take k__law_take b__law_take (pda_cons (pdv 0) (pda_cons pd_int pda_nil)))) pda_nil)))))))))))))))))), ?_⟩
  clear W T hr hgd G__law_some g__law_some k__law_some b__law_some f__law_some fd__law_some G__law_take g__law_take k__law_take b__law_take f__law_take fd__law_take
  rintro bag xs Q hl ⟨_, m, hb, hm, rfl, _, hQ⟩
  clear hl
  replace hQ : ∀ z bag', (∃ b : Bn, z = eB b ∧ BnOk b ∧ 4 ≤ b.sp ∧ b.sp ≤ 20 ∧ b.deep ≤ 3 ∧ b.wind ≤ 1) → Bag (m + 20) bag' → Q z bag'   := hQ
  have hm : m + 20 < 2 ^ 60 := hm
  have e : (some (.own bag) :: rhoP (nm__law_show_bounds.length - 1) [] [] : Rho) = [some (.own bag), none, none, none, none, none, none, none] := rfl
  rw [e]
  clear e
  refine seqI fun kk hk => ?_
  try walk_at "K61Z0"
  refine u_some hb (by omega) (by decide) (by decide) fun y hy bag1 hb1 => ?_
  obtain ⟨sp, rfl, sp0, sp1⟩ := of_all (lo := 4) (hi := 20) (by decide) y hy
  clear hy
  have bs : Bd 5 sp := bd_of 20 (by omega) (by omega)
  try walk_at "K61Z0"
  rw [hk]
  clear hk
  refine seqI fun kk hk => ?_
  try walk_at "K61Z0"
  have k1 : ∀ (wind : Int) (bag2 : List PyData), 0 ≤ wind → wind ≤ 1 → Bag (m + 2) bag2 → kk [some (.own bag2), some (.d (.int sp)), some (.d (.int wind)), none, none, none, none, none] := fun wind bag2 w0 w1 hb2 => by
    rw [hk]
    clear hk
    refine seqI fun kk hk => ?_
    try walk_at "K61Z0"
    refine ⟨cmb bs (show Bd 3 7 by unfold Bd; decide), cdwB (by decide) (show Bd 4 10 by unfold Bd; decide), cmb (show Bd 2 2 by unfold Bd; decide) (bd_of 1 (by omega) (by omega) (k := 1)), ?_⟩
    have e1 : 1 ≤ (if sp * 7 / 10 - 2 * wind > 1 then sp * 7 / 10 - 2 * wind else 1) ∧ (if sp * 7 / 10 - 2 * wind > 1 then sp * 7 / 10 - 2 * wind else 1) ≤ 14 := by split <;> omega
    generalize (if sp * 7 / 10 - 2 * wind > 1 then sp * 7 / 10 - 2 * wind else 1) = top at *
    rw [hk]
    clear hk
    refine seqI fun kk hk => ?_
    try walk_at "K61Z0"
    refine u_take hb2 (by omega) (by omega) (by omega) fun v bag3 v0 v1 hb3 => ?_
    try walk_at "K61Z0"
    refine u_some hb3 (by omega) (by simp) (by simp) fun y hy bag4 hb4 => ?_
    have hn : ∃ n : Int, y = .int n ∧ 1 ≤ n ∧ n ≤ 14 := by
      simp only [List.mem_cons, List.not_mem_nil, or_false] at hy
      rcases hy with rfl | rfl
      all_goals exact ⟨_, rfl, by omega, by omega⟩
    obtain ⟨near, rfl, n0, n1⟩ := hn
    clear hy
    try walk_at "K61Z0"
    rw [hk]
    clear hk
    refine seqI fun kk hk => ?_
    try walk_at "K61Z0"
    refine u_some hb4 (by omega) (by decide) (by decide) fun y hy bag5 hb5 => ?_
    try walk_at "K61Z0"
    refine u_some hb5 (by omega) (by decide) (by decide) fun y2 hy2 bag6 hb6 => ?_
    obtain ⟨clk, rfl, c0, c1⟩ := of_all (lo := 0) (hi := 2) (by decide) y hy
    obtain ⟨fall, rfl, f0, f1⟩ := of_all (lo := 0) (hi := 6) (by decide) y2 hy2
    try walk_at "K61Z0"
    rw [hk]
    clear hk
    refine seqI fun kk hk => ?_
    try walk_at "K61Z0"
    refine u_some hb6 (by omega) (by decide) (by decide) fun y hy bag7 hb7 => ?_
    obtain ⟨wf, rfl, x0, x1⟩ := of_all (lo := 3) (hi := 30) (by decide) y hy
    try walk_at "K61Z0"
    refine ⟨cmb bs (bd_of 30 (by omega) (by omega) (k := 5)), ?_⟩
    have wl : sp * 3 ≤ sp * wf ∧ sp * wf ≤ 20 * 30 := ⟨Int.mul_le_mul_of_nonneg_left x0 (by omega), Int.mul_le_mul sp1 x1 (by omega) (by decide)⟩
    generalize sp * wf = way at wl
    rw [hk]
    clear hk
    try walk_at "K61Z0"
    refine u_take hb7 (by omega) (by omega) (by omega) fun v1 bag8 v10 v11 hb8 => ?_
    try walk_at "K61Z0"
    refine u_take hb8 (by omega) (by omega) (by omega) fun v2 bag9 v20 v21 hb9 => ?_
    try walk_at "K61Z0"
    refine u_take hb9 (by omega) (by omega) (by omega) fun v3 bag10 v30 v31 hb10 => ?_
    try walk_at "K61Z0"
    refine hQ _ _ ⟨⟨sp, near, wind, clk, fall, way, 1 + v1, v2, 1 + v3⟩, rfl, ?_, by dsimp only; omega, by dsimp only; omega, by dsimp only; omega, by dsimp only; omega⟩ (hb10.up (by omega))
    constructor
    all_goals dsimp only
    all_goals omega
  refine ite_b (c := 6 < sp) (fun _ => ?_) fun _ => k1 0 bag1 (by omega) (by omega) (hb1.up (by omega))
  refine u_some hb1 (by omega) (by decide) (by decide) fun y hy bag2 hb2 => ?_
  obtain ⟨wind, rfl, w0, w1⟩ := of_all (lo := 0) (hi := 1) (by decide) y hy
  exact k1 wind bag2 w0 w1 hb2
set_option maxHeartbeats 4000000 in
theorem ok__law_show_of {f : Addr} {fd : FuncData} (W : Fun K "_law_show_of" "_law_show_of" s__law_show_of f fd) (T : Bi mg)
    {f__law_some : Addr} {fd__law_some : FuncData} (G__law_some : FnG P w K mg base CX0 2 f__law_some fd__law_some ["_law_bag_here", "_law_things"] (spB K TT [.ro] S__law_some)) (g__law_some : mg "_law_some" = some (.ref f__law_some)) (k__law_some : PySem.W.keepIn K (.ref f__law_some) = true) (b__law_some : Binds K fd__law_some ["_law_bag_here", "_law_things"] []) :
    FnG P w K mg base CX0 3 f fd ["_law_bag_here", "_law_bounds", "_law_pads", "_law_scenes", "_law_more"] (spB K TT [.d, .ro, .ro, .d] S__law_show_of) := by
  refine fnB W sc__law_show_of rfl fun cdv A out s H E Nn B hr hgd => ⟨_, _, (dss_cons (ds_par3 (i := 5) (j := 6) (l := 7) rfl sc__law_show_of.nd (pda_cons pd_int (pda_cons (pd_callBag G__law_some m__law_some (hr.mono (by decide)) hgd rfl g__law_some k__law_some b__law_some (pda_cons (pdv 0) (pda_cons (pd_l (pl_lst (pda_cons pd_int (pda_cons pd_int (pda_cons pd_int pda_nil))))) pda_nil))) (pda_cons (pd_callBag G__law_some m__law_some (hr.mono (by decide)) hgd rfl g__law_some k__law_some b__law_some (pda_cons (pdv 0) (pda_cons (pd_l (pl_lst (pda_cons pd_int (pda_cons pd_int (pda_cons pd_int pda_nil))))) pda_nil))) pda_nil))) (fixB (by decide)) (fixB (by decide)) (fixB (by decide)))
      (dss_cons (ds_for PassesOwn.never rfl (pdi_seq (pdv 3)) (pgd_tup (n := 3) rfl (pgds_cons (pgd_name (i := 8) sc__law_show_of.nd) (pgds_cons (pgd_name (i := 9) sc__law_show_of.nd) (pgds_cons (pgd_name (i := 10) sc__law_show_of.nd) pgds_nil)))) (dss_one (ds_aug (i := 5) sc__law_show_of.nd (pd_add (pd_mul (pdv 6) (pdv 9)) (pd_mul (pd_callB (call_max2 rfl) sc_max rfl T.b_max (by decide +kernel) (pda_cons (pdv 6) (pda_cons (pdv 7) pda_nil))) (pdv 8))) ip_add (fixB (by decide)))) (nofixB (by decide)))
      (dss_one (ds_ret (pd_tup (pda_cons (pdv 1) (pda_cons (pd_tupleA rfl T.b_tuple (pda_cons (pdv 2) pda_nil)) (pda_cons (pd_tup (pda_cons (pd_add (pdv 5) (pdv 4)) (pda_cons (pdv 6) (pda_cons (pdv 7) pda_nil)))) (pda_cons (pd_tupleA rfl T.b_tuple (pda_cons (pdv 3) pda_nil)) pda_nil))))))))), ?_⟩
  clear W T hr hgd G__law_some g__law_some k__law_some b__law_some f__law_some fd__law_some
  rintro bag xs Q hl ⟨⟨c, b, ps, sc, mr⟩, m, hb, hm, rfl, ⟨h0, h1, h2, h3⟩, hQ⟩
  clear hl
  replace hQ : ∀ z bag', (∃ w : Shw, z = eW w ∧ w.b = b ∧ w.pads = ps ∧ w.sc = sc ∧ 0 ≤ w.full ∧ w.full ≤ 1000000 ∧ 0 ≤ w.hold ∧ w.hold ≤ 2 ∧ 1 ≤ w.fly ∧ w.fly ≤ 3 ∧ w.full = chN w + mr) → Bag (m + 3) bag' → Q z bag'   := hQ
  have hm : m + 3 < 2 ^ 60 := hm
  have e : (some (.own bag) :: rhoP (nm__law_show_of.length - 1) [.d, .ro, .ro, .d] [eB b, seqD c (ps.map enc2), seqD c (sc.map eSc), .int mr] : Rho) = [some (.own bag), some (.d (eB b)), some (.ro (seqD c (ps.map enc2))), some (.ro (seqD c (sc.map eSc))), some (.d (.int mr)), none, none, none, none, none, none] := rfl
  rw [e]
  clear e
  cases c
  · simp only [seqD, Bool.false_eq_true, if_false, if_true]
    refine seqI fun kk hk => ?_
    try walk_at "K61Z0"
    refine u_some hb (by omega) (by decide) (by decide) fun y hy bag1 hb1 => ?_
    obtain ⟨hold, rfl, o0, o1⟩ := of_all (lo := 0) (hi := 2) (by decide) y hy
    clear hy
    try walk_at "K61Z0"
    refine u_some hb1 (by omega) (by decide) (by decide) fun y hy bag2 hb2 => ?_
    obtain ⟨fly, rfl, y0, y1⟩ := of_all (lo := 1) (hi := 3) (by decide) y hy
    clear hy
    try walk_at "K61Z0"
    rw [hk]
    clear hk
    refine seqI fun kk hk => ?_
    try walk_at "K61Z0"
    have hm' : (if fly > hold then fly else hold) = max fly hold := by split <;> omega
    refine for_st (S := Int × Option Ent × Option Ent × Option Ent) sc eSc (fun s => [some (.own bag2), some (.d (eB b)), some (.ro (.list (ps.map enc2))), some (.ro (.list (sc.map eSc))), some (.d (.int mr)), some (.d (.int s.1)), some (.d (.int hold)), some (.d (.int fly)), s.2.1, s.2.2.1, s.2.2.2]) (fun i s => s.1 = ((sc.take i).map fun s => s.tk * max fly hold + s.hd * hold).sum ∧ 0 ≤ s.1 ∧ s.1 ≤ i * 62000) (0, none, none, none) rfl ⟨rfl, by dsimp only; omega, by dsimp only; omega⟩ (fun i a s ha hI C hC => ?_) fun s hs => ?_
    · obtain ⟨fl, s1, s2, s3⟩ := s
      obtain ⟨e1, e2, e3⟩ := hI
      dsimp only at e1 e2 e3
      obtain ⟨t0, t1, d0, d1⟩ := h1 a (List.mem_of_getElem? ha)
      have bt : Bd 15 a.tk := bd_of 20000 (by omega) (by omega)
      have bd : Bd 10 a.hd := bd_of 1000 (by omega) (by omega)
      have bm : Bd 2 (max fly hold) := bd_of 3 (by omega) (by omega)
      have bh : Bd 2 hold := bd_of 3 (by omega) (by omega)
      try walk_at "K61Z0"
      rw [show (if fly > hold then fly else hold) = max fly hold from hm']
      refine ⟨cmb bh bd, cmb bm bt, ?_⟩
      have q1 : 0 ≤ hold * a.hd ∧ hold * a.hd ≤ 2 * 1000 := ⟨Int.mul_nonneg o0 d0, Int.mul_le_mul o1 d1 d0 (by decide)⟩
      have q2 : 0 ≤ max fly hold * a.tk ∧ max fly hold * a.tk ≤ 3 * 20000 := ⟨Int.mul_nonneg (by omega) t0, Int.mul_le_mul (by omega) t1 t0 (by decide)⟩
      refine hC (fl + (hold * a.hd + max fly hold * a.tk), _, _, _) ⟨?_, by dsimp only; omega, by dsimp only; omega⟩
      dsimp only
      rw [List.take_add_one, ha, List.map_append, List.sum_append, ← e1]
      simp only [Option.toList, List.map_cons, List.map_nil, List.sum_cons, List.sum_nil]
      rw [Int.mul_comm hold, Int.mul_comm (max fly hold)]
      omega
    · obtain ⟨fl, s1, s2, s3⟩ := s
      obtain ⟨e1, e2, e3⟩ := hs
      dsimp only at e1 e2 e3
      show kk _
      rw [hk]
      clear hk
      try walk_at "K61Z0"
      rw [List.take_length] at e1
      refine hQ _ _ ⟨⟨b, ps, fl + mr, hold, fly, sc⟩, rfl, rfl, rfl, rfl, by dsimp only; omega, by dsimp only; omega, o0, o1, y0, y1, ?_⟩ (hb2.up (by omega))
      dsimp only
      rw [e1]; rfl
  · simp only [seqD, Bool.false_eq_true, if_false, if_true]
    refine seqI fun kk hk => ?_
    try walk_at "K61Z0"
    refine u_some hb (by omega) (by decide) (by decide) fun y hy bag1 hb1 => ?_
    obtain ⟨hold, rfl, o0, o1⟩ := of_all (lo := 0) (hi := 2) (by decide) y hy
    clear hy
    try walk_at "K61Z0"
    refine u_some hb1 (by omega) (by decide) (by decide) fun y hy bag2 hb2 => ?_
    obtain ⟨fly, rfl, y0, y1⟩ := of_all (lo := 1) (hi := 3) (by decide) y hy
    clear hy
    try walk_at "K61Z0"
    rw [hk]
    clear hk
    refine seqI fun kk hk => ?_
    try walk_at "K61Z0"
    have hm' : (if fly > hold then fly else hold) = max fly hold := by split <;> omega
    refine for_st (S := Int × Option Ent × Option Ent × Option Ent) sc eSc (fun s => [some (.own bag2), some (.d (eB b)), some (.ro (.tuple (ps.map enc2))), some (.ro (.tuple (sc.map eSc))), some (.d (.int mr)), some (.d (.int s.1)), some (.d (.int hold)), some (.d (.int fly)), s.2.1, s.2.2.1, s.2.2.2]) (fun i s => s.1 = ((sc.take i).map fun s => s.tk * max fly hold + s.hd * hold).sum ∧ 0 ≤ s.1 ∧ s.1 ≤ i * 62000) (0, none, none, none) rfl ⟨rfl, by dsimp only; omega, by dsimp only; omega⟩ (fun i a s ha hI C hC => ?_) fun s hs => ?_
    · obtain ⟨fl, s1, s2, s3⟩ := s
      obtain ⟨e1, e2, e3⟩ := hI
      dsimp only at e1 e2 e3
      obtain ⟨t0, t1, d0, d1⟩ := h1 a (List.mem_of_getElem? ha)
      have bt : Bd 15 a.tk := bd_of 20000 (by omega) (by omega)
      have bd : Bd 10 a.hd := bd_of 1000 (by omega) (by omega)
      have bm : Bd 2 (max fly hold) := bd_of 3 (by omega) (by omega)
      have bh : Bd 2 hold := bd_of 3 (by omega) (by omega)
      try walk_at "K61Z0"
      rw [show (if fly > hold then fly else hold) = max fly hold from hm']
      refine ⟨cmb bh bd, cmb bm bt, ?_⟩
      have q1 : 0 ≤ hold * a.hd ∧ hold * a.hd ≤ 2 * 1000 := ⟨Int.mul_nonneg o0 d0, Int.mul_le_mul o1 d1 d0 (by decide)⟩
      have q2 : 0 ≤ max fly hold * a.tk ∧ max fly hold * a.tk ≤ 3 * 20000 := ⟨Int.mul_nonneg (by omega) t0, Int.mul_le_mul (by omega) t1 t0 (by decide)⟩
      refine hC (fl + (hold * a.hd + max fly hold * a.tk), _, _, _) ⟨?_, by dsimp only; omega, by dsimp only; omega⟩
      dsimp only
      rw [List.take_add_one, ha, List.map_append, List.sum_append, ← e1]
      simp only [Option.toList, List.map_cons, List.map_nil, List.sum_cons, List.sum_nil]
      rw [Int.mul_comm hold, Int.mul_comm (max fly hold)]
      omega
    · obtain ⟨fl, s1, s2, s3⟩ := s
      obtain ⟨e1, e2, e3⟩ := hs
      dsimp only at e1 e2 e3
      show kk _
      rw [hk]
      clear hk
      try walk_at "K61Z0"
      rw [List.take_length] at e1
      refine hQ _ _ ⟨⟨b, ps, fl + mr, hold, fly, sc⟩, rfl, rfl, rfl, rfl, by dsimp only; omega, by dsimp only; omega, o0, o1, y0, y1, ?_⟩ (hb2.up (by omega))
      dsimp only
      rw [e1]; rfl
set_option maxHeartbeats 4000000 in
theorem ok__law_part {f : Addr} {fd : FuncData} (W : Fun K "_law_part" "_law_part" s__law_part f fd) (T : Bi mg)
    {f__law_some : Addr} {fd__law_some : FuncData} (G__law_some : FnG P w K mg base CX0 2 f__law_some fd__law_some ["_law_bag_here", "_law_things"] (spB K TT [.ro] S__law_some)) (g__law_some : mg "_law_some" = some (.ref f__law_some)) (k__law_some : PySem.W.keepIn K (.ref f__law_some) = true) (b__law_some : Binds K fd__law_some ["_law_bag_here", "_law_things"] [])
    {f__law_over : Addr} {fd__law_over : FuncData} (G__law_over : FnG P w K mg base CX0 1 f__law_over fd__law_over ["_law_n", "_law_d"] (spP K TT [.d, .d] S__law_over)) (g__law_over : mg "_law_over" = some (.ref f__law_over)) (k__law_over : PySem.W.keepIn K (.ref f__law_over) = true) (b__law_over : Binds K fd__law_over ["_law_n", "_law_d"] []) :
    FnG P w K mg base CX0 3 f fd ["_law_bag_here", "_law_clock"] (spB K TT [.d] S__law_part) := by
  refine fnB W sc__law_part rfl fun cdv A out s H E Nn B hr hgd => ⟨_, _, (dss_cons (ds_set (i := 2) sc__law_part.nd (pd_l (pl_lst (pda_cons (pd_tup (pda_cons pd_int (pda_cons pd_int pda_nil))) (pda_cons (pd_tup (pda_cons (pdv 1) (pda_cons pd_int pda_nil))) (pda_cons (pd_tup (pda_cons (pd_neg (pdv 1)) (pda_cons pd_int pda_nil))) (pda_cons (pd_callP G__law_over m__law_over (hr.mono (by decide)) hgd rfl g__law_over k__law_over b__law_over (pda_cons (pdv 1) (pda_cons pd_int pda_nil))) (pda_cons (pd_callP G__law_over m__law_over (hr.mono (by decide)) hgd rfl g__law_over k__law_over b__law_over (pda_cons (pd_neg (pdv 1)) (pda_cons pd_int pda_nil))) (pda_cons (pd_callP G__law_over m__law_over (hr.mono (by decide)) hgd rfl g__law_over k__law_over b__law_over (pda_cons (pd_mul pd_int (pdv 1)) (pda_cons pd_int pda_nil))) pda_nil)))))))) (fixB (by decide)))
      (dss_one (ds_ret (pd_callBag G__law_some m__law_some (hr.mono (by decide)) hgd rfl g__law_some k__law_some b__law_some (pda_cons (pdv 0) (pda_cons (pdv 2) pda_nil)))))), ?_⟩
  clear W T hr hgd G__law_some g__law_some k__law_some b__law_some f__law_some fd__law_some G__law_over g__law_over k__law_over b__law_over f__law_over fd__law_over
  rintro bag xs Q hl ⟨c, m, hb, hm, rfl, ⟨h0, h1⟩, hQ⟩
  clear hl
  replace hQ : ∀ z bag', (∃ q : Rat, z = fr q ∧ Sz 12 q) → Bag (m + 2) bag' → Q z bag'   := hQ
  have hm : m + 2 < 2 ^ 60 := hm
  have e : (some (.own bag) :: rhoP (nm__law_part.length - 1) [.d] [.int c] : Rho) = [some (.own bag), some (.d (.int c)), none] := rfl
  rw [e]
  clear e
  have bc : Bd 7 c := bd_of 100 (by omega) (by omega)
  have b2 : Bd 8 2 := by unfold Bd; decide
  have b3 : Bd 8 3 := by unfold Bd; decide
  have bn : Bd 7 (-c) := bd_of 100 (by omega) (by omega)
  have bt : Bd 8 (2 * c) := bd_of 200 (by omega) (by omega)
  refine seqI fun kk hk => ?_
  try walk_at "K61Z0"
  refine u__law_over (by decide) (b2.up (by decide)) (u__law_over (by decide) (b3.up (by decide)) ⟨cmb b2 bc, u__law_over (by decide) (b3.up (by decide)) ?_⟩)
  rw [hk]
  clear hk
  try walk_at "K61Z0"
  refine u_some hb (by omega) (by simp) (by simp) fun y hy bag1 hb1 => ?_
  simp only [List.mem_cons, List.not_mem_nil, or_false] at hy
  have key : ∃ q : Rat, y = fr q ∧ Sz 12 q := by
    rcases hy with rfl | rfl | rfl | rfl | rfl | rfl
    · exact ⟨((0 : Int) : Rat), rfl, Sz.int1 (bd_of 0 (by decide) (by decide))⟩
    · exact ⟨((c : Int) : Rat), rfl, Sz.int1 (bc.up (by decide))⟩
    · exact ⟨((-c : Int) : Rat), rfl, Sz.int1 (bn.up (by decide))⟩
    · exact ⟨_, rfl, (sz_divInt bc b2 (by decide)).up (by decide)⟩
    · exact ⟨_, rfl, (sz_divInt bn b3 (by decide)).up (by decide)⟩
    · exact ⟨_, rfl, (sz_divInt bt b3 (by decide)).up (by decide)⟩
  obtain ⟨q, rfl, sq⟩ := key
  exact hQ _ _ ⟨q, rfl, sq⟩ (hb1.up (by omega))
set_option maxHeartbeats 4000000 in
theorem ok__law_wind {f : Addr} {fd : FuncData} (W : Fun K "_law_wind" "_law_wind" s__law_wind f fd) (T : Bi mg)
    {f__law_some : Addr} {fd__law_some : FuncData} (G__law_some : FnG P w K mg base CX0 2 f__law_some fd__law_some ["_law_bag_here", "_law_things"] (spB K TT [.ro] S__law_some)) (g__law_some : mg "_law_some" = some (.ref f__law_some)) (k__law_some : PySem.W.keepIn K (.ref f__law_some) = true) (b__law_some : Binds K fd__law_some ["_law_bag_here", "_law_things"] [])
    {f__law_over : Addr} {fd__law_over : FuncData} (G__law_over : FnG P w K mg base CX0 1 f__law_over fd__law_over ["_law_n", "_law_d"] (spP K TT [.d, .d] S__law_over)) (g__law_over : mg "_law_over" = some (.ref f__law_over)) (k__law_over : PySem.W.keepIn K (.ref f__law_over) = true) (b__law_over : Binds K fd__law_over ["_law_n", "_law_d"] []) :
    FnG P w K mg base CX0 3 f fd ["_law_bag_here", "_law_wind_here"] (spB K TT [.d] S__law_wind) := by
  refine fnB W sc__law_wind rfl fun cdv A out s H E Nn B hr hgd => ⟨_, _, (dss_cons (ds_setL (i := 2) sc__law_wind.nd (pl_lst (pda_cons (pd_tup (pda_cons (pd_tup (pda_cons pd_int (pda_cons pd_int pda_nil))) (pda_cons (pd_tup (pda_cons pd_int (pda_cons pd_int pda_nil))) pda_nil))) (pda_cons (pd_tup (pda_cons (pd_tup (pda_cons (pdv 1) (pda_cons pd_int pda_nil))) (pda_cons (pd_tup (pda_cons pd_int (pda_cons pd_int pda_nil))) pda_nil))) (pda_cons (pd_tup (pda_cons (pd_tup (pda_cons pd_int (pda_cons pd_int pda_nil))) (pda_cons (pd_tup (pda_cons (pd_neg (pdv 1)) (pda_cons pd_int pda_nil))) pda_nil))) pda_nil)))) (fixB (by decide)))
      (dss_cons (ds_expr (pd_append (i := 2) (pda_cons (pd_tup (pda_cons (pd_callP G__law_over m__law_over (hr.mono (by decide)) hgd rfl g__law_over k__law_over b__law_over (pda_cons (pd_mul pd_int (pdv 1)) (pda_cons pd_int pda_nil))) (pda_cons (pd_callP G__law_over m__law_over (hr.mono (by decide)) hgd rfl g__law_over k__law_over b__law_over (pda_cons (pd_mul pd_int (pdv 1)) (pda_cons pd_int pda_nil))) pda_nil))) pda_nil)))
      (dss_one (ds_ret (pd_callBag G__law_some m__law_some (hr.mono (by decide)) hgd rfl g__law_some k__law_some b__law_some (pda_cons (pdv 0) (pda_cons (pd_l (pl_cat (pdv 2) (pd_l (pl_lst (pda_cons (pd_tup (pda_cons (pd_callP G__law_over m__law_over (hr.mono (by decide)) hgd rfl g__law_over k__law_over b__law_over (pda_cons (pd_neg (pdv 1)) (pda_cons pd_int pda_nil))) (pda_cons (pd_callP G__law_over m__law_over (hr.mono (by decide)) hgd rfl g__law_over k__law_over b__law_over (pda_cons (pdv 1) (pda_cons pd_int pda_nil))) pda_nil))) (pda_cons (pd_tup (pda_cons (pd_tup (pda_cons (pd_neg (pdv 1)) (pda_cons pd_int pda_nil))) (pda_cons (pd_tup (pda_cons pd_int (pda_cons pd_int pda_nil))) pda_nil))) pda_nil)))))) pda_nil))))))), ?_⟩
  clear W T hr hgd G__law_some g__law_some k__law_some b__law_some f__law_some fd__law_some G__law_over g__law_over k__law_over b__law_over f__law_over fd__law_over
  rintro bag xs Q hl ⟨c, m, hb, hm, rfl, ⟨h0, h1⟩, hQ⟩
  clear hl
  replace hQ : ∀ z bag', (∃ p : Rat × Rat, z = eWi p ∧ Sz 12 p.1 ∧ Sz 12 p.2) → Bag (m + 2) bag' → Q z bag'   := hQ
  have hm : m + 2 < 2 ^ 60 := hm
  have e : (some (.own bag) :: rhoP (nm__law_wind.length - 1) [.d] [.int c] : Rho) = [some (.own bag), some (.d (.int c)), none] := rfl
  rw [e]
  clear e
  have bc : Bd 7 c := bd_of 100 (by omega) (by omega)
  have bn : Bd 7 (-c) := bd_of 100 (by omega) (by omega)
  have b2 : Bd 9 2 := by unfold Bd; decide
  have b3 : Bd 3 3 := by unfold Bd; decide
  have b4 : Bd 3 4 := by unfold Bd; decide
  have b5 : Bd 9 5 := by unfold Bd; decide
  have bx : Bd 9 (3 * c) := bd_of 400 (by omega) (by omega)
  have by' : Bd 9 (4 * c) := bd_of 400 (by omega) (by omega)
  have z0 : Sz 12 ((0 : Int) : Rat) := Sz.int1 (bd_of 0 (by decide) (by decide))
  have zc : Sz 12 ((c : Int) : Rat) := Sz.int1 (bc.up (by decide))
  have zn : Sz 12 ((-c : Int) : Rat) := Sz.int1 (bn.up (by decide))
  refine seqI fun kk hk => ?_
  try walk_at "K61Z0"
  rw [hk]
  clear hk
  refine seqI fun kk hk => ?_
  try walk_at "K61Z0"
  refine ⟨cmb b3 bc, u__law_over (by decide) (b5.up (by decide)) ⟨cmb b4 bc, u__law_over (by decide) (b5.up (by decide)) ?_⟩⟩
  rw [hk]
  clear hk
  try walk_at "K61Z0"
  refine u__law_over (by decide) (b2.up (by decide)) (u__law_over (by decide) (b2.up (by decide)) ?_)
  refine u_some hb (by omega) (by simp) (by simp) fun y hy bag1 hb1 => ?_
  simp only [List.mem_cons, List.not_mem_nil, or_false] at hy
  have key : ∃ p : Rat × Rat, y = eWi p ∧ Sz 12 p.1 ∧ Sz 12 p.2 := by
    rcases hy with rfl | rfl | rfl | rfl | rfl | rfl
    · exact ⟨(((0 : Int) : Rat), ((0 : Int) : Rat)), rfl, z0, z0⟩
    · exact ⟨(((c : Int) : Rat), ((0 : Int) : Rat)), rfl, zc, z0⟩
    · exact ⟨(((0 : Int) : Rat), ((-c : Int) : Rat)), rfl, z0, zn⟩
    · exact ⟨(_, _), rfl, (sz_divInt bx b5 (by decide)).up (by decide), (sz_divInt by' b5 (by decide)).up (by decide)⟩
    · exact ⟨(_, _), rfl, (sz_divInt bn b2 (by decide)).up (by decide), (sz_divInt bc b2 (by decide)).up (by decide)⟩
    · exact ⟨(((-c : Int) : Rat), ((0 : Int) : Rat)), rfl, zn, z0⟩
  obtain ⟨p, rfl, s1, s2⟩ := key
  exact hQ _ _ ⟨p, rfl, s1, s2⟩ (hb1.up (by omega))
set_option maxHeartbeats 4000000 in
theorem ok_fall_of {f : Addr} {fd : FuncData} (W : Fun K "fall_of" "fall_of" s_fall_of f fd) (T : Bi mg)
    {f_least_of : Addr} {fd_least_of : FuncData} (G_least_of : FnG P w K mg base CX0 2 f_least_of fd_least_of ["fractions"] (spP K TT [.ro] S_least_of)) (g_least_of : mg "least_of" = some (.ref f_least_of)) (k_least_of : PySem.W.keepIn K (.ref f_least_of) = true) (b_least_of : Binds K fd_least_of ["fractions"] [])
    {f_added : Addr} {fd_added : FuncData} (G_added : FnG P w K mg base CX0 2 f_added fd_added ["one", "other"] (spP K TT [.d, .d] S_added)) (g_added : mg "added" = some (.ref f_added)) (k_added : PySem.W.keepIn K (.ref f_added) = true) (b_added : Binds K fd_added ["one", "other"] [])
    {f_lag_of : Addr} {fd_lag_of : FuncData} (G_lag_of : FnG P w K mg base CX0 1 f_lag_of fd_lag_of ["bounds"] (spP K TT [.d] S_lag_of)) (g_lag_of : mg "lag_of" = some (.ref f_lag_of)) (k_lag_of : PySem.W.keepIn K (.ref f_lag_of) = true) (b_lag_of : Binds K fd_lag_of ["bounds"] [])
    {f_timeline : Addr} {fd_timeline : FuncData} (G_timeline : FnG P w K mg base CX0 3 f_timeline fd_timeline ["show"] (spP K TT [.d] S_timeline)) (g_timeline : mg "timeline" = some (.ref f_timeline)) (k_timeline : PySem.W.keepIn K (.ref f_timeline) = true) (b_timeline : Binds K fd_timeline ["show"] []) :
    FnG P w K mg base CX0 4 f fd ["show", "night", "carrier"] (spP K TT [.d, .d, .d] S_fall_of) := by
  refine fnP W sc_fall_of rfl fun cdv A out s H E Nn hr hgd => ⟨_, _, (dss_cons (ds_asg (pdv 1) (pgd_tup (n := 4) rfl (pgds_cons (pgd_name (i := 3) sc_fall_of.nd) (pgds_cons (pgd_name (i := 4) sc_fall_of.nd) (pgds_cons (pgd_name (i := 5) sc_fall_of.nd) (pgds_cons (pgd_name (i := 6) sc_fall_of.nd) pgds_nil))))) nofixP)
      (dss_cons (ds_setL (i := 7) sc_fall_of.nd (pl_ifExp (pt_din (units1 hr.units) (pdv 2) (pdv 3)) (pl_lst (pda_cons (pd_dget (units1 hr.units) (pdv 3) (pdv 2) (fun _ _ => rfl)) pda_nil)) (pl_lst pda_nil)) fixP)
      (dss_cons (ds_if (pt_din (units1 hr.units) (pdv 2) (pdv 6)) (dss_cons (ds_set (i := 8) sc_fall_of.nd (pd_dget (units1 hr.units) (pdv 6) (pdv 2) (fun _ _ => rfl)) fixP)
      (dss_one (ds_expr (pd_append (i := 7) (pda_cons (pd_callP G_added m_added (hr.mono (by decide)) hgd rfl g_added k_added b_added (pda_cons (pd_ix (pd_dget (units1 hr.units) (pdv 4) (pdv 2) (fun _ _ => rfl)) (pdv 8) (fun _ _ => rfl)) (pda_cons (pd_tup (pda_cons (pd_sub (pd_ix (pd_ix (pd_callP G_timeline m_timeline (hr.mono (by decide)) hgd rfl g_timeline k_timeline b_timeline (pda_cons (pdv 0) pda_nil)) (pdv 8) (fun _ _ => rfl)) pd_int (fun _ _ => rfl)) (pd_callP G_lag_of m_lag_of (hr.mono (by decide)) hgd rfl g_lag_of k_lag_of b_lag_of (pda_cons (pd_ix (pdv 0) pd_int (fun _ _ => rfl)) pda_nil))) (pda_cons pd_int pda_nil))) pda_nil))) pda_nil))))) dss_nil)
      (dss_one (ds_ret (pd_ifExp (pt_eq hr.units rfl (pd_callB call_len_seq sc_len rfl T.b_len (by decide +kernel) (pda_cons (pdv 7) pda_nil)) pd_int) pd_non (pd_callP G_least_of m_least_of (hr.mono (by decide)) hgd rfl g_least_of k_least_of b_least_of (pda_cons (pdv 7) pda_nil)))))))), ?_⟩
  clear W T hr hgd G_least_of g_least_of k_least_of b_least_of f_least_of fd_least_of G_added g_added k_added b_added f_added fd_added G_lag_of g_lag_of k_lag_of b_lag_of f_lag_of fd_lag_of G_timeline g_timeline k_timeline b_timeline f_timeline fd_timeline
  rintro xs Q hl ⟨⟨w, N, c⟩, rfl, ⟨h0, h1, h2⟩, hQ⟩
  clear hl
  replace hQ : Q (oR (fallQ w N c)) := hQ
  have e : rhoP nm_fall_of.length [.d, .d, .d] [eW w, eN N, .int (c : Int)] = [some (.d (eW w)), some (.d (eN N)), some (.d (.int (c : Int))), none, none, none, none, none, none] := rfl
  rw [e]
  clear e
  have ns := h0.ns
  have lg := h0.ok.lag0
  have tmb := fun k hk => tm_in h0 k hk
  refine seqI fun kk hk => ?_
  try simp only [dSeq, dAsg, dCB, dCons, dNil, dVar, onVs, vals, val, slot, setR, fGcd, dIfS, dTV, onV2, fLt, fLe, fGt, fGe, fAdd, fSub, fMul, fDiv, fMod, fI0, dC, dUn, onV, fNeg, dNext, dRet, dTup, onD, dats, fDivZ, fI, fPow, Few, retP, fAbs, fInt, fMax, fMin, fLen, fSqrt, fEq, fNe, dNot, dAnd, dOr, dAndV, dOrV, dNotV, dIfE, dDrop, dRetN, dPar, noO, dSetL, dLst, dOfL, dOwnM, onOwn, onDat, kAppend, kInsert, dSetItem, dAddItem, onItems, onInt, dNoPart, dPart, dSlice, onL, litems, dSlL, dCat, onM, mitems, dRng1, dRng2, dCallP, dCallB, dCallF, noSelf, onArgs, dats2, dIsi, tyName, dYes, dgCons, dgNil, retB, dBreak, dCont, ne_eq, not_false_eq_true, true_and, and_true, List.getElem?_cons_zero, List.getElem?_cons_succ, List.set_cons_zero, List.set_cons_succ, Option.map, List.length_cons, List.length_nil, dParM, dmNil, dmD, dmL, setM, dLc_eq, dLc2_eq, dFor_eq, dSortSet, dSort, dListOf, dIsN, dNotN, isNo, dAug, dMulA, dgUnl, dSlT, onT, dEnum, dZip, dZipM, dRetL, dPar3, dRevT, dLstRg, dTupRg, dRg1, dRg2, dChainLe, List.nil_append, List.cons_append, if_true, if_false, dFrz, dLcO, dMin2D, dAppX, dParL, dParLL, dRepL, fMax3, dNewDic, dDicPut, dDicGet, dSortDic, onDic, onKey, dLcW, dZipX, dParR, dDead, dSortD, dSortDT, fNeS, fEqS, dgSet, dDGet, onDict_eq, onKeyD_int, onKeyD_str, dDIn, dSortDK, onDict1_eq, dDictL, dDictEn, dDictZip, onSq1_eq, onSq2_eq, onSq_t, onSq_l, onSq_o, dNewD, dDicI, dNewDik, dDikPut, onDik, dFrzD, dNew4, dIndexD, onLst_eq, dIfL, dOrT, dAndT, onTru_int, onTru_bool, onTru_none, onTru_tuple, onTru_list, dTupZip, dZip3, dFgt, fIsB, fNotB, fInA_l, fInA_t, fNotInA_l, fNotInA_t, List.map_cons, List.map_nil, fw0, fw1, fw2, fw3, fw4, fw5, fw6, fw7, fw8, fw9, fw10, fw11, fw12, fw13, fw14, fw15, dExtend, dExtendT, dLstDn, dMaxDf, dOp_ap, dIx_ap, dCatT_ap, dRepT_ap, items_l, items_t, items_o, ti_t, dgT_t, seqs_l, seqs_t, seqs_o, dSeqI_eq, wk_l, wk_t, wk_eP, wk_o, dTupOf_eq, tu_t, tu_l, tu_o, tu_eP, dTupA_eq, ta_t, ta_l, ta_o, ta_eP, items_eW, items_eB, items_eSc, items_eLm, items_eP, items_eL, items_pr, items_enc2, items_eTm, ti_eB, ti_eW, ti_eLm, ti_eP, dgT_eSc, dgT_eLm, dgT_eL, dgT_pr, dgT_enc2, dgT_eW, dgT_eTm, seqs_eP, on0, on1, on2, on3, on4, on5, on6, on7, on8, eN, on0]
  rw [hk]
  clear hk
  refine seqI fun kk hk => ?_
  try walk_at "K61Z4"
  rw [findD_keyAt]
  unfold fallQ at hQ
  generalize e1 : keyAt N.fk N.fq (c : Int) = o1 at hQ ⊢
  have s1 : ∀ q, o1 = some q → Sz 60 q := fun q e => h1.fz q (keyAt_mem (e1.trans e)).2
  have k2 : kk [some (Ent.d (eW w)), some (Ent.d (eN N)), some (Ent.d (PyData.int (c : Int))), some (Ent.d (PyData.dict (dI N.fk (List.map fr N.fq)))), some (Ent.d (PyData.dict (dI (upI N.er.length) (List.map eEr N.er)))), some (Ent.d (PyData.dict (dI (upI N.wi.length) (List.map eWs N.wi)))), some (Ent.d (PyData.dict (dI N.lk (List.map eI N.lv)))), some (Ent.own (o1.toList.map fr)), none] := by
    rw [hk]
    clear hk
    refine seqI fun kk hk => ?_
    try walk_at "K61Z4"
    rw [findD_keyAt]
    unfold lostQ at hQ
    generalize e2 : keyAt N.lk N.lv (c : Int) = o2 at hQ ⊢
    have k3 : ∀ (o3 : Option Rat) (s4 : Option Ent), (∀ q, o3 = some q → Sz 60 q) → Q (oR (minQ o1 o3)) → kk [some (Ent.d (eW w)), some (Ent.d (eN N)), some (Ent.d (PyData.int (c : Int))), some (Ent.d (PyData.dict (dI N.fk (List.map fr N.fq)))), some (Ent.d (PyData.dict (dI (upI N.er.length) (List.map eEr N.er)))), some (Ent.d (PyData.dict (dI (upI N.wi.length) (List.map eWs N.wi)))), some (Ent.d (PyData.dict (dI N.lk (List.map eI N.lv)))), some (Ent.own (o1.toList.map fr ++ o3.toList.map fr)), s4] := fun o3 s4 s3 hQ => by
      rw [hk]
      clear hk
      try walk_at "K61Z0"
      rw [← List.map_append]
      refine ⟨sh_int, sh_int, ?_⟩
      rw [eqv_int]
      cases o1 with
      | none =>
        cases o3 with
        | none => exact ite_t rfl hQ
        | some b =>
          refine ite_f (by simp) ?_
          exact u_least_of (p := b) (ps := []) (k := 60) (fun q hq => by rw [List.mem_singleton.mp hq]; exact s3 b rfl) (by decide) hQ
      | some a =>
        cases o3 with
        | none =>
          refine ite_f (by simp) ?_
          exact u_least_of (p := a) (ps := []) (k := 60) (fun q hq => by rw [List.mem_singleton.mp hq]; exact s1 a rfl) (by decide) hQ
        | some b =>
          refine ite_f (by simp) ?_
          refine u_least_of (p := a) (ps := [b]) (k := 60) (fun q hq => ?_) (by decide) ?_
          · simp only [List.mem_cons, List.not_mem_nil, or_false] at hq
            rcases hq with rfl | rfl
            · exact s1 _ rfl
            · exact s3 _ rfl
          · show Q (fr (lesR a b))
            unfold lesR
            unfold minQ oR at hQ
            exact hQ
    cases o2 with
    | none =>
      have := k3 none none (fun q e => nomatch e) hQ
      rw [show ((none : Option Rat).toList.map fr) = [] from rfl, List.append_nil] at this
      exact this
    | some v =>
      obtain ⟨_, hv⟩ := keyAt_mem e2
      have vl := h1.lz v hv
      have hsv := List.getElem?_eq_getElem vl
      generalize w.sc[v] = sv at hsv
      have hec := List.getElem?_eq_getElem (show c < N.er.length by rw [h1.el]; exact h2)
      generalize N.er[c]'(by rw [h1.el]; exact h2) = es at hec
      obtain ⟨e3, e4⟩ := h1.ez es (List.mem_of_getElem? hec)
      have hev := List.getElem?_eq_getElem (show v < es.length by omega)
      generalize es[v] = e at hev
      have se := e4 e (List.mem_of_getElem? hev)
      have tv := tmb v (by omega)
      dsimp only at hQ
      rw [Int.toNat_natCast, hec] at hQ
      simp only [Option.bind_some] at hQ
      rw [hev] at hQ
      simp only [Option.map_some] at hQ
      simp only [Option.map_some, Option.isSome_some, Bool.false_eq_true, if_false, if_true, eI]
      rw [findD_dI (lt_nodup (upI_lt _)) (upI_at (show c < N.er.length by rw [h1.el]; exact h2)) (show (N.er.map eEr)[c]? = some (eEr es) by rw [List.getElem?_map, hec]; rfl)]
      try simp only [dSeq, dAsg, dCB, dCons, dNil, dVar, onVs, vals, val, slot, setR, fGcd, dIfS, dTV, onV2, fLt, fLe, fGt, fGe, fAdd, fSub, fMul, fDiv, fMod, fI0, dC, dUn, onV, fNeg, dNext, dRet, dTup, onD, dats, fDivZ, fI, fPow, Few, retP, fAbs, fInt, fMax, fMin, fLen, fSqrt, fEq, fNe, dNot, dAnd, dOr, dAndV, dOrV, dNotV, dIfE, dDrop, dRetN, dPar, noO, dSetL, dLst, dOfL, dOwnM, onOwn, onDat, kAppend, kInsert, dSetItem, dAddItem, onItems, onInt, dNoPart, dPart, dSlice, onL, litems, dSlL, dCat, onM, mitems, dRng1, dRng2, dCallP, dCallB, dCallF, noSelf, onArgs, dats2, dIsi, tyName, dYes, dgCons, dgNil, retB, dBreak, dCont, ne_eq, not_false_eq_true, true_and, and_true, List.getElem?_cons_zero, List.getElem?_cons_succ, List.set_cons_zero, List.set_cons_succ, Option.map, List.length_cons, List.length_nil, dParM, dmNil, dmD, dmL, setM, dLc_eq, dLc2_eq, dFor_eq, dSortSet, dSort, dListOf, dIsN, dNotN, isNo, dAug, dMulA, dgUnl, dSlT, onT, dEnum, dZip, dZipM, dRetL, dPar3, dRevT, dLstRg, dTupRg, dRg1, dRg2, dChainLe, List.nil_append, List.cons_append, if_true, if_false, dFrz, dLcO, dMin2D, dAppX, dParL, dParLL, dRepL, fMax3, dNewDic, dDicPut, dDicGet, dSortDic, onDic, onKey, dLcW, dZipX, dParR, dDead, dSortD, dSortDT, fNeS, fEqS, dgSet, dDGet, onDict_eq, onKeyD_int, onKeyD_str, dDIn, dSortDK, onDict1_eq, dDictL, dDictEn, dDictZip, onSq1_eq, onSq2_eq, onSq_t, onSq_l, onSq_o, dNewD, dDicI, dNewDik, dDikPut, onDik, dFrzD, dNew4, dIndexD, onLst_eq, dIfL, dOrT, dAndT, onTru_int, onTru_bool, onTru_none, onTru_tuple, onTru_list, dTupZip, dZip3, dFgt, fIsB, fNotB, fInA_l, fInA_t, fNotInA_l, fNotInA_t, List.map_cons, List.map_nil, fw0, fw1, fw2, fw3, fw4, fw5, fw6, fw7, fw8, fw9, fw10, fw11, fw12, fw13, fw14, fw15, dExtend, dExtendT, dLstDn, dMaxDf, dOp_ap, dIx_ap, dCatT_ap, dRepT_ap, items_l, items_t, items_o, ti_t, dgT_t, seqs_l, seqs_t, seqs_o, dSeqI_eq, wk_l, wk_t, wk_eP, wk_o, dTupOf_eq, tu_t, tu_l, tu_o, tu_eP, dTupA_eq, ta_t, ta_l, ta_o, ta_eP, items_eW, items_eB, items_eSc, items_eLm, items_eP, items_eL, items_pr, items_enc2, items_eTm, ti_eB, ti_eW, ti_eLm, ti_eP, dgT_eSc, dgT_eLm, dgT_eL, dgT_pr, dgT_enc2, dgT_eW, dgT_eTm, seqs_eP, on0, on1, on2, on3, on4, on5, on6, on7, on8, eEr]
      rw [on_map hev rfl]
      refine u_timeline h0 ?_
      try walk_at "K61Z0"
      rw [on_at (tmF_at hsv vl (Nat.le_refl _))]
      try simp only [dSeq, dAsg, dCB, dCons, dNil, dVar, onVs, vals, val, slot, setR, fGcd, dIfS, dTV, onV2, fLt, fLe, fGt, fGe, fAdd, fSub, fMul, fDiv, fMod, fI0, dC, dUn, onV, fNeg, dNext, dRet, dTup, onD, dats, fDivZ, fI, fPow, Few, retP, fAbs, fInt, fMax, fMin, fLen, fSqrt, fEq, fNe, dNot, dAnd, dOr, dAndV, dOrV, dNotV, dIfE, dDrop, dRetN, dPar, noO, dSetL, dLst, dOfL, dOwnM, onOwn, onDat, kAppend, kInsert, dSetItem, dAddItem, onItems, onInt, dNoPart, dPart, dSlice, onL, litems, dSlL, dCat, onM, mitems, dRng1, dRng2, dCallP, dCallB, dCallF, noSelf, onArgs, dats2, dIsi, tyName, dYes, dgCons, dgNil, retB, dBreak, dCont, ne_eq, not_false_eq_true, true_and, and_true, List.getElem?_cons_zero, List.getElem?_cons_succ, List.set_cons_zero, List.set_cons_succ, Option.map, List.length_cons, List.length_nil, dParM, dmNil, dmD, dmL, setM, dLc_eq, dLc2_eq, dFor_eq, dSortSet, dSort, dListOf, dIsN, dNotN, isNo, dAug, dMulA, dgUnl, dSlT, onT, dEnum, dZip, dZipM, dRetL, dPar3, dRevT, dLstRg, dTupRg, dRg1, dRg2, dChainLe, List.nil_append, List.cons_append, if_true, if_false, dFrz, dLcO, dMin2D, dAppX, dParL, dParLL, dRepL, fMax3, dNewDic, dDicPut, dDicGet, dSortDic, onDic, onKey, dLcW, dZipX, dParR, dDead, dSortD, dSortDT, fNeS, fEqS, dgSet, dDGet, onDict_eq, onKeyD_int, onKeyD_str, dDIn, dSortDK, onDict1_eq, dDictL, dDictEn, dDictZip, onSq1_eq, onSq2_eq, onSq_t, onSq_l, onSq_o, dNewD, dDicI, dNewDik, dDikPut, onDik, dFrzD, dNew4, dIndexD, onLst_eq, dIfL, dOrT, dAndT, onTru_int, onTru_bool, onTru_none, onTru_tuple, onTru_list, dTupZip, dZip3, dFgt, fIsB, fNotB, fInA_l, fInA_t, fNotInA_l, fNotInA_t, List.map_cons, List.map_nil, fw0, fw1, fw2, fw3, fw4, fw5, fw6, fw7, fw8, fw9, fw10, fw11, fw12, fw13, fw14, fw15, dExtend, dExtendT, dLstDn, dMaxDf, dOp_ap, dIx_ap, dCatT_ap, dRepT_ap, items_l, items_t, items_o, ti_t, dgT_t, seqs_l, seqs_t, seqs_o, dSeqI_eq, wk_l, wk_t, wk_eP, wk_o, dTupOf_eq, tu_t, tu_l, tu_o, tu_eP, dTupA_eq, ta_t, ta_l, ta_o, ta_eP, items_eW, items_eB, items_eSc, items_eLm, items_eP, items_eL, items_pr, items_enc2, items_eTm, ti_eB, ti_eW, ti_eLm, ti_eP, dgT_eSc, dgT_eLm, dgT_eL, dgT_pr, dgT_enc2, dgT_eW, dgT_eTm, seqs_eP, on0, on1, on2, on3, on4, on5, on6, on7, on8, eTm]
      refine u_lag_of (b := w.b) h0.ok.bd (by decide) ?_
      try walk_at "K61Z0"
      have st : Sz 20 ((((tmS w.b.need w.sc v).2 - w.b.lag : Int)) : Rat) := Sz.int1 (bd_of 200000 (by omega) (by omega))
      refine u_added (q := (((tmS w.b.need w.sc v).2 - w.b.lag : Int) : Rat)) se st (by decide) ?_
      have l1 : (List.map fr o1.toList).length ≤ 1 := by cases o1 <;> simp
      refine ⟨few_le (by omega), ?_⟩
      rw [Rat.add_comm]
      exact k3 (some _) _ (fun q e => by cases e; exact (st.add se).up (by decide)) hQ
  cases o1 with
  | none => exact k2
  | some q => exact k2
set_option maxHeartbeats 4000000 in
theorem ok__law_writing {f : Addr} {fd : FuncData} (W : Fun K "_law_writing" "_law_writing" s__law_writing f fd) (T : Bi mg)
    {f__law_lag : Addr} {fd__law_lag : FuncData} (G__law_lag : FnG P w K mg base CX0 1 f__law_lag fd__law_lag ["_law_bounds"] (spP K TT [.d] S__law_lag)) (g__law_lag : mg "_law_lag" = some (.ref f__law_lag)) (k__law_lag : PySem.W.keepIn K (.ref f__law_lag) = true) (b__law_lag : Binds K fd__law_lag ["_law_bounds"] [])
    {f__law_times : Addr} {fd__law_times : FuncData} (G__law_times : FnG P w K mg base CX0 3 f__law_times fd__law_times ["_law_show_here"] (spP K TT [.d] S__law_times)) (g__law_times : mg "_law_times" = some (.ref f__law_times)) (k__law_times : PySem.W.keepIn K (.ref f__law_times) = true) (b__law_times : Binds K fd__law_times ["_law_show_here"] []) :
    FnG P w K mg base CX0 4 f fd ["_law_show_here", "_law_scene"] (spP K TT [.d, .d] S__law_writing) := by
  refine fnP W sc__law_writing rfl fun cdv A out s H E Nn hr hgd => ⟨_, _, (dss_cons (ds_set (i := 2) sc__law_writing.nd (pd_ix (pdv 0) pd_int (fun _ _ => rfl)) fixP)
      (dss_one (ds_ret (pd_sub (pd_sub (pd_sub (pd_sub (pd_ix (pd_ix (pd_callP G__law_times m__law_times (hr.mono (by decide)) hgd rfl g__law_times k__law_times b__law_times (pda_cons (pdv 0) pda_nil)) (pdv 1) (fun _ _ => rfl)) pd_int (fun _ _ => rfl)) (pd_callP G__law_lag m__law_lag (hr.mono (by decide)) hgd rfl g__law_lag k__law_lag b__law_lag (pda_cons (pdv 2) pda_nil))) (pd_ix (pdv 2) pd_int (fun _ _ => rfl))) (pd_ix (pdv 2) pd_int (fun _ _ => rfl))) (pd_ix (pdv 2) pd_int (fun _ _ => rfl)))))), ?_⟩
  clear W T hr hgd G__law_lag g__law_lag k__law_lag b__law_lag f__law_lag fd__law_lag G__law_times g__law_times k__law_times b__law_times f__law_times fd__law_times
  rintro xs Q hl ⟨⟨w, i, s⟩, rfl, ⟨h0, h1⟩, hQ⟩
  clear hl
  replace hQ : Q (.int ((tmS w.b.need w.sc i).2 - w.b.lag - w.b.clk - w.b.sil - w.b.cuts)) := hQ
  have e : rhoP nm__law_writing.length [.d, .d] [eW w, .int i] = [some (.d (eW w)), some (.d (.int i)), none] := rfl
  rw [e]
  clear e
  have il := (List.getElem?_eq_some_iff.mp h1).1
  refine seqI fun kk hk => ?_
  try walk_at "K61Z0"
  rw [hk]
  clear hk
  try walk_at "K61Z0"
  refine u__law_times (w := w) h0 ?_
  try walk_at "K61Z0"
  rw [on_at (tmF_at h1 il (Nat.le_refl _))]
  try walk_at "K61Z0"
  refine u__law_lag (b := w.b) h0.ok.bd (by decide) ?_
  try walk_at "K61Z0"
  exact hQ
set_option maxHeartbeats 4000000 in
theorem ok__law_show {f : Addr} {fd : FuncData} (W : Fun K "_law_show" "_law_show" s__law_show f fd) (T : Bi mg)
    {f__law_show_bounds : Addr} {fd__law_show_bounds : FuncData} (G__law_show_bounds : FnG P w K mg base CX0 3 f__law_show_bounds fd__law_show_bounds ["_law_bag_here"] (spB K TT [] S__law_show_bounds)) (g__law_show_bounds : mg "_law_show_bounds" = some (.ref f__law_show_bounds)) (k__law_show_bounds : PySem.W.keepIn K (.ref f__law_show_bounds) = true) (b__law_show_bounds : Binds K fd__law_show_bounds ["_law_bag_here"] [])
    {f__law_first_enough : Addr} {fd__law_first_enough : FuncData} (G__law_first_enough : FnG P w K mg base CX0 3 f__law_first_enough fd__law_first_enough ["_law_bounds", "_law_most"] (spP K TT [.d, .d] S__law_first_enough)) (g__law_first_enough : mg "_law_first_enough" = some (.ref f__law_first_enough)) (k__law_first_enough : PySem.W.keepIn K (.ref f__law_first_enough) = true) (b__law_first_enough : Binds K fd__law_first_enough ["_law_bounds", "_law_most"] [])
    {f__law_show_of : Addr} {fd__law_show_of : FuncData} (G__law_show_of : FnG P w K mg base CX0 3 f__law_show_of fd__law_show_of ["_law_bag_here", "_law_bounds", "_law_pads", "_law_scenes", "_law_more"] (spB K TT [.d, .ro, .ro, .d] S__law_show_of)) (g__law_show_of : mg "_law_show_of" = some (.ref f__law_show_of)) (k__law_show_of : PySem.W.keepIn K (.ref f__law_show_of) = true) (b__law_show_of : Binds K fd__law_show_of ["_law_bag_here", "_law_bounds", "_law_pads", "_law_scenes", "_law_more"] [])
    {f__law_picture : Addr} {fd__law_picture : FuncData} (G__law_picture : FnG P w K mg base CX0 3 f__law_picture fd__law_picture ["_law_bag_here", "_law_spacing", "_law_deep", "_law_most"] (spB K TT [.d, .d, .d] S__law_picture)) (g__law_picture : mg "_law_picture" = some (.ref f__law_picture)) (k__law_picture : PySem.W.keepIn K (.ref f__law_picture) = true) (b__law_picture : Binds K fd__law_picture ["_law_bag_here", "_law_spacing", "_law_deep", "_law_most"] [])
    {f__law_some : Addr} {fd__law_some : FuncData} (G__law_some : FnG P w K mg base CX0 2 f__law_some fd__law_some ["_law_bag_here", "_law_things"] (spB K TT [.ro] S__law_some)) (g__law_some : mg "_law_some" = some (.ref f__law_some)) (k__law_some : PySem.W.keepIn K (.ref f__law_some) = true) (b__law_some : Binds K fd__law_some ["_law_bag_here", "_law_things"] [])
    {f__law_take : Addr} {fd__law_take : FuncData} (G__law_take : FnG P w K mg base CX0 1 f__law_take fd__law_take ["_law_bag_here", "_law_many"] (spB K TT [.d] S__law_take)) (g__law_take : mg "_law_take" = some (.ref f__law_take)) (k__law_take : PySem.W.keepIn K (.ref f__law_take) = true) (b__law_take : Binds K fd__law_take ["_law_bag_here", "_law_many"] [])
    {f__law_needed : Addr} {fd__law_needed : FuncData} (G__law_needed : FnG P w K mg base CX0 2 f__law_needed fd__law_needed ["_law_bounds"] (spP K TT [.d] S__law_needed)) (g__law_needed : mg "_law_needed" = some (.ref f__law_needed)) (k__law_needed : PySem.W.keepIn K (.ref f__law_needed) = true) (b__law_needed : Binds K fd__law_needed ["_law_bounds"] []) :
    FnG P w K mg base CX0 4 f fd ["_law_bag_here", "_law_most_pads", "_law_most_scenes"] (spB K TT [.d, .d] S__law_show) := by
  refine fnB W sc__law_show rfl fun cdv A out s H E Nn B hr hgd => ⟨_, _, (dss_cons (ds_set (i := 3) sc__law_show.nd (pd_callBag G__law_show_bounds m__law_show_bounds (hr.mono (by decide)) hgd rfl g__law_show_bounds k__law_show_bounds b__law_show_bounds (pda_cons (pdv 0) pda_nil)) (fixB (by decide)))
      (dss_cons (ds_asg (pd_tup (pda_cons (pd_ix (pdv 3) pd_int (fun _ _ => rfl)) (pda_cons (pd_ix (pdv 3) pd_int (fun _ _ => rfl)) pda_nil))) (pgd_tup (n := 2) rfl (pgds_cons (pgd_name (i := 4) sc__law_show.nd) (pgds_cons (pgd_name (i := 5) sc__law_show.nd) pgds_nil))) (nofixB (by decide)))
      (dss_cons (ds_set (i := 6) sc__law_show.nd (pd_l (pl_listRg3 rfl rfl T.b_list rfl T.b_range (pda_cons (pd_ix (pdv 3) pd_int (fun _ _ => rfl)) (pda_cons pd_int (pda_cons (pd_neg pd_int) pda_nil))))) (fixB (by decide)))
      (dss_cons (ds_fgt (i := 7) (ds_setLc (i := 6) (own := [("_law_one", 7)]) rfl sc__law_show.nd (pdi_seq (pdv 6)) (blkOk_by (own := [("_law_one", 7)]) (N := nm__law_show) (sc := defScope s__law_show) (by decide +kernel)) (fun _ _ _ _ _ => (pgd_name (i := 7) sc__law_show.nd)) (fun _ _ _ _ _ => (dts_one (pt_notN (pd_callP G__law_first_enough m__law_first_enough (hr.mono (by decide)) hgd rfl g__law_first_enough k__law_first_enough b__law_first_enough (pda_cons (pd_catT (pd_tup (pda_cons (pdv 4) (pda_cons (pdv 7) pda_nil))) (pd_sliceT (pdv 3) (pdo_some pd_int) pdo_none)) (pda_cons pd_int pda_nil)))))) (fun _ _ _ _ _ => (pdv 7)) (fixB (by decide))) (fixB (by decide)))
      (dss_cons (ds_set (i := 3) sc__law_show.nd (pd_ifExp (pt_ne hr.units rfl (pdv 6) (pd_l (pl_lst pda_nil))) (pd_catT (pd_tup (pda_cons (pdv 4) (pda_cons (pd_ix (pdv 6) pd_int (fun _ _ => rfl)) pda_nil))) (pd_sliceT (pdv 3) (pdo_some pd_int) pdo_none)) (pd_catT (pd_tup (pda_cons (pdv 4) (pda_cons pd_int (pda_cons pd_int (pda_cons pd_int (pda_cons pd_int pda_nil)))))) (pd_sliceT (pdv 3) (pdo_some pd_int) pdo_none))) (fixB (by decide)))
      (dss_cons (ds_set (i := 8) sc__law_show.nd (pd_callP G__law_first_enough m__law_first_enough (hr.mono (by decide)) hgd rfl g__law_first_enough k__law_first_enough b__law_first_enough (pda_cons (pdv 3) (pda_cons pd_int pda_nil))) (fixB (by decide)))
      (dss_cons (ds_parNM (is := [9, 10, 11, 12]) rfl (pdm_d (pd_add (pd_mul (pd_add (pdv 5) pd_int) (pdv 4)) (pd_callBag G__law_take m__law_take (hr.mono (by decide)) hgd rfl g__law_take k__law_take b__law_take (pda_cons (pdv 0) (pda_cons (pdv 4) pda_nil)))) (pdm_d (pd_add (pdv 4) (pd_callBag G__law_take m__law_take (hr.mono (by decide)) hgd rfl g__law_take k__law_take b__law_take (pda_cons (pdv 0) (pda_cons pd_int pda_nil)))) (pdm_l (pl_lst pda_nil) (pdm_l (pl_lst pda_nil) pdm_nil)))) (pgs_cons (pg_name (i := 9) sc__law_show.nd rfl (by first | exact Or.inl rfl | exact Or.inr rfl)) (pgs_cons (pg_name (i := 10) sc__law_show.nd rfl (by first | exact Or.inl rfl | exact Or.inr rfl)) (pgs_cons (pg_name (i := 11) sc__law_show.nd rfl (by first | exact Or.inl rfl | exact Or.inr rfl)) (pgs_cons (pg_name (i := 12) sc__law_show.nd rfl (by first | exact Or.inl rfl | exact Or.inr rfl)) pgs_nil)))) (nofixB (by decide)))
      (dss_cons (ds_for PassesOwn.never rfl (pdi_range1 rfl T.b_range (pda_cons (pd_add pd_int (pd_callBag G__law_take m__law_take (hr.mono (by decide)) hgd rfl g__law_take k__law_take b__law_take (pda_cons (pdv 0) (pda_cons (pdv 1) pda_nil)))) pda_nil)) (pgd_name (i := 13) sc__law_show.nd) (dss_one (ds_expr (pd_append (i := 11) (pda_cons (pd_tup (pda_cons (pd_mul (pdv 13) (pdv 10)) (pda_cons (pd_add (pdv 9) (pd_mul (pdv 4) (pd_callBag G__law_take m__law_take (hr.mono (by decide)) hgd rfl g__law_take k__law_take b__law_take (pda_cons (pdv 0) (pda_cons pd_int pda_nil))))) pda_nil))) pda_nil)))) (nofixB (by decide)))
      (dss_cons (ds_for PassesOwn.never rfl (pdi_range1 rfl T.b_range (pda_cons (pd_add pd_int (pd_callBag G__law_take m__law_take (hr.mono (by decide)) hgd rfl g__law_take k__law_take b__law_take (pda_cons (pdv 0) (pda_cons (pdv 2) pda_nil)))) pda_nil)) (pgd_name (i := 14) sc__law_show.nd) (dss_cons (ds_set (i := 15) sc__law_show.nd (pd_add (pd_callP G__law_needed m__law_needed (hr.mono (by decide)) hgd rfl g__law_needed k__law_needed b__law_needed (pda_cons (pdv 3) pda_nil)) (pd_callBag G__law_some m__law_some (hr.mono (by decide)) hgd rfl g__law_some k__law_some b__law_some (pda_cons (pdv 0) (pda_cons (pd_l (pl_lst (pda_cons pd_int (pda_cons pd_int (pda_cons pd_int pda_nil))))) pda_nil)))) (fixB (by decide)))
      (dss_cons (ds_set (i := 16) sc__law_show.nd (pd_callBag G__law_picture m__law_picture (hr.mono (by decide)) hgd rfl g__law_picture k__law_picture b__law_picture (pda_cons (pdv 0) (pda_cons (pdv 4) (pda_cons (pdv 5) (pda_cons (pd_callBag G__law_some m__law_some (hr.mono (by decide)) hgd rfl g__law_some k__law_some b__law_some (pda_cons (pdv 0) (pda_cons (pd_l (pl_lst (pda_cons pd_int (pda_cons pd_int (pda_cons pd_int pda_nil))))) pda_nil))) pda_nil))))) (fixB (by decide)))
      (dss_one (ds_expr (pd_append (i := 12) (pda_cons (pd_tup (pda_cons (pd_add (pdv 8) (pd_callBag G__law_some m__law_some (hr.mono (by decide)) hgd rfl g__law_some k__law_some b__law_some (pda_cons (pdv 0) (pda_cons (pd_l (pl_lst (pda_cons pd_int (pda_cons pd_int (pda_cons pd_int pda_nil))))) pda_nil)))) (pda_cons (pdv 15) (pda_cons (pdv 16) pda_nil)))) pda_nil)))))) (nofixB (by decide)))
      (dss_one (ds_ret (pd_callBag G__law_show_of m__law_show_of (hr.mono (by decide)) hgd rfl g__law_show_of k__law_show_of b__law_show_of (pda_cons (pdv 0) (pda_cons (pdv 3) (pda_cons (pdv 11) (pda_cons (pdv 12) (pda_cons (pd_callBag G__law_some m__law_some (hr.mono (by decide)) hgd rfl g__law_some k__law_some b__law_some (pda_cons (pdv 0) (pda_cons (pd_l (pl_lst (pda_cons pd_int (pda_cons pd_int pda_nil)))) pda_nil))) pda_nil))))))))))))))))), ?_⟩
  clear W T hr hgd G__law_show_bounds g__law_show_bounds k__law_show_bounds b__law_show_bounds f__law_show_bounds fd__law_show_bounds G__law_first_enough g__law_first_enough k__law_first_enough b__law_first_enough f__law_first_enough fd__law_first_enough G__law_show_of g__law_show_of k__law_show_of b__law_show_of f__law_show_of fd__law_show_of G__law_picture g__law_picture k__law_picture b__law_picture f__law_picture fd__law_picture G__law_some g__law_some k__law_some b__law_some f__law_some fd__law_some G__law_take g__law_take k__law_take b__law_take f__law_take fd__law_take G__law_needed g__law_needed k__law_needed b__law_needed f__law_needed fd__law_needed
  rintro bag xs Q hl ⟨⟨mp, ms⟩, m, hb, hm, rfl, ⟨h0, h1, h2, h3⟩, hQ⟩
  clear hl
  replace hQ : ∀ z bag', (∃ w : Shw, z = eW w ∧ ShwB w ∧ ShwL w ∧ w.pads.length ≤ mp.toNat ∧ w.sc.length ≤ ms.toNat) → Bag (m + 2000) bag' → Q z bag'   := hQ
  have hm : m + 2000 < 2 ^ 60 := hm
  have e : (some (.own bag) :: rhoP (nm__law_show.length - 1) [.d, .d] [.int mp, .int ms] : Rho) = [some (.own bag), some (.d (.int mp)), some (.d (.int ms)), none, none, none, none, none, none, none, none, none, none, none, none, none, none] := rfl
  rw [e]
  clear e
  refine seqI fun kk hk => ?_
  try walk_at "K61Z0"
  refine u__law_show_bounds hb (by omega) fun y bag1 hy hb1 => ?_
  obtain ⟨b, rfl, ok, sp4, sp20, d3, wd1⟩ := hy
  try walk_at "K61Z0"
  rw [hk]
  clear hk
  refine seqI fun kk hk => ?_
  try walk_at "K61Z0"
  rw [hk]
  clear hk
  refine seqI fun kk hk => ?_
  try walk_at "K61Z0"
  have n0 := ok.near0; have n1 := ok.near1
  refine ⟨⟨by omega, by omega, by decide, by decide, by omega⟩, ?_⟩
  try walk_at "K61Z0"
  rw [hk]
  clear hk
  refine seqI fun kk hk => ?_
  try walk_at "K61Z0"
  rw [show (b.near - 0).toNat = b.near.toNat by rw [Int.sub_zero]]
  have hcut : DV.cutD [PyData.int b.sp, .int b.near, .int b.wind, .int b.clk, .int b.fall, .int b.way, .int b.sil, .int b.cuts, .int b.deep] (some 2) none = [.int b.wind, .int b.clk, .int b.fall, .int b.way, .int b.sil, .int b.cuts, .int b.deep] := by rw [cut_drop (by decide)]; rfl
  have hcut5 : DV.cutD [PyData.int b.sp, .int b.near, .int b.wind, .int b.clk, .int b.fall, .int b.way, .int b.sil, .int b.cuts, .int b.deep] (some 5) none = [.int b.way, .int b.sil, .int b.cuts, .int b.deep] := by rw [cut_drop (by decide)]; rfl
  refine lc_fm (List.range b.near.toNat) (fun k : Nat => .int (b.near - k)) (fun k : Nat => ((if enough (b.nr (b.near - k)) 9990 then some (b.near - k) else none) : Option Int).map PyData.int) (hv1 rfl) (by rw [List.length_range]; omega) (fun i k hk C1 C2 n hn c1 c2 => ?_) ?_
  · have kl := List.mem_range.mp (List.mem_of_getElem? hk)
    try walk_at "K61Z2"
    rw [hcut]
    try simp only [dSeq, dAsg, dCB, dCons, dNil, dVar, onVs, vals, val, slot, setR, fGcd, dIfS, dTV, onV2, fLt, fLe, fGt, fGe, fAdd, fSub, fMul, fDiv, fMod, fI0, dC, dUn, onV, fNeg, dNext, dRet, dTup, onD, dats, fDivZ, fI, fPow, Few, retP, fAbs, fInt, fMax, fMin, fLen, fSqrt, fEq, fNe, dNot, dAnd, dOr, dAndV, dOrV, dNotV, dIfE, dDrop, dRetN, dPar, noO, dSetL, dLst, dOfL, dOwnM, onOwn, onDat, kAppend, kInsert, dSetItem, dAddItem, onItems, onInt, dNoPart, dPart, dSlice, onL, litems, dSlL, dCat, onM, mitems, dRng1, dRng2, dCallP, dCallB, dCallF, noSelf, onArgs, dats2, dIsi, tyName, dYes, dgCons, dgNil, retB, dBreak, dCont, ne_eq, not_false_eq_true, true_and, and_true, List.getElem?_cons_zero, List.getElem?_cons_succ, List.set_cons_zero, List.set_cons_succ, Option.map, List.length_cons, List.length_nil, dParM, dmNil, dmD, dmL, setM, dLc_eq, dLc2_eq, dFor_eq, dSortSet, dSort, dListOf, dIsN, dNotN, isNo, dAug, dMulA, dgUnl, dSlT, onT, dEnum, dZip, dZipM, dRetL, dPar3, dRevT, dLstRg, dTupRg, dRg1, dRg2, dChainLe, List.nil_append, List.cons_append, if_true, if_false, dFrz, dLcO, dMin2D, dAppX, dParL, dParLL, dRepL, fMax3, dNewDic, dDicPut, dDicGet, dSortDic, onDic, onKey, dLcW, dZipX, dParR, dDead, dSortD, dSortDT, fNeS, fEqS, dgSet, dDGet, onDict_eq, onKeyD_int, onKeyD_str, dDIn, dSortDK, onDict1_eq, dDictL, dDictEn, dDictZip, onSq1_eq, onSq2_eq, onSq_t, onSq_l, onSq_o, dNewD, dDicI, dNewDik, dDikPut, onDik, dFrzD, dNew4, dIndexD, onLst_eq, dIfL, dOrT, dAndT, onTru_int, onTru_bool, onTru_none, onTru_tuple, onTru_list, dTupZip, dZip3, dFgt, fIsB, fNotB, fInA_l, fInA_t, fNotInA_l, fNotInA_t, List.map_cons, List.map_nil, fw0, fw1, fw2, fw3, fw4, fw5, fw6, fw7, fw8, fw9, fw10, fw11, fw12, fw13, fw14, fw15, dExtend, dExtendT, dLstDn, dMaxDf, dOp_ap, dIx_ap, dCatT_ap, dRepT_ap, items_l, items_t, items_o, ti_t, dgT_t, seqs_l, seqs_t, seqs_o, dSeqI_eq, wk_l, wk_t, wk_eP, wk_o, dTupOf_eq, tu_t, tu_l, tu_o, tu_eP, dTupA_eq, ta_t, ta_l, ta_o, ta_eP, items_eW, items_eB, items_eSc, items_eLm, items_eP, items_eL, items_pr, items_enc2, items_eTm, ti_eB, ti_eW, ti_eLm, ti_eP, dgT_eSc, dgT_eLm, dgT_eL, dgT_pr, dgT_enc2, dgT_eW, dgT_eTm, seqs_eP, on0, on1, on2, on3, on4, on5, on6, on7, on8, List.length_cons, List.length_nil]
    refine u__law_first_enough (b := b.nr (b.near - k)) (ok.nr (by omega) (by omega)) (by decide) (by decide) fun z hz => ?_
    rcases hz with ⟨rfl, ne⟩ | ⟨t, rfl, _, _, t1, en, _⟩
    · try walk_at "K61Z5"
      exact c2 (by rw [if_neg ne]; rfl)
    · try simp only [dSeq, dAsg, dCB, dCons, dNil, dVar, onVs, vals, val, slot, setR, fGcd, dIfS, dTV, onV2, fLt, fLe, fGt, fGe, fAdd, fSub, fMul, fDiv, fMod, fI0, dC, dUn, onV, fNeg, dNext, dRet, dTup, onD, dats, fDivZ, fI, fPow, Few, retP, fAbs, fInt, fMax, fMin, fLen, fSqrt, fEq, fNe, dNot, dAnd, dOr, dAndV, dOrV, dNotV, dIfE, dDrop, dRetN, dPar, noO, dSetL, dLst, dOfL, dOwnM, onOwn, onDat, kAppend, kInsert, dSetItem, dAddItem, onItems, onInt, dNoPart, dPart, dSlice, onL, litems, dSlL, dCat, onM, mitems, dRng1, dRng2, dCallP, dCallB, dCallF, noSelf, onArgs, dats2, dIsi, tyName, dYes, dgCons, dgNil, retB, dBreak, dCont, ne_eq, not_false_eq_true, true_and, and_true, List.getElem?_cons_zero, List.getElem?_cons_succ, List.set_cons_zero, List.set_cons_succ, Option.map, List.length_cons, List.length_nil, dParM, dmNil, dmD, dmL, setM, dLc_eq, dLc2_eq, dFor_eq, dSortSet, dSort, dListOf, dIsN, dNotN, isNo, dAug, dMulA, dgUnl, dSlT, onT, dEnum, dZip, dZipM, dRetL, dPar3, dRevT, dLstRg, dTupRg, dRg1, dRg2, dChainLe, List.nil_append, List.cons_append, if_true, if_false, dFrz, dLcO, dMin2D, dAppX, dParL, dParLL, dRepL, fMax3, dNewDic, dDicPut, dDicGet, dSortDic, onDic, onKey, dLcW, dZipX, dParR, dDead, dSortD, dSortDT, fNeS, fEqS, dgSet, dDGet, onDict_eq, onKeyD_int, onKeyD_str, dDIn, dSortDK, onDict1_eq, dDictL, dDictEn, dDictZip, onSq1_eq, onSq2_eq, onSq_t, onSq_l, onSq_o, dNewD, dDicI, dNewDik, dDikPut, onDik, dFrzD, dNew4, dIndexD, onLst_eq, dIfL, dOrT, dAndT, onTru_int, onTru_bool, onTru_none, onTru_tuple, onTru_list, dTupZip, dZip3, dFgt, fIsB, fNotB, fInA_l, fInA_t, fNotInA_l, fNotInA_t, List.map_cons, List.map_nil, fw0, fw1, fw2, fw3, fw4, fw5, fw6, fw7, fw8, fw9, fw10, fw11, fw12, fw13, fw14, fw15, dExtend, dExtendT, dLstDn, dMaxDf, dOp_ap, dIx_ap, dCatT_ap, dRepT_ap, items_l, items_t, items_o, ti_t, dgT_t, seqs_l, seqs_t, seqs_o, dSeqI_eq, wk_l, wk_t, wk_eP, wk_o, dTupOf_eq, tu_t, tu_l, tu_o, tu_eP, dTupA_eq, ta_t, ta_l, ta_o, ta_eP, items_eW, items_eB, items_eSc, items_eLm, items_eP, items_eL, items_pr, items_enc2, items_eTm, ti_eB, ti_eW, ti_eLm, ti_eP, dgT_eSc, dgT_eLm, dgT_eL, dgT_pr, dgT_enc2, dgT_eW, dgT_eTm, seqs_eP, on0, on1, on2, on3, on4, on5, on6, on7, on8, Bool.not_false, if_true]
      exact ⟨hn, c1 _ (by rw [if_pos (enough_mono (b := b.nr (b.near - k)) (by omega) (by show 0 ≤ b.sp; omega) ok.way0 en t1)]; rfl)⟩
  rw [nears_encM]
  try walk_at "K61Z2"
  rw [hk]
  clear hk
  refine seqI fun kk hk => ?_
  try simp only [dSeq, dAsg, dCB, dCons, dNil, dVar, onVs, vals, val, slot, setR, fGcd, dIfS, dTV, onV2, fLt, fLe, fGt, fGe, fAdd, fSub, fMul, fDiv, fMod, fI0, dC, dUn, onV, fNeg, dNext, dRet, dTup, onD, dats, fDivZ, fI, fPow, Few, retP, fAbs, fInt, fMax, fMin, fLen, fSqrt, fEq, fNe, dNot, dAnd, dOr, dAndV, dOrV, dNotV, dIfE, dDrop, dRetN, dPar, noO, dSetL, dLst, dOfL, dOwnM, onOwn, onDat, kAppend, kInsert, dSetItem, dAddItem, onItems, onInt, dNoPart, dPart, dSlice, onL, litems, dSlL, dCat, onM, mitems, dRng1, dRng2, dCallP, dCallB, dCallF, noSelf, onArgs, dats2, dIsi, tyName, dYes, dgCons, dgNil, retB, dBreak, dCont, ne_eq, not_false_eq_true, true_and, and_true, List.getElem?_cons_zero, List.getElem?_cons_succ, List.set_cons_zero, List.set_cons_succ, Option.map, List.length_cons, List.length_nil, dParM, dmNil, dmD, dmL, setM, dLc_eq, dLc2_eq, dFor_eq, dSortSet, dSort, dListOf, dIsN, dNotN, isNo, dAug, dMulA, dgUnl, dSlT, onT, dEnum, dZip, dZipM, dRetL, dPar3, dRevT, dLstRg, dTupRg, dRg1, dRg2, dChainLe, List.nil_append, List.cons_append, if_true, if_false, dFrz, dLcO, dMin2D, dAppX, dParL, dParLL, dRepL, fMax3, dNewDic, dDicPut, dDicGet, dSortDic, onDic, onKey, dLcW, dZipX, dParR, dDead, dSortD, dSortDT, fNeS, fEqS, dgSet, dDGet, onDict_eq, onKeyD_int, onKeyD_str, dDIn, dSortDK, onDict1_eq, dDictL, dDictEn, dDictZip, onSq1_eq, onSq2_eq, onSq_t, onSq_l, onSq_o, dNewD, dDicI, dNewDik, dDikPut, onDik, dFrzD, dNew4, dIndexD, onLst_eq, dIfL, dOrT, dAndT, onTru_int, onTru_bool, onTru_none, onTru_tuple, onTru_list, dTupZip, dZip3, dFgt, fIsB, fNotB, fInA_l, fInA_t, fNotInA_l, fNotInA_t, List.map_cons, List.map_nil, fw0, fw1, fw2, fw3, fw4, fw5, fw6, fw7, fw8, fw9, fw10, fw11, fw12, fw13, fw14, fw15, dExtend, dExtendT, dLstDn, dMaxDf, dOp_ap, dIx_ap, dCatT_ap, dRepT_ap, items_l, items_t, items_o, ti_t, dgT_t, seqs_l, seqs_t, seqs_o, dSeqI_eq, wk_l, wk_t, wk_eP, wk_o, dTupOf_eq, tu_t, tu_l, tu_o, tu_eP, dTupA_eq, ta_t, ta_l, ta_o, ta_eP, items_eW, items_eB, items_eSc, items_eLm, items_eP, items_eL, items_pr, items_enc2, items_eTm, ti_eB, ti_eW, ti_eLm, ti_eP, dgT_eSc, dgT_eLm, dgT_eL, dgT_pr, dgT_enc2, dgT_eW, dgT_eTm, seqs_eP, on0, on1, on2, on3, on4, on5, on6, on7, on8, fNe]
  refine ⟨sh_intsL _, sh_nilL, ?_⟩
  rw [eqv_nilL, hcut, hcut5]
  have k1 : ∀ b2 : Bn, BnOk b2 → 4 ≤ b2.sp → b2.sp ≤ 20 → b2.sp = b.sp → b2.deep = b.deep → b2.deep ≤ 3 → enough b2 9990 → ∀ e1 e2 : Option Ent, kk [some (.own bag1), some (.d (.int mp)), some (.d (.int ms)), some (.d (eB b2)), some (.d (.int b.sp)), some (.d (.int b.deep)), e1, none, none, none, none, none, none, none, none, none, none] := by
    clear hcut hcut5
    intro b2 ok2 sp4 sp20 es ed d3 en e1 e2
    rw [hk]
    clear hk
    refine seqI fun kk hk => ?_
    try walk_at "K61Z0"
    refine u__law_first_enough (b := b2) ok2 (by decide) (by decide) fun z hz => ?_
    rcases hz with ⟨_, ne⟩ | ⟨lt, rfl, t1, t2, t3, te, _⟩
    · exact absurd en ne
    try walk_at "K61Z0"
    have bd : Bd 4 (b.deep + 1) := bd_of 10 (by have := ok2.deep0; omega) (by omega)
    have bs : Bd 5 b.sp := bd_of 20 (by omega) (by omega)
    rw [hk]
    clear hk
    refine seqI fun kk hk => ?_
    try walk_at "K61Z0"
    refine ⟨cmb bd bs, u_take hb1 (by omega) (by omega) (by omega) fun v1 bag2 v10 v11 hb2 => ?_⟩
    try walk_at "K61Z0"
    refine u_take hb2 (by omega) (by omega) (by omega) fun v2 bag3 v20 v21 hb3 => ?_
    try walk_at "K61Z0"
    have dq : 0 ≤ (b.deep + 1) * b.sp ∧ (b.deep + 1) * b.sp ≤ 4 * 20 := ⟨Int.mul_nonneg (by have := ok2.deep0; omega) (by omega), Int.mul_le_mul (by omega) (by omega) (by omega) (by decide)⟩
    generalize hhi : (b.deep + 1) * b.sp + v1 = hi at *
    generalize hwd : b.sp + v2 = wd at *
    have bw : Bd 5 wd := bd_of 22 (by omega) (by omega)
    rw [hk]
    clear hk
    refine seqI fun kk hk => ?_
    try walk_at "K61Z0"
    refine u_take hb3 (by omega) (by omega) (by omega) fun v3 bag4 v30 v31 hb4 => ?_
    try walk_at "K61Z0"
    refine ⟨⟨by omega, by omega⟩, ?_⟩
    refine for_rng (S := List PyData × List P2 × Option Ent) 0 _ (fun s => [some (.own s.1), some (.d (.int mp)), some (.d (.int ms)), some (.d (eB b2)), some (.d (.int b.sp)), some (.d (.int b.deep)), e1, none, some (.d (.int lt)), some (.d (.int hi)), some (.d (.int wd)), some (.own (s.2.1.map enc2)), some (.own []), s.2.2, none, none, none]) (fun i s => Bag (m + 30 + i) s.1 ∧ PadsI b.sp wd hi i s.2.1) (bag4, [], none) rfl ⟨hb4.up (by omega), .nil⟩ (fun i s hi' hI C hC => ?_) fun s hs => ?_
    · obtain ⟨bg, ps, s1⟩ := s
      obtain ⟨hb5, hp⟩ := hI
      dsimp only at hb5 hp
      have il : i < 8 := by omega
      have bi : Bd 4 (i : Int) := bd_of 10 (by omega) (by omega)
      try simp only [dSeq, dAsg, dCB, dCons, dNil, dVar, onVs, vals, val, slot, setR, fGcd, dIfS, dTV, onV2, fLt, fLe, fGt, fGe, fAdd, fSub, fMul, fDiv, fMod, fI0, dC, dUn, onV, fNeg, dNext, dRet, dTup, onD, dats, fDivZ, fI, fPow, Few, retP, fAbs, fInt, fMax, fMin, fLen, fSqrt, fEq, fNe, dNot, dAnd, dOr, dAndV, dOrV, dNotV, dIfE, dDrop, dRetN, dPar, noO, dSetL, dLst, dOfL, dOwnM, onOwn, onDat, kAppend, kInsert, dSetItem, dAddItem, onItems, onInt, dNoPart, dPart, dSlice, onL, litems, dSlL, dCat, onM, mitems, dRng1, dRng2, dCallP, dCallB, dCallF, noSelf, onArgs, dats2, dIsi, tyName, dYes, dgCons, dgNil, retB, dBreak, dCont, ne_eq, not_false_eq_true, true_and, and_true, List.getElem?_cons_zero, List.getElem?_cons_succ, List.set_cons_zero, List.set_cons_succ, Option.map, List.length_cons, List.length_nil, dParM, dmNil, dmD, dmL, setM, dLc_eq, dLc2_eq, dFor_eq, dSortSet, dSort, dListOf, dIsN, dNotN, isNo, dAug, dMulA, dgUnl, dSlT, onT, dEnum, dZip, dZipM, dRetL, dPar3, dRevT, dLstRg, dTupRg, dRg1, dRg2, dChainLe, List.nil_append, List.cons_append, if_true, if_false, dFrz, dLcO, dMin2D, dAppX, dParL, dParLL, dRepL, fMax3, dNewDic, dDicPut, dDicGet, dSortDic, onDic, onKey, dLcW, dZipX, dParR, dDead, dSortD, dSortDT, fNeS, fEqS, dgSet, dDGet, onDict_eq, onKeyD_int, onKeyD_str, dDIn, dSortDK, onDict1_eq, dDictL, dDictEn, dDictZip, onSq1_eq, onSq2_eq, onSq_t, onSq_l, onSq_o, dNewD, dDicI, dNewDik, dDikPut, onDik, dFrzD, dNew4, dIndexD, onLst_eq, dIfL, dOrT, dAndT, onTru_int, onTru_bool, onTru_none, onTru_tuple, onTru_list, dTupZip, dZip3, dFgt, fIsB, fNotB, fInA_l, fInA_t, fNotInA_l, fNotInA_t, List.map_cons, List.map_nil, fw0, fw1, fw2, fw3, fw4, fw5, fw6, fw7, fw8, fw9, fw10, fw11, fw12, fw13, fw14, fw15, dExtend, dExtendT, dLstDn, dMaxDf, dOp_ap, dIx_ap, dCatT_ap, dRepT_ap, items_l, items_t, items_o, ti_t, dgT_t, seqs_l, seqs_t, seqs_o, dSeqI_eq, wk_l, wk_t, wk_eP, wk_o, dTupOf_eq, tu_t, tu_l, tu_o, tu_eP, dTupA_eq, ta_t, ta_l, ta_o, ta_eP, items_eW, items_eB, items_eSc, items_eLm, items_eP, items_eL, items_pr, items_enc2, items_eTm, ti_eB, ti_eW, ti_eLm, ti_eP, dgT_eSc, dgT_eLm, dgT_eL, dgT_pr, dgT_enc2, dgT_eW, dgT_eTm, seqs_eP, on0, on1, on2, on3, on4, on5, on6, on7, on8, Int.zero_add]
      refine ⟨cmb bi bw, u_take hb5 (by omega) (by omega) (by omega) fun v4 bag5 v40 v41 hb6 => ?_⟩
      try simp only [dSeq, dAsg, dCB, dCons, dNil, dVar, onVs, vals, val, slot, setR, fGcd, dIfS, dTV, onV2, fLt, fLe, fGt, fGe, fAdd, fSub, fMul, fDiv, fMod, fI0, dC, dUn, onV, fNeg, dNext, dRet, dTup, onD, dats, fDivZ, fI, fPow, Few, retP, fAbs, fInt, fMax, fMin, fLen, fSqrt, fEq, fNe, dNot, dAnd, dOr, dAndV, dOrV, dNotV, dIfE, dDrop, dRetN, dPar, noO, dSetL, dLst, dOfL, dOwnM, onOwn, onDat, kAppend, kInsert, dSetItem, dAddItem, onItems, onInt, dNoPart, dPart, dSlice, onL, litems, dSlL, dCat, onM, mitems, dRng1, dRng2, dCallP, dCallB, dCallF, noSelf, onArgs, dats2, dIsi, tyName, dYes, dgCons, dgNil, retB, dBreak, dCont, ne_eq, not_false_eq_true, true_and, and_true, List.getElem?_cons_zero, List.getElem?_cons_succ, List.set_cons_zero, List.set_cons_succ, Option.map, List.length_cons, List.length_nil, dParM, dmNil, dmD, dmL, setM, dLc_eq, dLc2_eq, dFor_eq, dSortSet, dSort, dListOf, dIsN, dNotN, isNo, dAug, dMulA, dgUnl, dSlT, onT, dEnum, dZip, dZipM, dRetL, dPar3, dRevT, dLstRg, dTupRg, dRg1, dRg2, dChainLe, List.nil_append, List.cons_append, if_true, if_false, dFrz, dLcO, dMin2D, dAppX, dParL, dParLL, dRepL, fMax3, dNewDic, dDicPut, dDicGet, dSortDic, onDic, onKey, dLcW, dZipX, dParR, dDead, dSortD, dSortDT, fNeS, fEqS, dgSet, dDGet, onDict_eq, onKeyD_int, onKeyD_str, dDIn, dSortDK, onDict1_eq, dDictL, dDictEn, dDictZip, onSq1_eq, onSq2_eq, onSq_t, onSq_l, onSq_o, dNewD, dDicI, dNewDik, dDikPut, onDik, dFrzD, dNew4, dIndexD, onLst_eq, dIfL, dOrT, dAndT, onTru_int, onTru_bool, onTru_none, onTru_tuple, onTru_list, dTupZip, dZip3, dFgt, fIsB, fNotB, fInA_l, fInA_t, fNotInA_l, fNotInA_t, List.map_cons, List.map_nil, fw0, fw1, fw2, fw3, fw4, fw5, fw6, fw7, fw8, fw9, fw10, fw11, fw12, fw13, fw14, fw15, dExtend, dExtendT, dLstDn, dMaxDf, dOp_ap, dIx_ap, dCatT_ap, dRepT_ap, items_l, items_t, items_o, ti_t, dgT_t, seqs_l, seqs_t, seqs_o, dSeqI_eq, wk_l, wk_t, wk_eP, wk_o, dTupOf_eq, tu_t, tu_l, tu_o, tu_eP, dTupA_eq, ta_t, ta_l, ta_o, ta_eP, items_eW, items_eB, items_eSc, items_eLm, items_eP, items_eL, items_pr, items_enc2, items_eTm, ti_eB, ti_eW, ti_eLm, ti_eP, dgT_eSc, dgT_eLm, dgT_eL, dgT_pr, dgT_enc2, dgT_eW, dgT_eTm, seqs_eP, on0, on1, on2, on3, on4, on5, on6, on7, on8, List.length_map]
      have b4 : Bd 1 v4 := bd_of 1 (by omega) (by omega)
      refine ⟨cmb bs b4, few_le (by have := hp.len; omega), ?_⟩
      have q4 : 0 ≤ b.sp * v4 ∧ b.sp * v4 ≤ b.sp := by
        have : v4 = 0 ∨ v4 = 1 := by omega
        rcases this with rfl | rfl
        · rw [Int.mul_zero]; omega
        · rw [Int.mul_one]; omega
      have := hC (bag5, ps ++ [((i : Int) * wd, hi + b.sp * v4)], some (.d (.int i))) ⟨hb6.up (by omega), hp.snoc (by omega) (by omega)⟩
      rw [List.map_append] at this
      exact this
    · obtain ⟨bg, ps, s1⟩ := s
      obtain ⟨hb5, hp⟩ := hs
      dsimp only at hb5 hp
      show kk _
      rw [hk]
      clear hk
      refine seqI fun kk hk => ?_
      try walk_at "K61Z0"
      refine u_take hb5 (by omega) (by omega) (by omega) fun v5 bag6 v50 v51 hb6 => ?_
      try walk_at "K61Z0"
      refine ⟨⟨by omega, by omega⟩, ?_⟩
      have nd := ok2.need0
      have lps : ps.length ≤ 8 ∧ 1 ≤ ps.length := by have := hp.len; omega
      have pin := hp.inb (by have := hp.len; omega) (by omega) (by omega) (by omega) (by omega) (by omega) (by omega)
      have psp := hp.spaced (by omega) (by omega)
      have pup := hp.up (by omega)
      refine for_rng (S := List PyData × List Scn × Option Ent × Option Ent × Option Ent) 0 _ (fun s => [some (.own s.1), some (.d (.int mp)), some (.d (.int ms)), some (.d (eB b2)), some (.d (.int b.sp)), some (.d (.int b.deep)), e1, none, some (.d (.int lt)), some (.d (.int hi)), some (.d (.int wd)), some (.own (ps.map enc2)), some (.own (s.2.1.map eSc)), s1, s.2.2.1, s.2.2.2.1, s.2.2.2.2]) (fun i s => Bag (m + 60 + 120 * i) s.1 ∧ s.2.1.length = i ∧ ∀ a ∈ s.2.1, (lt ≤ a.tk ∧ a.tk ≤ lt + 7) ∧ (b2.need ≤ a.hd ∧ a.hd ≤ b2.need + 3) ∧ PicL a.ls ∧ a.ls.length ≤ 8 ∧ (∀ l ∈ a.ls, LmB l) ∧ ∃ rs, LeastR (lxs a.ls) b2.sp rs ∧ rs.length = a.ls.length ∧ ∀ r ∈ rs, 0 ≤ r ∧ r < b2.deep) (bag6, [], none, none, none) rfl ⟨hb6.up (by omega), rfl, fun a ha => nomatch ha⟩ (fun i s hi' hI C hC => ?_) fun s hs => ?_
      · obtain ⟨bg, sc, x1, x2, x3⟩ := s
        obtain ⟨hb7, ls, hsc⟩ := hI
        dsimp only at hb7 ls hsc
        have il : i < 4 := by omega
        simp only [setR, List.set_cons_succ, List.set_cons_zero]
        refine seqI fun kk3 hk3 => ?_
        try walk_at "K61Z0"
        refine u__law_needed (b := b2) ok2.bd (by decide) (bd_of 3 (by have := ok2.sil0; omega) ok2.sil1 (k := 2) |>.up (by decide)) ?_
        try walk_at "K61Z0"
        refine u_some hb7 (by omega) (by decide) (by decide) fun y hy bag7 hb8 => ?_
        obtain ⟨mh, rfl, mh0, mh1⟩ := of_all (lo := 0) (hi := 3) (by decide) y hy
        clear hy
        try walk_at "K61Z0"
        rw [hk3]
        clear hk3
        refine seqI fun kk3 hk3 => ?_
        try walk_at "K61Z0"
        refine u_some hb8 (by omega) (by decide) (by decide) fun y hy bag8 hb9 => ?_
        obtain ⟨mo, rfl, mo0, mo1⟩ := of_all (lo := 2) (hi := 6) (by decide) y hy
        clear hy
        try walk_at "K61Z0"
        refine u__law_picture hb9 (by omega) (by omega) (by omega) (by have := ok2.deep0; omega) (by omega) (by omega) (by omega) fun z bag9 hz hb10 => ?_
        obtain ⟨pls, rs, rfl, hpl, hln, hlm, lst, lrs, rgs⟩ := hz
        try walk_at "K61Z0"
        rw [hk3]
        clear hk3
        try walk_at "K61Z0"
        refine u_some hb10 (by omega) (by decide) (by decide) fun y hy bag10 hb11 => ?_
        obtain ⟨mt, rfl, mt0, mt1⟩ := of_all (lo := 0) (hi := 7) (by decide) y hy
        clear hy
        try simp only [dSeq, dAsg, dCB, dCons, dNil, dVar, onVs, vals, val, slot, setR, fGcd, dIfS, dTV, onV2, fLt, fLe, fGt, fGe, fAdd, fSub, fMul, fDiv, fMod, fI0, dC, dUn, onV, fNeg, dNext, dRet, dTup, onD, dats, fDivZ, fI, fPow, Few, retP, fAbs, fInt, fMax, fMin, fLen, fSqrt, fEq, fNe, dNot, dAnd, dOr, dAndV, dOrV, dNotV, dIfE, dDrop, dRetN, dPar, noO, dSetL, dLst, dOfL, dOwnM, onOwn, onDat, kAppend, kInsert, dSetItem, dAddItem, onItems, onInt, dNoPart, dPart, dSlice, onL, litems, dSlL, dCat, onM, mitems, dRng1, dRng2, dCallP, dCallB, dCallF, noSelf, onArgs, dats2, dIsi, tyName, dYes, dgCons, dgNil, retB, dBreak, dCont, ne_eq, not_false_eq_true, true_and, and_true, List.getElem?_cons_zero, List.getElem?_cons_succ, List.set_cons_zero, List.set_cons_succ, Option.map, List.length_cons, List.length_nil, dParM, dmNil, dmD, dmL, setM, dLc_eq, dLc2_eq, dFor_eq, dSortSet, dSort, dListOf, dIsN, dNotN, isNo, dAug, dMulA, dgUnl, dSlT, onT, dEnum, dZip, dZipM, dRetL, dPar3, dRevT, dLstRg, dTupRg, dRg1, dRg2, dChainLe, List.nil_append, List.cons_append, if_true, if_false, dFrz, dLcO, dMin2D, dAppX, dParL, dParLL, dRepL, fMax3, dNewDic, dDicPut, dDicGet, dSortDic, onDic, onKey, dLcW, dZipX, dParR, dDead, dSortD, dSortDT, fNeS, fEqS, dgSet, dDGet, onDict_eq, onKeyD_int, onKeyD_str, dDIn, dSortDK, onDict1_eq, dDictL, dDictEn, dDictZip, onSq1_eq, onSq2_eq, onSq_t, onSq_l, onSq_o, dNewD, dDicI, dNewDik, dDikPut, onDik, dFrzD, dNew4, dIndexD, onLst_eq, dIfL, dOrT, dAndT, onTru_int, onTru_bool, onTru_none, onTru_tuple, onTru_list, dTupZip, dZip3, dFgt, fIsB, fNotB, fInA_l, fInA_t, fNotInA_l, fNotInA_t, List.map_cons, List.map_nil, fw0, fw1, fw2, fw3, fw4, fw5, fw6, fw7, fw8, fw9, fw10, fw11, fw12, fw13, fw14, fw15, dExtend, dExtendT, dLstDn, dMaxDf, dOp_ap, dIx_ap, dCatT_ap, dRepT_ap, items_l, items_t, items_o, ti_t, dgT_t, seqs_l, seqs_t, seqs_o, dSeqI_eq, wk_l, wk_t, wk_eP, wk_o, dTupOf_eq, tu_t, tu_l, tu_o, tu_eP, dTupA_eq, ta_t, ta_l, ta_o, ta_eP, items_eW, items_eB, items_eSc, items_eLm, items_eP, items_eL, items_pr, items_enc2, items_eTm, ti_eB, ti_eW, ti_eLm, ti_eP, dgT_eSc, dgT_eLm, dgT_eL, dgT_pr, dgT_enc2, dgT_eW, dgT_eTm, seqs_eP, on0, on1, on2, on3, on4, on5, on6, on7, on8, List.length_map]
        refine ⟨few_le (by omega), ?_⟩
        have := hC (bag10, sc ++ [⟨lt + mt, b2.need + mh, pls⟩], some (.d (.int (0 + (i : Int)))), some (.d (.int (b2.need + mh))), some (.d (eP pls))) ⟨hb11.up (by omega), by rw [List.length_append, ls]; rfl, fun a ha => ?_⟩
        · rw [List.map_append] at this
          exact this
        · rcases List.mem_append.mp ha with ha | ha
          · exact hsc a ha
          · rw [List.mem_singleton.mp ha]
            exact ⟨⟨by dsimp only; omega, by dsimp only; omega⟩, ⟨by dsimp only; omega, by dsimp only; omega⟩, hpl, by dsimp only; omega, fun l hl => (hlm l hl).1, rs, by rw [es]; exact lst, lrs, by rw [ed]; exact rgs⟩
      · obtain ⟨bg, sc, x1, x2, x3⟩ := s
        obtain ⟨hb7, ls, hsc⟩ := hs
        dsimp only at hb7 ls hsc
        have ll : sc.length ≤ 4 ∧ 1 ≤ sc.length ∧ sc.length ≤ ms.toNat := by omega
        show kk _
        rw [hk]
        clear hk
        try walk_at "K61Z0"
        refine u_some hb7 (by omega) (by decide) (by decide) fun y hy bag7 hb8 => ?_
        obtain ⟨mr, rfl, mr0, mr1⟩ := of_all (lo := 0) (hi := 5) (by decide) y hy
        clear hy
        try walk_at "K61Z0"
        refine ⟨⟨by decide, by decide⟩, u__law_show_of (c := false) (b := b2) (ps := ps) (sc := sc) hb8 (by omega) (by omega) (fun a ha => ?_) mr0 (by omega) fun z bag8 hz hb9 => ?_⟩
        · obtain ⟨⟨_, _⟩, ⟨_, _⟩, _⟩ := hsc a ha
          exact ⟨by omega, by omega, by omega, by omega⟩
        obtain ⟨w, rfl, rfl, rfl, rfl, f0, f1, o0, o1, y0, y1, ef⟩ := hz
        try walk_at "K61Z0"
        refine hQ _ _ ⟨w, rfl, ⟨ok2, lps.1, fun p hp => (pin p hp).1, ll.1, fun a ha => ?_, fun a ha => ?_, fun a ha => ?_, f0, f1, o0, o1, y0, y1⟩, ⟨sp4, fun a ha => ?_, fun a ha => (hsc a ha).2.1.1, lps.2, ll.2.1, by rw [es]; exact psp, fun p hp => ?_, pup, fun a ha => (hsc a ha).2.2.2.2.2, by omega⟩, by have := hp.len; omega, ll.2.2⟩ (hb9.up (by omega))
        · obtain ⟨⟨_, _⟩, _⟩ := hsc a ha
          exact ⟨by omega, by omega, by omega⟩
        · obtain ⟨_, ⟨_, _⟩, _⟩ := hsc a ha
          exact ⟨by omega, by omega⟩
        · obtain ⟨_, _, q1, q2, q3, _⟩ := hsc a ha
          exact ⟨q1, q2, q3⟩
        · exact enough_mono t1 (by omega) ok2.way0 te (hsc a ha).1.1
        · rw [es, ed]
          have := (pin p hp).2
          omega
  by_cases hne : nearsM b b.near.toNat = []
  · rw [hne, decide_eq_true rfl]
    simp only [Bool.not_true, Bool.false_eq_true, if_false, List.length_cons, List.length_nil]
    exact ⟨few_le (by decide), k1 b.plain ok.pl sp4 sp20 rfl rfl d3 (plain_enoughM sp4) _ none⟩
  · rw [decide_eq_false hne]
    simp only [Bool.not_false, if_true, List.length_cons, List.length_nil]
    cases hc : nearsM b b.near.toNat with
    | nil => exact absurd hc hne
    | cons c cs =>
      obtain ⟨k, kl, ec, en⟩ := mem_nearsM (b := b) (n := b.near.toNat) (c := c) (by rw [hc]; exact List.mem_cons_self ..)
      rw [List.map_cons, on0]
      exact ⟨few_le (by decide), k1 (b.nr c) (ok.nr (by omega) (by omega)) sp4 sp20 rfl rfl d3 en _ none⟩
set_option maxHeartbeats 4000000 in
theorem ok__law_fall {f : Addr} {fd : FuncData} (W : Fun K "_law_fall" "_law_fall" s__law_fall f fd) (T : Bi mg)
    {f__law_added : Addr} {fd__law_added : FuncData} (G__law_added : FnG P w K mg base CX0 2 f__law_added fd__law_added ["_law_x", "_law_y"] (spP K TT [.d, .d] S__law_added)) (g__law_added : mg "_law_added" = some (.ref f__law_added)) (k__law_added : PySem.W.keepIn K (.ref f__law_added) = true) (b__law_added : Binds K fd__law_added ["_law_x", "_law_y"] [])
    {f__law_is_below : Addr} {fd__law_is_below : FuncData} (G__law_is_below : FnG P w K mg base CX0 1 f__law_is_below fd__law_is_below ["_law_x", "_law_y"] (spP K TT [.d, .d] S__law_is_below)) (g__law_is_below : mg "_law_is_below" = some (.ref f__law_is_below)) (k__law_is_below : PySem.W.keepIn K (.ref f__law_is_below) = true) (b__law_is_below : Binds K fd__law_is_below ["_law_x", "_law_y"] [])
    {f__law_lag : Addr} {fd__law_lag : FuncData} (G__law_lag : FnG P w K mg base CX0 1 f__law_lag fd__law_lag ["_law_bounds"] (spP K TT [.d] S__law_lag)) (g__law_lag : mg "_law_lag" = some (.ref f__law_lag)) (k__law_lag : PySem.W.keepIn K (.ref f__law_lag) = true) (b__law_lag : Binds K fd__law_lag ["_law_bounds"] [])
    {f__law_times : Addr} {fd__law_times : FuncData} (G__law_times : FnG P w K mg base CX0 3 f__law_times fd__law_times ["_law_show_here"] (spP K TT [.d] S__law_times)) (g__law_times : mg "_law_times" = some (.ref f__law_times)) (k__law_times : PySem.W.keepIn K (.ref f__law_times) = true) (b__law_times : Binds K fd__law_times ["_law_show_here"] []) :
    FnG P w K mg base CX0 4 f fd ["_law_show_here", "_law_night_here", "_law_carrier"] (spP K TT [.d, .d, .d] S__law_fall) := by
  refine fnP W sc__law_fall rfl fun cdv A out s H E Nn hr hgd => ⟨_, _, (dss_cons (ds_setL (i := 3) sc__law_fall.nd (pl_ifExp (pt_din (units1 hr.units) (pdv 2) (pd_ix (pdv 1) pd_int (fun _ _ => rfl))) (pl_lst (pda_cons (pd_dget (units1 hr.units) (pd_ix (pdv 1) pd_int (fun _ _ => rfl)) (pdv 2) (fun _ _ => rfl)) pda_nil)) (pl_lst pda_nil)) fixP)
      (dss_cons (ds_if (pt_din (units1 hr.units) (pdv 2) (pd_ix (pdv 1) pd_int (fun _ _ => rfl))) (dss_cons (ds_set (i := 4) sc__law_fall.nd (pd_dget (units1 hr.units) (pd_ix (pdv 1) pd_int (fun _ _ => rfl)) (pdv 2) (fun _ _ => rfl)) fixP)
      (dss_one (ds_expr (pd_append (i := 3) (pda_cons (pd_callP G__law_added m__law_added (hr.mono (by decide)) hgd rfl g__law_added k__law_added b__law_added (pda_cons (pd_tup (pda_cons (pd_sub (pd_ix (pd_ix (pd_callP G__law_times m__law_times (hr.mono (by decide)) hgd rfl g__law_times k__law_times b__law_times (pda_cons (pdv 0) pda_nil)) (pdv 4) (fun _ _ => rfl)) pd_int (fun _ _ => rfl)) (pd_callP G__law_lag m__law_lag (hr.mono (by decide)) hgd rfl g__law_lag k__law_lag b__law_lag (pda_cons (pd_ix (pdv 0) pd_int (fun _ _ => rfl)) pda_nil))) (pda_cons pd_int pda_nil))) (pda_cons (pd_ix (pd_dget (units1 hr.units) (pd_ix (pdv 1) pd_int (fun _ _ => rfl)) (pdv 2) (fun _ _ => rfl)) (pdv 4) (fun _ _ => rfl)) pda_nil))) pda_nil))))) dss_nil)
      (dss_cons (ds_set (i := 5) sc__law_fall.nd (pd_ifExp (pt_ne hr.units rfl (pdv 3) (pd_l (pl_lst pda_nil))) (pd_ix (pdv 3) pd_int (fun _ _ => rfl)) pd_non) fixP)
      (dss_one (ds_ret (pd_ifExp (pt_w (pwd_and (pt_gt (pd_callB call_len_seq sc_len rfl T.b_len (by decide +kernel) (pda_cons (pdv 3) pda_nil)) pd_int) (pwd_and1 (pt_v (pd_callP G__law_is_below m__law_is_below (hr.mono (by decide)) hgd rfl g__law_is_below k__law_is_below b__law_is_below (pda_cons (pd_ix (pdv 3) pd_int (fun _ _ => rfl)) (pda_cons (pd_ix (pdv 3) pd_int (fun _ _ => rfl)) pda_nil))))))) (pd_ix (pdv 3) pd_int (fun _ _ => rfl)) (pdv 5))))))), ?_⟩
  clear W T hr hgd G__law_added g__law_added k__law_added b__law_added f__law_added fd__law_added G__law_is_below g__law_is_below k__law_is_below b__law_is_below f__law_is_below fd__law_is_below G__law_lag g__law_lag k__law_lag b__law_lag f__law_lag fd__law_lag G__law_times g__law_times k__law_times b__law_times f__law_times fd__law_times
  rintro xs Q hl ⟨⟨w, N, c⟩, rfl, ⟨h0, h1, h2⟩, hQ⟩
  clear hl
  replace hQ : Q (oR (fallQ w N c)) := hQ
  have e : rhoP nm__law_fall.length [.d, .d, .d] [eW w, eN N, .int (c : Int)] = [some (.d (eW w)), some (.d (eN N)), some (.d (.int (c : Int))), none, none, none] := rfl
  rw [e]
  clear e
  have ns := h0.ns
  have lg := h0.ok.lag0
  have tmb : ∀ k, k ≤ w.sc.length → 0 ≤ (tmS w.b.need w.sc k).1 ∧ (tmS w.b.need w.sc k).1 ≤ 100000 ∧ 0 ≤ (tmS w.b.need w.sc k).2 ∧ (tmS w.b.need w.sc k).2 ≤ 100000 := fun k hk => by
    have nd := h0.ok.need0
    have s0 := h0.ok.sil0; have s1 := h0.ok.sil1; have u0 := h0.ok.cuts0; have u1 := h0.ok.cuts1; have c1 := h0.ok.clk1; have f1 := h0.ok.fall1; have c0 := h0.ok.clk0; have f0 := h0.ok.fall0
    have := tmS_in (n := w.b.need) (sc := w.sc) (by omega) (fun s hs => ⟨⟨by have := h0.tk s hs; omega, (h0.tk s hs).2.2⟩, h0.hd s hs⟩) hk
    omega
  refine seqI fun kk hk => ?_
  try simp only [dSeq, dAsg, dCB, dCons, dNil, dVar, onVs, vals, val, slot, setR, fGcd, dIfS, dTV, onV2, fLt, fLe, fGt, fGe, fAdd, fSub, fMul, fDiv, fMod, fI0, dC, dUn, onV, fNeg, dNext, dRet, dTup, onD, dats, fDivZ, fI, fPow, Few, retP, fAbs, fInt, fMax, fMin, fLen, fSqrt, fEq, fNe, dNot, dAnd, dOr, dAndV, dOrV, dNotV, dIfE, dDrop, dRetN, dPar, noO, dSetL, dLst, dOfL, dOwnM, onOwn, onDat, kAppend, kInsert, dSetItem, dAddItem, onItems, onInt, dNoPart, dPart, dSlice, onL, litems, dSlL, dCat, onM, mitems, dRng1, dRng2, dCallP, dCallB, dCallF, noSelf, onArgs, dats2, dIsi, tyName, dYes, dgCons, dgNil, retB, dBreak, dCont, ne_eq, not_false_eq_true, true_and, and_true, List.getElem?_cons_zero, List.getElem?_cons_succ, List.set_cons_zero, List.set_cons_succ, Option.map, List.length_cons, List.length_nil, dParM, dmNil, dmD, dmL, setM, dLc_eq, dLc2_eq, dFor_eq, dSortSet, dSort, dListOf, dIsN, dNotN, isNo, dAug, dMulA, dgUnl, dSlT, onT, dEnum, dZip, dZipM, dRetL, dPar3, dRevT, dLstRg, dTupRg, dRg1, dRg2, dChainLe, List.nil_append, List.cons_append, if_true, if_false, dFrz, dLcO, dMin2D, dAppX, dParL, dParLL, dRepL, fMax3, dNewDic, dDicPut, dDicGet, dSortDic, onDic, onKey, dLcW, dZipX, dParR, dDead, dSortD, dSortDT, fNeS, fEqS, dgSet, dDGet, onDict_eq, onKeyD_int, onKeyD_str, dDIn, dSortDK, onDict1_eq, dDictL, dDictEn, dDictZip, onSq1_eq, onSq2_eq, onSq_t, onSq_l, onSq_o, dNewD, dDicI, dNewDik, dDikPut, onDik, dFrzD, dNew4, dIndexD, onLst_eq, dIfL, dOrT, dAndT, onTru_int, onTru_bool, onTru_none, onTru_tuple, onTru_list, dTupZip, dZip3, dFgt, fIsB, fNotB, fInA_l, fInA_t, fNotInA_l, fNotInA_t, List.map_cons, List.map_nil, fw0, fw1, fw2, fw3, fw4, fw5, fw6, fw7, fw8, fw9, fw10, fw11, fw12, fw13, fw14, fw15, dExtend, dExtendT, dLstDn, dMaxDf, dOp_ap, dIx_ap, dCatT_ap, dRepT_ap, items_l, items_t, items_o, ti_t, dgT_t, seqs_l, seqs_t, seqs_o, dSeqI_eq, wk_l, wk_t, wk_eP, wk_o, dTupOf_eq, tu_t, tu_l, tu_o, tu_eP, dTupA_eq, ta_t, ta_l, ta_o, ta_eP, items_eW, items_eB, items_eSc, items_eLm, items_eP, items_eL, items_pr, items_enc2, items_eTm, ti_eB, ti_eW, ti_eLm, ti_eP, dgT_eSc, dgT_eLm, dgT_eL, dgT_pr, dgT_enc2, dgT_eW, dgT_eTm, seqs_eP, on0, on1, on2, on3, on4, on5, on6, on7, on8, eN, on3]
  rw [findD_keyAt]
  unfold fallQ at hQ
  generalize e1 : keyAt N.fk N.fq (c : Int) = o1 at hQ ⊢
  have s1 : ∀ q, o1 = some q → Sz 60 q := fun q e => h1.fz q (keyAt_mem (e1.trans e)).2
  have k2 : kk [some (Ent.d (eW w)), some (Ent.d (PyData.tuple [PyData.dict (dI N.fk (List.map fr N.fq)), PyData.dict (dI (upI N.er.length) (List.map eEr N.er)), PyData.dict (dI (upI N.wi.length) (List.map eWs N.wi)), PyData.dict (dI N.lk (List.map eI N.lv))])), some (Ent.d (PyData.int (c : Int))), some (Ent.own (o1.toList.map fr)), none, none] := by
    rw [hk]
    clear hk
    refine seqI fun kk hk => ?_
    try walk_at "K61Z4"
    rw [findD_keyAt]
    unfold lostQ at hQ
    generalize e2 : keyAt N.lk N.lv (c : Int) = o2 at hQ ⊢
    have k3 : ∀ (o3 : Option Rat) (s4 : Option Ent), (∀ q, o3 = some q → Sz 60 q) → Q (oR (minQ o1 o3)) → kk [some (Ent.d (eW w)), some (Ent.d (PyData.tuple [PyData.dict (dI N.fk (List.map fr N.fq)), PyData.dict (dI (upI N.er.length) (List.map eEr N.er)), PyData.dict (dI (upI N.wi.length) (List.map eWs N.wi)), PyData.dict (dI N.lk (List.map eI N.lv))])), some (Ent.d (PyData.int (c : Int))), some (Ent.own (o1.toList.map fr ++ o3.toList.map fr)), s4, none] := fun o3 s4 s3 hQ => by
      rw [hk]
      clear hk
      refine seqI fun kk hk => ?_
      try walk_at "K61Z0"
      have nils : SeqAt.shaped (PyData.list []) = true := (Shp.list (k := 0) (xs := []) (fun x hx => nomatch hx)).shaped
      have fin : ∀ (L : List Rat) (s5 : PyData), (∀ a b, L = [a, b] → Sz 60 a ∧ Sz 60 b) → L.length ≤ 2 → Q (match L with | [a, b] => if b < a then fr b else s5 | _ => s5) → kk [some (Ent.d (eW w)), some (Ent.d (PyData.tuple [PyData.dict (dI N.fk (List.map fr N.fq)), PyData.dict (dI (upI N.er.length) (List.map eEr N.er)), PyData.dict (dI (upI N.wi.length) (List.map eWs N.wi)), PyData.dict (dI N.lk (List.map eI N.lv))])), some (Ent.d (PyData.int (c : Int))), some (Ent.own (L.map fr)), s4, some (Ent.d s5)] := fun L s5 sL lL hQ => by
        rw [hk]
        clear hk
        try walk_at "K61Z0"
        simp only [Bool.false_eq_true, if_false]
        rcases L with _ | ⟨a, _ | ⟨b, _ | ⟨d, L⟩⟩⟩
        · exact ite_f (by simp) hQ
        · exact ite_f (by simp) hQ
        · obtain ⟨sa, sb⟩ := sL a b rfl
          refine ite_t (by simp) ?_
          simp only [List.map_cons, List.map_nil, on0, on1]
          refine u__law_is_below sb sa (by decide) ?_
          try walk_at "K61Z0"
          dsimp only at hQ
          refine ite_b (c := b < a) (fun h => ?_) fun h => ?_
          · rw [if_pos h] at hQ; exact hQ
          · rw [if_neg h] at hQ; exact hQ
        · simp at lL
      clear hk
      cases o1 with
      | none =>
        cases o3 with
        | none =>
          refine ⟨nils, nils, ?_⟩
          have := fin [] .none (fun a b e => nomatch e) (by decide) hQ
          exact this
        | some b =>
          refine ⟨(Shp.list (k := 1) fun x hx => ?_).shaped, nils, ?_⟩
          · rw [List.mem_singleton.mp hx]; exact shp_fr
          · have := fin [b] (fr b) (fun a b e => nomatch e) (by simp) hQ
            exact this
      | some a =>
        cases o3 with
        | none =>
          refine ⟨(Shp.list (k := 1) fun x hx => ?_).shaped, nils, ?_⟩
          · rw [List.mem_singleton.mp hx]; exact shp_fr
          · have := fin [a] (fr a) (fun a b e => nomatch e) (by simp) hQ
            exact this
        | some b =>
          refine ⟨(Shp.list (k := 1) fun x hx => ?_).shaped, nils, ?_⟩
          · simp only [Option.toList, List.map_cons, List.map_nil, List.cons_append, List.nil_append, List.mem_cons, List.not_mem_nil, or_false] at hx
            rcases hx with rfl | rfl
            · exact shp_fr
            · exact shp_fr
          · have := fin [a, b] (fr a) (fun a' b' e => by cases e; exact ⟨s1 a rfl, s3 b rfl⟩) (by simp) (by
              unfold minQ oR at hQ
              dsimp only at hQ ⊢
              split at hQ <;> rename_i h
              · rw [if_pos h]; exact hQ
              · rw [if_neg h]; exact hQ)
            exact this
    cases o2 with
    | none =>
      have := k3 none none (fun q e => nomatch e) hQ
      rw [show ((none : Option Rat).toList.map fr) = [] from rfl, List.append_nil] at this
      exact this
    | some v =>
      obtain ⟨_, hv⟩ := keyAt_mem e2
      have vl := h1.lz v hv
      have hsv := List.getElem?_eq_getElem vl
      generalize w.sc[v] = sv at hsv
      have hec := List.getElem?_eq_getElem (show c < N.er.length by rw [h1.el]; exact h2)
      generalize N.er[c]'(by rw [h1.el]; exact h2) = es at hec
      obtain ⟨e3, e4⟩ := h1.ez es (List.mem_of_getElem? hec)
      have hev := List.getElem?_eq_getElem (show v < es.length by omega)
      generalize es[v] = e at hev
      have se := e4 e (List.mem_of_getElem? hev)
      have tv := tmb v (by omega)
      dsimp only at hQ
      rw [Int.toNat_natCast, hec] at hQ
      simp only [Option.bind_some] at hQ
      rw [hev] at hQ
      simp only [Option.map_some] at hQ
      simp only [Option.map_some, Option.isSome_some, Bool.false_eq_true, if_false, if_true, eI]
      refine u__law_times h0 ?_
      try walk_at "K61Z0"
      rw [on_at (tmF_at hsv vl (Nat.le_refl _))]
      try simp only [dSeq, dAsg, dCB, dCons, dNil, dVar, onVs, vals, val, slot, setR, fGcd, dIfS, dTV, onV2, fLt, fLe, fGt, fGe, fAdd, fSub, fMul, fDiv, fMod, fI0, dC, dUn, onV, fNeg, dNext, dRet, dTup, onD, dats, fDivZ, fI, fPow, Few, retP, fAbs, fInt, fMax, fMin, fLen, fSqrt, fEq, fNe, dNot, dAnd, dOr, dAndV, dOrV, dNotV, dIfE, dDrop, dRetN, dPar, noO, dSetL, dLst, dOfL, dOwnM, onOwn, onDat, kAppend, kInsert, dSetItem, dAddItem, onItems, onInt, dNoPart, dPart, dSlice, onL, litems, dSlL, dCat, onM, mitems, dRng1, dRng2, dCallP, dCallB, dCallF, noSelf, onArgs, dats2, dIsi, tyName, dYes, dgCons, dgNil, retB, dBreak, dCont, ne_eq, not_false_eq_true, true_and, and_true, List.getElem?_cons_zero, List.getElem?_cons_succ, List.set_cons_zero, List.set_cons_succ, Option.map, List.length_cons, List.length_nil, dParM, dmNil, dmD, dmL, setM, dLc_eq, dLc2_eq, dFor_eq, dSortSet, dSort, dListOf, dIsN, dNotN, isNo, dAug, dMulA, dgUnl, dSlT, onT, dEnum, dZip, dZipM, dRetL, dPar3, dRevT, dLstRg, dTupRg, dRg1, dRg2, dChainLe, List.nil_append, List.cons_append, if_true, if_false, dFrz, dLcO, dMin2D, dAppX, dParL, dParLL, dRepL, fMax3, dNewDic, dDicPut, dDicGet, dSortDic, onDic, onKey, dLcW, dZipX, dParR, dDead, dSortD, dSortDT, fNeS, fEqS, dgSet, dDGet, onDict_eq, onKeyD_int, onKeyD_str, dDIn, dSortDK, onDict1_eq, dDictL, dDictEn, dDictZip, onSq1_eq, onSq2_eq, onSq_t, onSq_l, onSq_o, dNewD, dDicI, dNewDik, dDikPut, onDik, dFrzD, dNew4, dIndexD, onLst_eq, dIfL, dOrT, dAndT, onTru_int, onTru_bool, onTru_none, onTru_tuple, onTru_list, dTupZip, dZip3, dFgt, fIsB, fNotB, fInA_l, fInA_t, fNotInA_l, fNotInA_t, List.map_cons, List.map_nil, fw0, fw1, fw2, fw3, fw4, fw5, fw6, fw7, fw8, fw9, fw10, fw11, fw12, fw13, fw14, fw15, dExtend, dExtendT, dLstDn, dMaxDf, dOp_ap, dIx_ap, dCatT_ap, dRepT_ap, items_l, items_t, items_o, ti_t, dgT_t, seqs_l, seqs_t, seqs_o, dSeqI_eq, wk_l, wk_t, wk_eP, wk_o, dTupOf_eq, tu_t, tu_l, tu_o, tu_eP, dTupA_eq, ta_t, ta_l, ta_o, ta_eP, items_eW, items_eB, items_eSc, items_eLm, items_eP, items_eL, items_pr, items_enc2, items_eTm, ti_eB, ti_eW, ti_eLm, ti_eP, dgT_eSc, dgT_eLm, dgT_eL, dgT_pr, dgT_enc2, dgT_eW, dgT_eTm, seqs_eP, on0, on1, on2, on3, on4, on5, on6, on7, on8, eTm]
      refine u__law_lag (b := w.b) h0.ok.bd (by decide) ?_
      try walk_at "K61Z0"
      rw [findD_dI (lt_nodup (upI_lt _)) (upI_at (show c < N.er.length by rw [h1.el]; exact h2)) (show (N.er.map eEr)[c]? = some (eEr es) by rw [List.getElem?_map, hec]; rfl)]
      try simp only [dSeq, dAsg, dCB, dCons, dNil, dVar, onVs, vals, val, slot, setR, fGcd, dIfS, dTV, onV2, fLt, fLe, fGt, fGe, fAdd, fSub, fMul, fDiv, fMod, fI0, dC, dUn, onV, fNeg, dNext, dRet, dTup, onD, dats, fDivZ, fI, fPow, Few, retP, fAbs, fInt, fMax, fMin, fLen, fSqrt, fEq, fNe, dNot, dAnd, dOr, dAndV, dOrV, dNotV, dIfE, dDrop, dRetN, dPar, noO, dSetL, dLst, dOfL, dOwnM, onOwn, onDat, kAppend, kInsert, dSetItem, dAddItem, onItems, onInt, dNoPart, dPart, dSlice, onL, litems, dSlL, dCat, onM, mitems, dRng1, dRng2, dCallP, dCallB, dCallF, noSelf, onArgs, dats2, dIsi, tyName, dYes, dgCons, dgNil, retB, dBreak, dCont, ne_eq, not_false_eq_true, true_and, and_true, List.getElem?_cons_zero, List.getElem?_cons_succ, List.set_cons_zero, List.set_cons_succ, Option.map, List.length_cons, List.length_nil, dParM, dmNil, dmD, dmL, setM, dLc_eq, dLc2_eq, dFor_eq, dSortSet, dSort, dListOf, dIsN, dNotN, isNo, dAug, dMulA, dgUnl, dSlT, onT, dEnum, dZip, dZipM, dRetL, dPar3, dRevT, dLstRg, dTupRg, dRg1, dRg2, dChainLe, List.nil_append, List.cons_append, if_true, if_false, dFrz, dLcO, dMin2D, dAppX, dParL, dParLL, dRepL, fMax3, dNewDic, dDicPut, dDicGet, dSortDic, onDic, onKey, dLcW, dZipX, dParR, dDead, dSortD, dSortDT, fNeS, fEqS, dgSet, dDGet, onDict_eq, onKeyD_int, onKeyD_str, dDIn, dSortDK, onDict1_eq, dDictL, dDictEn, dDictZip, onSq1_eq, onSq2_eq, onSq_t, onSq_l, onSq_o, dNewD, dDicI, dNewDik, dDikPut, onDik, dFrzD, dNew4, dIndexD, onLst_eq, dIfL, dOrT, dAndT, onTru_int, onTru_bool, onTru_none, onTru_tuple, onTru_list, dTupZip, dZip3, dFgt, fIsB, fNotB, fInA_l, fInA_t, fNotInA_l, fNotInA_t, List.map_cons, List.map_nil, fw0, fw1, fw2, fw3, fw4, fw5, fw6, fw7, fw8, fw9, fw10, fw11, fw12, fw13, fw14, fw15, dExtend, dExtendT, dLstDn, dMaxDf, dOp_ap, dIx_ap, dCatT_ap, dRepT_ap, items_l, items_t, items_o, ti_t, dgT_t, seqs_l, seqs_t, seqs_o, dSeqI_eq, wk_l, wk_t, wk_eP, wk_o, dTupOf_eq, tu_t, tu_l, tu_o, tu_eP, dTupA_eq, ta_t, ta_l, ta_o, ta_eP, items_eW, items_eB, items_eSc, items_eLm, items_eP, items_eL, items_pr, items_enc2, items_eTm, ti_eB, ti_eW, ti_eLm, ti_eP, dgT_eSc, dgT_eLm, dgT_eL, dgT_pr, dgT_enc2, dgT_eW, dgT_eTm, seqs_eP, on0, on1, on2, on3, on4, on5, on6, on7, on8, eEr]
      rw [on_map hev rfl]
      try walk_at "K61Z0"
      have st : Sz 20 ((((tmS w.b.need w.sc v).2 - w.b.lag : Int)) : Rat) := Sz.int1 (bd_of 200000 (by omega) (by omega))
      refine u__law_added (p := (((tmS w.b.need w.sc v).2 - w.b.lag : Int) : Rat)) st se (by decide) ?_
      have l1 : (List.map fr o1.toList).length ≤ 1 := by cases o1 <;> simp
      refine ⟨few_le (by omega), ?_⟩
      exact k3 (some _) _ (fun q e => by cases e; exact (st.add se).up (by decide)) hQ
  cases o1 with
  | none => exact k2
  | some q => exact k2
set_option maxHeartbeats 4000000 in
theorem ok_falls_of {f : Addr} {fd : FuncData} (W : Fun K "falls_of" "falls_of" s_falls_of f fd) (T : Bi mg)
    {f_fall_of : Addr} {fd_fall_of : FuncData} (G_fall_of : FnG P w K mg base CX0 4 f_fall_of fd_fall_of ["show", "night", "carrier"] (spP K TT [.d, .d, .d] S_fall_of)) (g_fall_of : mg "fall_of" = some (.ref f_fall_of)) (k_fall_of : PySem.W.keepIn K (.ref f_fall_of) = true) (b_fall_of : Binds K fd_fall_of ["show", "night", "carrier"] []) :
    FnG P w K mg base CX0 5 f fd ["show", "night"] (spP K TT [.d, .d] S_falls_of) := by
  refine fnP W sc_falls_of rfl fun cdv A out s H E Nn hr hgd => ⟨_, _, (dss_one (ds_fgt (i := 2) (ds_ret (pd_l (pl_lc (own := [("carrier", 2)]) rfl sc_falls_of.nd (pdi_range1 rfl T.b_range (pda_cons (pd_callB call_len_seq sc_len rfl T.b_len (by decide +kernel) (pda_cons (pd_ix (pdv 0) pd_int (fun _ _ => rfl)) pda_nil)) pda_nil)) (blkOk_by (own := [("carrier", 2)]) (N := nm_falls_of) (sc := defScope s_falls_of) (by decide +kernel)) (fun _ _ _ _ _ => (pgd_name (i := 2) sc_falls_of.nd)) (fun _ _ _ _ _ => dts_nil) (fun _ _ _ _ _ => (pd_callP G_fall_of m_fall_of (hr.mono (by decide)) hgd rfl g_fall_of k_fall_of b_fall_of (pda_cons (pdv 0) (pda_cons (pdv 1) (pda_cons (pdv 2) pda_nil)))))))) fixP)), ?_⟩
  clear W T hr hgd G_fall_of g_fall_of k_fall_of b_fall_of f_fall_of fd_fall_of
  rintro xs Q hl ⟨⟨w, N⟩, rfl, ⟨h0, h1⟩, hQ⟩
  clear hl
  replace hQ : Q (.list (fallsD w N)) := hQ
  have e : rhoP nm_falls_of.length [.d, .d] [eW w, eN N] = [some (.d (eW w)), some (.d (eN N)), none] := rfl
  rw [e]
  clear e
  have ip : w.pads.length ≤ 8 := h0.np
  try walk_at "K61Z0"
  rw [List.length_map]
  refine ⟨⟨by omega, by omega⟩, ?_⟩
  rw [show ((w.pads.length : Nat) : Int).toNat = w.pads.length by omega, rng_map]
  refine lc_map (List.range w.pads.length) _ (fun c : Nat => oR (fallQ w N c)) (hv1 rfl) (by rw [List.length_range]; omega) (fun k c hc C1 C2 n hn h1' => ?_) ?_
  · have cl := List.mem_range.mp (List.mem_of_getElem? hc)
    try walk_at "K61Z0"
    rw [Int.zero_add]
    refine u_fall_of h0 h1 cl ?_
    try walk_at "K61Z2"
    exact ⟨hn, h1'⟩
  · exact hQ
set_option maxHeartbeats 4000000 in
theorem ok__law_moment {f : Addr} {fd : FuncData} (W : Fun K "_law_moment" "_law_moment" s__law_moment f fd) (T : Bi mg)
    {f__law_times : Addr} {fd__law_times : FuncData} (G__law_times : FnG P w K mg base CX0 3 f__law_times fd__law_times ["_law_show_here"] (spP K TT [.d] S__law_times)) (g__law_times : mg "_law_times" = some (.ref f__law_times)) (k__law_times : PySem.W.keepIn K (.ref f__law_times) = true) (b__law_times : Binds K fd__law_times ["_law_show_here"] [])
    {f__law_some : Addr} {fd__law_some : FuncData} (G__law_some : FnG P w K mg base CX0 2 f__law_some fd__law_some ["_law_bag_here", "_law_things"] (spB K TT [.ro] S__law_some)) (g__law_some : mg "_law_some" = some (.ref f__law_some)) (k__law_some : PySem.W.keepIn K (.ref f__law_some) = true) (b__law_some : Binds K fd__law_some ["_law_bag_here", "_law_things"] [])
    {f__law_writing : Addr} {fd__law_writing : FuncData} (G__law_writing : FnG P w K mg base CX0 4 f__law_writing fd__law_writing ["_law_show_here", "_law_scene"] (spP K TT [.d, .d] S__law_writing)) (g__law_writing : mg "_law_writing" = some (.ref f__law_writing)) (k__law_writing : PySem.W.keepIn K (.ref f__law_writing) = true) (b__law_writing : Binds K fd__law_writing ["_law_show_here", "_law_scene"] [])
    {f__law_added : Addr} {fd__law_added : FuncData} (G__law_added : FnG P w K mg base CX0 2 f__law_added fd__law_added ["_law_x", "_law_y"] (spP K TT [.d, .d] S__law_added)) (g__law_added : mg "_law_added" = some (.ref f__law_added)) (k__law_added : PySem.W.keepIn K (.ref f__law_added) = true) (b__law_added : Binds K fd__law_added ["_law_x", "_law_y"] [])
    {f__law_is_below : Addr} {fd__law_is_below : FuncData} (G__law_is_below : FnG P w K mg base CX0 1 f__law_is_below fd__law_is_below ["_law_x", "_law_y"] (spP K TT [.d, .d] S__law_is_below)) (g__law_is_below : mg "_law_is_below" = some (.ref f__law_is_below)) (k__law_is_below : PySem.W.keepIn K (.ref f__law_is_below) = true) (b__law_is_below : Binds K fd__law_is_below ["_law_x", "_law_y"] []) :
    FnG P w K mg base CX0 5 f fd ["_law_bag_here", "_law_show_here"] (spB K TT [.d] S__law_moment) := by
  refine fnB W sc__law_moment rfl fun cdv A out s H E Nn B hr hgd => ⟨_, _, (dss_cons (ds_set (i := 2) sc__law_moment.nd (pd_callP G__law_times m__law_times (hr.mono (by decide)) hgd rfl g__law_times k__law_times b__law_times (pda_cons (pdv 1) pda_nil)) (fixB (by decide)))
      (dss_cons (ds_asg (pd_callBag G__law_some m__law_some (hr.mono (by decide)) hgd rfl g__law_some k__law_some b__law_some (pda_cons (pdv 0) (pda_cons (pdv 2) pda_nil))) (pgd_tup (n := 4) rfl (pgds_cons (pgd_name (i := 3) sc__law_moment.nd) (pgds_cons (pgd_name (i := 4) sc__law_moment.nd) (pgds_cons (pgd_name (i := 5) sc__law_moment.nd) (pgds_cons (pgd_name (i := 6) sc__law_moment.nd) pgds_nil))))) (nofixB (by decide)))
      (dss_cons (ds_set (i := 7) sc__law_moment.nd (pd_callP G__law_writing m__law_writing (hr.mono (by decide)) hgd rfl g__law_writing k__law_writing b__law_writing (pda_cons (pdv 1) (pda_cons (pd_index (units65 hr) (pdv 2) (pda_cons (pd_tup (pda_cons (pdv 3) (pda_cons (pdv 4) (pda_cons (pdv 5) (pda_cons (pdv 6) pda_nil))))) pda_nil)) pda_nil))) (fixB (by decide)))
      (dss_cons (ds_set (i := 8) sc__law_moment.nd (pd_div (pd_add (pdv 4) (pdv 5)) pd_int) (fixB (by decide)))
      (dss_cons (ds_set (i := 9) sc__law_moment.nd (pd_callBag G__law_some m__law_some (hr.mono (by decide)) hgd rfl g__law_some k__law_some b__law_some (pda_cons (pdv 0) (pda_cons (pd_l (pl_lst (pda_cons (pdv 3) (pda_cons (pdv 4) (pda_cons (pdv 5) (pda_cons (pdv 6) (pda_cons (pdv 7) (pda_cons (pd_sub (pd_sub (pdv 4) (pd_ix (pd_ix (pdv 1) pd_int (fun _ _ => rfl)) pd_int (fun _ _ => rfl))) (pd_ix (pd_ix (pdv 1) pd_int (fun _ _ => rfl)) pd_int (fun _ _ => rfl))) (pda_cons (pdv 8) pda_nil))))))))) pda_nil))) (fixB (by decide)))
      (dss_cons (ds_set (i := 10) sc__law_moment.nd (pd_callP G__law_added m__law_added (hr.mono (by decide)) hgd rfl g__law_added k__law_added b__law_added (pda_cons (pd_tup (pda_cons (pdv 9) (pda_cons pd_int pda_nil))) (pda_cons (pd_callBag G__law_some m__law_some (hr.mono (by decide)) hgd rfl g__law_some k__law_some b__law_some (pda_cons (pdv 0) (pda_cons (pd_l (pl_lst (pda_cons (pd_tup (pda_cons pd_int (pda_cons pd_int pda_nil))) (pda_cons (pd_tup (pda_cons pd_int (pda_cons pd_int pda_nil))) (pda_cons (pd_tup (pda_cons (pd_neg pd_int) (pda_cons pd_int pda_nil))) (pda_cons (pd_tup (pda_cons (pd_ix (pd_ix (pdv 1) pd_int (fun _ _ => rfl)) pd_int (fun _ _ => rfl)) (pda_cons pd_int pda_nil))) (pda_cons (pd_tup (pda_cons (pd_neg pd_int) (pda_cons pd_int pda_nil))) (pda_cons (pd_tup (pda_cons pd_int (pda_cons pd_int pda_nil))) pda_nil)))))))) pda_nil))) pda_nil))) (fixB (by decide)))
      (dss_cons (ds_set (i := 11) sc__law_moment.nd (pd_tup (pda_cons (pd_ix (pd_ix (pdv 2) (pd_neg pd_int) (fun _ _ => rfl)) pd_int (fun _ _ => rfl)) (pda_cons pd_int pda_nil))) (fixB (by decide)))
      (dss_one (ds_ret (pd_ifExp (pt_lt (pd_ix (pdv 10) pd_int (fun _ _ => rfl)) pd_int) (pd_tup (pda_cons pd_int (pda_cons pd_int pda_nil))) (pd_ifExp (pt_v (pd_callP G__law_is_below m__law_is_below (hr.mono (by decide)) hgd rfl g__law_is_below k__law_is_below b__law_is_below (pda_cons (pdv 11) (pda_cons (pdv 10) pda_nil)))) (pdv 11) (pdv 10)))))))))))), ?_⟩
  clear W T hr hgd G__law_times g__law_times k__law_times b__law_times f__law_times fd__law_times G__law_some g__law_some k__law_some b__law_some f__law_some fd__law_some G__law_writing g__law_writing k__law_writing b__law_writing f__law_writing fd__law_writing G__law_added g__law_added k__law_added b__law_added f__law_added fd__law_added G__law_is_below g__law_is_below k__law_is_below b__law_is_below f__law_is_below fd__law_is_below
  rintro bag xs Q hl ⟨w, m, hb, hm, rfl, ⟨h0, h1⟩, hQ⟩
  clear hl
  replace hQ : ∀ z bag', (∃ q : Rat, z = fr q ∧ Sz 60 q) → Bag (m + 4) bag' → Q z bag'   := hQ
  have hm : m + 4 < 2 ^ 60 := hm
  have e : (some (.own bag) :: rhoP (nm__law_moment.length - 1) [.d] [eW w] : Rho) = [some (.own bag), some (.d (eW w)), none, none, none, none, none, none, none, none, none, none] := rfl
  rw [e]
  clear e
  have ns := h0.ns
  have nd := h0.ok.need0
  have c0 := h0.ok.clk0; have c1 := h0.ok.clk1; have f0 := h0.ok.fall0; have f1 := h0.ok.fall1
  have lg := h0.ok.lag0; have s0 := h0.ok.sil0; have s1 := h0.ok.sil1; have u0 := h0.ok.cuts0; have u1 := h0.ok.cuts1
  have tmb : ∀ k, k ≤ w.sc.length → 0 ≤ (tmS w.b.need w.sc k).1 ∧ (tmS w.b.need w.sc k).1 ≤ 100000 ∧ 0 ≤ (tmS w.b.need w.sc k).2 ∧ (tmS w.b.need w.sc k).2 ≤ 100000 := fun k hk => by
    have := tmS_in (n := w.b.need) (sc := w.sc) (by omega) (fun s hs => ⟨⟨by have := h0.tk s hs; omega, (h0.tk s hs).2.2⟩, h0.hd s hs⟩) hk
    omega
  have tml : (tmF w.b.need w.sc w.sc.length).length = w.sc.length := tmF_len (Nat.le_refl _)
  refine seqI fun kk hk => ?_
  try walk_at "K61Z0"
  refine u__law_times h0 ?_
  rw [hk]
  clear hk
  refine seqI fun kk hk => ?_
  try walk_at "K61Z0"
  refine u_some hb (by omega) (by rw [tml]; exact h1) (by rw [tml]; omega) fun y hy bag1 hb1 => ?_
  have hy2 : ∃ (i : Nat) (s : Scn), w.sc[i]? = some s ∧ y = eTm (tmS w.b.need w.sc i) s := by
    unfold tmF at hy
    obtain ⟨i, _, e⟩ := List.mem_filterMap.mp hy
    obtain ⟨s, hs, rfl⟩ := Option.map_eq_some_iff.mp e
    exact ⟨i, s, hs, rfl⟩
  obtain ⟨i, s, hs, rfl⟩ := hy2
  have il := (List.getElem?_eq_some_iff.mp hs).1
  have tb := tmb i (by omega)
  obtain ⟨k0, k1, k2⟩ := h0.tk s (List.mem_of_getElem? hs)
  obtain ⟨e0, e1⟩ := h0.hd s (List.mem_of_getElem? hs)
  generalize hT : tmS w.b.need w.sc i = T at *
  try simp only [dSeq, dAsg, dCB, dCons, dNil, dVar, onVs, vals, val, slot, setR, fGcd, dIfS, dTV, onV2, fLt, fLe, fGt, fGe, fAdd, fSub, fMul, fDiv, fMod, fI0, dC, dUn, onV, fNeg, dNext, dRet, dTup, onD, dats, fDivZ, fI, fPow, Few, retP, fAbs, fInt, fMax, fMin, fLen, fSqrt, fEq, fNe, dNot, dAnd, dOr, dAndV, dOrV, dNotV, dIfE, dDrop, dRetN, dPar, noO, dSetL, dLst, dOfL, dOwnM, onOwn, onDat, kAppend, kInsert, dSetItem, dAddItem, onItems, onInt, dNoPart, dPart, dSlice, onL, litems, dSlL, dCat, onM, mitems, dRng1, dRng2, dCallP, dCallB, dCallF, noSelf, onArgs, dats2, dIsi, tyName, dYes, dgCons, dgNil, retB, dBreak, dCont, ne_eq, not_false_eq_true, true_and, and_true, List.getElem?_cons_zero, List.getElem?_cons_succ, List.set_cons_zero, List.set_cons_succ, Option.map, List.length_cons, List.length_nil, dParM, dmNil, dmD, dmL, setM, dLc_eq, dLc2_eq, dFor_eq, dSortSet, dSort, dListOf, dIsN, dNotN, isNo, dAug, dMulA, dgUnl, dSlT, onT, dEnum, dZip, dZipM, dRetL, dPar3, dRevT, dLstRg, dTupRg, dRg1, dRg2, dChainLe, List.nil_append, List.cons_append, if_true, if_false, dFrz, dLcO, dMin2D, dAppX, dParL, dParLL, dRepL, fMax3, dNewDic, dDicPut, dDicGet, dSortDic, onDic, onKey, dLcW, dZipX, dParR, dDead, dSortD, dSortDT, fNeS, fEqS, dgSet, dDGet, onDict_eq, onKeyD_int, onKeyD_str, dDIn, dSortDK, onDict1_eq, dDictL, dDictEn, dDictZip, onSq1_eq, onSq2_eq, onSq_t, onSq_l, onSq_o, dNewD, dDicI, dNewDik, dDikPut, onDik, dFrzD, dNew4, dIndexD, onLst_eq, dIfL, dOrT, dAndT, onTru_int, onTru_bool, onTru_none, onTru_tuple, onTru_list, dTupZip, dZip3, dFgt, fIsB, fNotB, fInA_l, fInA_t, fNotInA_l, fNotInA_t, List.map_cons, List.map_nil, fw0, fw1, fw2, fw3, fw4, fw5, fw6, fw7, fw8, fw9, fw10, fw11, fw12, fw13, fw14, fw15, dExtend, dExtendT, dLstDn, dMaxDf, dOp_ap, dIx_ap, dCatT_ap, dRepT_ap, items_l, items_t, items_o, ti_t, dgT_t, seqs_l, seqs_t, seqs_o, dSeqI_eq, wk_l, wk_t, wk_eP, wk_o, dTupOf_eq, tu_t, tu_l, tu_o, tu_eP, dTupA_eq, ta_t, ta_l, ta_o, ta_eP, items_eW, items_eB, items_eSc, items_eLm, items_eP, items_eL, items_pr, items_enc2, items_eTm, ti_eB, ti_eW, ti_eLm, ti_eP, dgT_eSc, dgT_eLm, dgT_eL, dgT_pr, dgT_enc2, dgT_eW, dgT_eTm, seqs_eP, on0, on1, on2, on3, on4, on5, on6, on7, on8, eTm]
  rw [hk]
  clear hk
  refine seqI fun kk hk => ?_
  try walk_at "K61Z0"
  have shT : ∀ y ∈ tmF w.b.need w.sc w.sc.length, Shp 1 y := fun y hy => by
    unfold tmF at hy
    obtain ⟨i, _, e⟩ := List.mem_filterMap.mp hy
    obtain ⟨s, hs, rfl⟩ := Option.map_eq_some_iff.mp e
    exact Shp.tuple (all4 .int .int .int .int)
  refine ⟨(Shp.list shT).shaped, (Shp.tuple (k := 0) (all4 .int .int .int .int)).shaped, ?_⟩
  obtain ⟨j, hj⟩ := first_ex (xs := tmF w.b.need w.sc w.sc.length) (y := eTm T s) ⟨_, hy, (shT _ hy).refl⟩
  refine ⟨j, hj, ?_⟩
  have jl : j < w.sc.length := by
    obtain ⟨z, hz, _⟩ := hj
    have := (List.getElem?_eq_some_iff.mp hz).1
    omega
  have tj := tmb j (by omega)
  refine u__law_writing (w := w) (i := j) h0 (List.getElem?_eq_getElem jl) ?_
  have wb : -200 ≤ (tmS w.b.need w.sc j).2 - w.b.lag - w.b.clk - w.b.sil - w.b.cuts ∧ (tmS w.b.need w.sc j).2 - w.b.lag - w.b.clk - w.b.sil - w.b.cuts ≤ 100000 := by omega
  generalize (tmS w.b.need w.sc j).2 - w.b.lag - w.b.clk - w.b.sil - w.b.cuts = wr at *
  clear hj
  rw [hk]
  clear hk
  refine seqI fun kk hk => ?_
  try walk_at "K61Z0"
  have b2 : Bd 2 2 := by unfold Bd; decide
  refine ⟨cdwB (by decide) b2, ?_⟩
  have md : 0 ≤ (T.2 + (T.2 + s.tk)) / 2 ∧ (T.2 + (T.2 + s.tk)) / 2 ≤ 200000 := by omega
  generalize (T.2 + (T.2 + s.tk)) / 2 = mi at *
  rw [hk]
  clear hk
  refine seqI fun kk hk => ?_
  try walk_at "K61Z0"
  refine u_some hb1 (by omega) (by simp) (by simp) fun y hy2 bag2 hb2 => ?_
  simp only [List.mem_cons, List.not_mem_nil, or_false] at hy2
  have key : ∃ t : Int, y = .int t ∧ -1000 ≤ t ∧ t ≤ 300000 := by
    rcases hy2 with rfl | rfl | rfl | rfl | rfl | rfl | rfl
    all_goals exact ⟨_, rfl, by omega, by omega⟩
  obtain ⟨t, rfl, t0, t1⟩ := key
  clear hy2
  rw [hk]
  clear hk
  refine seqI fun kk hk => ?_
  try walk_at "K61Z0"
  refine u_some hb2 (by omega) (by simp) (by simp) fun y hy2 bag3 hb3 => ?_
  simp only [List.mem_cons, List.not_mem_nil, or_false] at hy2
  have key : ∃ q : Rat, y = fr q ∧ Sz 8 q := by
    rcases hy2 with rfl | rfl | rfl | rfl | rfl | rfl
    · exact ⟨((0 : Int) : Rat), rfl, Sz.int1 (bd_of 0 (by decide) (by decide))⟩
    · exact ⟨(1 : Int) /. 2, rfl, (sz_divInt (j := 2) (k := 2) (by unfold Bd; decide) (by unfold Bd; decide) (by decide)).up (by decide)⟩
    · exact ⟨(-1 : Int) /. 3, rfl, (sz_divInt (j := 2) (k := 2) (by unfold Bd; decide) (by unfold Bd; decide) (by decide)).up (by decide)⟩
    · exact ⟨((w.b.fall : Int) : Rat), rfl, Sz.int1 (bd_of 20 (by omega) (by omega))⟩
    · exact ⟨((-1 : Int) : Rat), rfl, Sz.int1 (bd_of 1 (by decide) (by decide))⟩
    · exact ⟨((0 : Int) : Rat), rfl, Sz.int1 (bd_of 0 (by decide) (by decide))⟩
  obtain ⟨q, rfl, sq⟩ := key
  clear hy2
  have st : Sz 20 (t : Rat) := Sz.int1 (bd_of 300000 (by omega) (by omega))
  refine u__law_added (p := (t : Rat)) st sq (by decide) ?_
  have sf : Sz 40 ((t : Rat) + q) := (st.add sq).up (by decide)
  generalize (t : Rat) + q = fo at *
  rw [hk]
  clear hk
  refine seqI fun kk hk => ?_
  try walk_at "K61Z0"
  have hl := List.getElem?_eq_getElem (show w.sc.length - 1 < w.sc.length by omega)
  generalize hsl : w.sc[w.sc.length - 1] = sl at hl
  rw [on_last (n := w.sc.length - 1) (by omega) (tmF_at hl (by omega) (Nat.le_refl _))]
  try simp only [dSeq, dAsg, dCB, dCons, dNil, dVar, onVs, vals, val, slot, setR, fGcd, dIfS, dTV, onV2, fLt, fLe, fGt, fGe, fAdd, fSub, fMul, fDiv, fMod, fI0, dC, dUn, onV, fNeg, dNext, dRet, dTup, onD, dats, fDivZ, fI, fPow, Few, retP, fAbs, fInt, fMax, fMin, fLen, fSqrt, fEq, fNe, dNot, dAnd, dOr, dAndV, dOrV, dNotV, dIfE, dDrop, dRetN, dPar, noO, dSetL, dLst, dOfL, dOwnM, onOwn, onDat, kAppend, kInsert, dSetItem, dAddItem, onItems, onInt, dNoPart, dPart, dSlice, onL, litems, dSlL, dCat, onM, mitems, dRng1, dRng2, dCallP, dCallB, dCallF, noSelf, onArgs, dats2, dIsi, tyName, dYes, dgCons, dgNil, retB, dBreak, dCont, ne_eq, not_false_eq_true, true_and, and_true, List.getElem?_cons_zero, List.getElem?_cons_succ, List.set_cons_zero, List.set_cons_succ, Option.map, List.length_cons, List.length_nil, dParM, dmNil, dmD, dmL, setM, dLc_eq, dLc2_eq, dFor_eq, dSortSet, dSort, dListOf, dIsN, dNotN, isNo, dAug, dMulA, dgUnl, dSlT, onT, dEnum, dZip, dZipM, dRetL, dPar3, dRevT, dLstRg, dTupRg, dRg1, dRg2, dChainLe, List.nil_append, List.cons_append, if_true, if_false, dFrz, dLcO, dMin2D, dAppX, dParL, dParLL, dRepL, fMax3, dNewDic, dDicPut, dDicGet, dSortDic, onDic, onKey, dLcW, dZipX, dParR, dDead, dSortD, dSortDT, fNeS, fEqS, dgSet, dDGet, onDict_eq, onKeyD_int, onKeyD_str, dDIn, dSortDK, onDict1_eq, dDictL, dDictEn, dDictZip, onSq1_eq, onSq2_eq, onSq_t, onSq_l, onSq_o, dNewD, dDicI, dNewDik, dDikPut, onDik, dFrzD, dNew4, dIndexD, onLst_eq, dIfL, dOrT, dAndT, onTru_int, onTru_bool, onTru_none, onTru_tuple, onTru_list, dTupZip, dZip3, dFgt, fIsB, fNotB, fInA_l, fInA_t, fNotInA_l, fNotInA_t, List.map_cons, List.map_nil, fw0, fw1, fw2, fw3, fw4, fw5, fw6, fw7, fw8, fw9, fw10, fw11, fw12, fw13, fw14, fw15, dExtend, dExtendT, dLstDn, dMaxDf, dOp_ap, dIx_ap, dCatT_ap, dRepT_ap, items_l, items_t, items_o, ti_t, dgT_t, seqs_l, seqs_t, seqs_o, dSeqI_eq, wk_l, wk_t, wk_eP, wk_o, dTupOf_eq, tu_t, tu_l, tu_o, tu_eP, dTupA_eq, ta_t, ta_l, ta_o, ta_eP, items_eW, items_eB, items_eSc, items_eLm, items_eP, items_eL, items_pr, items_enc2, items_eTm, ti_eB, ti_eW, ti_eLm, ti_eP, dgT_eSc, dgT_eLm, dgT_eL, dgT_pr, dgT_enc2, dgT_eW, dgT_eTm, seqs_eP, on0, on1, on2, on3, on4, on5, on6, on7, on8, eTm]
  have tl := tmb (w.sc.length - 1) (by omega)
  obtain ⟨l0, l1, l2⟩ := h0.tk sl (List.mem_of_getElem? hl)
  obtain ⟨m0, m1⟩ := h0.hd sl (List.mem_of_getElem? hl)
  have ltb : 0 ≤ (tmS w.b.need w.sc (w.sc.length - 1)).2 + sl.tk + sl.hd ∧ (tmS w.b.need w.sc (w.sc.length - 1)).2 + sl.tk + sl.hd ≤ 300000 := by omega
  generalize (tmS w.b.need w.sc (w.sc.length - 1)).2 + sl.tk + sl.hd = la at *
  have sla : Sz 20 (la : Rat) := Sz.int1 (bd_of 300000 (by omega) (by omega))
  have hb4 : Bag (m + 4) bag3 := hb3.up (by omega)
  rw [hk]
  clear hk
  try simp only [dSeq, dAsg, dCB, dCons, dNil, dVar, onVs, vals, val, slot, setR, fGcd, dIfS, dTV, onV2, fLt, fLe, fGt, fGe, fAdd, fSub, fMul, fDiv, fMod, fI0, dC, dUn, onV, fNeg, dNext, dRet, dTup, onD, dats, fDivZ, fI, fPow, Few, retP, fAbs, fInt, fMax, fMin, fLen, fSqrt, fEq, fNe, dNot, dAnd, dOr, dAndV, dOrV, dNotV, dIfE, dDrop, dRetN, dPar, noO, dSetL, dLst, dOfL, dOwnM, onOwn, onDat, kAppend, kInsert, dSetItem, dAddItem, onItems, onInt, dNoPart, dPart, dSlice, onL, litems, dSlL, dCat, onM, mitems, dRng1, dRng2, dCallP, dCallB, dCallF, noSelf, onArgs, dats2, dIsi, tyName, dYes, dgCons, dgNil, retB, dBreak, dCont, ne_eq, not_false_eq_true, true_and, and_true, List.getElem?_cons_zero, List.getElem?_cons_succ, List.set_cons_zero, List.set_cons_succ, Option.map, List.length_cons, List.length_nil, dParM, dmNil, dmD, dmL, setM, dLc_eq, dLc2_eq, dFor_eq, dSortSet, dSort, dListOf, dIsN, dNotN, isNo, dAug, dMulA, dgUnl, dSlT, onT, dEnum, dZip, dZipM, dRetL, dPar3, dRevT, dLstRg, dTupRg, dRg1, dRg2, dChainLe, List.nil_append, List.cons_append, if_true, if_false, dFrz, dLcO, dMin2D, dAppX, dParL, dParLL, dRepL, fMax3, dNewDic, dDicPut, dDicGet, dSortDic, onDic, onKey, dLcW, dZipX, dParR, dDead, dSortD, dSortDT, fNeS, fEqS, dgSet, dDGet, onDict_eq, onKeyD_int, onKeyD_str, dDIn, dSortDK, onDict1_eq, dDictL, dDictEn, dDictZip, onSq1_eq, onSq2_eq, onSq_t, onSq_l, onSq_o, dNewD, dDicI, dNewDik, dDikPut, onDik, dFrzD, dNew4, dIndexD, onLst_eq, dIfL, dOrT, dAndT, onTru_int, onTru_bool, onTru_none, onTru_tuple, onTru_list, dTupZip, dZip3, dFgt, fIsB, fNotB, fInA_l, fInA_t, fNotInA_l, fNotInA_t, List.map_cons, List.map_nil, fw0, fw1, fw2, fw3, fw4, fw5, fw6, fw7, fw8, fw9, fw10, fw11, fw12, fw13, fw14, fw15, dExtend, dExtendT, dLstDn, dMaxDf, dOp_ap, dIx_ap, dCatT_ap, dRepT_ap, items_l, items_t, items_o, ti_t, dgT_t, seqs_l, seqs_t, seqs_o, dSeqI_eq, wk_l, wk_t, wk_eP, wk_o, dTupOf_eq, tu_t, tu_l, tu_o, tu_eP, dTupA_eq, ta_t, ta_l, ta_o, ta_eP, items_eW, items_eB, items_eSc, items_eLm, items_eP, items_eL, items_pr, items_enc2, items_eTm, ti_eB, ti_eW, ti_eLm, ti_eP, dgT_eSc, dgT_eLm, dgT_eL, dgT_pr, dgT_enc2, dgT_eW, dgT_eTm, seqs_eP, on0, on1, on2, on3, on4, on5, on6, on7, on8, fr, on0]
  refine ite_b (c := fo.num < 0) (fun _ => hQ _ _ ⟨((0 : Int) : Rat), rfl, Sz.int1 (bd_of 0 (by decide) (by decide))⟩ hb4) fun _ => ?_
  refine u__law_is_below (p := (la : Rat)) (r := fo) sla sf (by decide) ?_
  try walk_at "K61Z0"
  exact ite_b (c := (la : Rat) < fo) (fun _ => hQ _ _ ⟨(la : Rat), rfl, sla.up (by decide)⟩ hb4) fun _ => hQ _ _ ⟨fo, rfl, sf.up (by decide)⟩ hb4
set_option maxHeartbeats 4000000 in
theorem ok_struck {f : Addr} {fd : FuncData} (W : Fun K "struck" "struck" s_struck f fd) (T : Bi mg)
    {f_falls_of : Addr} {fd_falls_of : FuncData} (G_falls_of : FnG P w K mg base CX0 5 f_falls_of fd_falls_of ["show", "night"] (spP K TT [.d, .d] S_falls_of)) (g_falls_of : mg "falls_of" = some (.ref f_falls_of)) (k_falls_of : PySem.W.keepIn K (.ref f_falls_of) = true) (b_falls_of : Binds K fd_falls_of ["show", "night"] []) :
    FnG P w K mg base CX0 6 f fd ["show", "night"] (spP K TT [.d, .d] S_struck) := by
  refine fnP W sc_struck rfl fun cdv A out s H E Nn hr hgd => ⟨_, _, (dss_one (ds_fgt (i := 3) (ds_fgt (i := 2) (ds_ret (pd_tupleA rfl T.b_tuple (pda_cons (pd_l (pl_lc (own := [("carrier", 2), ("fall", 3)]) rfl sc_struck.nd (pdi_enum rfl T.b_enumerate (pda_cons (pd_callP G_falls_of m_falls_of (hr.mono (by decide)) hgd rfl g_falls_of k_falls_of b_falls_of (pda_cons (pdv 0) (pda_cons (pdv 1) pda_nil))) pda_nil)) (blkOk_by (own := [("carrier", 2), ("fall", 3)]) (N := nm_struck) (sc := defScope s_struck) (by decide +kernel)) (fun _ _ _ _ _ => (pgd_tup (n := 2) rfl (pgds_cons (pgd_name (i := 2) sc_struck.nd) (pgds_cons (pgd_name (i := 3) sc_struck.nd) pgds_nil)))) (fun _ _ _ _ _ => (dts_one (pt_notN (pdv 3)))) (fun _ _ _ _ _ => (pdv 2)))) pda_nil))) fixP) fixP)), ?_⟩
  clear W T hr hgd G_falls_of g_falls_of k_falls_of b_falls_of f_falls_of fd_falls_of
  rintro xs Q hl ⟨⟨w, N⟩, rfl, ⟨h0, h1⟩, hQ⟩
  clear hl
  replace hQ : Q (.tuple (struckL w N)) := hQ
  have e : rhoP nm_struck.length [.d, .d] [eW w, eN N] = [some (.d (eW w)), some (.d (eN N)), none, none] := rfl
  rw [e]
  clear e
  try walk_at "K61Z0"
  refine u_falls_of h0 h1 ?_
  try walk_at "K61Z0"
  unfold fallsD
  rw [enumD_map, zipIdx_range, List.map_map]
  have ip : w.pads.length ≤ 8 := h0.np
  refine lc_fm (List.range w.pads.length) _ (fun c : Nat => if (fallQ w N c).isSome then some (.int (c : Int)) else none) (hv2 rfl rfl) (by rw [List.length_range]; omega) (fun k c hc C1 C2 n hn h1' h2' => ?_) ?_
  · try simp only [dSeq, dAsg, dCB, dCons, dNil, dVar, onVs, vals, val, slot, setR, fGcd, dIfS, dTV, onV2, fLt, fLe, fGt, fGe, fAdd, fSub, fMul, fDiv, fMod, fI0, dC, dUn, onV, fNeg, dNext, dRet, dTup, onD, dats, fDivZ, fI, fPow, Few, retP, fAbs, fInt, fMax, fMin, fLen, fSqrt, fEq, fNe, dNot, dAnd, dOr, dAndV, dOrV, dNotV, dIfE, dDrop, dRetN, dPar, noO, dSetL, dLst, dOfL, dOwnM, onOwn, onDat, kAppend, kInsert, dSetItem, dAddItem, onItems, onInt, dNoPart, dPart, dSlice, onL, litems, dSlL, dCat, onM, mitems, dRng1, dRng2, dCallP, dCallB, dCallF, noSelf, onArgs, dats2, dIsi, tyName, dYes, dgCons, dgNil, retB, dBreak, dCont, ne_eq, not_false_eq_true, true_and, and_true, List.getElem?_cons_zero, List.getElem?_cons_succ, List.set_cons_zero, List.set_cons_succ, Option.map, List.length_cons, List.length_nil, dParM, dmNil, dmD, dmL, setM, dLc_eq, dLc2_eq, dFor_eq, dSortSet, dSort, dListOf, dIsN, dNotN, isNo, dAug, dMulA, dgUnl, dSlT, onT, dEnum, dZip, dZipM, dRetL, dPar3, dRevT, dLstRg, dTupRg, dRg1, dRg2, dChainLe, List.nil_append, List.cons_append, if_true, if_false, dFrz, dLcO, dMin2D, dAppX, dParL, dParLL, dRepL, fMax3, dNewDic, dDicPut, dDicGet, dSortDic, onDic, onKey, dLcW, dZipX, dParR, dDead, dSortD, dSortDT, fNeS, fEqS, dgSet, dDGet, onDict_eq, onKeyD_int, onKeyD_str, dDIn, dSortDK, onDict1_eq, dDictL, dDictEn, dDictZip, onSq1_eq, onSq2_eq, onSq_t, onSq_l, onSq_o, dNewD, dDicI, dNewDik, dDikPut, onDik, dFrzD, dNew4, dIndexD, onLst_eq, dIfL, dOrT, dAndT, onTru_int, onTru_bool, onTru_none, onTru_tuple, onTru_list, dTupZip, dZip3, dFgt, fIsB, fNotB, fInA_l, fInA_t, fNotInA_l, fNotInA_t, List.map_cons, List.map_nil, fw0, fw1, fw2, fw3, fw4, fw5, fw6, fw7, fw8, fw9, fw10, fw11, fw12, fw13, fw14, fw15, dExtend, dExtendT, dLstDn, dMaxDf, dOp_ap, dIx_ap, dCatT_ap, dRepT_ap, items_l, items_t, items_o, ti_t, dgT_t, seqs_l, seqs_t, seqs_o, dSeqI_eq, wk_l, wk_t, wk_eP, wk_o, dTupOf_eq, tu_t, tu_l, tu_o, tu_eP, dTupA_eq, ta_t, ta_l, ta_o, ta_eP, items_eW, items_eB, items_eSc, items_eLm, items_eP, items_eL, items_pr, items_enc2, items_eTm, ti_eB, ti_eW, ti_eLm, ti_eP, dgT_eSc, dgT_eLm, dgT_eL, dgT_pr, dgT_enc2, dgT_eW, dgT_eTm, seqs_eP, on0, on1, on2, on3, on4, on5, on6, on7, on8, Function.comp]
    generalize fallQ w N (c : Int) = q at *
    cases q with
    | none => exact h2' rfl
    | some q => exact ⟨hn, h1' _ rfl⟩
  · exact hQ
set_option maxHeartbeats 4000000 in
theorem ok__law_night {f : Addr} {fd : FuncData} (W : Fun K "_law_night" "_law_night" s__law_night f fd) (T : Bi mg)
    {f__law_take : Addr} {fd__law_take : FuncData} (G__law_take : FnG P w K mg base CX0 1 f__law_take fd__law_take ["_law_bag_here", "_law_many"] (spB K TT [.d] S__law_take)) (g__law_take : mg "_law_take" = some (.ref f__law_take)) (k__law_take : PySem.W.keepIn K (.ref f__law_take) = true) (b__law_take : Binds K fd__law_take ["_law_bag_here", "_law_many"] [])
    {f__law_moment : Addr} {fd__law_moment : FuncData} (G__law_moment : FnG P w K mg base CX0 5 f__law_moment fd__law_moment ["_law_bag_here", "_law_show_here"] (spB K TT [.d] S__law_moment)) (g__law_moment : mg "_law_moment" = some (.ref f__law_moment)) (k__law_moment : PySem.W.keepIn K (.ref f__law_moment) = true) (b__law_moment : Binds K fd__law_moment ["_law_bag_here", "_law_show_here"] [])
    {f__law_part : Addr} {fd__law_part : FuncData} (G__law_part : FnG P w K mg base CX0 3 f__law_part fd__law_part ["_law_bag_here", "_law_clock"] (spB K TT [.d] S__law_part)) (g__law_part : mg "_law_part" = some (.ref f__law_part)) (k__law_part : PySem.W.keepIn K (.ref f__law_part) = true) (b__law_part : Binds K fd__law_part ["_law_bag_here", "_law_clock"] [])
    {f__law_wind : Addr} {fd__law_wind : FuncData} (G__law_wind : FnG P w K mg base CX0 3 f__law_wind fd__law_wind ["_law_bag_here", "_law_wind_here"] (spB K TT [.d] S__law_wind)) (g__law_wind : mg "_law_wind" = some (.ref f__law_wind)) (k__law_wind : PySem.W.keepIn K (.ref f__law_wind) = true) (b__law_wind : Binds K fd__law_wind ["_law_bag_here", "_law_wind_here"] []) :
    FnG P w K mg base CX0 6 f fd ["_law_bag_here", "_law_show_here", "_law_often"] (spB K TT [.d, .d] S__law_night) := by
  refine fnB W sc__law_night rfl fun cdv A out s H E Nn B hr hgd => ⟨_, _, (dss_cons (ds_new4 (i := 3) (j := 4) (k := 5) (l := 6) rfl (pgs_cons (pg_name (i := 3) sc__law_night.nd rfl (by first | exact Or.inl rfl | exact Or.inr rfl)) (pgs_cons (pg_name (i := 4) sc__law_night.nd rfl (by first | exact Or.inl rfl | exact Or.inr rfl)) (pgs_cons (pg_name (i := 5) sc__law_night.nd rfl (by first | exact Or.inl rfl | exact Or.inr rfl)) (pgs_cons (pg_name (i := 6) sc__law_night.nd rfl (by first | exact Or.inl rfl | exact Or.inr rfl)) pgs_nil)))) (nofixB (by decide)))
      (dss_cons (ds_for PassesOwn.never rfl (pdi_range1 rfl T.b_range (pda_cons (pd_callB call_len_seq sc_len rfl T.b_len (by decide +kernel) (pda_cons (pd_ix (pdv 1) pd_int (fun _ _ => rfl)) pda_nil)) pda_nil)) (pgd_name (i := 7) sc__law_night.nd) (dss_cons (ds_fgt (i := 8) (ds_dikPut (i := 4) (units1 hr.units) (pdv 7) (pd_tupleA rfl T.b_tuple (pda_cons (pd_l (pl_lc (own := [("_law_scene", 8)]) rfl sc__law_night.nd (pdi_seq (pd_ix (pdv 1) pd_int (fun _ _ => rfl))) (blkOk_by (own := [("_law_scene", 8)]) (N := nm__law_night) (sc := defScope s__law_night) (by decide +kernel)) (fun _ _ _ _ _ => (pgd_name (i := 8) sc__law_night.nd)) (fun _ _ _ _ _ => dts_nil) (fun _ _ _ _ _ => (pd_callBag G__law_part m__law_part (hr.mono (by decide)) hgd rfl g__law_part k__law_part b__law_part (pda_cons (pdv 0) (pda_cons (pd_ix (pd_ix (pdv 1) pd_int (fun _ _ => rfl)) pd_int (fun _ _ => rfl)) pda_nil)))))) pda_nil))) (fixB (by decide)))
      (dss_cons (ds_fgt (i := 9) (ds_dikPut (i := 5) (units1 hr.units) (pdv 7) (pd_tupleA rfl T.b_tuple (pda_cons (pd_l (pl_lc (own := [("_law_turn", 9)]) rfl sc__law_night.nd (pdi_range1 rfl T.b_range (pda_cons (pd_add (pd_callB call_len_seq sc_len rfl T.b_len (by decide +kernel) (pda_cons (pd_ix (pdv 1) pd_int (fun _ _ => rfl)) pda_nil)) pd_int) pda_nil)) (blkOk_by (own := [("_law_turn", 9)]) (N := nm__law_night) (sc := defScope s__law_night) (by decide +kernel)) (fun _ _ _ _ _ => (pgd_name (i := 9) sc__law_night.nd)) (fun _ _ _ _ _ => dts_nil) (fun _ _ _ _ _ => (pd_callBag G__law_wind m__law_wind (hr.mono (by decide)) hgd rfl g__law_wind k__law_wind b__law_wind (pda_cons (pdv 0) (pda_cons (pd_ix (pd_ix (pdv 1) pd_int (fun _ _ => rfl)) pd_int (fun _ _ => rfl)) pda_nil)))))) pda_nil))) (fixB (by decide)))
      (dss_cons (ds_set (i := 10) sc__law_night.nd (pd_callBag G__law_take m__law_take (hr.mono (by decide)) hgd rfl g__law_take k__law_take b__law_take (pda_cons (pdv 0) (pda_cons (pd_mul pd_int (pdv 2)) pda_nil))) (fixB (by decide)))
      (dss_cons (ds_if (pt_eq hr.units rfl (pdv 10) pd_int) (dss_one (ds_dikPut (i := 3) (units1 hr.units) (pdv 7) (pd_callBag G__law_moment m__law_moment (hr.mono (by decide)) hgd rfl g__law_moment k__law_moment b__law_moment (pda_cons (pdv 0) (pda_cons (pdv 1) pda_nil))))) dss_nil)
      (dss_one (ds_if (pt_eq hr.units rfl (pdv 10) pd_int) (dss_one (ds_dikPut (i := 6) (units1 hr.units) (pdv 7) (pd_callBag G__law_take m__law_take (hr.mono (by decide)) hgd rfl g__law_take k__law_take b__law_take (pda_cons (pdv 0) (pda_cons (pd_callB call_len_seq sc_len rfl T.b_len (by decide +kernel) (pda_cons (pd_ix (pdv 1) pd_int (fun _ _ => rfl)) pda_nil)) pda_nil))))) dss_nil)))))) (nofixB (by decide)))
      (dss_one (ds_frzD (i := 6) (ds_frzD (i := 5) (ds_frzD (i := 4) (ds_frzD (i := 3) (ds_ret (pd_tup (pda_cons (pdv 3) (pda_cons (pdv 4) (pda_cons (pdv 5) (pda_cons (pdv 6) pda_nil))))))))))))), ?_⟩
  clear W T hr hgd G__law_take g__law_take k__law_take b__law_take f__law_take fd__law_take G__law_moment g__law_moment k__law_moment b__law_moment f__law_moment fd__law_moment G__law_part g__law_part k__law_part b__law_part f__law_part fd__law_part G__law_wind g__law_wind k__law_wind b__law_wind f__law_wind fd__law_wind
  rintro bag xs Q hl ⟨⟨w, o⟩, m, hb, hm, rfl, ⟨h0, h1, h2, h3, h4⟩, hQ⟩
  clear hl
  replace hQ : ∀ z bag', (∃ N : Ngt, z = eN N ∧ NgtOk w N) → Bag (m + 400) bag' → Q z bag'   := hQ
  have hm : m + 400 < 2 ^ 60 := hm
  have e : (some (.own bag) :: rhoP (nm__law_night.length - 1) [.d, .d] [eW w, .int o] : Rho) = [some (.own bag), some (.d (eW w)), some (.d (.int o)), none, none, none, none, none, none, none, none] := rfl
  rw [e]
  clear e
  have ns := h0.ns
  have c0 := h0.ok.clk0; have c1 := h0.ok.clk1; have w0 := h0.ok.wind0; have w1 := h0.ok.wind1
  refine seqI fun kk hk => ?_
  try walk_at "K61Z0"
  rw [hk]
  clear hk
  refine seqI fun kk hk => ?_
  generalize hbd : dSeq (dFgt 8 _) _ = body
  try walk_at "K61Z0"
  rw [List.length_map]
  refine ⟨⟨by omega, by omega⟩, ?_⟩
  refine for_rng (S := List PyData × Ngt × Option Ent × Option Ent × Option Ent × Option Ent) 0 _ (fun s => [some (.own s.1), some (.d (eW w)), some (.d (.int o)), some (.dik (kI s.2.1.fk (s.2.1.fq.map fr))), some (.dik (kI (upI s.2.1.er.length) (s.2.1.er.map eEr))), some (.dik (kI (upI s.2.1.wi.length) (s.2.1.wi.map eWs))), some (.dik (kI s.2.1.lk (s.2.1.lv.map eI))), s.2.2.1, s.2.2.2.1, s.2.2.2.2.1, s.2.2.2.2.2]) (fun i s => Bag (m + 60 * i) s.1 ∧ NgtI w i s.2.1) (bag, ⟨[], [], [], [], [], []⟩, none, none, none, none) rfl ⟨hb, NgtI.nil w⟩ (fun i s hi hI C hC => ?_) fun s hs => ?_
  · obtain ⟨bg, N, s7, s8, s9, s10⟩ := s
    obtain ⟨hb1, hN⟩ := hI
    dsimp only at hb1 hN
    have il : i < w.pads.length := by omega
    have hC2 : ∀ (bg : List PyData) (N : Ngt) (s7 s8 s9 s10 : Option Ent), Bag (m + 60 * i + 60) bg → NgtI w (i + 1) N → C [some (.own bg), some (.d (eW w)), some (.d (.int o)), some (.dik (kI N.fk (N.fq.map fr))), some (.dik (kI (upI N.er.length) (N.er.map eEr))), some (.dik (kI (upI N.wi.length) (N.wi.map eWs))), some (.dik (kI N.lk (N.lv.map eI))), s7, s8, s9, s10] := fun bg N s7 s8 s9 s10 a b => hC (bg, N, s7, s8, s9, s10) ⟨by rw [Nat.mul_succ]; exact a, b⟩
    clear hC
    simp only [setR, List.set_cons_succ, List.set_cons_zero]
    rw [← hbd]
    clear hbd
    refine seqI fun kk4 hk4 => ?_
    try walk_at "K61Z0"
    refine lc_draw (n := 2) (w.sc.map eSc) (fun bg => [some (.own bg), some (.d (eW w)), some (.d (.int o)), some (.dik (kI N.fk (N.fq.map fr))), some (.dik (kI (upI N.er.length) (N.er.map eEr))), some (.dik (kI (upI N.wi.length) (N.wi.map eWs))), some (.dik (kI N.lk (N.lv.map eI))), some (.d (.int (0 + (i : Int)))), none, s9, s10]) (fun z => ∃ q, z = fr q ∧ Sz 12 q) bg _ hb1 rfl (fun _ => hv1 rfl) (by rw [List.length_map]; omega) (fun k x hx m' bag' _ hm' hb' C1 C2 f fk hc => ?_) fun zs bag2 hzl hzs hb2 => ?_
    · rw [List.length_map] at hm'
      try walk_at "K61Z0"
      refine u__law_part hb' (by omega) c0 (by omega) fun z bag3 hz hb3 => ?_
      try walk_at "K61Z2"
      exact ⟨fk, hc _ _ hz hb3⟩
    rw [List.length_map] at hb2 hzl
    try walk_at "K61Z2"
    obtain ⟨qs, rfl, hqs⟩ := as_enc fr (fun _ q => Sz 12 q) zs (fun i z hz => hzs z (List.mem_of_getElem? hz))
    refine ⟨by rw [kI_len (by rw [upI_len, List.length_map]), upI_len, hN.el]; omega, ?_⟩
    rw [show PyData.tuple (qs.map fr) = eEr qs from rfl, put_up hN.el]
    have hb3 : Bag (m + 60 * i + 8) bag2 := hb2.up (by omega)
    rw [List.length_map] at hzl
    have hN2 : (N.er ++ [qs]).length = i + 1 := by rw [List.length_append, hN.el]; rfl
    have hez : ∀ es ∈ N.er ++ [qs], es.length = w.sc.length ∧ ∀ q ∈ es, Sz 12 q := fun es he => by
      rcases List.mem_append.mp he with he | he
      · exact hN.ez es he
      · rw [List.mem_singleton.mp he]
        exact ⟨hzl, fun q hq => by obtain ⟨k, hk⟩ := List.mem_iff_getElem?.mp hq; exact hqs k q hk⟩
    generalize hER : N.er ++ [qs] = ER at *
    clear hqs hzs hb2
    rw [hk4]
    clear hk4
    refine seqI fun kk4 hk4 => ?_
    try walk_at "K61Z0"
    rw [List.length_map]
    refine ⟨⟨by omega, by omega⟩, ?_⟩
    have lrg : (rng 0 ((w.sc.length : Int) + 1).toNat).length = w.sc.length + 1 := by rw [rng_len]; omega
    refine lc_draw (n := 2) (rng 0 ((w.sc.length : Int) + 1).toNat) (fun bg => [some (.own bg), some (.d (eW w)), some (.d (.int o)), some (.dik (kI N.fk (N.fq.map fr))), some (.dik (kI (upI ER.length) (ER.map eEr))), some (.dik (kI (upI N.wi.length) (N.wi.map eWs))), some (.dik (kI N.lk (N.lv.map eI))), some (.d (.int (0 + (i : Int)))), none, none, s10]) (fun z => ∃ p, z = eWi p ∧ Sz 12 p.1 ∧ Sz 12 p.2) bag2 _ hb3 rfl (fun _ => hv1 rfl) (by omega) (fun k x hx m' bag' _ hm' hb' C1 C2 f fk hc => ?_) fun zs bag3 hzl2 hzs hb4 => ?_
    · try walk_at "K61Z0"
      refine u__law_wind hb' (by omega) w0 (by omega) fun z bag3 hz hb3 => ?_
      try walk_at "K61Z2"
      exact ⟨fk, hc _ _ hz hb3⟩
    try walk_at "K61Z2"
    obtain ⟨ws, rfl, hws⟩ := as_enc eWi (fun _ p => Sz 12 p.1 ∧ Sz 12 p.2) zs (fun i z hz => hzs z (List.mem_of_getElem? hz))
    refine ⟨by rw [kI_len (by rw [upI_len, List.length_map]), upI_len, hN.wl]; omega, ?_⟩
    rw [show PyData.tuple (ws.map eWi) = eWs ws from rfl, put_up hN.wl]
    have hb5 : Bag (m + 60 * i + 20) bag3 := hb4.up (by omega)
    rw [List.length_map] at hzl2
    have hW2 : (N.wi ++ [ws]).length = i + 1 := by rw [List.length_append, hN.wl]; rfl
    have hwz : ∀ v ∈ N.wi ++ [ws], v.length = w.sc.length + 1 ∧ ∀ p ∈ v, Sz 12 p.1 ∧ Sz 12 p.2 := fun v he => by
      rcases List.mem_append.mp he with he | he
      · exact hN.wz v he
      · rw [List.mem_singleton.mp he]
        exact ⟨by omega, fun q hq => by obtain ⟨k, hk⟩ := List.mem_iff_getElem?.mp hq; exact hws k q hk⟩
    generalize hWI : N.wi ++ [ws] = WI at *
    clear hws hzs hb4
    rw [hk4]
    clear hk4
    refine seqI fun kk4 hk4 => ?_
    try walk_at "K61Z0"
    have bo : Bd 4 o := bd_of 10 (by omega) (by omega)
    refine ⟨cmb (show Bd 2 2 by unfold Bd; decide) bo, u_take hb5 (by omega) (by omega) (by omega) fun v bag4 v0 v1 hb6 => ?_⟩
    try walk_at "K61Z0"
    rw [hk4]
    clear hk4
    refine seqI fun kk4 hk4 => ?_
    try walk_at "K61Z0"
    have tail : ∀ (FK : List Int) (FQ : List Rat) (bag5 : List PyData), Bag (m + 60 * i + 40) bag5 → FK.Pairwise (· < ·) → FK.length = FQ.length → (∀ k ∈ FK, 0 ≤ k ∧ k < (i + 1 : Nat)) → (∀ q ∈ FQ, Sz 60 q) → kk4 [some (Ent.own bag5), some (Ent.d (eW w)), some (Ent.d (PyData.int o)),
                some (Ent.dik (kI FK (FQ.map fr))),
                some (Ent.dik (kI (upI ER.length) (List.map eEr ER))),
                some (Ent.dik (kI (upI WI.length) (List.map eWs WI))), some (Ent.dik (kI N.lk (List.map eI N.lv))),
                some (Ent.d (PyData.int (0 + (i : Int)))), none, none, some (Ent.d (PyData.int v))] := fun FK FQ bag5 hb7 x1 x2 x3 x4 => by
      rw [hk4]
      clear hk4
      try walk_at "K61Z0"
      refine ⟨sh_int, sh_int, ?_⟩
      rw [eqv_int]
      refine ite_b (fun _ => ?_) fun _ => hC2 bag5 ⟨FK, FQ, ER, WI, N.lk, N.lv⟩ _ _ _ _ (hb7.up (by omega)) ⟨x1, x2, x3, x4, hN2, hez, hW2, hwz, hN.lu, hN.ll, wide_in hN.lin, hN.lz⟩
      rw [List.length_map]
      refine u_take hb7 (by omega) (by omega) (by omega) fun u bag6 u0 u1 hb8 => ?_
      obtain ⟨un, rfl⟩ : ∃ un : Nat, u = un := ⟨u.toNat, by omega⟩
      have ll4 : N.lk.length ≤ 100 := by
        have := (lt_nodup hN.lu).length_le_of_subset (l₂ := upI i) (fun k hk => upI_mem.mpr (hN.lin k hk))
        rw [upI_len] at this
        omega
      refine ⟨by rw [kI_len (by rw [List.length_map]; exact hN.ll)]; omega, ?_⟩
      rw [show PyData.int (un : Int) = eI un from rfl, put_on hN.ll hN.lin]
      refine hC2 bag6 ⟨FK, FQ, ER, WI, N.lk ++ [(i : Int)], N.lv ++ [un]⟩ _ _ _ _ (hb8.up (by omega)) ⟨x1, x2, x3, x4, hN2, hez, hW2, hwz, snoc_lt hN.lu hN.lin, by rw [List.length_append, List.length_append, hN.ll]; rfl, snoc_in hN.lin, fun k hk => ?_⟩
      rcases List.mem_append.mp hk with hk | hk
      · exact hN.lz k hk
      · rw [List.mem_singleton.mp hk]; omega
    refine ⟨sh_int, sh_int, ?_⟩
    rw [eqv_int]
    refine ite_b (fun _ => ?_) fun _ => tail N.fk N.fq bag4 (hb6.up (by omega)) hN.fu hN.fl (wide_in hN.fin) hN.fz
    refine u__law_moment hb6 (by omega) h0 h1 fun z bag5 hz hb7 => ?_
    obtain ⟨q, rfl, sq⟩ := hz
    have fl4 : N.fk.length ≤ 100 := by
      have := (lt_nodup hN.fu).length_le_of_subset (l₂ := upI i) (fun k hk => upI_mem.mpr (hN.fin k hk))
      rw [upI_len] at this
      omega
    refine ⟨by rw [kI_len (by rw [List.length_map]; exact hN.fl)]; omega, ?_⟩
    rw [put_on hN.fl hN.fin]
    refine tail (N.fk ++ [(i : Int)]) (N.fq ++ [q]) bag5 (hb7.up (by omega)) (snoc_lt hN.fu hN.fin) (by rw [List.length_append, List.length_append, hN.fl]; rfl) (snoc_in hN.fin) fun k hk => ?_
    rcases List.mem_append.mp hk with hk | hk
    · exact hN.fz k hk
    · rw [List.mem_singleton.mp hk]; exact sq
  · obtain ⟨bg, N, s7, s8, s9, s10⟩ := s
    obtain ⟨hb1, hN⟩ := hs
    dsimp only at hb1 hN
    rw [show ((w.pads.length : Nat) : Int).toNat = w.pads.length by omega] at hb1 hN
    show kk _
    rw [hk]
    clear hk
    try walk_at "K61Z0"
    rw [kvD_kI, kvD_kI, kvD_kI, kvD_kI]
    exact hQ _ _ ⟨N, rfl, hN⟩ (hb1.up (by omega))
set_option maxHeartbeats 4000000 in
theorem ok_law {f : Addr} {fd : FuncData} (W : Fun K "law" "law" s_law f fd) (T : Bi mg)
    {f__law_bag : Addr} {fd__law_bag : FuncData} (G__law_bag : FnG P w K mg base CX0 1 f__law_bag fd__law_bag ["_law_script"] (spF K TT [.ro] S__law_bag)) (g__law_bag : mg "_law_bag" = some (.ref f__law_bag)) (k__law_bag : PySem.W.keepIn K (.ref f__law_bag) = true) (b__law_bag : Binds K fd__law_bag ["_law_script"] [])
    {f__law_show : Addr} {fd__law_show : FuncData} (G__law_show : FnG P w K mg base CX0 4 f__law_show fd__law_show ["_law_bag_here", "_law_most_pads", "_law_most_scenes"] (spB K TT [.d, .d] S__law_show)) (g__law_show : mg "_law_show" = some (.ref f__law_show)) (k__law_show : PySem.W.keepIn K (.ref f__law_show) = true) (b__law_show : Binds K fd__law_show ["_law_bag_here", "_law_most_pads", "_law_most_scenes"] [])
    {f__law_night : Addr} {fd__law_night : FuncData} (G__law_night : FnG P w K mg base CX0 6 f__law_night fd__law_night ["_law_bag_here", "_law_show_here", "_law_often"] (spB K TT [.d, .d] S__law_night)) (g__law_night : mg "_law_night" = some (.ref f__law_night)) (k__law_night : PySem.W.keepIn K (.ref f__law_night) = true) (b__law_night : Binds K fd__law_night ["_law_bag_here", "_law_show_here", "_law_often"] [])
    {f_fall_of : Addr} {fd_fall_of : FuncData} (G_fall_of : FnG P w K mg base CX0 4 f_fall_of fd_fall_of ["show", "night", "carrier"] (spP K TT [.d, .d, .d] S_fall_of)) (g_fall_of : mg "fall_of" = some (.ref f_fall_of)) (k_fall_of : PySem.W.keepIn K (.ref f_fall_of) = true) (b_fall_of : Binds K fd_fall_of ["show", "night", "carrier"] [])
    {f__law_fall : Addr} {fd__law_fall : FuncData} (G__law_fall : FnG P w K mg base CX0 4 f__law_fall fd__law_fall ["_law_show_here", "_law_night_here", "_law_carrier"] (spP K TT [.d, .d, .d] S__law_fall)) (g__law_fall : mg "_law_fall" = some (.ref f__law_fall)) (k__law_fall : PySem.W.keepIn K (.ref f__law_fall) = true) (b__law_fall : Binds K fd__law_fall ["_law_show_here", "_law_night_here", "_law_carrier"] [])
    {f__law_alike : Addr} {fd__law_alike : FuncData} (G__law_alike : FnG P w K mg base CX0 1 f__law_alike fd__law_alike ["_law_found", "_law_due"] (spP K TT [.ro, .ro] S__law_alike)) (g__law_alike : mg "_law_alike" = some (.ref f__law_alike)) (k__law_alike : PySem.W.keepIn K (.ref f__law_alike) = true) (b__law_alike : Binds K fd__law_alike ["_law_found", "_law_due"] [])
    {f_struck : Addr} {fd_struck : FuncData} (G_struck : FnG P w K mg base CX0 6 f_struck fd_struck ["show", "night"] (spP K TT [.d, .d] S_struck)) (g_struck : mg "struck" = some (.ref f_struck)) (k_struck : PySem.W.keepIn K (.ref f_struck) = true) (b_struck : Binds K fd_struck ["show", "night"] []) :
    FnG P w K mg base CX0 7 f fd ["_law_script"] (spP K TT [.ro] S_law) := by
  refine fnP W sc_law rfl fun cdv A out s H E Nn hr hgd => ⟨_, _, (dss_cons (ds_setL (i := 1) sc_law.nd (pl_callF G__law_bag m__law_bag (hr.mono (by decide)) hgd rfl g__law_bag k__law_bag b__law_bag (pda_cons (pdv 0) pda_nil)) fixP)
      (dss_cons (ds_for PassesOwn.never rfl (pdi_range1 rfl T.b_range (pda_cons pd_int pda_nil)) (pgd_name (i := 2) sc_law.nd) (dss_cons (ds_set (i := 3) sc_law.nd (pd_callBag G__law_show m__law_show (hr.mono (by decide)) hgd rfl g__law_show k__law_show b__law_show (pda_cons (pdv 1) (pda_cons pd_int (pda_cons pd_int pda_nil)))) fixP)
      (dss_one (ds_for PassesOwn.never rfl (pdi_range1 rfl T.b_range (pda_cons pd_int pda_nil)) (pgd_name (i := 4) sc_law.nd) (dss_cons (ds_set (i := 5) sc_law.nd (pd_callBag G__law_night m__law_night (hr.mono (by decide)) hgd rfl g__law_night k__law_night b__law_night (pda_cons (pdv 1) (pda_cons (pdv 3) (pda_cons pd_int pda_nil)))) fixP)
      (dss_cons (ds_fgt (i := 8) (ds_par (i := 6) (j := 7) rfl sc_law.nd (pda_cons (pd_callB (call_reprD hgd hr.units) sc_reprD rfl T.b_repr (by decide +kernel) (pda_cons (pd_l (pl_lst (pda_cons (pdv 3) (pda_cons (pdv 5) pda_nil)))) pda_nil)) (pda_cons (pd_l (pl_lc (own := [("_law_one", 8)]) rfl sc_law.nd (pdi_range1 rfl T.b_range (pda_cons (pd_callB call_len_seq sc_len rfl T.b_len (by decide +kernel) (pda_cons (pd_ix (pdv 3) pd_int (fun _ _ => rfl)) pda_nil)) pda_nil)) (blkOk_by (own := [("_law_one", 8)]) (N := nm_law) (sc := defScope s_law) (by decide +kernel)) (fun _ _ _ _ _ => (pgd_name (i := 8) sc_law.nd)) (fun _ _ _ _ _ => dts_nil) (fun _ _ _ _ _ => (pd_callP G__law_fall m__law_fall (hr.mono (by decide)) hgd rfl g__law_fall k__law_fall b__law_fall (pda_cons (pdv 3) (pda_cons (pdv 5) (pda_cons (pdv 8) pda_nil))))))) pda_nil)) fixP fixP) fixP)
      (dss_cons (ds_fgt (i := 8) (ds_setLc (i := 9) (own := [("_law_one", 8)]) rfl sc_law.nd (pdi_range1 rfl T.b_range (pda_cons (pd_callB call_len_seq sc_len rfl T.b_len (by decide +kernel) (pda_cons (pd_ix (pdv 3) pd_int (fun _ _ => rfl)) pda_nil)) pda_nil)) (blkOk_by (own := [("_law_one", 8)]) (N := nm_law) (sc := defScope s_law) (by decide +kernel)) (fun _ _ _ _ _ => (pgd_name (i := 8) sc_law.nd)) (fun _ _ _ _ _ => dts_nil) (fun _ _ _ _ _ => (pd_callP G_fall_of m_fall_of (hr.mono (by decide)) hgd rfl g_fall_of k_fall_of b_fall_of (pda_cons (pdv 3) (pda_cons (pdv 5) (pda_cons (pdv 8) pda_nil))))) fixP) fixP)
      (dss_cons (ds_fgt (i := 11) (ds_fgt (i := 8) (ds_set (i := 10) sc_law.nd (pd_tupleA rfl T.b_tuple (pda_cons (pd_l (pl_lc (own := [("_law_one", 8), ("_law_fall_here", 11)]) rfl sc_law.nd (pdi_enum rfl T.b_enumerate (pda_cons (pdv 7) pda_nil)) (blkOk_by (own := [("_law_one", 8), ("_law_fall_here", 11)]) (N := nm_law) (sc := defScope s_law) (by decide +kernel)) (fun _ _ _ _ _ => (pgd_tup (n := 2) rfl (pgds_cons (pgd_name (i := 8) sc_law.nd) (pgds_cons (pgd_name (i := 11) sc_law.nd) pgds_nil)))) (fun _ _ _ _ _ => (dts_one (pt_notN (pdv 11)))) (fun _ _ _ _ _ => (pdv 8)))) pda_nil)) fixP) fixP) fixP)
      (dss_cons (ds_if (pt_w (pwd_or (pt_no (pt_v (pd_callP G__law_alike m__law_alike (hr.mono (by decide)) hgd rfl g__law_alike k__law_alike b__law_alike (pda_cons (pdv 9) (pda_cons (pdv 7) pda_nil))))) (pwd_or1 (pt_no (pt_v (pd_callP G__law_alike m__law_alike (hr.mono (by decide)) hgd rfl g__law_alike k__law_alike b__law_alike (pda_cons (pd_l (pl_repL (pd_l (pl_lst (pda_cons (pd_callP G_struck m_struck (hr.mono (by decide)) hgd rfl g_struck k_struck b_struck (pda_cons (pdv 3) (pda_cons (pdv 5) pda_nil))) pda_nil))) pd_int)) (pda_cons (pd_l (pl_repL (pd_l (pl_lst (pda_cons (pdv 10) pda_nil))) pd_int)) pda_nil)))))))) (dss_one (ds_ret pd_bl)) dss_nil)
      (dss_one (ds_if (pt_neS (pd_callB (call_reprD hgd hr.units) sc_reprD rfl T.b_repr (by decide +kernel) (pda_cons (pd_l (pl_lst (pda_cons (pdv 3) (pda_cons (pdv 5) pda_nil)))) pda_nil)) (pdv 6)) (dss_one (ds_ret pd_bl)) dss_nil))))))) nofixP))) nofixP)
      (dss_one (ds_ret pd_bl)))), ?_⟩
  clear W T hr hgd
  rintro xs Q hl ⟨ns, rfl, hQ⟩
  clear hl
  have e : rhoP nm_law.length [.ro] [.list (ns.map .int)] = [some (.ro (.list (ns.map .int))), none, none, none, none, none, none, none, none, none, none, none] := rfl
  rw [e]
  clear e
  refine seqI fun kk hk => ?_
  walk_at "K61Z0"
  refine ⟨ns, rfl, fun bag hb => ?_⟩
  rw [hk]
  refine seqI fun k2 hk2 => ?_
  walk_at "K61Z0"
  refine ⟨⟨by decide, by decide⟩, for_rng (S := List PyData × (Nat → Option Ent)) 0 _ (fun z => [some (.ro (.list (ns.map .int))), some (.own z.1), z.2 0, z.2 1, z.2 2, z.2 3, z.2 4, z.2 5, z.2 6, z.2 7, z.2 8, z.2 9]) (fun i z => Bag (3000 * i) z.1) (bag, fun _ => none) rfl hb (fun i z hi hI C hC => ?_) fun z hz => ?_⟩
  · have hC' : ∀ (b : List PyData) (a0 a1 a2 a3 a4 a5 a6 a7 a8 a9 : Option Ent), Bag (3000 * i + 3000) b → C [some (.ro (.list (ns.map .int))), some (.own b), a0, a1, a2, a3, a4, a5, a6, a7, a8, a9] := fun b a0 a1 a2 a3 a4 a5 a6 a7 a8 a9 h => hC (b, fun n => ([a0, a1, a2, a3, a4, a5, a6, a7, a8, a9] : List (Option Ent)).getD n none) (by rw [Nat.mul_succ]; exact h)
    clear hC
    have hi2 : i ≤ 1000 := by
      have : i < Int.toNat _ := hi
      exact Nat.le_trans (Nat.le_of_lt this) (by decide)
    simp only [setR, List.set_cons_succ, List.set_cons_zero]
    refine seqI fun kk3 hk3 => ?_
    try walk_at "K61Z0"
    refine u__law_show hI (by omega) (by decide) (by decide) (by decide) (by decide) fun zw bag1 hz hb1 => ?_
    obtain ⟨w, rfl, hw, hwl, hp3, hs3⟩ := hz
    have fw := fn_shw hw
    have ip : w.pads.length ≤ 8 := hw.np
    have n0 := hwl.ns0
    rw [hk3]
    clear hk3
    generalize hbd : dSeq (dAsg (dCallB _ S__law_night _) _) _ = body
    try walk_at "K61Z0"
    refine ⟨⟨by decide, by decide⟩, ?_⟩
    refine for_rng (S := List PyData × (Nat → Option Ent)) 0 _ (fun s => [some (.ro (.list (ns.map .int))), some (.own s.1), some (.d (.int (0 + (i : Int)))), some (.d (eW w)), s.2 4, s.2 5, s.2 6, s.2 7, s.2 8, s.2 9, s.2 10, s.2 11]) (fun j s => Bag (3000 * i + 2000 + 400 * j) s.1) (bag1, fun n => z.2 (n - 2)) rfl (hb1.up (by omega)) (fun j s hj hI2 C2 hC2 => ?_) fun s hs => ?_
    · obtain ⟨bg, sl⟩ := s
      have hb2 : Bag (3000 * i + 2000 + 400 * j) bg := hI2
      have j2 : j < 2 := hj
      have hC3 : ∀ (b : List PyData) (a4 a5 a6 a7 a8 a9 a10 a11 : Option Ent), Bag (3000 * i + 2000 + 400 * (j + 1)) b → C2 [some (.ro (.list (ns.map .int))), some (.own b), some (.d (.int (0 + (i : Int)))), some (.d (eW w)), a4, a5, a6, a7, a8, a9, a10, a11] := fun b a4 a5 a6 a7 a8 a9 a10 a11 h => hC2 (b, fun n => ([none, none, none, none, a4, a5, a6, a7, a8, a9, a10, a11] : List (Option Ent)).getD n none) h
      clear hC2
      dsimp only
      simp only [setR, List.set_cons_succ, List.set_cons_zero]
      rw [← hbd]
      clear hbd
      refine seqI fun kk4 hk4 => ?_
      try walk_at "K61Z0"
      refine u__law_night hb2 (by omega) hw hwl.ns0 (by omega) (by decide) (by decide) fun zn bag2 hz hb3 => ?_
      obtain ⟨N, rfl, hN⟩ := hz
      rw [hk4]
      clear hk4
      refine seqI fun kk4 hk4 => ?_
      try walk_at "K61Z0"
      refine ⟨plain_wN hw hN, ?_⟩
      rw [List.length_map]
      refine ⟨⟨by omega, by omega⟩, ?_⟩
      rw [show ((w.pads.length : Nat) : Int).toNat = w.pads.length by omega, rng_map]
      refine lc_map (List.range w.pads.length) _ (fun c : Nat => oR (fallQ w N c)) (hv1 rfl) (by rw [List.length_range]; omega) (fun k c hc C1 C4 n hn h1' => ?_) ?_
      · have cl := List.mem_range.mp (List.mem_of_getElem? hc)
        try walk_at "K61Z0"
        rw [Int.zero_add]
        refine u__law_fall hw hN cl ?_
        try walk_at "K61Z2"
        exact ⟨hn, h1'⟩
      try walk_at "K61Z2"
      rw [hk4]
      clear hk4
      refine seqI fun kk4 hk4 => ?_
      try walk_at "K61Z0"
      rw [List.length_map]
      refine ⟨⟨by omega, by omega⟩, ?_⟩
      rw [show ((w.pads.length : Nat) : Int).toNat = w.pads.length by omega, rng_map]
      refine lc_map (List.range w.pads.length) _ (fun c : Nat => oR (fallQ w N c)) (hv1 rfl) (by rw [List.length_range]; omega) (fun k c hc C1 C4 n hn h1' => ?_) ?_
      · have cl := List.mem_range.mp (List.mem_of_getElem? hc)
        try walk_at "K61Z0"
        rw [Int.zero_add]
        refine u_fall_of hw hN cl ?_
        try walk_at "K61Z2"
        exact ⟨hn, h1'⟩
      try walk_at "K61Z2"
      rw [hk4]
      clear hk4
      refine seqI fun kk4 hk4 => ?_
      try walk_at "K61Z0"
      rw [enumD_map, zipIdx_range, List.map_map]
      refine lc_fm (List.range w.pads.length) _ (fun c : Nat => if (fallQ w N c).isSome then some (.int (c : Int)) else none) (hv2 rfl rfl) (by rw [List.length_range]; omega) (fun k c hc C1 C4 n hn h1' h2' => ?_) ?_
      · try simp only [dSeq, dAsg, dCB, dCons, dNil, dVar, onVs, vals, val, slot, setR, fGcd, dIfS, dTV, onV2, fLt, fLe, fGt, fGe, fAdd, fSub, fMul, fDiv, fMod, fI0, dC, dUn, onV, fNeg, dNext, dRet, dTup, onD, dats, fDivZ, fI, fPow, Few, retP, fAbs, fInt, fMax, fMin, fLen, fSqrt, fEq, fNe, dNot, dAnd, dOr, dAndV, dOrV, dNotV, dIfE, dDrop, dRetN, dPar, noO, dSetL, dLst, dOfL, dOwnM, onOwn, onDat, kAppend, kInsert, dSetItem, dAddItem, onItems, onInt, dNoPart, dPart, dSlice, onL, litems, dSlL, dCat, onM, mitems, dRng1, dRng2, dCallP, dCallB, dCallF, noSelf, onArgs, dats2, dIsi, tyName, dYes, dgCons, dgNil, retB, dBreak, dCont, ne_eq, not_false_eq_true, true_and, and_true, List.getElem?_cons_zero, List.getElem?_cons_succ, List.set_cons_zero, List.set_cons_succ, Option.map, List.length_cons, List.length_nil, dParM, dmNil, dmD, dmL, setM, dLc_eq, dLc2_eq, dFor_eq, dSortSet, dSort, dListOf, dIsN, dNotN, isNo, dAug, dMulA, dgUnl, dSlT, onT, dEnum, dZip, dZipM, dRetL, dPar3, dRevT, dLstRg, dTupRg, dRg1, dRg2, dChainLe, List.nil_append, List.cons_append, if_true, if_false, dFrz, dLcO, dMin2D, dAppX, dParL, dParLL, dRepL, fMax3, dNewDic, dDicPut, dDicGet, dSortDic, onDic, onKey, dLcW, dZipX, dParR, dDead, dSortD, dSortDT, fNeS, fEqS, dgSet, dDGet, onDict_eq, onKeyD_int, onKeyD_str, dDIn, dSortDK, onDict1_eq, dDictL, dDictEn, dDictZip, onSq1_eq, onSq2_eq, onSq_t, onSq_l, onSq_o, dNewD, dDicI, dNewDik, dDikPut, onDik, dFrzD, dNew4, dIndexD, onLst_eq, dIfL, dOrT, dAndT, onTru_int, onTru_bool, onTru_none, onTru_tuple, onTru_list, dTupZip, dZip3, dFgt, fIsB, fNotB, fInA_l, fInA_t, fNotInA_l, fNotInA_t, List.map_cons, List.map_nil, fw0, fw1, fw2, fw3, fw4, fw5, fw6, fw7, fw8, fw9, fw10, fw11, fw12, fw13, fw14, fw15, dExtend, dExtendT, dLstDn, dMaxDf, dOp_ap, dIx_ap, dCatT_ap, dRepT_ap, items_l, items_t, items_o, ti_t, dgT_t, seqs_l, seqs_t, seqs_o, dSeqI_eq, wk_l, wk_t, wk_eP, wk_o, dTupOf_eq, tu_t, tu_l, tu_o, tu_eP, dTupA_eq, ta_t, ta_l, ta_o, ta_eP, items_eW, items_eB, items_eSc, items_eLm, items_eP, items_eL, items_pr, items_enc2, items_eTm, ti_eB, ti_eW, ti_eLm, ti_eP, dgT_eSc, dgT_eLm, dgT_eL, dgT_pr, dgT_enc2, dgT_eW, dgT_eTm, seqs_eP, on0, on1, on2, on3, on4, on5, on6, on7, on8, Function.comp]
        generalize fallQ w N (c : Int) = q at *
        cases q with
        | none => exact h2' rfl
        | some q => exact ⟨hn, h1' _ rfl⟩
      rw [show (List.range w.pads.length).filterMap (fun c : Nat => if (fallQ w N c).isSome then some (PyData.int (c : Int)) else none) = struckL w N from rfl]
      try walk_at "K61Z2"
      rw [hk4]
      clear hk4
      refine seqI fun kk4 hk4 => ?_
      try walk_at "K61Z0"
      refine u_alike (fn_falls hw hN).fine ?_
      try walk_at "K61Z5"
      refine u_struck hw hN ?_
      refine ⟨⟨by decide, by decide, by decide⟩, ⟨by decide, by decide, by decide⟩, ?_⟩
      refine u_alike (Fn.list (k := 1) (c := 10000) (n := 2) (xs := repD 2 [PyData.tuple (struckL w N)]) (all2 (fn_struck hw) (fn_struck hw)) (Nat.le_refl _)).fine ?_
      try walk_at "K61Z5"
      rw [hk4]
      clear hk4
      try walk_at "K61Z0"
      refine ⟨plain_wN hw hN, ?_⟩
      simp only [decide_true, Bool.not_true, Bool.false_eq_true, if_false, ne_eq, not_true_eq_false]
      exact hC3 bag2 _ _ _ _ _ _ _ _ (hb3.up (by omega))
    · clear hbd
      show C _
      apply hC'
      exact (show Bag _ s.1 from hs).up (by show _ ≤ _; omega)
  · rw [hk2]
    walk_at "K61Z0"
    exact hQ
end
set_option maxHeartbeats 8000000 in
theorem all_mk {l : PySem.W.OpenLaw} {w : World} {K : PySem.W.Frag} {h : Heap} {mg : Str → Option Value} {fa : Addr} (X : K.In h) (G : h.Ns mainGlobals mg) (hfa : mg "law" = some (.ref fa))
    {od1 an1 : Option Addr} {sl1 : Array (Option Value)} {oc1 kV1 dc1 pm1 cd1 ct1 : Value} {f1 : Addr}
    (a1 : PySem.W.nsIn K mainGlobals "reduced" = some (some (.ref f1))) (l1 : K.lookup f1 = some ⟨oc1, od1, .func (PySem.W.fnOf "reduced" "reduced" (defArgs s_reduced) (defBody s_reduced) (defScope s_reduced) .none kV1 dc1 pm1 an1 cd1 ct1), sl1⟩) (c1 : PySem.W.codeIn K cd1 "reduced" = true) (k1 : PySem.W.keepIn K (.ref f1) = true)
    {od2 an2 : Option Addr} {sl2 : Array (Option Value)} {oc2 kV2 dc2 pm2 cd2 ct2 : Value} {f2 : Addr}
    (a2 : PySem.W.nsIn K mainGlobals "added" = some (some (.ref f2))) (l2 : K.lookup f2 = some ⟨oc2, od2, .func (PySem.W.fnOf "added" "added" (defArgs s_added) (defBody s_added) (defScope s_added) .none kV2 dc2 pm2 an2 cd2 ct2), sl2⟩) (c2 : PySem.W.codeIn K cd2 "added" = true) (k2 : PySem.W.keepIn K (.ref f2) = true)
    {od3 an3 : Option Addr} {sl3 : Array (Option Value)} {oc3 kV3 dc3 pm3 cd3 ct3 : Value} {f3 : Addr}
    (a3 : PySem.W.nsIn K mainGlobals "compared" = some (some (.ref f3))) (l3 : K.lookup f3 = some ⟨oc3, od3, .func (PySem.W.fnOf "compared" "compared" (defArgs s_compared) (defBody s_compared) (defScope s_compared) .none kV3 dc3 pm3 an3 cd3 ct3), sl3⟩) (c3 : PySem.W.codeIn K cd3 "compared" = true) (k3 : PySem.W.keepIn K (.ref f3) = true)
    {od4 an4 : Option Addr} {sl4 : Array (Option Value)} {oc4 kV4 dc4 pm4 cd4 ct4 : Value} {f4 : Addr}
    (a4 : PySem.W.nsIn K mainGlobals "least_of" = some (some (.ref f4))) (l4 : K.lookup f4 = some ⟨oc4, od4, .func (PySem.W.fnOf "least_of" "least_of" (defArgs s_least_of) (defBody s_least_of) (defScope s_least_of) .none kV4 dc4 pm4 an4 cd4 ct4), sl4⟩) (c4 : PySem.W.codeIn K cd4 "least_of" = true) (k4 : PySem.W.keepIn K (.ref f4) = true)
    {od5 an5 : Option Addr} {sl5 : Array (Option Value)} {oc5 kV5 dc5 pm5 cd5 ct5 : Value} {f5 : Addr}
    (a5 : PySem.W.nsIn K mainGlobals "lag_of" = some (some (.ref f5))) (l5 : K.lookup f5 = some ⟨oc5, od5, .func (PySem.W.fnOf "lag_of" "lag_of" (defArgs s_lag_of) (defBody s_lag_of) (defScope s_lag_of) .none kV5 dc5 pm5 an5 cd5 ct5), sl5⟩) (c5 : PySem.W.codeIn K cd5 "lag_of" = true) (k5 : PySem.W.keepIn K (.ref f5) = true)
    {od6 an6 : Option Addr} {sl6 : Array (Option Value)} {oc6 kV6 dc6 pm6 cd6 ct6 : Value} {f6 : Addr}
    (a6 : PySem.W.nsIn K mainGlobals "hold_needed" = some (some (.ref f6))) (l6 : K.lookup f6 = some ⟨oc6, od6, .func (PySem.W.fnOf "hold_needed" "hold_needed" (defArgs s_hold_needed) (defBody s_hold_needed) (defScope s_hold_needed) .none kV6 dc6 pm6 an6 cd6 ct6), sl6⟩) (c6 : PySem.W.codeIn K cd6 "hold_needed" = true) (k6 : PySem.W.keepIn K (.ref f6) = true)
    {od7 an7 : Option Addr} {sl7 : Array (Option Value)} {oc7 kV7 dc7 pm7 cd7 ct7 : Value} {f7 : Addr}
    (a7 : PySem.W.nsIn K mainGlobals "timeline" = some (some (.ref f7))) (l7 : K.lookup f7 = some ⟨oc7, od7, .func (PySem.W.fnOf "timeline" "timeline" (defArgs s_timeline) (defBody s_timeline) (defScope s_timeline) .none kV7 dc7 pm7 an7 cd7 ct7), sl7⟩) (c7 : PySem.W.codeIn K cd7 "timeline" = true) (k7 : PySem.W.keepIn K (.ref f7) = true)
    {od8 an8 : Option Addr} {sl8 : Array (Option Value)} {oc8 kV8 dc8 pm8 cd8 ct8 : Value} {f8 : Addr}
    (a8 : PySem.W.nsIn K mainGlobals "fall_of" = some (some (.ref f8))) (l8 : K.lookup f8 = some ⟨oc8, od8, .func (PySem.W.fnOf "fall_of" "fall_of" (defArgs s_fall_of) (defBody s_fall_of) (defScope s_fall_of) .none kV8 dc8 pm8 an8 cd8 ct8), sl8⟩) (c8 : PySem.W.codeIn K cd8 "fall_of" = true) (k8 : PySem.W.keepIn K (.ref f8) = true)
    {od9 an9 : Option Addr} {sl9 : Array (Option Value)} {oc9 kV9 dc9 pm9 cd9 ct9 : Value} {f9 : Addr}
    (a9 : PySem.W.nsIn K mainGlobals "falls_of" = some (some (.ref f9))) (l9 : K.lookup f9 = some ⟨oc9, od9, .func (PySem.W.fnOf "falls_of" "falls_of" (defArgs s_falls_of) (defBody s_falls_of) (defScope s_falls_of) .none kV9 dc9 pm9 an9 cd9 ct9), sl9⟩) (c9 : PySem.W.codeIn K cd9 "falls_of" = true) (k9 : PySem.W.keepIn K (.ref f9) = true)
    {od10 an10 : Option Addr} {sl10 : Array (Option Value)} {oc10 kV10 dc10 pm10 cd10 ct10 : Value} {f10 : Addr}
    (a10 : PySem.W.nsIn K mainGlobals "struck" = some (some (.ref f10))) (l10 : K.lookup f10 = some ⟨oc10, od10, .func (PySem.W.fnOf "struck" "struck" (defArgs s_struck) (defBody s_struck) (defScope s_struck) .none kV10 dc10 pm10 an10 cd10 ct10), sl10⟩) (c10 : PySem.W.codeIn K cd10 "struck" = true) (k10 : PySem.W.keepIn K (.ref f10) = true)
    {od11 an11 : Option Addr} {sl11 : Array (Option Value)} {oc11 kV11 dc11 pm11 cd11 ct11 : Value} {f11 : Addr}
    (a11 : PySem.W.nsIn K mainGlobals "_law_bag" = some (some (.ref f11))) (l11 : K.lookup f11 = some ⟨oc11, od11, .func (PySem.W.fnOf "_law_bag" "_law_bag" (defArgs s__law_bag) (defBody s__law_bag) (defScope s__law_bag) .none kV11 dc11 pm11 an11 cd11 ct11), sl11⟩) (c11 : PySem.W.codeIn K cd11 "_law_bag" = true) (k11 : PySem.W.keepIn K (.ref f11) = true)
    {od12 an12 : Option Addr} {sl12 : Array (Option Value)} {oc12 kV12 dc12 pm12 cd12 ct12 : Value} {f12 : Addr}
    (a12 : PySem.W.nsIn K mainGlobals "_law_take" = some (some (.ref f12))) (l12 : K.lookup f12 = some ⟨oc12, od12, .func (PySem.W.fnOf "_law_take" "_law_take" (defArgs s__law_take) (defBody s__law_take) (defScope s__law_take) .none kV12 dc12 pm12 an12 cd12 ct12), sl12⟩) (c12 : PySem.W.codeIn K cd12 "_law_take" = true) (k12 : PySem.W.keepIn K (.ref f12) = true)
    {od13 an13 : Option Addr} {sl13 : Array (Option Value)} {oc13 kV13 dc13 pm13 cd13 ct13 : Value} {f13 : Addr}
    (a13 : PySem.W.nsIn K mainGlobals "_law_some" = some (some (.ref f13))) (l13 : K.lookup f13 = some ⟨oc13, od13, .func (PySem.W.fnOf "_law_some" "_law_some" (defArgs s__law_some) (defBody s__law_some) (defScope s__law_some) .none kV13 dc13 pm13 an13 cd13 ct13), sl13⟩) (c13 : PySem.W.codeIn K cd13 "_law_some" = true) (k13 : PySem.W.keepIn K (.ref f13) = true)
    {od14 an14 : Option Addr} {sl14 : Array (Option Value)} {oc14 kV14 dc14 pm14 cd14 ct14 : Value} {f14 : Addr}
    (a14 : PySem.W.nsIn K mainGlobals "_law_alike" = some (some (.ref f14))) (l14 : K.lookup f14 = some ⟨oc14, od14, .func (PySem.W.fnOf "_law_alike" "_law_alike" (defArgs s__law_alike) (defBody s__law_alike) (defScope s__law_alike) .none kV14 dc14 pm14 an14 cd14 ct14), sl14⟩) (c14 : PySem.W.codeIn K cd14 "_law_alike" = true) (k14 : PySem.W.keepIn K (.ref f14) = true)
    {od15 an15 : Option Addr} {sl15 : Array (Option Value)} {oc15 kV15 dc15 pm15 cd15 ct15 : Value} {f15 : Addr}
    (a15 : PySem.W.nsIn K mainGlobals "_law_over" = some (some (.ref f15))) (l15 : K.lookup f15 = some ⟨oc15, od15, .func (PySem.W.fnOf "_law_over" "_law_over" (defArgs s__law_over) (defBody s__law_over) (defScope s__law_over) .none kV15 dc15 pm15 an15 cd15 ct15), sl15⟩) (c15 : PySem.W.codeIn K cd15 "_law_over" = true) (k15 : PySem.W.keepIn K (.ref f15) = true)
    {od16 an16 : Option Addr} {sl16 : Array (Option Value)} {oc16 kV16 dc16 pm16 cd16 ct16 : Value} {f16 : Addr}
    (a16 : PySem.W.nsIn K mainGlobals "_law_added" = some (some (.ref f16))) (l16 : K.lookup f16 = some ⟨oc16, od16, .func (PySem.W.fnOf "_law_added" "_law_added" (defArgs s__law_added) (defBody s__law_added) (defScope s__law_added) .none kV16 dc16 pm16 an16 cd16 ct16), sl16⟩) (c16 : PySem.W.codeIn K cd16 "_law_added" = true) (k16 : PySem.W.keepIn K (.ref f16) = true)
    {od17 an17 : Option Addr} {sl17 : Array (Option Value)} {oc17 kV17 dc17 pm17 cd17 ct17 : Value} {f17 : Addr}
    (a17 : PySem.W.nsIn K mainGlobals "_law_is_below" = some (some (.ref f17))) (l17 : K.lookup f17 = some ⟨oc17, od17, .func (PySem.W.fnOf "_law_is_below" "_law_is_below" (defArgs s__law_is_below) (defBody s__law_is_below) (defScope s__law_is_below) .none kV17 dc17 pm17 an17 cd17 ct17), sl17⟩) (c17 : PySem.W.codeIn K cd17 "_law_is_below" = true) (k17 : PySem.W.keepIn K (.ref f17) = true)
    {od18 an18 : Option Addr} {sl18 : Array (Option Value)} {oc18 kV18 dc18 pm18 cd18 ct18 : Value} {f18 : Addr}
    (a18 : PySem.W.nsIn K mainGlobals "_law_reach" = some (some (.ref f18))) (l18 : K.lookup f18 = some ⟨oc18, od18, .func (PySem.W.fnOf "_law_reach" "_law_reach" (defArgs s__law_reach) (defBody s__law_reach) (defScope s__law_reach) .none kV18 dc18 pm18 an18 cd18 ct18), sl18⟩) (c18 : PySem.W.codeIn K cd18 "_law_reach" = true) (k18 : PySem.W.keepIn K (.ref f18) = true)
    {od19 an19 : Option Addr} {sl19 : Array (Option Value)} {oc19 kV19 dc19 pm19 cd19 ct19 : Value} {f19 : Addr}
    (a19 : PySem.W.nsIn K mainGlobals "_law_lag" = some (some (.ref f19))) (l19 : K.lookup f19 = some ⟨oc19, od19, .func (PySem.W.fnOf "_law_lag" "_law_lag" (defArgs s__law_lag) (defBody s__law_lag) (defScope s__law_lag) .none kV19 dc19 pm19 an19 cd19 ct19), sl19⟩) (c19 : PySem.W.codeIn K cd19 "_law_lag" = true) (k19 : PySem.W.keepIn K (.ref f19) = true)
    {od20 an20 : Option Addr} {sl20 : Array (Option Value)} {oc20 kV20 dc20 pm20 cd20 ct20 : Value} {f20 : Addr}
    (a20 : PySem.W.nsIn K mainGlobals "_law_is_enough" = some (some (.ref f20))) (l20 : K.lookup f20 = some ⟨oc20, od20, .func (PySem.W.fnOf "_law_is_enough" "_law_is_enough" (defArgs s__law_is_enough) (defBody s__law_is_enough) (defScope s__law_is_enough) .none kV20 dc20 pm20 an20 cd20 ct20), sl20⟩) (c20 : PySem.W.codeIn K cd20 "_law_is_enough" = true) (k20 : PySem.W.keepIn K (.ref f20) = true)
    {od21 an21 : Option Addr} {sl21 : Array (Option Value)} {oc21 kV21 dc21 pm21 cd21 ct21 : Value} {f21 : Addr}
    (a21 : PySem.W.nsIn K mainGlobals "_law_first_enough" = some (some (.ref f21))) (l21 : K.lookup f21 = some ⟨oc21, od21, .func (PySem.W.fnOf "_law_first_enough" "_law_first_enough" (defArgs s__law_first_enough) (defBody s__law_first_enough) (defScope s__law_first_enough) .none kV21 dc21 pm21 an21 cd21 ct21), sl21⟩) (c21 : PySem.W.codeIn K cd21 "_law_first_enough" = true) (k21 : PySem.W.keepIn K (.ref f21) = true)
    {od22 an22 : Option Addr} {sl22 : Array (Option Value)} {oc22 kV22 dc22 pm22 cd22 ct22 : Value} {f22 : Addr}
    (a22 : PySem.W.nsIn K mainGlobals "_law_needed" = some (some (.ref f22))) (l22 : K.lookup f22 = some ⟨oc22, od22, .func (PySem.W.fnOf "_law_needed" "_law_needed" (defArgs s__law_needed) (defBody s__law_needed) (defScope s__law_needed) .none kV22 dc22 pm22 an22 cd22 ct22), sl22⟩) (c22 : PySem.W.codeIn K cd22 "_law_needed" = true) (k22 : PySem.W.keepIn K (.ref f22) = true)
    {od23 an23 : Option Addr} {sl23 : Array (Option Value)} {oc23 kV23 dc23 pm23 cd23 ct23 : Value} {f23 : Addr}
    (a23 : PySem.W.nsIn K mainGlobals "_law_times" = some (some (.ref f23))) (l23 : K.lookup f23 = some ⟨oc23, od23, .func (PySem.W.fnOf "_law_times" "_law_times" (defArgs s__law_times) (defBody s__law_times) (defScope s__law_times) .none kV23 dc23 pm23 an23 cd23 ct23), sl23⟩) (c23 : PySem.W.codeIn K cd23 "_law_times" = true) (k23 : PySem.W.keepIn K (.ref f23) = true)
    {od24 an24 : Option Addr} {sl24 : Array (Option Value)} {oc24 kV24 dc24 pm24 cd24 ct24 : Value} {f24 : Addr}
    (a24 : PySem.W.nsIn K mainGlobals "_law_writing" = some (some (.ref f24))) (l24 : K.lookup f24 = some ⟨oc24, od24, .func (PySem.W.fnOf "_law_writing" "_law_writing" (defArgs s__law_writing) (defBody s__law_writing) (defScope s__law_writing) .none kV24 dc24 pm24 an24 cd24 ct24), sl24⟩) (c24 : PySem.W.codeIn K cd24 "_law_writing" = true) (k24 : PySem.W.keepIn K (.ref f24) = true)
    {od25 an25 : Option Addr} {sl25 : Array (Option Value)} {oc25 kV25 dc25 pm25 cd25 ct25 : Value} {f25 : Addr}
    (a25 : PySem.W.nsIn K mainGlobals "_law_rows" = some (some (.ref f25))) (l25 : K.lookup f25 = some ⟨oc25, od25, .func (PySem.W.fnOf "_law_rows" "_law_rows" (defArgs s__law_rows) (defBody s__law_rows) (defScope s__law_rows) .none kV25 dc25 pm25 an25 cd25 ct25), sl25⟩) (c25 : PySem.W.codeIn K cd25 "_law_rows" = true) (k25 : PySem.W.keepIn K (.ref f25) = true)
    {od26 an26 : Option Addr} {sl26 : Array (Option Value)} {oc26 kV26 dc26 pm26 cd26 ct26 : Value} {f26 : Addr}
    (a26 : PySem.W.nsIn K mainGlobals "_law_picture" = some (some (.ref f26))) (l26 : K.lookup f26 = some ⟨oc26, od26, .func (PySem.W.fnOf "_law_picture" "_law_picture" (defArgs s__law_picture) (defBody s__law_picture) (defScope s__law_picture) .none kV26 dc26 pm26 an26 cd26 ct26), sl26⟩) (c26 : PySem.W.codeIn K cd26 "_law_picture" = true) (k26 : PySem.W.keepIn K (.ref f26) = true)
    {od27 an27 : Option Addr} {sl27 : Array (Option Value)} {oc27 kV27 dc27 pm27 cd27 ct27 : Value} {f27 : Addr}
    (a27 : PySem.W.nsIn K mainGlobals "_law_show_bounds" = some (some (.ref f27))) (l27 : K.lookup f27 = some ⟨oc27, od27, .func (PySem.W.fnOf "_law_show_bounds" "_law_show_bounds" (defArgs s__law_show_bounds) (defBody s__law_show_bounds) (defScope s__law_show_bounds) .none kV27 dc27 pm27 an27 cd27 ct27), sl27⟩) (c27 : PySem.W.codeIn K cd27 "_law_show_bounds" = true) (k27 : PySem.W.keepIn K (.ref f27) = true)
    {od28 an28 : Option Addr} {sl28 : Array (Option Value)} {oc28 kV28 dc28 pm28 cd28 ct28 : Value} {f28 : Addr}
    (a28 : PySem.W.nsIn K mainGlobals "_law_show_of" = some (some (.ref f28))) (l28 : K.lookup f28 = some ⟨oc28, od28, .func (PySem.W.fnOf "_law_show_of" "_law_show_of" (defArgs s__law_show_of) (defBody s__law_show_of) (defScope s__law_show_of) .none kV28 dc28 pm28 an28 cd28 ct28), sl28⟩) (c28 : PySem.W.codeIn K cd28 "_law_show_of" = true) (k28 : PySem.W.keepIn K (.ref f28) = true)
    {od29 an29 : Option Addr} {sl29 : Array (Option Value)} {oc29 kV29 dc29 pm29 cd29 ct29 : Value} {f29 : Addr}
    (a29 : PySem.W.nsIn K mainGlobals "_law_show" = some (some (.ref f29))) (l29 : K.lookup f29 = some ⟨oc29, od29, .func (PySem.W.fnOf "_law_show" "_law_show" (defArgs s__law_show) (defBody s__law_show) (defScope s__law_show) .none kV29 dc29 pm29 an29 cd29 ct29), sl29⟩) (c29 : PySem.W.codeIn K cd29 "_law_show" = true) (k29 : PySem.W.keepIn K (.ref f29) = true)
    {od30 an30 : Option Addr} {sl30 : Array (Option Value)} {oc30 kV30 dc30 pm30 cd30 ct30 : Value} {f30 : Addr}
    (a30 : PySem.W.nsIn K mainGlobals "_law_part" = some (some (.ref f30))) (l30 : K.lookup f30 = some ⟨oc30, od30, .func (PySem.W.fnOf "_law_part" "_law_part" (defArgs s__law_part) (defBody s__law_part) (defScope s__law_part) .none kV30 dc30 pm30 an30 cd30 ct30), sl30⟩) (c30 : PySem.W.codeIn K cd30 "_law_part" = true) (k30 : PySem.W.keepIn K (.ref f30) = true)
    {od31 an31 : Option Addr} {sl31 : Array (Option Value)} {oc31 kV31 dc31 pm31 cd31 ct31 : Value} {f31 : Addr}
    (a31 : PySem.W.nsIn K mainGlobals "_law_wind" = some (some (.ref f31))) (l31 : K.lookup f31 = some ⟨oc31, od31, .func (PySem.W.fnOf "_law_wind" "_law_wind" (defArgs s__law_wind) (defBody s__law_wind) (defScope s__law_wind) .none kV31 dc31 pm31 an31 cd31 ct31), sl31⟩) (c31 : PySem.W.codeIn K cd31 "_law_wind" = true) (k31 : PySem.W.keepIn K (.ref f31) = true)
    {od32 an32 : Option Addr} {sl32 : Array (Option Value)} {oc32 kV32 dc32 pm32 cd32 ct32 : Value} {f32 : Addr}
    (a32 : PySem.W.nsIn K mainGlobals "_law_moment" = some (some (.ref f32))) (l32 : K.lookup f32 = some ⟨oc32, od32, .func (PySem.W.fnOf "_law_moment" "_law_moment" (defArgs s__law_moment) (defBody s__law_moment) (defScope s__law_moment) .none kV32 dc32 pm32 an32 cd32 ct32), sl32⟩) (c32 : PySem.W.codeIn K cd32 "_law_moment" = true) (k32 : PySem.W.keepIn K (.ref f32) = true)
    {od33 an33 : Option Addr} {sl33 : Array (Option Value)} {oc33 kV33 dc33 pm33 cd33 ct33 : Value} {f33 : Addr}
    (a33 : PySem.W.nsIn K mainGlobals "_law_night" = some (some (.ref f33))) (l33 : K.lookup f33 = some ⟨oc33, od33, .func (PySem.W.fnOf "_law_night" "_law_night" (defArgs s__law_night) (defBody s__law_night) (defScope s__law_night) .none kV33 dc33 pm33 an33 cd33 ct33), sl33⟩) (c33 : PySem.W.codeIn K cd33 "_law_night" = true) (k33 : PySem.W.keepIn K (.ref f33) = true)
    {od34 an34 : Option Addr} {sl34 : Array (Option Value)} {oc34 kV34 dc34 pm34 cd34 ct34 : Value} {f34 : Addr}
    (a34 : PySem.W.nsIn K mainGlobals "_law_fall" = some (some (.ref f34))) (l34 : K.lookup f34 = some ⟨oc34, od34, .func (PySem.W.fnOf "_law_fall" "_law_fall" (defArgs s__law_fall) (defBody s__law_fall) (defScope s__law_fall) .none kV34 dc34 pm34 an34 cd34 ct34), sl34⟩) (c34 : PySem.W.codeIn K cd34 "_law_fall" = true) (k34 : PySem.W.keepIn K (.ref f34) = true)
    {od35 an35 : Option Addr} {sl35 : Array (Option Value)} {oc35 kV35 dc35 pm35 cd35 ct35 : Value} {f35 : Addr}
    (a35 : PySem.W.nsIn K mainGlobals "law" = some (some (.ref f35))) (l35 : K.lookup f35 = some ⟨oc35, od35, .func (PySem.W.fnOf "law" "law" (defArgs s_law) (defBody s_law) (defScope s_law) .none kV35 dc35 pm35 an35 cd35 ct35), sl35⟩) (c35 : PySem.W.codeIn K cd35 "law" = true) (k35 : PySem.W.keepIn K (.ref f35) = true)
    (z_tuple : PySem.W.nsIn K mainGlobals "tuple" = some none)
    (z_len : PySem.W.nsIn K mainGlobals "len" = some none)
    (z_range : PySem.W.nsIn K mainGlobals "range" = some none)
    (z_enumerate : PySem.W.nsIn K mainGlobals "enumerate" = some none)
    (z_abs : PySem.W.nsIn K mainGlobals "abs" = some none)
    (z_int : PySem.W.nsIn K mainGlobals "int" = some none)
    (z_repr : PySem.W.nsIn K mainGlobals "repr" = some none)
    (z_max : PySem.W.nsIn K mainGlobals "max" = some none)
    (z_zip : PySem.W.nsIn K mainGlobals "zip" = some none)
    (z_sorted : PySem.W.nsIn K mainGlobals "sorted" = some none)
    (z_list : PySem.W.nsIn K mainGlobals "list" = some none)
    (y_gcd : PySem.W.nsIn K mainGlobals "gcd" = some (some (.builtin "math.gcd"))) :
    ∃ fd : FuncData, (∀ (s : Shared) (v : Value), BindsTo s fd ⟨[v], []⟩ [("_law_script", v)]) ∧ ∀ base : Heap, K.In base → base.Ns mainGlobals mg → FnG l.prog w K mg base CX0 7 fa fd ["_law_script"] (spP K [] [.ro] S_law) := by
  have e := hfa.symm.trans (PySem.W.mg_of X G a35)
  cases e
  have T : Bi mg := ⟨PySem.W.mg_none_of X G z_tuple, PySem.W.mg_none_of X G z_len, PySem.W.mg_none_of X G z_range, PySem.W.mg_none_of X G z_enumerate, PySem.W.mg_none_of X G z_abs, PySem.W.mg_none_of X G z_int, PySem.W.mg_none_of X G z_repr, PySem.W.mg_none_of X G z_max, PySem.W.mg_none_of X G z_zip, PySem.W.mg_none_of X G z_sorted, PySem.W.mg_none_of X G z_list, PySem.W.mg_of X G y_gcd⟩
  have F1 := fun_mk (st := s_reduced) l1 c1 k1
  have b1 := F1.binds (ps := ["n", "d"]) fun _ _ _ _ _ _ us hl => match us, hl with | [_, _], _ => rfl
  have F2 := fun_mk (st := s_added) l2 c2 k2
  have b2 := F2.binds (ps := ["one", "other"]) fun _ _ _ _ _ _ us hl => match us, hl with | [_, _], _ => rfl
  have F3 := fun_mk (st := s_compared) l3 c3 k3
  have b3 := F3.binds (ps := ["one", "other"]) fun _ _ _ _ _ _ us hl => match us, hl with | [_, _], _ => rfl
  have F4 := fun_mk (st := s_least_of) l4 c4 k4
  have b4 := F4.binds (ps := ["fractions"]) fun _ _ _ _ _ _ us hl => match us, hl with | [_], _ => rfl
  have F5 := fun_mk (st := s_lag_of) l5 c5 k5
  have b5 := F5.binds (ps := ["bounds"]) fun _ _ _ _ _ _ us hl => match us, hl with | [_], _ => rfl
  have F6 := fun_mk (st := s_hold_needed) l6 c6 k6
  have b6 := F6.binds (ps := ["bounds"]) fun _ _ _ _ _ _ us hl => match us, hl with | [_], _ => rfl
  have F7 := fun_mk (st := s_timeline) l7 c7 k7
  have b7 := F7.binds (ps := ["show"]) fun _ _ _ _ _ _ us hl => match us, hl with | [_], _ => rfl
  have F8 := fun_mk (st := s_fall_of) l8 c8 k8
  have b8 := F8.binds (ps := ["show", "night", "carrier"]) fun _ _ _ _ _ _ us hl => match us, hl with | [_, _, _], _ => rfl
  have F9 := fun_mk (st := s_falls_of) l9 c9 k9
  have b9 := F9.binds (ps := ["show", "night"]) fun _ _ _ _ _ _ us hl => match us, hl with | [_, _], _ => rfl
  have F10 := fun_mk (st := s_struck) l10 c10 k10
  have b10 := F10.binds (ps := ["show", "night"]) fun _ _ _ _ _ _ us hl => match us, hl with | [_, _], _ => rfl
  have F11 := fun_mk (st := s__law_bag) l11 c11 k11
  have b11 := F11.binds (ps := ["_law_script"]) fun _ _ _ _ _ _ us hl => match us, hl with | [_], _ => rfl
  have F12 := fun_mk (st := s__law_take) l12 c12 k12
  have b12 := F12.binds (ps := ["_law_bag_here", "_law_many"]) fun _ _ _ _ _ _ us hl => match us, hl with | [_, _], _ => rfl
  have F13 := fun_mk (st := s__law_some) l13 c13 k13
  have b13 := F13.binds (ps := ["_law_bag_here", "_law_things"]) fun _ _ _ _ _ _ us hl => match us, hl with | [_, _], _ => rfl
  have F14 := fun_mk (st := s__law_alike) l14 c14 k14
  have b14 := F14.binds (ps := ["_law_found", "_law_due"]) fun _ _ _ _ _ _ us hl => match us, hl with | [_, _], _ => rfl
  have F15 := fun_mk (st := s__law_over) l15 c15 k15
  have b15 := F15.binds (ps := ["_law_n", "_law_d"]) fun _ _ _ _ _ _ us hl => match us, hl with | [_, _], _ => rfl
  have F16 := fun_mk (st := s__law_added) l16 c16 k16
  have b16 := F16.binds (ps := ["_law_x", "_law_y"]) fun _ _ _ _ _ _ us hl => match us, hl with | [_, _], _ => rfl
  have F17 := fun_mk (st := s__law_is_below) l17 c17 k17
  have b17 := F17.binds (ps := ["_law_x", "_law_y"]) fun _ _ _ _ _ _ us hl => match us, hl with | [_, _], _ => rfl
  have F18 := fun_mk (st := s__law_reach) l18 c18 k18
  have b18 := F18.binds (ps := ["_law_bounds"]) fun _ _ _ _ _ _ us hl => match us, hl with | [_], _ => rfl
  have F19 := fun_mk (st := s__law_lag) l19 c19 k19
  have b19 := F19.binds (ps := ["_law_bounds"]) fun _ _ _ _ _ _ us hl => match us, hl with | [_], _ => rfl
  have F20 := fun_mk (st := s__law_is_enough) l20 c20 k20
  have b20 := F20.binds (ps := ["_law_bounds", "_law_ticks"]) fun _ _ _ _ _ _ us hl => match us, hl with | [_, _], _ => rfl
  have F21 := fun_mk (st := s__law_first_enough) l21 c21 k21
  have b21 := F21.binds (ps := ["_law_bounds", "_law_most"]) fun _ _ _ _ _ _ us hl => match us, hl with | [_, _], _ => rfl
  have F22 := fun_mk (st := s__law_needed) l22 c22 k22
  have b22 := F22.binds (ps := ["_law_bounds"]) fun _ _ _ _ _ _ us hl => match us, hl with | [_], _ => rfl
  have F23 := fun_mk (st := s__law_times) l23 c23 k23
  have b23 := F23.binds (ps := ["_law_show_here"]) fun _ _ _ _ _ _ us hl => match us, hl with | [_], _ => rfl
  have F24 := fun_mk (st := s__law_writing) l24 c24 k24
  have b24 := F24.binds (ps := ["_law_show_here", "_law_scene"]) fun _ _ _ _ _ _ us hl => match us, hl with | [_, _], _ => rfl
  have F25 := fun_mk (st := s__law_rows) l25 c25 k25
  have b25 := F25.binds (ps := ["_law_picture_here", "_law_spacing"]) fun _ _ _ _ _ _ us hl => match us, hl with | [_, _], _ => rfl
  have F26 := fun_mk (st := s__law_picture) l26 c26 k26
  have b26 := F26.binds (ps := ["_law_bag_here", "_law_spacing", "_law_deep", "_law_most"]) fun _ _ _ _ _ _ us hl => match us, hl with | [_, _, _, _], _ => rfl
  have F27 := fun_mk (st := s__law_show_bounds) l27 c27 k27
  have b27 := F27.binds (ps := ["_law_bag_here"]) fun _ _ _ _ _ _ us hl => match us, hl with | [_], _ => rfl
  have F28 := fun_mk (st := s__law_show_of) l28 c28 k28
  have b28 := F28.binds (ps := ["_law_bag_here", "_law_bounds", "_law_pads", "_law_scenes", "_law_more"]) fun _ _ _ _ _ _ us hl => match us, hl with | [_, _, _, _, _], _ => rfl
  have F29 := fun_mk (st := s__law_show) l29 c29 k29
  have b29 := F29.binds (ps := ["_law_bag_here", "_law_most_pads", "_law_most_scenes"]) fun _ _ _ _ _ _ us hl => match us, hl with | [_, _, _], _ => rfl
  have F30 := fun_mk (st := s__law_part) l30 c30 k30
  have b30 := F30.binds (ps := ["_law_bag_here", "_law_clock"]) fun _ _ _ _ _ _ us hl => match us, hl with | [_, _], _ => rfl
  have F31 := fun_mk (st := s__law_wind) l31 c31 k31
  have b31 := F31.binds (ps := ["_law_bag_here", "_law_wind_here"]) fun _ _ _ _ _ _ us hl => match us, hl with | [_, _], _ => rfl
  have F32 := fun_mk (st := s__law_moment) l32 c32 k32
  have b32 := F32.binds (ps := ["_law_bag_here", "_law_show_here"]) fun _ _ _ _ _ _ us hl => match us, hl with | [_, _], _ => rfl
  have F33 := fun_mk (st := s__law_night) l33 c33 k33
  have b33 := F33.binds (ps := ["_law_bag_here", "_law_show_here", "_law_often"]) fun _ _ _ _ _ _ us hl => match us, hl with | [_, _, _], _ => rfl
  have F34 := fun_mk (st := s__law_fall) l34 c34 k34
  have b34 := F34.binds (ps := ["_law_show_here", "_law_night_here", "_law_carrier"]) fun _ _ _ _ _ _ us hl => match us, hl with | [_, _, _], _ => rfl
  have F35 := fun_mk (st := s_law) l35 c35 k35
  have b35 := F35.binds (ps := ["_law_script"]) fun _ _ _ _ _ _ us hl => match us, hl with | [_], _ => rfl
  refine ⟨PySem.W.fnOf "law" "law" (defArgs s_law) (defBody s_law) (defScope s_law) .none kV35 dc35 pm35 an35 cd35 ct35, fun s v => .of_eq rfl, fun base _ _ => ?_⟩
  have G1 := ok_reduced (P := l.prog) (w := w) (base := base) (TT := []) F1 T 
  have G3 := ok_compared (P := l.prog) (w := w) (base := base) (TT := []) F3 T 
  have G5 := ok_lag_of (P := l.prog) (w := w) (base := base) (TT := []) F5 T 
  have G11 := ok__law_bag (P := l.prog) (w := w) (base := base) (TT := []) F11 T 
  have G12 := ok__law_take (P := l.prog) (w := w) (base := base) (TT := []) F12 T 
  have G14 := ok__law_alike (P := l.prog) (w := w) (base := base) (TT := []) F14 T 
  have G15 := ok__law_over (P := l.prog) (w := w) (base := base) (TT := []) F15 T 
  have G17 := ok__law_is_below (P := l.prog) (w := w) (base := base) (TT := []) F17 T 
  have G18 := ok__law_reach (P := l.prog) (w := w) (base := base) (TT := []) F18 T 
  have G19 := ok__law_lag (P := l.prog) (w := w) (base := base) (TT := []) F19 T 
  have G25 := ok__law_rows (P := l.prog) (w := w) (base := base) (TT := []) F25 T 
  have G2 := ok_added (P := l.prog) (w := w) (base := base) (TT := []) F2 T G1 (PySem.W.mg_of X G a1) k1 b1
  have G4 := ok_least_of (P := l.prog) (w := w) (base := base) (TT := []) F4 T G3 (PySem.W.mg_of X G a3) k3 b3
  have G6 := ok_hold_needed (P := l.prog) (w := w) (base := base) (TT := []) F6 T G5 (PySem.W.mg_of X G a5) k5 b5
  have G13 := ok__law_some (P := l.prog) (w := w) (base := base) (TT := []) F13 T G12 (PySem.W.mg_of X G a12) k12 b12
  have G16 := ok__law_added (P := l.prog) (w := w) (base := base) (TT := []) F16 T G15 (PySem.W.mg_of X G a15) k15 b15
  have G20 := ok__law_is_enough (P := l.prog) (w := w) (base := base) (TT := []) F20 T G18 (PySem.W.mg_of X G a18) k18 b18 G19 (PySem.W.mg_of X G a19) k19 b19
  have G22 := ok__law_needed (P := l.prog) (w := w) (base := base) (TT := []) F22 T G19 (PySem.W.mg_of X G a19) k19 b19
  have G7 := ok_timeline (P := l.prog) (w := w) (base := base) (TT := []) F7 T G6 (PySem.W.mg_of X G a6) k6 b6
  have G21 := ok__law_first_enough (P := l.prog) (w := w) (base := base) (TT := []) F21 T G19 (PySem.W.mg_of X G a19) k19 b19 G20 (PySem.W.mg_of X G a20) k20 b20
  have G23 := ok__law_times (P := l.prog) (w := w) (base := base) (TT := []) F23 T G22 (PySem.W.mg_of X G a22) k22 b22
  have G26 := ok__law_picture (P := l.prog) (w := w) (base := base) (TT := []) F26 T G25 (PySem.W.mg_of X G a25) k25 b25 G13 (PySem.W.mg_of X G a13) k13 b13 G12 (PySem.W.mg_of X G a12) k12 b12
  have G27 := ok__law_show_bounds (P := l.prog) (w := w) (base := base) (TT := []) F27 T G13 (PySem.W.mg_of X G a13) k13 b13 G12 (PySem.W.mg_of X G a12) k12 b12
  have G28 := ok__law_show_of (P := l.prog) (w := w) (base := base) (TT := []) F28 T G13 (PySem.W.mg_of X G a13) k13 b13
  have G30 := ok__law_part (P := l.prog) (w := w) (base := base) (TT := []) F30 T G13 (PySem.W.mg_of X G a13) k13 b13 G15 (PySem.W.mg_of X G a15) k15 b15
  have G31 := ok__law_wind (P := l.prog) (w := w) (base := base) (TT := []) F31 T G13 (PySem.W.mg_of X G a13) k13 b13 G15 (PySem.W.mg_of X G a15) k15 b15
  have G8 := ok_fall_of (P := l.prog) (w := w) (base := base) (TT := []) F8 T G4 (PySem.W.mg_of X G a4) k4 b4 G2 (PySem.W.mg_of X G a2) k2 b2 G5 (PySem.W.mg_of X G a5) k5 b5 G7 (PySem.W.mg_of X G a7) k7 b7
  have G24 := ok__law_writing (P := l.prog) (w := w) (base := base) (TT := []) F24 T G19 (PySem.W.mg_of X G a19) k19 b19 G23 (PySem.W.mg_of X G a23) k23 b23
  have G29 := ok__law_show (P := l.prog) (w := w) (base := base) (TT := []) F29 T G27 (PySem.W.mg_of X G a27) k27 b27 G21 (PySem.W.mg_of X G a21) k21 b21 G28 (PySem.W.mg_of X G a28) k28 b28 G26 (PySem.W.mg_of X G a26) k26 b26 G13 (PySem.W.mg_of X G a13) k13 b13 G12 (PySem.W.mg_of X G a12) k12 b12 G22 (PySem.W.mg_of X G a22) k22 b22
  have G34 := ok__law_fall (P := l.prog) (w := w) (base := base) (TT := []) F34 T G16 (PySem.W.mg_of X G a16) k16 b16 G17 (PySem.W.mg_of X G a17) k17 b17 G19 (PySem.W.mg_of X G a19) k19 b19 G23 (PySem.W.mg_of X G a23) k23 b23
  have G9 := ok_falls_of (P := l.prog) (w := w) (base := base) (TT := []) F9 T G8 (PySem.W.mg_of X G a8) k8 b8
  have G32 := ok__law_moment (P := l.prog) (w := w) (base := base) (TT := []) F32 T G23 (PySem.W.mg_of X G a23) k23 b23 G13 (PySem.W.mg_of X G a13) k13 b13 G24 (PySem.W.mg_of X G a24) k24 b24 G16 (PySem.W.mg_of X G a16) k16 b16 G17 (PySem.W.mg_of X G a17) k17 b17
  have G10 := ok_struck (P := l.prog) (w := w) (base := base) (TT := []) F10 T G9 (PySem.W.mg_of X G a9) k9 b9
  have G33 := ok__law_night (P := l.prog) (w := w) (base := base) (TT := []) F33 T G12 (PySem.W.mg_of X G a12) k12 b12 G32 (PySem.W.mg_of X G a32) k32 b32 G30 (PySem.W.mg_of X G a30) k30 b30 G31 (PySem.W.mg_of X G a31) k31 b31
  exact ok_law F35 T G11 (PySem.W.mg_of X G a11) k11 b11 G29 (PySem.W.mg_of X G a29) k29 b29 G33 (PySem.W.mg_of X G a33) k33 b33 G8 (PySem.W.mg_of X G a8) k8 b8 G34 (PySem.W.mg_of X G a34) k34 b34 G14 (PySem.W.mg_of X G a14) k14 b14 G10 (PySem.W.mg_of X G a10) k10 b10
theorem walk {l : PySem.W.OpenLaw} {q : Program} {loose : List Str} {XP : (Str → Option Value) → Heap → Prop} {YP : World → Heap → Prop} {d : DefRec} {K : Params → PySem.W.Frag} (hn : l.most = some 63) (hdf : d.params.defaults = [])
    (hY : ∀ (w : World) (h : Heap), YP w h → (K w.params).In h)
    (F : ∀ (w : World) (mg : Str → Option Value) (fa : Addr) (h : Heap), (K w.params).In h → h.Ns mainGlobals mg → mg d.name = some (.ref fa) →
      ∃ fd : FuncData, (∀ (s : Shared) (u : Value), BindsTo s fd ⟨[u], []⟩ [("_law_script", u)]) ∧ ∀ base : Heap, (K w.params).In base → base.Ns mainGlobals mg → FnG l.prog w (K w.params) mg base CX0 7 fa fd ["_law_script"] (spP (K w.params) [] [.ro] S_law)) :
    PySem.W.WalkO q loose XP YP l.row.toRowW d [] (fun f vs => PySem.call f vs) :=
  walk_goes (n := 63) (k := 7) (x := "_law_script") (sp := fun K => spP K [] [.ro] S_law) hn (by decide) hdf ⟨rfl, by decide, by decide⟩ hY F fun K H a ns hl hS => law_args (fun p hp => nomatch hp) hl hS m_law law_spec
end K61
open PySem PySem.W PyProof.Rows
set_option maxRecDepth 100000 in
set_option maxHeartbeats 0 in
theorem PySem.Challenge.cw_lampsaloft_k61_falls_and_who_is_struck_holds : PySem.Challenge.rw_lampsaloft_k61_falls_and_who_is_struck.Holds := by
  w_on; o_law; k_head; (case hw => w_witness2)
  k_fill
  refine K61.walk (l := PySem.Challenge.rw_lampsaloft_k61_falls_and_who_is_struck) rfl rfl (fun w h Y => PySem.W.kIn_of Y) ?F
  case F =>
    intro w mg fa h KX G hmg
    refine' K61.all_mk KX G hmg ?a1 ?l1 ?c1 ?k1 ?a2 ?l2 ?c2 ?k2 ?a3 ?l3 ?c3 ?k3 ?a4 ?l4 ?c4 ?k4 ?a5 ?l5 ?c5 ?k5 ?a6 ?l6 ?c6 ?k6 ?a7 ?l7 ?c7 ?k7 ?a8 ?l8 ?c8 ?k8 ?a9 ?l9 ?c9 ?k9 ?a10 ?l10 ?c10 ?k10 ?a11 ?l11 ?c11 ?k11 ?a12 ?l12 ?c12 ?k12 ?a13 ?l13 ?c13 ?k13 ?a14 ?l14 ?c14 ?k14 ?a15 ?l15 ?c15 ?k15 ?a16 ?l16 ?c16 ?k16 ?a17 ?l17 ?c17 ?k17 ?a18 ?l18 ?c18 ?k18 ?a19 ?l19 ?c19 ?k19 ?a20 ?l20 ?c20 ?k20 ?a21 ?l21 ?c21 ?k21 ?a22 ?l22 ?c22 ?k22 ?a23 ?l23 ?c23 ?k23 ?a24 ?l24 ?c24 ?k24 ?a25 ?l25 ?c25 ?k25 ?a26 ?l26 ?c26 ?k26 ?a27 ?l27 ?c27 ?k27 ?a28 ?l28 ?c28 ?k28 ?a29 ?l29 ?c29 ?k29 ?a30 ?l30 ?c30 ?k30 ?a31 ?l31 ?c31 ?k31 ?a32 ?l32 ?c32 ?k32 ?a33 ?l33 ?c33 ?k33 ?a34 ?l34 ?c34 ?k34 ?a35 ?l35 ?c35 ?k35 ?z_tuple ?z_len ?z_range ?z_enumerate ?z_abs ?z_int ?z_repr ?z_max ?z_zip ?z_sorted ?z_list ?y_gcd
    (case a1 => k_is)
    (case l1 => k_is)
    (case c1 => k_is)
    (case k1 => k_is)
    (case a2 => k_is)
    (case l2 => k_is)
    (case c2 => k_is)
    (case k2 => k_is)
    (case a3 => k_is)
    (case l3 => k_is)
    (case c3 => k_is)
    (case k3 => k_is)
    (case a4 => k_is)
    (case l4 => k_is)
    (case c4 => k_is)
    (case k4 => k_is)
    (case a5 => k_is)
    (case l5 => k_is)
    (case c5 => k_is)
    (case k5 => k_is)
    (case a6 => k_is)
    (case l6 => k_is)
    (case c6 => k_is)
    (case k6 => k_is)
    (case a7 => k_is)
    (case l7 => k_is)
    (case c7 => k_is)
    (case k7 => k_is)
    (case a8 => k_is)
    (case l8 => k_is)
    (case c8 => k_is)
    (case k8 => k_is)
    (case a9 => k_is)
    (case l9 => k_is)
    (case c9 => k_is)
    (case k9 => k_is)
    (case a10 => k_is)
    (case l10 => k_is)
    (case c10 => k_is)
    (case k10 => k_is)
    (case a11 => k_is)
    (case l11 => k_is)
    (case c11 => k_is)
    (case k11 => k_is)
    (case a12 => k_is)
    (case l12 => k_is)
    (case c12 => k_is)
    (case k12 => k_is)
    (case a13 => k_is)
    (case l13 => k_is)
    (case c13 => k_is)
    (case k13 => k_is)
    (case a14 => k_is)
    (case l14 => k_is)
    (case c14 => k_is)
    (case k14 => k_is)
    (case a15 => k_is)
    (case l15 => k_is)
    (case c15 => k_is)
    (case k15 => k_is)
    (case a16 => k_is)
    (case l16 => k_is)
    (case c16 => k_is)
    (case k16 => k_is)
    (case a17 => k_is)
    (case l17 => k_is)
    (case c17 => k_is)
    (case k17 => k_is)
    (case a18 => k_is)
    (case l18 => k_is)
    (case c18 => k_is)
    (case k18 => k_is)
    (case a19 => k_is)
    (case l19 => k_is)
    (case c19 => k_is)
    (case k19 => k_is)
    (case a20 => k_is)
    (case l20 => k_is)
    (case c20 => k_is)
    (case k20 => k_is)
    (case a21 => k_is)
    (case l21 => k_is)
    (case c21 => k_is)
    (case k21 => k_is)
    (case a22 => k_is)
    (case l22 => k_is)
    (case c22 => k_is)
    (case k22 => k_is)
    (case a23 => k_is)
    (case l23 => k_is)
    (case c23 => k_is)
    (case k23 => k_is)
    (case a24 => k_is)
    (case l24 => k_is)
    (case c24 => k_is)
    (case k24 => k_is)
    (case a25 => k_is)
    (case l25 => k_is)
    (case c25 => k_is)
    (case k25 => k_is)
    (case a26 => k_is)
    (case l26 => k_is)
    (case c26 => k_is)
    (case k26 => k_is)
    (case a27 => k_is)
    (case l27 => k_is)
    (case c27 => k_is)
    (case k27 => k_is)
    (case a28 => k_is)
    (case l28 => k_is)
    (case c28 => k_is)
    (case k28 => k_is)
    (case a29 => k_is)
    (case l29 => k_is)
    (case c29 => k_is)
    (case k29 => k_is)
    (case a30 => k_is)
    (case l30 => k_is)
    (case c30 => k_is)
    (case k30 => k_is)
    (case a31 => k_is)
    (case l31 => k_is)
    (case c31 => k_is)
    (case k31 => k_is)
    (case a32 => k_is)
    (case l32 => k_is)
    (case c32 => k_is)
    (case k32 => k_is)
    (case a33 => k_is)
    (case l33 => k_is)
    (case c33 => k_is)
    (case k33 => k_is)
    (case a34 => k_is)
    (case l34 => k_is)
    (case c34 => k_is)
    (case k34 => k_is)
    (case a35 => k_is)
    (case l35 => k_is)
    (case c35 => k_is)
    (case k35 => k_is)
    (case z_tuple => k_is)
    (case z_len => k_is)
    (case z_range => k_is)
    (case z_enumerate => k_is)
    (case z_abs => k_is)
    (case z_int => k_is)
    (case z_repr => k_is)
    (case z_max => k_is)
    (case z_zip => k_is)
    (case z_sorted => k_is)
    (case z_list => k_is)
    (case y_gcd => k_is)
