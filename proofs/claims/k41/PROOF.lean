import PyProof.Rows.All
import Wide.All
import OpenK.AllK
import Wide.FinOn
import HandS.ForMost
import HandS.Wide
import HandS.Gcd
import HandS.Walk
import HandS.TupAny
import HandS.TupMul
import HandS.Lambda
import HandS.IsInst
import HandS.More
import KE.KMathG
import Flt.RightSqrt
import PyProof.StrLawsRepr
import HandS.Deep
import HandS.Zip
import HandS.Style
import PyProof.EnumMake
import KE.GoesMore
import HandS.SortRule
import HandS.TupSets
import HandS.SortInts
import PyProof.Rows.SortShell
import PyProof.SumAny
import KE.SortData
import KE.DataMinMax
import HandS.SortKw
import PyProof.StrBlock2
import HandS.Conv
import KE.KDictZip
import PyProof.CollectWalk
import HandS.NoneIn
import HandS.Flt
import KE.KDictSum
import KE.KDictCopyH
import HandS.Nested
import KE.KNestM
import PySem.Challenge.RW_lampsaloft_k41_greatest_near_and_least_s
set_option Elab.async false
set_option linter.all false
set_option maxRecDepth 100000
namespace DV
open PySem PySem.Spec PyProof.Rows L2
open LamX (ExtN TabS Tabs CodeO)
def LkL (K : PySem.W.Frag) (N : Addr → Prop) (H : Hp) (a : Addr) (xs : List V) : Prop := H a = some (.lst xs) ∧ ¬ N a
def LkT (K : PySem.W.Frag) (N : Addr → Prop) (H : Hp) (a : Addr) (xs : List V) : Prop := (Rd H a (.tup xs) ∧ ¬ N a) ∨ SqT K (fun _ => none) a xs
theorem sql_none {K : PySem.W.Frag} {H : Hp} {a : Addr} {xs : List V} (h : SqL K (fun _ => none) a xs) : SqL K H a xs := by
  rcases h with (h | ⟨o, h⟩) | h
  · cases h
  · cases h
  · exact .inr h
theorem sqt_none {K : PySem.W.Frag} {H : Hp} {a : Addr} {xs : List V} (h : SqT K (fun _ => none) a xs) : SqT K H a xs := by
  rcases h with (h | ⟨o, h⟩) | h
  · cases h
  · cases h
  · exact .inr h
theorem LkL.sq {K : PySem.W.Frag} {N : Addr → Prop} {H : Hp} {a : Addr} {xs : List V} (h : LkL K N H a xs) : SqL K H a xs := .of h.1
theorem LkT.sq {K : PySem.W.Frag} {N : Addr → Prop} {H : Hp} {a : Addr} {xs : List V} (h : LkT K N H a xs) : SqT K H a xs := by
  rcases h with ⟨h, _⟩ | h
  · exact .inl h
  · exact sqt_none h
/-- no table of code objects -/
def nt (o : HO) : Prop := ∀ ps, o ≠ .tbl ps
theorem nt_lst {xs : List V} : nt (.lst xs) := fun _ z => nomatch z
theorem nt_tup {xs : List V} : nt (.tup xs) := fun _ z => nomatch z
theorem nt_frz {o : Obj} {u : HO} : nt (.frz o u) := fun _ z => nomatch z
theorem nt_dT {xs : List (List L2.Key × V)} : nt (.dT xs) := fun _ z => nomatch z
/-- from one heap to the next: all but N stands; N grows by new ones alone -/
structure Go (N N' : Addr → Prop) (H H' : Hp) : Prop where
  st : ∀ a o, ¬ N a → H a = some o → nt o → H' a = some o
  nw : ∀ a, N' a → N a ∨ H a = none
theorem Rd.go {N N' : Addr → Prop} {H H' : Hp} (g : Go N N' H H') {a : Addr} {u : HO} (h : Rd H a u) (n : ¬ N a) (hu : nt u) : Rd H' a u ∧ ¬ N' a := by
  refine ⟨?_, fun z => ?_⟩
  · rcases h with h | ⟨o, h⟩
    · exact .inl (g.st _ _ n h hu)
    · exact .inr ⟨o, g.st _ _ n h nt_frz⟩
  · rcases g.nw a z with z | z
    · exact n z
    · rcases h with h | ⟨o, h⟩
      · rw [z] at h; cases h
      · rw [z] at h; cases h
theorem LkL.go {K : PySem.W.Frag} {N N' : Addr → Prop} {H H' : Hp} (g : Go N N' H H') {a : Addr} {xs : List V} (h : LkL K N H a xs) : LkL K N' H' a xs := by
  refine ⟨g.st _ _ h.2 h.1 nt_lst, fun z => ?_⟩
  rcases g.nw a z with z | z
  · exact h.2 z
  · have := h.1; rw [z] at this; cases this
theorem LkT.go {K : PySem.W.Frag} {N N' : Addr → Prop} {H H' : Hp} (g : Go N N' H H') {a : Addr} {xs : List V} (h : LkT K N H a xs) : LkT K N' H' a xs := by
  rcases h with ⟨h, n⟩ | h
  · exact .inl (Rd.go g h n nt_tup)
  · exact .inr h
mutual
def Im (K : PySem.W.Frag) (N : Addr → Prop) (H : Hp) : PyData → V → Prop
  | .none, v => v = .non
  | .bool b, v => v = .bl b
  | .int i, v => v = .int i
  | .str x, v => v = .str x
  | .list ds, v => ∃ a xs, v = .ref a ∧ LkL K N H a xs ∧ ImAll K N H ds xs
  | .tuple ds, v => ∃ a xs, v = .ref a ∧ LkT K N H a xs ∧ ImAll K N H ds xs
  | .dict _, _ => False
def ImAll (K : PySem.W.Frag) (N : Addr → Prop) (H : Hp) : List PyData → List V → Prop
  | [], vs => vs = []
  | d :: ds, vs => ∃ x xs, vs = x :: xs ∧ Im K N H d x ∧ ImAll K N H ds xs
end
section
variable {K : PySem.W.Frag} {N N' : Addr → Prop} {H H' : Hp}
mutual
theorem Im.go (g : Go N N' H H') : ∀ {d : PyData} {v : V}, Im K N H d v → Im K N' H' d v
  | .none, _, h => by simpa only [Im] using h
  | .bool _, _, h => by simpa only [Im] using h
  | .int _, _, h => by simpa only [Im] using h
  | .str _, _, h => by simpa only [Im] using h
  | .list _, _, h => by
    simp only [Im] at h ⊢
    obtain ⟨a, xs, e, l, t⟩ := h
    exact ⟨a, xs, e, l.go g, ImAll.go g t⟩
  | .tuple _, _, h => by
    simp only [Im] at h ⊢
    obtain ⟨a, xs, e, l, t⟩ := h
    exact ⟨a, xs, e, l.go g, ImAll.go g t⟩
  | .dict _, _, h => by simp only [Im] at h
theorem ImAll.go (g : Go N N' H H') : ∀ {ds : List PyData} {vs : List V}, ImAll K N H ds vs → ImAll K N' H' ds vs
  | [], _, h => by simpa only [ImAll] using h
  | _ :: _, _, h => by
    simp only [ImAll] at h ⊢
    obtain ⟨x, xs, e, l, t⟩ := h
    exact ⟨x, xs, e, Im.go g l, ImAll.go g t⟩
end
mutual
theorem Im.dp : ∀ {d : PyData} {v : V}, Im K N H d v → Dp K H v d
  | .none, _, h => by simp only [Im] at h; subst h; exact .non
  | .bool _, _, h => by simp only [Im] at h; subst h; exact .bl _
  | .int _, _, h => by simp only [Im] at h; subst h; exact .int _
  | .str _, _, h => by simp only [Im] at h; subst h; exact .str _
  | .list _, _, h => by
    simp only [Im] at h
    obtain ⟨a, xs, rfl, l, t⟩ := h
    exact .lst l.sq (ImAll.dp t)
  | .tuple _, _, h => by
    simp only [Im] at h
    obtain ⟨a, xs, rfl, l, t⟩ := h
    exact .tup l.sq (ImAll.dp t)
  | .dict _, _, h => by simp only [Im] at h
theorem ImAll.dp : ∀ {ds : List PyData} {vs : List V}, ImAll K N H ds vs → DpAll K H vs ds
  | [], _, h => by simp only [ImAll] at h; subst h; exact .nil
  | _ :: _, _, h => by
    simp only [ImAll] at h
    obtain ⟨x, xs, rfl, l, t⟩ := h
    exact .cons (Im.dp l) (ImAll.dp t)
end
theorem ImAll.length : ∀ {ds : List PyData} {vs : List V}, ImAll K N H ds vs → vs.length = ds.length
  | [], _, h => by simp only [ImAll] at h; subst h; rfl
  | _ :: _, _, h => by
    simp only [ImAll] at h
    obtain ⟨x, xs, rfl, l, t⟩ := h
    simp [ImAll.length t]
theorem ImAll.get : ∀ {ds : List PyData} {vs : List V} {i : Nat} {d : PyData}, ImAll K N H ds vs → ds[i]? = some d → ∃ v, vs[i]? = some v ∧ Im K N H d v
  | [], _, _, _, _, e => by simp at e
  | d :: ds, _, 0, _, h, e => by
    simp only [ImAll] at h
    obtain ⟨x, xs, rfl, l, t⟩ := h
    simp at e; subst e
    exact ⟨x, rfl, l⟩
  | d :: ds, _, i + 1, _, h, e => by
    simp only [ImAll] at h
    obtain ⟨x, xs, rfl, l, t⟩ := h
    obtain ⟨v, e1, l1⟩ := ImAll.get (i := i) t (by simpa using e)
    exact ⟨v, by simpa using e1, l1⟩
theorem ImAll.getV : ∀ {ds : List PyData} {vs : List V} {i : Nat} {v : V}, ImAll K N H ds vs → vs[i]? = some v → ∃ d, ds[i]? = some d ∧ Im K N H d v
  | [], _, _, _, h, e => by simp only [ImAll] at h; subst h; simp at e
  | d :: ds, _, 0, _, h, e => by
    simp only [ImAll] at h
    obtain ⟨x, xs, rfl, l, t⟩ := h
    simp at e; subst e
    exact ⟨d, rfl, l⟩
  | d :: ds, _, i + 1, _, h, e => by
    simp only [ImAll] at h
    obtain ⟨x, xs, rfl, l, t⟩ := h
    obtain ⟨v, e1, l1⟩ := ImAll.getV (i := i) t (by simpa using e)
    exact ⟨v, by simpa using e1, l1⟩
theorem ImAll.append : ∀ {ds es : List PyData} {vs us : List V}, ImAll K N H ds vs → ImAll K N H es us → ImAll K N H (ds ++ es) (vs ++ us)
  | [], _, _, _, h, k => by simp only [ImAll] at h; subst h; exact k
  | d :: ds, es, _, us, h, k => by
    simp only [ImAll] at h
    obtain ⟨x, xs, rfl, l, t⟩ := h
    show ImAll K N H (d :: (ds ++ es)) (x :: (xs ++ us))
    simp only [ImAll]
    exact ⟨x, _, rfl, l, ImAll.append t k⟩
theorem ImAll.cons {d : PyData} {ds : List PyData} {v : V} {vs : List V} (h : Im K N H d v) (k : ImAll K N H ds vs) : ImAll K N H (d :: ds) (v :: vs) := by
  simp only [ImAll]; exact ⟨v, vs, rfl, h, k⟩
theorem ImAll.nil : ImAll K N H [] [] := by simp only [ImAll]
theorem ImAll.take : ∀ {ds : List PyData} {vs : List V} (n : Nat), ImAll K N H ds vs → ImAll K N H (ds.take n) (vs.take n)
  | _, _, 0, _ => by simp only [List.take_zero]; exact .nil
  | [], _, n + 1, h => by simp only [ImAll] at h; subst h; exact .nil
  | d :: ds, _, n + 1, h => by
    simp only [ImAll] at h
    obtain ⟨x, xs, rfl, l, t⟩ := h
    exact ImAll.cons l (ImAll.take n t)
theorem ImAll.drop : ∀ {ds : List PyData} {vs : List V} (n : Nat), ImAll K N H ds vs → ImAll K N H (ds.drop n) (vs.drop n)
  | _, _, 0, h => h
  | [], _, n + 1, h => by simp only [ImAll] at h; subst h; exact .nil
  | d :: ds, _, n + 1, h => by
    simp only [ImAll] at h
    obtain ⟨x, xs, rfl, l, t⟩ := h
    exact ImAll.drop n t
theorem ImAll.set : ∀ {ds : List PyData} {vs : List V} {d : PyData} {v : V} (i : Nat), ImAll K N H ds vs → Im K N H d v → ImAll K N H (ds.set i d) (vs.set i v)
  | [], _, _, _, _, h, _ => by simp only [ImAll] at h; subst h; exact .nil
  | d :: ds, _, _, _, 0, h, k => by
    simp only [ImAll] at h
    obtain ⟨x, xs, rfl, l, t⟩ := h
    exact ImAll.cons k t
  | d :: ds, _, _, _, i + 1, h, k => by
    simp only [ImAll] at h
    obtain ⟨x, xs, rfl, l, t⟩ := h
    exact ImAll.cons l (ImAll.set i t k)
theorem Im.int {i : Int} : Im K N H (.int i) (.int i) := by simp only [Im]
theorem Im.bool {b : Bool} : Im K N H (.bool b) (.bl b) := by simp only [Im]
theorem Im.none : Im K N H .none .non := by simp only [Im]
theorem Im.str {x : Str} : Im K N H (.str x) (.str x) := by simp only [Im]
theorem Im.int_iff {i : Int} {v : V} : Im K N H (.int i) v ↔ v = .int i := by simp only [Im]
theorem Im.bool_iff {b : Bool} {v : V} : Im K N H (.bool b) v ↔ v = .bl b := by simp only [Im]
theorem ImAll.ints : ∀ ns : List Int, ImAll K N H (ns.map .int) (ns.map .int)
  | [] => .nil
  | n :: ns => .cons .int (ImAll.ints ns)
end
/-- K the written part; H0 the heap at its start; N what callers may change; L what is lent to this body -/
structure Fm where
  K : PySem.W.Frag
  H0 : Hp
  N : Addr → Prop
  L : Addr → Prop
  fix : Nat → Prop
  T : List (Addr × Str)
inductive Ent
  | d (x : PyData)
  | own (xs : List PyData)
  | dic (kvs : List (List L2.Key × PyData))
  | ro (x : PyData)
  | raw (v : V)
/-- it is of this body's own: a list, a dict -/
def Ent.mine : Ent → Prop
  | .own _ => True
  | .dic _ => True
  | _ => False
abbrev Rho := List (Option Ent)
inductive R
  | d (x : PyData)
  | o (i : Nat)
  | raw (v : V)
inductive Pin
  | val (v : V) (r : R)
  | acc (a : Addr) (xs : List PyData)
def accs : List Pin → List Addr
  | [] => []
  | .acc a _ :: ps => a :: accs ps
  | .val _ _ :: ps => accs ps
theorem mem_accs {a : Addr} : ∀ {ps : List Pin}, a ∈ accs ps ↔ ∃ xs, Pin.acc a xs ∈ ps
  | [] => by simp [accs]
  | .acc b ys :: ps => by
    simp only [accs, List.mem_cons, mem_accs (ps := ps)]
    constructor
    · rintro (rfl | ⟨xs, h⟩)
      · exact ⟨ys, .inl rfl⟩
      · exact ⟨xs, .inr h⟩
    · rintro ⟨xs, h | h⟩
      · cases h; exact .inl rfl
      · exact .inr ⟨xs, h⟩
  | .val v r :: ps => by
    simp only [accs, mem_accs (ps := ps), List.mem_cons]
    constructor
    · rintro ⟨xs, h⟩; exact ⟨xs, .inr h⟩
    · rintro ⟨xs, h | h⟩
      · cases h
      · exact ⟨xs, h⟩
def OwnAt (ρ : Rho) (σ : L2.St) (i : Nat) (a : Addr) : Prop := (∃ e : Ent, ρ[i]? = some (some e) ∧ e.mine) ∧ σ[i]? = some (some (.ref a))
/-- what may be changed while this body runs -/
def Av (F : Fm) (pins : List Pin) (ρ : Rho) (σ : L2.St) : Addr → Prop := fun a => F.N a ∨ (∃ i, OwnAt ρ σ i a) ∨ a ∈ accs pins
/-- a list that callers may change, but nobody while this body runs -/
def LkR (F : Fm) (a : Addr) (us : List V) : Prop := (Rd F.H0 a (.lst us) ∧ ¬ F.L a) ∨ SqL F.K (fun _ => none) a us
def RoOk (F : Fm) (A : Addr → Prop) (H : Hp) (x : PyData) (v : V) : Prop := Im F.K A H x v ∨ ∃ a us xs, v = .ref a ∧ x = .list xs ∧ LkR F a us ∧ ImAll F.K A H xs us
def EntOk (F : Fm) (A : Addr → Prop) (H : Hp) : Ent → V → Prop
  | .d x, v => Im F.K A H x v
  | .own xs, v => ∃ a vs, v = .ref a ∧ H a = some (.lst vs) ∧ ImAll F.K A H xs vs ∧ (F.L a ∨ F.H0 a = none)
  | .dic kvs, v => ∃ a vs, v = .ref a ∧ H a = some (.dT vs) ∧ vs.map (·.1) = kvs.map (·.1) ∧ ImAll F.K A H (kvs.map (·.2)) (vs.map (·.2)) ∧ F.H0 a = none
  | .ro x, v => RoOk F A H x v
  | .raw u, v => v = u
/-- a slot's data -/
def slot (ρ : Rho) (i : Nat) : Option PyData :=
  match ρ[i]? with
  | some (some (.d x)) => some x
  | some (some (.own xs)) => some (.list xs)
  | some (some (.ro x)) => some x
  | _ => none
def val (ρ : Rho) : R → Option PyData
  | .d x => some x
  | .o i => slot ρ i
  | .raw _ => none
def ROk (F : Fm) (A : Addr → Prop) (ρ : Rho) (σ : L2.St) (H : Hp) : R → V → Prop
  | .d x, v => Im F.K A H x v
  | .o i, v => σ[i]? = some (some v) ∧ ∃ x, slot ρ i = some x
  | .raw u, v => v = u
def PinOk (F : Fm) (A : Addr → Prop) (ρ : Rho) (σ : L2.St) (H : Hp) : Pin → Prop
  | .val v r => ROk F A ρ σ H r v
  | .acc a xs => ∃ vs, H a = some (.lst vs) ∧ ImAll F.K A H xs vs ∧ F.H0 a = none ∧ (¬ ∃ i, OwnAt ρ σ i a)
/-- what may be changed in place: a list, a dict -/
def Mutab : HO → Prop
  | .lst _ => True
  | .dT _ => True
  | _ => False
/-- the heap has grown; tables of code objects may have changed -/
structure Gr (H H' : Hp) : Prop where
  ext : ExtN H H'
  tbl : ∀ a ps, H a = some (.tbl ps) → ∃ qs, H' a = some (.tbl qs)
theorem Gr.of {H H' : Hp} (g : ∀ a o, H a = some o → H' a = some o) : Gr H H' := ⟨ExtN.of g, fun a ps h => ⟨ps, g _ _ h⟩⟩
theorem Gr.refl (H : Hp) : Gr H H := .of fun _ _ h => h
theorem Gr.trans {H H1 H2 : Hp} (g : Gr H H1) (k : Gr H1 H2) : Gr H H2 := ⟨g.ext.trans k.ext, fun a ps h => let ⟨qs, h1⟩ := g.tbl a ps h; k.tbl a qs h1⟩
def TbOk (F : Fm) (H : Hp) : Prop := Tabs F.T H ∧ ∀ a ps, F.H0 a = some (.tbl ps) → ∃ qs, H a = some (.tbl qs)
theorem TbOk.gr {F : Fm} {H H' : Hp} (t : TbOk F H) (g : Gr H H') (k : Tabs F.T H') : TbOk F H' := ⟨k, fun a ps h => let ⟨qs, h1⟩ := t.2 a ps h; g.tbl a qs h1⟩
theorem TbOk.ext {F : Fm} {H H' : Hp} (t : TbOk F H) (g : ∀ a o, H a = some o → H' a = some o) : TbOk F H' := t.gr (.of g) (t.1.ext g)
theorem code_nm {c : Addr} {q : Str} : ¬ Mutab (CodeO c q) := by
  unfold CodeO
  exact fun z => z
theorem tabs_upd {T : List (Addr × Str)} {H : Hp} (t : Tabs T H) {a : Addr} {o u : HO} (h : H a = some o) (m : Mutab o) : Tabs T (upd H a u) := fun p hp => by
  obtain ⟨ps, h1, h2, h3⟩ := t p hp
  have ne : ∀ {b : Addr} {v : HO}, H b = some v → ¬ Mutab v → b ≠ a := fun e n z => by
    subst z
    rw [h] at e
    cases e
    exact n m
  refine ⟨ps, by rw [upd_ne (ne h1 (fun z => z))]; exact h1, h2, fun pos cv hc => ?_⟩
  obtain ⟨c, e1, e2⟩ := h3 pos cv hc
  exact ⟨c, e1, by rw [upd_ne (ne e2 code_nm)]; exact e2⟩
theorem TbOk.upd {F : Fm} {H : Hp} (t : TbOk F H) {a : Addr} {o u : HO} (h : H a = some o) (m : Mutab o) : TbOk F (upd H a u) := by
  refine ⟨tabs_upd t.1 h m, fun b ps e => ?_⟩
  obtain ⟨qs, h1⟩ := t.2 b ps e
  refine ⟨qs, ?_⟩
  rw [upd_ne (fun z => ?_)]
  · exact h1
  · subst z; rw [h] at h1; cases h1; exact m
theorem Mutab.nt {o : HO} (h : Mutab o) : DV.nt o := fun ps e => by
  subst e
  exact h
structure Ok (F : Fm) (pins : List Pin) (ρ : Rho) (σ : L2.St) (H : Hp) : Prop where
  len : σ.length = ρ.length
  ent : ∀ (i : Nat) (e : Ent), ρ[i]? = some (some e) → ∃ v, σ[i]? = some (some v) ∧ EntOk F (Av F pins ρ σ) H e v
  own : ∀ (i j : Nat) (a : Addr), OwnAt ρ σ i a → OwnAt ρ σ j a → i = j
  pin : ∀ p ∈ pins, PinOk F (Av F pins ρ σ) ρ σ H p
  acs : (accs pins).Nodup
  fr : ∀ a o, ¬ F.L a → F.H0 a = some o → nt o → H a = some o
  nh : ∀ a, F.N a → ∃ o, H a = some o ∧ Mutab o
  ln : ∀ a, F.L a → F.N a
  h0 : ∀ a, F.N a → ∃ o, F.H0 a = some o
  lf : ∀ (i : Nat) (a : Addr), OwnAt ρ σ i a → F.L a → F.fix i
  tb : TbOk F H
section
variable {F : Fm} {pins : List Pin} {ρ : Rho} {σ : L2.St} {H H' : Hp}
theorem Ok.ownM (O : Ok F pins ρ σ H) {i : Nat} {a : Addr} (h : OwnAt ρ σ i a) : ∃ o, H a = some o ∧ Mutab o ∧ (F.L a ∨ F.H0 a = none) := by
  obtain ⟨⟨e, h1, hm⟩, h2⟩ := h
  obtain ⟨v, h3, h4⟩ := O.ent i _ h1
  rw [h2] at h3
  cases h3
  cases e with
  | own xs =>
    obtain ⟨b, vs, e, h5, _, h6⟩ := h4
    cases e
    exact ⟨_, h5, trivial, h6⟩
  | dic kvs =>
    obtain ⟨b, vs, e, h5, _, _, h6⟩ := h4
    cases e
    exact ⟨_, h5, trivial, .inr h6⟩
  | d x => exact hm.elim
  | ro x => exact hm.elim
  | raw x => exact hm.elim
theorem Ok.ownL (O : Ok F pins ρ σ H) {i : Nat} {a : Addr} (h : OwnAt ρ σ i a) : ∃ o, H a = some o ∧ (F.L a ∨ F.H0 a = none) := by
  obtain ⟨o, h1, _, h2⟩ := O.ownM h
  exact ⟨o, h1, h2⟩
theorem Ok.avM (O : Ok F pins ρ σ H) {a : Addr} (h : Av F pins ρ σ a) : ∃ o, H a = some o ∧ Mutab o := by
  rcases h with h | ⟨i, h⟩ | h
  · exact O.nh a h
  · obtain ⟨vs, h, m, _⟩ := O.ownM h; exact ⟨_, h, m⟩
  · obtain ⟨xs, h⟩ := mem_accs.mp h
    obtain ⟨vs, h, _⟩ := O.pin _ h
    exact ⟨_, h, trivial⟩
theorem Ok.avH (O : Ok F pins ρ σ H) {a : Addr} (h : Av F pins ρ σ a) : ∃ o, H a = some o := by
  obtain ⟨o, h, _⟩ := O.avM h
  exact ⟨o, h⟩
theorem RoOk.go {A A' : Addr → Prop} (g : Go A A' H H') {x : PyData} {v : V} (h : RoOk F A H x v) : RoOk F A' H' x v := by
  rcases h with h | ⟨a, us, xs, e, e2, l, t⟩
  · exact .inl (h.go g)
  · exact .inr ⟨a, us, xs, e, e2, l, t.go g⟩
/-- a change of the heap that Av does not feel -/
theorem Ok.heapE (O : Ok F pins ρ σ H) (g : ExtN H H') (tb : TbOk F H') : Ok F pins ρ σ H' := by
  have G : Go (Av F pins ρ σ) (Av F pins ρ σ) H H' := ⟨fun a o _ h m => g a o h m, fun a h => .inl h⟩
  refine ⟨O.len, fun i e h => ?_, O.own, fun p hp => ?_, O.acs, fun a o n h m => g _ _ (O.fr a o n h m) m, fun a h => ?_, O.ln, O.h0, O.lf, tb⟩
  · obtain ⟨v, h1, h2⟩ := O.ent i e h
    refine ⟨v, h1, ?_⟩
    cases e with
    | d x => exact Im.go G h2
    | own xs =>
      obtain ⟨a, vs, e, h5, h6, h7⟩ := h2
      exact ⟨a, vs, e, g _ _ h5 nt_lst, h6.go G, h7⟩
    | dic kvs =>
      obtain ⟨a, vs, e, h5, h6, h7, h8⟩ := h2
      exact ⟨a, vs, e, g _ _ h5 nt_dT, h6, h7.go G, h8⟩
    | ro x => exact RoOk.go G h2
    | raw u => exact h2
  · have h := O.pin p hp
    cases p with
    | val v r =>
      cases r with
      | d x => exact Im.go G h
      | o i => exact h
      | raw u => exact h
    | acc a xs =>
      obtain ⟨vs, h1, h2, h3⟩ := h
      exact ⟨vs, g _ _ h1 nt_lst, h2.go G, h3⟩
  · obtain ⟨o, h, m⟩ := O.nh a h
    exact ⟨o, g _ _ h (Mutab.nt m), m⟩
theorem Ok.heapN (O : Ok F pins ρ σ H) (g : Gr H H') (tb : Tabs F.T H') : Ok F pins ρ σ H' := O.heapE g.ext (O.tb.gr g tb)
theorem Ok.fr0 (O : Ok F pins ρ σ H) : ∀ a o, ¬ F.L a → F.H0 a = some o → H a ≠ none := fun a o n h z => by
  by_cases m : nt o
  · rw [O.fr a o n h m] at z; cases z
  · have : ∃ ps, o = .tbl ps := Classical.byContradiction fun q => m fun ps e => q ⟨ps, e⟩
    obtain ⟨ps, rfl⟩ := this
    obtain ⟨qs, e⟩ := O.tb.2 a ps h
    rw [e] at z; cases z
theorem Ok.heap (O : Ok F pins ρ σ H) (g : ∀ a o, H a = some o → H' a = some o) : Ok F pins ρ σ H' := O.heapN (Gr.of g) (O.tb.1.ext g)
theorem grow_new {p : Addr} {o : HO} (h : H p = none) : ∀ a u, H a = some u → upd H p o a = some u := fun a u e => by
  rw [upd_ne (ne_of_none e h)]; exact e
theorem Ok.new (O : Ok F pins ρ σ H) {p : Addr} {o : HO} (h : H p = none) : Ok F pins ρ σ (upd H p o) := O.heap (grow_new h)
/-- a value is kept in mind -/
theorem Ok.push (O : Ok F pins ρ σ H) {v : V} {r : R} (h : ROk F (Av F pins ρ σ) ρ σ H r v) : Ok F (.val v r :: pins) ρ σ H := by
  have e : Av F (.val v r :: pins) ρ σ = Av F pins ρ σ := rfl
  refine ⟨O.len, by rw [e]; exact O.ent, O.own, fun p hp => ?_, O.acs, O.fr, O.nh, O.ln, O.h0, O.lf, O.tb⟩
  rw [e]
  rcases List.mem_cons.mp hp with rfl | hp
  · exact h
  · exact O.pin p hp
theorem Ok.popV {v : V} {r : R} (O : Ok F (.val v r :: pins) ρ σ H) : Ok F pins ρ σ H ∧ ROk F (Av F pins ρ σ) ρ σ H r v := by
  have e : Av F (.val v r :: pins) ρ σ = Av F pins ρ σ := rfl
  refine ⟨⟨O.len, by have := O.ent; rw [e] at this; exact this, O.own, fun p hp => ?_, O.acs, O.fr, O.nh, O.ln, O.h0, O.lf, O.tb⟩, ?_⟩
  · have := O.pin p (List.mem_cons_of_mem _ hp)
    rw [e] at this; exact this
  · have := O.pin _ (List.mem_cons_self ..)
    rw [e] at this; exact this
theorem ROk.go {A A' : Addr → Prop} (g : Go A A' H H') {r : R} {v : V} (h : ROk F A ρ σ H r v) : ROk F A' ρ σ H' r v := by
  cases r with
  | d x => exact Im.go g h
  | o i => exact h
  | raw u => exact h
/-- a new list, kept in mind: nobody else knows it -/
theorem Ok.pushL (O : Ok F pins ρ σ H) {p : Addr} {xs : List PyData} {vs : List V} (hp : H p = none) (h : ImAll F.K (Av F pins ρ σ) H xs vs) : Ok F (.acc p xs :: pins) ρ σ (upd H p (.lst vs)) := by
  have G : Go (Av F pins ρ σ) (Av F (.acc p xs :: pins) ρ σ) H (upd H p (.lst vs)) := by
    refine ⟨fun a o _ h _ => grow_new hp a o h, fun a h => ?_⟩
    rcases h with h | h | h
    · exact .inl (.inl h)
    · exact .inl (.inr (.inl h))
    · rcases List.mem_cons.mp (show a ∈ p :: accs pins from h) with rfl | h
      · exact .inr hp
      · exact .inl (.inr (.inr h))
  have nAv : ¬ Av F pins ρ σ p := fun h => by obtain ⟨o, h⟩ := O.avH h; rw [hp] at h; cases h
  have g := grow_new (o := .lst vs) hp
  refine ⟨O.len, fun i e h => ?_, O.own, fun q hq => ?_, ?_, fun a o n h m => g _ _ (O.fr a o n h m), fun a h => ?_, O.ln, O.h0, O.lf, O.tb.ext g⟩
  · obtain ⟨v, h1, h2⟩ := O.ent i e h
    refine ⟨v, h1, ?_⟩
    cases e with
    | d x => exact Im.go G h2
    | own ys =>
      obtain ⟨a, us, e, h5, h6, h7⟩ := h2
      exact ⟨a, us, e, g _ _ h5, h6.go G, h7⟩
    | dic kvs =>
      obtain ⟨a, vs, e, h5, h6, h7, h8⟩ := h2
      exact ⟨a, vs, e, g _ _ h5, h6, h7.go G, h8⟩
    | ro x => exact RoOk.go G h2
    | raw u => exact h2
  · rcases List.mem_cons.mp hq with rfl | hq
    · refine ⟨vs, upd_same, h.go G, ?_, fun ⟨i, z⟩ => nAv (.inr (.inl ⟨i, z⟩))⟩
      cases e : F.H0 p with
      | none => rfl
      | some o =>
        by_cases hl : F.L p
        · exact absurd (.inl (O.ln p hl)) nAv
        · exact absurd hp (O.fr0 p o hl e)
    · have h := O.pin q hq
      cases q with
      | val v r => exact ROk.go G h
      | acc a ys =>
        obtain ⟨us, h1, h2, h3⟩ := h
        exact ⟨us, g _ _ h1, h2.go G, h3⟩
  · show (p :: accs pins).Nodup
    refine List.nodup_cons.mpr ⟨fun h => nAv (.inr (.inr h)), O.acs⟩
  · obtain ⟨o, h, m⟩ := O.nh a h
    exact ⟨o, g _ _ h, m⟩
/-- it is data from now on -/
theorem Ok.popL {p : Addr} {xs : List PyData} (O : Ok F (.acc p xs :: pins) ρ σ H) : Ok F pins ρ σ H ∧ Im F.K (Av F pins ρ σ) H (.list xs) (.ref p) := by
  have G : Go (Av F (.acc p xs :: pins) ρ σ) (Av F pins ρ σ) H H := by
    refine ⟨fun a o _ h _ => h, fun a h => .inl ?_⟩
    rcases h with h | h | h
    · exact .inl h
    · exact .inr (.inl h)
    · exact .inr (.inr (List.mem_cons_of_mem _ h))
  obtain ⟨vs, h1, h2, h3, h4⟩ := O.pin _ (List.mem_cons_self ..)
  have hnd := List.nodup_cons.mp (show (p :: accs pins).Nodup from O.acs)
  refine ⟨⟨O.len, fun i e h => ?_, O.own, fun q hq => ?_, hnd.2, O.fr, O.nh, O.ln, O.h0, O.lf, O.tb⟩, ?_⟩
  · obtain ⟨v, h1, h2⟩ := O.ent i e h
    refine ⟨v, h1, ?_⟩
    cases e with
    | d x => exact Im.go G h2
    | own ys =>
      obtain ⟨a, us, e, h5, h6, h7⟩ := h2
      exact ⟨a, us, e, h5, h6.go G, h7⟩
    | dic kvs =>
      obtain ⟨a, vs, e, h5, h6, h7, h8⟩ := h2
      exact ⟨a, vs, e, h5, h6, h7.go G, h8⟩
    | ro x => exact RoOk.go G h2
    | raw u => exact h2
  · have h := O.pin q (List.mem_cons_of_mem _ hq)
    cases q with
    | val v r => exact ROk.go G h
    | acc a ys =>
      obtain ⟨us, h1, h2, h3⟩ := h
      exact ⟨us, h1, h2.go G, h3⟩
  · simp only [Im]
    refine ⟨p, vs, rfl, ⟨h1, ?_⟩, h2.go G⟩
    rintro (h | h | h)
    · obtain ⟨o, h⟩ := O.h0 p h
      rw [h3] at h; cases h
    · exact h4 h
    · exact hnd.1 h
end
end DV
namespace DV
open PySem PySem.Spec PyProof.Rows L2
open LamX (ExtN TabS Tabs CodeO)
section
variable {F : Fm} {pins : List Pin} {ρ : Rho} {σ : L2.St} {H H' : Hp}
theorem EntOk.goM {A A' : Addr → Prop} (g : Go A A' H H') {e : Ent} {v : V} (h : EntOk F A H e v) (hown : ∀ a o, v = .ref a → H a = some o → e.mine → Mutab o → H' a = some o) : EntOk F A' H' e v := by
  cases e with
  | d x => exact Im.go g h
  | own ys =>
    obtain ⟨a, us, e, h5, h6, h7⟩ := h
    exact ⟨a, us, e, hown a _ e h5 trivial trivial, h6.go g, h7⟩
  | dic kvs =>
    obtain ⟨a, us, e, h5, h6, h7, h8⟩ := h
    exact ⟨a, us, e, hown a _ e h5 trivial trivial, h6, h7.go g, h8⟩
  | ro x => exact RoOk.go g h
  | raw u => exact h
theorem EntOk.go {A A' : Addr → Prop} (g : Go A A' H H') {e : Ent} {v : V} (h : EntOk F A H e v) (hown : ∀ a o, v = .ref a → H a = some o → e.mine → H' a = some o) : EntOk F A' H' e v := EntOk.goM g h fun a o e1 e2 m _ => hown a o e1 e2 m
theorem setOwn_iff {i : Nat} {a : Addr} {xs : List PyData} (h : OwnAt ρ σ i a) (j : Nat) (b : Addr) : OwnAt (ρ.set i (some (.own xs))) σ j b ↔ OwnAt ρ σ j b := by
  obtain ⟨⟨ys, h1, hm⟩, h2⟩ := h
  have hi : i < ρ.length := by
    rcases Nat.lt_or_ge i ρ.length with z | z
    · exact z
    · rw [List.getElem?_eq_none z] at h1; cases h1
  by_cases e : i = j
  · subst e
    constructor
    · rintro ⟨_, h3⟩; exact ⟨⟨ys, h1, hm⟩, h3⟩
    · rintro ⟨_, h3⟩; exact ⟨⟨.own xs, by simp [hi], trivial⟩, h3⟩
  · unfold OwnAt
    rw [List.getElem?_set_ne e]
theorem Ok.setOwn (O : Ok F pins ρ σ H) {i : Nat} {a : Addr} {xs : List PyData} {vs : List V} (h : OwnAt ρ σ i a) (hx : ImAll F.K (Av F pins ρ σ) H xs vs) :
    Ok F pins (ρ.set i (some (.own xs))) σ (upd H a (.lst vs)) := by
  have oe := setOwn_iff (xs := xs) h
  have ae : Av F pins (ρ.set i (some (.own xs))) σ = Av F pins ρ σ := by
    funext b
    unfold Av
    simp only [oe]
  have aa : Av F pins ρ σ a := .inr (.inl ⟨i, h⟩)
  have G : Go (Av F pins ρ σ) (Av F pins ρ σ) H (upd H a (.lst vs)) := ⟨fun b o n e _ => by
    have hb : b ≠ a := fun z => n (by rw [z]; exact aa)
    rw [upd_ne hb]; exact e, fun b z => .inl z⟩
  obtain ⟨vs0, hH, hl⟩ := O.ownL h
  obtain ⟨⟨ys, h1, hm⟩, h2⟩ := id h
  have hi : i < ρ.length := by
    rcases Nat.lt_or_ge i ρ.length with z | z
    · exact z
    · rw [List.getElem?_eq_none z] at h1; cases h1
  refine ⟨by rw [List.length_set]; exact O.len, fun j e hj => ?_, fun j k b z1 z2 => O.own j k b ((oe j b).mp z1) ((oe k b).mp z2), fun p hp => ?_, O.acs, fun b o n e m => ?_, fun b z => ?_, O.ln, O.h0, fun j b z => O.lf j b ((oe j b).mp z), ?_⟩
  · rw [ae]
    by_cases e2 : i = j
    · subst e2
      rw [List.getElem?_set_self hi] at hj
      cases hj
      exact ⟨.ref a, h2, a, vs, rfl, upd_same, hx.go G, hl⟩
    · rw [List.getElem?_set_ne e2] at hj
      obtain ⟨v, h3, h4⟩ := O.ent j e hj
      refine ⟨v, h3, EntOk.go G h4 fun b us ev hb ex => ?_⟩
      subst ev
      rw [upd_ne (fun z => e2 (O.own i j a h (by subst z; exact ⟨⟨e, hj, ex⟩, h3⟩)))]
      exact hb
  · rw [ae]
    have hq := O.pin p hp
    cases p with
    | val v r =>
      cases r with
      | d x => exact Im.go G hq
      | o j =>
        refine ⟨hq.1, ?_⟩
        by_cases e2 : i = j
        · subst e2
          exact ⟨.list xs, by unfold slot; rw [List.getElem?_set_self hi]⟩
        · obtain ⟨x, hx2⟩ := hq.2
          refine ⟨x, ?_⟩
          unfold slot at hx2 ⊢
          rw [List.getElem?_set_ne e2]
          exact hx2
      | raw u => exact hq
    | acc b ys =>
      obtain ⟨us, h3, h4, h5, h6⟩ := hq
      refine ⟨us, ?_, h4.go G, h5, fun ⟨j, z⟩ => h6 ⟨j, (oe j b).mp z⟩⟩
      rw [upd_ne (fun z => h6 (by subst z; exact ⟨i, h⟩))]
      exact h3
  · rw [upd_ne (fun z => ?_)]
    · exact O.fr b o n e m
    · subst z
      rcases hl with hl | hl
      · exact n hl
      · rw [hl] at e; cases e
  · by_cases e : b = a
    · subst e; exact ⟨_, upd_same, trivial⟩
    · rw [upd_ne e]; exact O.nh b z
  · obtain ⟨o0, e0, m0⟩ := O.avM aa
    exact O.tb.upd e0 m0
theorem Ok.setAcc {a : Addr} {xs ys : List PyData} {vs : List V} (O : Ok F (.acc a xs :: pins) ρ σ H) (hx : ImAll F.K (Av F (.acc a xs :: pins) ρ σ) H ys vs) :
    Ok F (.acc a ys :: pins) ρ σ (upd H a (.lst vs)) := by
  have ae : Av F (.acc a ys :: pins) ρ σ = Av F (.acc a xs :: pins) ρ σ := rfl
  have aa : Av F (.acc a xs :: pins) ρ σ a := .inr (.inr (List.mem_cons_self ..))
  have G : Go (Av F (.acc a xs :: pins) ρ σ) (Av F (.acc a xs :: pins) ρ σ) H (upd H a (.lst vs)) := ⟨fun b o n e _ => by
    have hb : b ≠ a := fun z => n (by rw [z]; exact aa)
    rw [upd_ne hb]; exact e, fun b z => .inl z⟩
  obtain ⟨vs0, hH, hi0, h00, hno⟩ := O.pin _ (List.mem_cons_self ..)
  have hnd := List.nodup_cons.mp (show (a :: accs pins).Nodup from O.acs)
  refine ⟨O.len, fun j e hj => ?_, O.own, fun p hp => ?_, O.acs, fun b o n e m => ?_, fun b z => ?_, O.ln, O.h0, O.lf, O.tb.upd hH trivial⟩
  · rw [ae]
    obtain ⟨v, h3, h4⟩ := O.ent j e hj
    refine ⟨v, h3, EntOk.go G h4 fun b us ev hb ex => ?_⟩
    subst ev
    rw [upd_ne (fun z => hno (by subst z; exact ⟨j, ⟨e, hj, ex⟩, h3⟩))]
    exact hb
  · rw [ae]
    rcases List.mem_cons.mp hp with rfl | hp1
    · exact ⟨vs, upd_same, hx.go G, h00, hno⟩
    · have hq := O.pin p (List.mem_cons_of_mem _ hp1)
      cases p with
      | val v r => exact ROk.go G hq
      | acc b zs =>
        obtain ⟨us, h3, h4, h5⟩ := hq
        refine ⟨us, ?_, h4.go G, h5⟩
        rw [upd_ne (fun z => hnd.1 (by subst z; exact mem_accs.mpr ⟨zs, hp1⟩))]
        exact h3
  · rw [upd_ne (fun z => ?_)]
    · exact O.fr b o n e m
    · subst z; rw [h00] at e; cases e
  · by_cases e : b = a
    · subst e; exact ⟨_, upd_same, trivial⟩
    · rw [upd_ne e]; exact O.nh b z
/-- no value in mind stands for the i-th slot -/
def Fr (pins : List Pin) (i : Nat) : Prop := ∀ v j, Pin.val v (.o j) ∈ pins → j ≠ i
def SPn (F : Fm) (pins : List Pin) : Prop := ∀ v j, Pin.val v (.o j) ∈ pins → F.fix j
theorem SPn.fr (h : SPn F pins) {i : Nat} (hi : ¬ F.fix i) : Fr pins i := fun v j hp e => hi (e ▸ h v j hp)
theorem SPn.cons (h : SPn F pins) {v : V} {x : PyData} : SPn F (.val v (.d x) :: pins) := fun u j hp => by
  rcases List.mem_cons.mp hp with z | z
  · cases z
  · exact h u j z
theorem slot_ne {i j : Nat} {e : Option Ent} (h : j ≠ i) : slot (ρ.set i e) j = slot ρ j := by
  unfold slot; rw [List.getElem?_set_ne (fun z => h z.symm)]
theorem getset {α : Type} {l : List α} {i j : Nat} {x y : α} (h : (l.set i x)[j]? = some y) : (j = i ∧ y = x ∧ i < l.length) ∨ (j ≠ i ∧ l[j]? = some y) := by
  by_cases e : i = j
  · subst e
    by_cases hl : i < l.length
    · rw [List.getElem?_set_self hl] at h; cases h; exact .inl ⟨rfl, rfl, hl⟩
    · rw [List.getElem?_eq_none (by rw [List.length_set]; omega)] at h; cases h
  · rw [List.getElem?_set_ne e] at h
    exact .inr ⟨fun z => e z.symm, h⟩
theorem own_put {i j : Nat} {b : Addr} {e : Option Ent} {u : Option V} (he : ∀ f, e = some f → ¬ f.mine) (h : OwnAt (ρ.set i e) (σ.set i u) j b) : j ≠ i ∧ OwnAt ρ σ j b := by
  obtain ⟨⟨xs, h1, hm⟩, h2⟩ := h
  rcases getset h1 with ⟨_, q, _⟩ | ⟨ne, q⟩
  · exact absurd hm (he xs q.symm)
  · rw [List.getElem?_set_ne (fun z => ne z.symm)] at h2
    exact ⟨ne, ⟨xs, q, hm⟩, h2⟩
/-- a name takes a value that is no list of its own -/
theorem Ok.put (O : Ok F pins ρ σ H) {i : Nat} {e : Option Ent} {u : Option V} (hi : Fr pins i) (he : ∀ f, e = some f → ¬ f.mine) (hv : ∀ f, e = some f → ∃ v, u = some v ∧ EntOk F (Av F pins ρ σ) H f v) :
    Ok F pins (ρ.set i e) (σ.set i u) H := by
  have G : Go (Av F pins ρ σ) (Av F pins (ρ.set i e) (σ.set i u)) H H := by
    refine ⟨fun _ _ _ h _ => h, fun a h => .inl ?_⟩
    rcases h with h | ⟨j, h⟩ | h
    · exact .inl h
    · exact .inr (.inl ⟨j, (own_put he h).2⟩)
    · exact .inr (.inr h)
  refine ⟨by rw [List.length_set, List.length_set]; exact O.len, fun j f hj => ?_, fun j k b z1 z2 => O.own j k b (own_put he z1).2 (own_put he z2).2, fun p hp => ?_, O.acs, O.fr, O.nh, O.ln, O.h0, fun j b z => O.lf j b (own_put he z).2, O.tb⟩
  · rcases getset hj with ⟨rfl, q, hl⟩ | ⟨ne, q⟩
    · obtain ⟨v, hu, ho⟩ := hv f q.symm
      subst hu
      exact ⟨v, by rw [List.getElem?_set_self (by rw [O.len]; exact hl)], EntOk.go G ho fun _ _ _ z _ => z⟩
    · obtain ⟨v, h3, h4⟩ := O.ent j f q
      exact ⟨v, by rw [List.getElem?_set_ne (fun z => ne z.symm)]; exact h3, EntOk.go G h4 fun _ _ _ z _ => z⟩
  · have hq := O.pin p hp
    cases p with
    | val v r =>
      cases r with
      | d x => exact Im.go G hq
      | o j =>
        have ne := hi v j hp
        obtain ⟨h1, x, h2⟩ := hq
        exact ⟨by rw [List.getElem?_set_ne (fun z => ne z.symm)]; exact h1, x, by rw [slot_ne ne]; exact h2⟩
      | raw u => exact hq
    | acc b ys =>
      obtain ⟨us, h3, h4, h5, h6⟩ := hq
      exact ⟨us, h3, h4.go G, h5, fun ⟨j, z⟩ => h6 ⟨j, (own_put he z).2⟩⟩
/-- a name takes a new list of its own -/
theorem Ok.putL {p : Addr} {xs : List PyData} (O : Ok F (.acc p xs :: pins) ρ σ H) {i : Nat} (hi : Fr pins i) :
    Ok F pins (ρ.set i (some (.own xs))) (σ.set i (some (.ref p))) H := by
  obtain ⟨vs, hH, hx, h00, hno⟩ := O.pin _ (List.mem_cons_self ..)
  have hnd := List.nodup_cons.mp (show (p :: accs pins).Nodup from O.acs)
  have ow : ∀ j b, OwnAt (ρ.set i (some (.own xs))) (σ.set i (some (.ref p))) j b → (j = i ∧ b = p) ∨ (j ≠ i ∧ OwnAt ρ σ j b) := fun j b h => by
    obtain ⟨⟨ys, h1, hm⟩, h2⟩ := h
    rcases getset h1 with ⟨rfl, q, hl⟩ | ⟨ne, q⟩
    · rw [List.getElem?_set_self (by rw [O.len]; exact hl)] at h2
      cases h2; exact .inl ⟨rfl, rfl⟩
    · rw [List.getElem?_set_ne (fun z => ne z.symm)] at h2
      exact .inr ⟨ne, ⟨ys, q, hm⟩, h2⟩
  have G : Go (Av F (.acc p xs :: pins) ρ σ) (Av F pins (ρ.set i (some (.own xs))) (σ.set i (some (.ref p)))) H H := by
    refine ⟨fun _ _ _ h _ => h, fun a h => .inl ?_⟩
    rcases h with h | ⟨j, h⟩ | h
    · exact .inl h
    · rcases ow j a h with ⟨_, rfl⟩ | ⟨_, h⟩
      · exact .inr (.inr (List.mem_cons_self ..))
      · exact .inr (.inl ⟨j, h⟩)
    · exact .inr (.inr (List.mem_cons_of_mem _ h))
  refine ⟨by rw [List.length_set, List.length_set]; exact O.len, fun j f hj => ?_, fun j k b z1 z2 => ?_, fun q hq => ?_, hnd.2, O.fr, O.nh, O.ln, O.h0, fun j b z hL => ?_, O.tb⟩
  · rcases getset hj with ⟨rfl, q, hl⟩ | ⟨ne, q⟩
    · cases q
      exact ⟨.ref p, by rw [List.getElem?_set_self (by rw [O.len]; exact hl)], p, vs, rfl, hH, hx.go G, .inr h00⟩
    · obtain ⟨v, h3, h4⟩ := O.ent j f q
      exact ⟨v, by rw [List.getElem?_set_ne (fun z => ne z.symm)]; exact h3, EntOk.go G h4 fun _ _ _ z _ => z⟩
  · rcases ow j b z1 with ⟨e1, e2⟩ | ⟨n1, y1⟩
    · rcases ow k b z2 with ⟨e3, _⟩ | ⟨n2, y2⟩
      · rw [e1, e3]
      · rw [e2] at y2; exact absurd ⟨k, y2⟩ hno
    · rcases ow k b z2 with ⟨e3, e4⟩ | ⟨n2, y2⟩
      · rw [e4] at y1; exact absurd ⟨j, y1⟩ hno
      · exact O.own j k b y1 y2
  · have h := O.pin q (List.mem_cons_of_mem _ hq)
    cases q with
    | val v r =>
      cases r with
      | d x => exact Im.go G h
      | o j =>
        have ne := hi v j hq
        obtain ⟨h1, x, h2⟩ := h
        exact ⟨by rw [List.getElem?_set_ne (fun z => ne z.symm)]; exact h1, x, by rw [slot_ne ne]; exact h2⟩
      | raw u => exact h
    | acc b ys =>
      obtain ⟨us, h3, h4, h5, h6⟩ := h
      refine ⟨us, h3, h4.go G, h5, fun ⟨j, z⟩ => ?_⟩
      rcases ow j b z with ⟨_, rfl⟩ | ⟨_, z⟩
      · exact hnd.1 (mem_accs.mpr ⟨ys, hq⟩)
      · exact h6 ⟨j, z⟩
  · rcases ow j b z with ⟨_, rfl⟩ | ⟨_, z⟩
    · obtain ⟨o, h⟩ := O.h0 b (O.ln b hL)
      rw [h00] at h; cases h
    · exact O.lf j b z hL
/-- a list of one's own is data from now on -/
theorem Ok.frz (O : Ok F pins ρ σ H) {i : Nat} {xs : List PyData} (h : ρ[i]? = some (some (.own xs))) (hf : ¬ F.fix i) : Ok F pins (ρ.set i (some (.d (.list xs)))) σ H := by
  obtain ⟨v, hσ, a, vs, rfl, hH, hx, hl⟩ := O.ent i _ h
  have hil : i < ρ.length := by
    rcases Nat.lt_or_ge i ρ.length with z | z
    · exact z
    · rw [List.getElem?_eq_none z] at h; cases h
  have hown : OwnAt ρ σ i a := ⟨⟨_, h, trivial⟩, hσ⟩
  have ow : ∀ j b, OwnAt (ρ.set i (some (.d (.list xs)))) σ j b → j ≠ i ∧ OwnAt ρ σ j b := fun j b h => by
    obtain ⟨⟨ys, h1, hm⟩, h2⟩ := h
    rcases getset h1 with ⟨_, q, _⟩ | ⟨ne, q⟩
    · cases q; exact hm.elim
    · exact ⟨ne, ⟨ys, q, hm⟩, h2⟩
  have G : Go (Av F pins ρ σ) (Av F pins (ρ.set i (some (.d (.list xs)))) σ) H H := by
    refine ⟨fun _ _ _ h _ => h, fun a h => .inl ?_⟩
    rcases h with h | ⟨j, h⟩ | h
    · exact .inl h
    · exact .inr (.inl ⟨j, (ow j a h).2⟩)
    · exact .inr (.inr h)
  have h0a : F.H0 a = none := by
    rcases hl with hl | hl
    · exact absurd (O.lf i a hown hl) hf
    · exact hl
  have nav : ¬ Av F pins (ρ.set i (some (.d (.list xs)))) σ a := by
    rintro (z | ⟨j, z⟩ | z)
    · obtain ⟨o, e⟩ := O.h0 a z
      rw [h0a] at e; cases e
    · exact (ow j a z).1 (O.own j i a (ow j a z).2 hown)
    · obtain ⟨ys, hp⟩ := mem_accs.mp z
      obtain ⟨_, _, _, _, hno⟩ := O.pin _ hp
      exact hno ⟨i, hown⟩
  have im : Im F.K (Av F pins (ρ.set i (some (.d (.list xs)))) σ) H (.list xs) (.ref a) := by
    simp only [Im]
    exact ⟨a, vs, rfl, ⟨hH, nav⟩, hx.go G⟩
  refine ⟨by rw [List.length_set]; exact O.len, fun j f hj => ?_, fun j k b z1 z2 => O.own j k b (ow j b z1).2 (ow k b z2).2, fun p hp => ?_, O.acs, O.fr, O.nh, O.ln, O.h0, fun j b z => O.lf j b (ow j b z).2, O.tb⟩
  · rcases getset hj with ⟨rfl, q, hl⟩ | ⟨ne, q⟩
    · cases q
      exact ⟨.ref a, hσ, im⟩
    · obtain ⟨v, h3, h4⟩ := O.ent j f q
      exact ⟨v, h3, EntOk.go G h4 fun _ _ _ z _ => z⟩
  · have hq := O.pin p hp
    cases p with
    | val v r =>
      cases r with
      | d x => exact Im.go G hq
      | o j =>
        obtain ⟨h1, x, h2⟩ := hq
        refine ⟨h1, ?_⟩
        by_cases e : j = i
        · subst e
          exact ⟨.list xs, by unfold slot; rw [List.getElem?_set_self hil]⟩
        · exact ⟨x, by rw [slot_ne e]; exact h2⟩
      | raw u => exact hq
    | acc b ys =>
      obtain ⟨us, h3, h4, h5, h6⟩ := hq
      exact ⟨us, h3, h4.go G, h5, fun ⟨j, z⟩ => h6 ⟨j, (ow j b z).2⟩⟩
/-- slots forgotten -/
theorem Ok.clr (O : Ok F pins ρ σ H) {i : Nat} (hi : Fr pins i) : Ok F pins (ρ.set i none) (σ.set i none) H := O.put hi (fun _ z => nomatch z) fun _ z => nomatch z
theorem Ok.unclr {i : Nat} (O : Ok F pins ρ (σ.set i none) H) (hi : ρ[i]? = some none) : Ok F pins ρ σ H := by
  have hs : ∀ j v, (σ.set i none)[j]? = some (some v) → σ[j]? = some (some v) := fun j v h => by
    rcases getset h with ⟨_, q, _⟩ | ⟨_, q⟩
    · cases q
    · exact q
  have hs' : ∀ j v, j ≠ i → σ[j]? = some (some v) → (σ.set i none)[j]? = some (some v) := fun j v ne h => by rw [List.getElem?_set_ne (fun z => ne z.symm)]; exact h
  have ne : ∀ j e, ρ[j]? = some (some e) → j ≠ i := fun j e h z => by subst z; rw [hi] at h; cases h
  have ow : ∀ j b, OwnAt ρ σ j b ↔ OwnAt ρ (σ.set i none) j b := fun j b =>
    ⟨fun ⟨⟨xs, h1, hm⟩, h2⟩ => ⟨⟨xs, h1, hm⟩, hs' j _ (ne j _ h1) h2⟩, fun ⟨h1, h2⟩ => ⟨h1, hs j _ h2⟩⟩
  have ae : Av F pins ρ σ = Av F pins ρ (σ.set i none) := by
    funext b; unfold Av; simp only [ow]
  refine ⟨by have := O.len; rw [List.length_set] at this; exact this, fun j e h => ?_, fun j k b z1 z2 => O.own j k b ((ow j b).mp z1) ((ow k b).mp z2), fun p hp => ?_, O.acs, O.fr, O.nh, O.ln, O.h0, fun j b z => O.lf j b ((ow j b).mp z), O.tb⟩
  · obtain ⟨v, h1, h2⟩ := O.ent j e h
    exact ⟨v, hs j v h1, by rw [ae]; exact h2⟩
  · have hq := O.pin p hp
    cases p with
    | val v r =>
      cases r with
      | d x => rw [ae]; exact hq
      | o j => exact ⟨hs j v hq.1, hq.2⟩
      | raw u => exact hq
    | acc b ys =>
      obtain ⟨us, h3, h4, h5, h6⟩ := hq
      exact ⟨us, h3, by rw [ae]; exact h4, h5, fun ⟨j, z⟩ => h6 ⟨j, (ow j b).mp z⟩⟩
def wipeR (ρ : Rho) : List Nat → Rho
  | [] => ρ
  | i :: r => (wipeR ρ r).set i none
theorem Ok.wipe (O : Ok F pins ρ σ H) : ∀ {vs : List Nat}, (∀ i ∈ vs, Fr pins i) → Ok F pins (wipeR ρ vs) (wipe σ vs) H
  | [], _ => O
  | i :: r, h => by
    have := Ok.wipe O (vs := r) fun j hj => h j (List.mem_cons_of_mem _ hj)
    exact this.clr (h i (List.mem_cons_self ..))
theorem wipeR_len : ∀ vs : List Nat, (wipeR ρ vs).length = ρ.length
  | [] => rfl
  | i :: r => by show ((wipeR ρ r).set i none).length = _; rw [List.length_set]; exact wipeR_len r
theorem wipeR_none : ∀ {vs : List Nat} {i : Nat}, i ∈ vs → i < ρ.length → (wipeR ρ vs)[i]? = some none
  | j :: r, i, h, hl => by
    show ((wipeR ρ r).set j none)[i]? = some none
    by_cases e : j = i
    · subst e
      rw [List.getElem?_set_self (by rw [wipeR_len]; exact hl)]
    · rw [List.getElem?_set_ne e]
      rcases List.mem_cons.mp h with z | z
      · exact absurd z.symm e
      · exact wipeR_none z hl
theorem Ok.unwipe : ∀ {vs : List Nat} {σ : L2.St}, Ok F pins ρ (L2.wipe σ vs) H → (∀ i ∈ vs, ρ[i]? = some none ∨ ρ[i]? = none) → Ok F pins ρ σ H
  | [], _, O, _ => O
  | i :: r, σ, O, h => by
    have O' : Ok F pins ρ ((L2.wipe σ r).set i none) H := O
    rcases h i (List.mem_cons_self ..) with z | z
    · exact Ok.unwipe (O'.unclr z) fun j hj => h j (List.mem_cons_of_mem _ hj)
    · have hl : ρ.length ≤ i := List.getElem?_eq_none_iff.mp z
      have hw : (L2.wipe σ r).length = ρ.length := by have := O'.len; rw [List.length_set] at this; exact this
      rw [List.set_eq_of_length_le (by omega)] at O'
      exact Ok.unwipe O' fun j hj => h j (List.mem_cons_of_mem _ hj)
end
end DV
namespace DV
open PySem PySem.Spec PyProof.Rows L2
open LamX (ExtN TabS Tabs CodeO)
abbrev TDE := Rho → (R → Rho → Prop) → Prop
abbrev TDL := Rho → (List PyData → Rho → Prop) → Prop
abbrev TDA := Rho → (List R → Rho → Prop) → Prop
abbrev TDT := Rho → (Bool → Rho → Prop) → Prop
structure DEnds where
  nx : Rho → Prop
  rt : R → Rho → Prop
  bk : Rho → Prop := fun _ => False
  ct : Rho → Prop := fun _ => False
  rl : List PyData → Rho → Prop := fun _ _ => False
abbrev TDS := DEnds → Rho → Prop
/-- what a reading tells of data -/
structure DE (F : Fm) (te : TE) (td : TDE) : Prop where
  run : ∀ (pins : List Pin) (ρ : Rho) (σ : L2.St) (H : Hp) (Q : VK), Ok F pins ρ σ H →
    td ρ (fun r ρ' => ∀ v H', Ok F pins ρ' σ H' → ROk F (Av F pins ρ' σ) ρ' σ H' r v → Q v H') → te σ H Q
  mono : ∀ ρ Q Q', (∀ r ρ', Q r ρ' → Q' r ρ') → td ρ Q → td ρ Q'
structure DL (F : Fm) (te : TE) (td : TDL) : Prop where
  run : ∀ (pins : List Pin) (ρ : Rho) (σ : L2.St) (H : Hp) (Q : VK), Ok F pins ρ σ H →
    td ρ (fun xs ρ' => ∀ p H', Ok F (.acc p xs :: pins) ρ' σ H' → Q (.ref p) H') → te σ H Q
  mono : ∀ ρ Q Q', (∀ r ρ', Q r ρ' → Q' r ρ') → td ρ Q → td ρ Q'
structure DT (F : Fm) (tt : TT) (td : TDT) : Prop where
  run : ∀ (pins : List Pin) (ρ : Rho) (σ : L2.St) (H : Hp) (Q : Bool → Hp → Prop), Ok F pins ρ σ H →
    td ρ (fun b ρ' => ∀ H', Ok F pins ρ' σ H' → Q b H') → tt σ H Q
  mono : ∀ ρ Q Q', (∀ r ρ', Q r ρ' → Q' r ρ') → td ρ Q → td ρ Q'
def ROks (F : Fm) (A : Addr → Prop) (ρ : Rho) (σ : L2.St) (H : Hp) : List R → List V → Prop
  | [], vs => vs = []
  | r :: rs, vs => ∃ v us, vs = v :: us ∧ ROk F A ρ σ H r v ∧ ROks F A ρ σ H rs us
structure DA (F : Fm) (ta : TA) (td : TDA) : Prop where
  run : ∀ (pins : List Pin) (ρ : Rho) (σ : L2.St) (H : Hp) (Q : List V → Hp → Prop), Ok F pins ρ σ H →
    td ρ (fun rs ρ' => ∀ vs H', Ok F pins ρ' σ H' → ROks F (Av F pins ρ' σ) ρ' σ H' rs vs → Q vs H') → ta σ H Q
  mono : ∀ ρ Q Q', (∀ r ρ', Q r ρ' → Q' r ρ') → td ρ Q → td ρ Q'
structure PD (X : Cx) (F : Fm) (e : Expr) (te : TE) (td : TDE) : Prop where
  pe : PE X e te
  de : DE F te td
structure PDL (X : Cx) (F : Fm) (e : Expr) (te : TE) (td : TDL) : Prop where
  pe : PE X e te
  dl : DL F te td
structure PDT (X : Cx) (F : Fm) (e : Expr) (tt : TT) (td : TDT) : Prop where
  pt : PT X e tt
  dt : DT F tt td
structure PDW (X : Cx) (F : Fm) (e : Expr) (tt : TT) (td : TDT) : Prop where
  pw : PW X e tt
  dt : DT F tt td
structure PDA (X : Cx) (F : Fm) (es : List Expr) (ta : TA) (td : TDA) : Prop where
  pa : PA X es ta
  da : DA F ta td
section
variable {F : Fm} {pins : List Pin} {ρ : Rho} {σ : L2.St} {H H' : Hp}
theorem LkR.sq (O : Ok F pins ρ σ H) {a : Addr} {us : List V} (h : LkR F a us) : SqL F.K H a us := by
  rcases h with ⟨h | ⟨o, h⟩, n⟩ | h
  · exact .inl (.inl (O.fr _ _ n h nt_lst))
  · exact .inl (.inr ⟨o, O.fr _ _ n h nt_frz⟩)
  · exact sql_none h
theorem slot_dp (O : Ok F pins ρ σ H) {i : Nat} {v : V} {x : PyData} (h1 : σ[i]? = some (some v)) (h2 : slot ρ i = some x) : Dp F.K H v x := by
  unfold slot at h2
  cases e : ρ[i]? with
  | none => rw [e] at h2; cases h2
  | some f =>
    rw [e] at h2
    cases f with
    | none => cases h2
    | some f =>
      obtain ⟨u, h3, h4⟩ := O.ent i f e
      rw [h1] at h3; cases h3
      cases f with
      | d y => cases h2; exact Im.dp h4
      | own ys =>
        cases h2
        obtain ⟨a, vs, rfl, h5, h6, _⟩ := h4
        exact .lst (.of h5) h6.dp
      | dic kvs => cases h2
      | ro y =>
        cases h2
        rcases h4 with h4 | ⟨a, us, xs, rfl, rfl, l, t⟩
        · exact Im.dp h4
        · exact .lst (l.sq O) t.dp
      | raw u => cases h2
theorem val_dp (O : Ok F pins ρ σ H) {A : Addr → Prop} {r : R} {v : V} {x : PyData} (h : ROk F A ρ σ H r v) (h2 : val ρ r = some x) : Dp F.K H v x := by
  cases r with
  | d y => cases h2; exact Im.dp h
  | o i => exact slot_dp O h.1 h2
  | raw u => cases h2
def vals (ρ : Rho) : List R → Option (List PyData)
  | [] => some []
  | r :: rs => match val ρ r, vals ρ rs with
    | some x, some xs => some (x :: xs)
    | _, _ => none
theorem vals_dp (O : Ok F pins ρ σ H) {A : Addr → Prop} : ∀ {rs : List R} {vs : List V} {xs : List PyData}, ROks F A ρ σ H rs vs → vals ρ rs = some xs → DpAll F.K H vs xs
  | [], _, _, h, e => by
    simp only [ROks] at h; simp only [vals] at e; subst h; cases e; exact .nil
  | r :: rs, _, _, h, e => by
    simp only [ROks] at h
    obtain ⟨v, us, rfl, h1, h2⟩ := h
    simp only [vals] at e
    cases e1 : val ρ r with
    | none => rw [e1] at e; cases e
    | some x =>
      cases e2 : vals ρ rs with
      | none => rw [e1, e2] at e; cases e
      | some xs =>
        rw [e1, e2] at e; cases e
        exact .cons (val_dp O h1 e1) (vals_dp O h2 e2)
end
/-- a value without a heap -/
def Sc (z : PyData) (v : V) : Prop := ∀ K N H, Im K N H z v
theorem Sc.int {i : Int} : Sc (.int i) (.int i) := fun _ _ _ => Im.int
theorem Sc.bool {b : Bool} : Sc (.bool b) (.bl b) := fun _ _ _ => Im.bool
theorem Sc.str {x : Str} : Sc (.str x) (.str x) := fun _ _ _ => Im.str
theorem Sc.none : Sc .none .non := fun _ _ _ => Im.none
theorem ROk.sc {F : Fm} {A : Addr → Prop} {ρ : Rho} {σ : L2.St} {H : Hp} {z : PyData} {v : V} (h : Sc z v) : ROk F A ρ σ H (.d z) v := h _ _ _
section
variable {X : Cx} {F : Fm} {a b c e : Expr} {es : List Expr} {ta tb tc te : TE} {da db dc de : TDE} {pos : Pos}
def dVar (i : Nat) : TDE := fun ρ Q => match ρ[i]? with
  | some (some (.d x)) => Q (.d x) ρ
  | some (some (.own _)) => Q (.o i) ρ
  | some (some (.ro _)) => Q (.o i) ρ
  | some (some (.raw v)) => Q (.raw v) ρ
  | _ => False
theorem de_var (i : Nat) : DE F (tVar i) (dVar i) := by
  constructor
  · intro pins ρ σ H Q O h
    unfold dVar at h
    cases e : ρ[i]? with
    | none => rw [e] at h; exact h.elim
    | some f =>
      rw [e] at h
      cases f with
      | none => exact h.elim
      | some f =>
        obtain ⟨v, h1, h2⟩ := O.ent i f e
        refine ⟨v, h1, ?_⟩
        cases f with
        | d x => exact h v H O h2
        | own xs => exact h v H O ⟨h1, .list xs, by unfold slot; rw [e]⟩
        | dic kvs => exact h.elim
        | ro x => exact h v H O ⟨h1, x, by unfold slot; rw [e]⟩
        | raw u => exact h v H O h2
  · intro ρ Q Q' hq h
    unfold dVar at h ⊢
    split at h <;> first | exact hq _ _ h | exact h
theorem pdv (i : Nat) {x : Str} (hN : X.N[i]? = some x := by rfl) (hv : Vis X.env.scope x := by first | exact Or.inl rfl | exact Or.inr (Or.inl rfl) | exact Or.inr (Or.inr rfl)) (hd : (x == ("__debug__" : Str)) = false := by decide)
    (hcd : (x == ("__classdict__" : Str)) = false := by decide) : PD X F (.Name x pos) (tVar i) (dVar i) := ⟨pe_var hN hv hd hcd, de_var i⟩
def dC (z : PyData) : TDE := fun ρ Q => Q (.d z) ρ
theorem de_c {v : V} {z : PyData} (h : Sc z v) : DE F (tC v) (dC z) := ⟨fun pins ρ σ H Q O h2 => h2 v H O (h _ _ _), fun _ _ _ hq h => hq _ _ h⟩
theorem pd_int {i : Int} {j} : PD X F (.Constant (.int i) j pos) (tC (.int i)) (dC (.int i)) := ⟨pe_int, de_c .int⟩
theorem pd_bl {i : Bool} {j} : PD X F (.Constant (.bool i) j pos) (tC (.bl i)) (dC (.bool i)) := ⟨pe_bl, de_c .bool⟩
theorem pd_non {j} : PD X F (.Constant .none j pos) (tC .non) (dC .none) := ⟨pe_non, de_c .none⟩
abbrev F2 := PyData → PyData → (PyData → Prop) → Prop
/-- the operator's reading from data, the answer without a heap -/
structure SO (K : PySem.W.Frag) (r : R2) (f : F2) : Prop where
  run : ∀ (H : Hp) (x y : V) (dx dy : PyData) (Q : VK), Dp K H x dx → Dp K H y dy → f dx dy (fun z => ∀ v, Sc z v → Q v H) → r x y H Q
  mono : ∀ x y Q Q', (∀ z, Q z → Q' z) → f x y Q → f x y Q'
def onV2 (ρ : Rho) (r s : R) (f : PyData → PyData → Prop) : Prop := match val ρ r, val ρ s with
  | some x, some y => f x y
  | _, _ => False
theorem onV2_of {ρ : Rho} {r s : R} {f : PyData → PyData → Prop} (h : onV2 ρ r s f) : ∃ x y, val ρ r = some x ∧ val ρ s = some y ∧ f x y := by
  unfold onV2 at h
  split at h
  · exact ⟨_, _, by assumption, by assumption, h⟩
  · exact h.elim
theorem onV2_mono {ρ : Rho} {r s : R} {f g : PyData → PyData → Prop} (h : onV2 ρ r s f) (k : ∀ x y, f x y → g x y) : onV2 ρ r s g := by
  unfold onV2 at h ⊢
  split at h
  · exact k _ _ h
  · exact h.elim
def onV (ρ : Rho) (r : R) (f : PyData → Prop) : Prop := match val ρ r with
  | some x => f x
  | _ => False
theorem onV_of {ρ : Rho} {r : R} {f : PyData → Prop} (h : onV ρ r f) : ∃ x, val ρ r = some x ∧ f x := by
  unfold onV at h
  split at h
  · exact ⟨_, by assumption, h⟩
  · exact h.elim
theorem onV_mono {ρ : Rho} {r : R} {f g : PyData → Prop} (h : onV ρ r f) (k : ∀ x, f x → g x) : onV ρ r g := by
  unfold onV at h ⊢
  split at h
  · exact k _ h
  · exact h.elim
def onVs (ρ : Rho) (rs : List R) (f : List PyData → Prop) : Prop := match vals ρ rs with
  | some xs => f xs
  | _ => False
theorem onVs_of {ρ : Rho} {rs : List R} {f : List PyData → Prop} (h : onVs ρ rs f) : ∃ xs, vals ρ rs = some xs ∧ f xs := by
  unfold onVs at h
  split at h
  · exact ⟨_, by assumption, h⟩
  · exact h.elim
theorem onVs_mono {ρ : Rho} {rs : List R} {f g : List PyData → Prop} (h : onVs ρ rs f) (k : ∀ xs, f xs → g xs) : onVs ρ rs g := by
  unfold onVs at h ⊢
  split at h
  · exact k _ h
  · exact h.elim
def dBin (ta tb : TDE) (k : R → R → Rho → (R → Rho → Prop) → Prop) : TDE := fun ρ Q => ta ρ fun r ρ1 => tb ρ1 fun s ρ2 => k r s ρ2 Q
/-- two operands, one behind the other -/
theorem de_bin {t : V → V → Hp → VK → Prop} {k : R → R → Rho → (R → Rho → Prop) → Prop} (ha : DE F ta da) (hb : DE F tb db)
    (hk : ∀ pins ρ σ H x y r s (Q : VK), Ok F pins ρ σ H → ROk F (Av F pins ρ σ) ρ σ H r x → ROk F (Av F pins ρ σ) ρ σ H s y → k r s ρ (fun z ρ' => ∀ v H', Ok F pins ρ' σ H' → ROk F (Av F pins ρ' σ) ρ' σ H' z v → Q v H') → t x y H Q)
    (hm : ∀ r s ρ Q Q', (∀ r ρ', Q r ρ' → Q' r ρ') → k r s ρ Q → k r s ρ Q') :
    DE F (fun σ H Q => ta σ H fun x H1 => tb σ H1 fun y H2 => t x y H2 Q) (dBin da db k) := by
  constructor
  · intro pins ρ σ H Q O h
    refine ha.run pins ρ σ H _ O (ha.mono _ _ _ (fun r ρ1 h1 x H1 O1 R1 => ?_) h)
    refine hb.run (.val x r :: pins) ρ1 σ H1 _ (O1.push R1) (hb.mono _ _ _ (fun s ρ2 h2 y H2 O2 R2 => ?_) h1)
    obtain ⟨O3, R3⟩ := O2.popV
    exact hk pins ρ2 σ H2 x y r s Q O3 R3 R2 h2
  · intro ρ Q Q' hq h
    exact ha.mono _ _ _ (fun r ρ1 h1 => hb.mono _ _ _ (fun s ρ2 h2 => hm r s ρ2 Q Q' hq h2) h1) h
def dOp (f : F2) (ta tb : TDE) : TDE := dBin ta tb fun r s ρ Q => onV2 ρ r s fun x y => f x y fun z => Q (.d z) ρ
theorem de_op {r : R2} {f : F2} (hf : SO F.K r f) (ha : DE F ta da) (hb : DE F tb db) : DE F (tOp r ta tb) (dOp f da db) := by
  refine de_bin ha hb (fun pins ρ σ H x y r s Q O R1 R2 h => ?_) fun r s ρ Q Q' hq h => onV2_mono h fun x y h => hf.mono _ _ _ _ (fun z => hq _ _) h
  obtain ⟨dx, dy, e1, e2, h⟩ := onV2_of h
  exact hf.run H x y dx dy Q (val_dp O R1 e1) (val_dp O R2 e2) (hf.mono _ _ _ _ (fun z q v hv => q v H O (hv _ _ _)) h)
theorem pd_op {op : Operator} {r : R2} {f : F2} (ho : OpR X (binaryOp op) r) (hf : SO F.K r f) (ha : PD X F a ta da) (hb : PD X F b tb db) : PD X F (.BinOp a op b pos) (tOp r ta tb) (dOp f da db) := ⟨pe_op ho ha.pe hb.pe, de_op hf ha.de hb.de⟩
theorem pd_cmp {op : CmpOp} {r : R2} {f : F2} (ho : OpR X (compareOp op) r) (hm : behindInMarks op b = false) (hf : SO F.K r f) (ha : PD X F a ta da) (hb : PD X F b tb db) : PD X F (.Compare a [op] [b] pos) (tOp r ta tb) (dOp f da db) := ⟨pe_cmpR ho ha.pe hb.pe hm, de_op hf ha.de hb.de⟩
/-- of two whole numbers -/
def fI (C : Int → Int → Prop) (g : Int → Int → PyData) : F2
  | .int i, .int j, Q => C i j ∧ Q (g i j)
  | _, _, _ => False
theorem so_I {K : PySem.W.Frag} {C : Int → Int → Prop} {g : Int → Int → PyData} {g' : Int → Int → V} (h : ∀ i j, Sc (g i j) (g' i j)) : SO K (rI C g') (fI C g) := by
  constructor
  · intro H x y dx dy Q h1 h2 q
    cases dx <;> cases dy <;> first | exact q.elim | skip
    cases h1; cases h2
    exact ⟨_, _, rfl, rfl, q.1, q.2 _ (h _ _)⟩
  · intro x y Q Q' hq q
    cases x <;> cases y <;> first | exact q.elim | skip
    exact ⟨q.1, hq _ q.2⟩
def fI0 (g : Int → Int → PyData) : F2
  | .int i, .int j, Q => Q (g i j)
  | _, _, _ => False
theorem so_I0 {K : PySem.W.Frag} {g : Int → Int → PyData} {g' : Int → Int → V} (h : ∀ i j, Sc (g i j) (g' i j)) : SO K (rI0 g') (fI0 g) := by
  constructor
  · intro H x y dx dy Q h1 h2 q
    cases dx <;> cases dy <;> first | exact q.elim | skip
    cases h1; cases h2
    exact ⟨_, _, rfl, rfl, q _ (h _ _)⟩
  · intro x y Q Q' hq q
    cases x <;> cases y <;> first | exact q.elim | skip
    exact hq _ q
abbrev fAdd : F2 := fI0 fun i j => .int (i + j)
abbrev fSub : F2 := fI0 fun i j => .int (i - j)
abbrev fMul : F2 := fI CMulW fun i j => .int (i * j)
abbrev fDiv : F2 := fI CDivW fun i j => .int (i / j)
abbrev fMod : F2 := fI (fun _ j => 0 < j) fun i j => .int (i % j)
abbrev fLt : F2 := fI0 fun i j => .bool (decide (i < j))
abbrev fLe : F2 := fI0 fun i j => .bool (decide (i ≤ j))
abbrev fGt : F2 := fI0 fun i j => .bool (decide (j < i))
abbrev fGe : F2 := fI0 fun i j => .bool (decide (j ≤ i))
theorem pd_add (ha : PD X F a ta da) (hb : PD X F b tb db) : PD X F (.BinOp a .Add b pos) (tOp (rI0 fun i j => .int (i + j)) ta tb) (dOp fAdd da db) := pd_op op_add (so_I0 fun _ _ => .int) ha hb
theorem pd_sub (ha : PD X F a ta da) (hb : PD X F b tb db) : PD X F (.BinOp a .Sub b pos) (tOp (rI0 fun i j => .int (i - j)) ta tb) (dOp fSub da db) := pd_op op_sub (so_I0 fun _ _ => .int) ha hb
theorem pd_mul (ha : PD X F a ta da) (hb : PD X F b tb db) : PD X F (.BinOp a .Mult b pos) (tOp (rI CMulW fun i j => .int (i * j)) ta tb) (dOp fMul da db) := pd_op op_mulW (so_I fun _ _ => .int) ha hb
theorem pd_div (ha : PD X F a ta da) (hb : PD X F b tb db) : PD X F (.BinOp a .FloorDiv b pos) (tOp (rI CDivW fun i j => .int (i / j)) ta tb) (dOp fDiv da db) := pd_op op_fdivW (so_I fun _ _ => .int) ha hb
/-- by any divisor but 0 -/
def CDivZ (_ j : Int) : Prop := j ≠ 0 ∧ j.natAbs.log2 < 9000
abbrev fDivZ : F2 := fI CDivZ fun i j => .int (i.fdiv j)
theorem pd_mod (ha : PD X F a ta da) (hb : PD X F b tb db) : PD X F (.BinOp a .Mod b pos) (tOp (rI (fun _ j => 0 < j) fun i j => .int (i % j)) ta tb) (dOp fMod da db) := pd_op op_mod (so_I fun _ _ => .int) ha hb
theorem pd_ge (ha : PD X F a ta da) (hb : PD X F b tb db) : PD X F (.Compare a [.GtE] [b] pos) (tOp (rI0 fun i j => .bl (decide (j ≤ i))) ta tb) (dOp fGe da db) := pd_cmp op_ge (nomark _) (so_I0 fun _ _ => .bool) ha hb
/-- == of any data -/
def fEq : F2 := fun x y Q => SeqAt.shaped x = true ∧ SeqAt.shaped y = true ∧ Q (.bool (PyData.eqv x y))
def fNe : F2 := fun x y Q => SeqAt.shaped x = true ∧ SeqAt.shaped y = true ∧ Q (.bool (!PyData.eqv x y))
theorem so_Eq {K : PySem.W.Frag} : SO K (rEqD K) fEq := ⟨fun H x y dx dy Q h1 h2 q => ⟨dx, dy, h1, h2, q.1, q.2.1, q.2.2 _ .bool⟩, fun _ _ _ _ hq q => ⟨q.1, q.2.1, hq _ q.2.2⟩⟩
theorem pd_eq (hu : X.A.units + 64 < cLine) (hK : X.K = F.K := by rfl) (ha : PD X F a ta da) (hb : PD X F b tb db) : PD X F (.Compare a [.Eq] [b] pos) (tOp (rEqD F.K) ta tb) (dOp fEq da db) := by
  have h := pd_cmp (X := X) (F := F) (pos := pos) (op_eqD hu) (nomark _) (by rw [hK]; exact so_Eq) ha hb
  rw [hK] at h; exact h
/-- == of two texts -/
def fEqS : F2
  | .str x, .str y, Q => Q (.bool (decide (x = y)))
  | _, _, _ => False
theorem so_EqS {K : PySem.W.Frag} : SO K rEq fEqS := by
  constructor
  · intro H x y dx dy Q h1 h2 q
    cases dx <;> cases dy <;> first | exact q.elim | skip
    cases h1; cases h2
    refine ⟨rfl, q _ ?_⟩
    rw [dec_str, ← Bool.beq_eq_decide_eq]
    exact .bool
  · intro x y Q Q' hq q
    cases x <;> cases y <;> first | exact q.elim | skip
    exact hq _ q
theorem pd_eqS (ha : PD X F a ta da) (hb : PD X F b tb db) : PD X F (.Compare a [.Eq] [b] pos) (tOp rEq ta tb) (dOp fEqS da db) := pd_cmp op_eq (nomark _) so_EqS ha hb
def dUn (f : PyData → (PyData → Prop) → Prop) (ta : TDE) : TDE := fun ρ Q => ta ρ fun r ρ1 => onV ρ1 r fun x => f x fun z => Q (.d z) ρ1
def fNeg : PyData → (PyData → Prop) → Prop
  | .int i, Q => Q (.int (-i))
  | _, _ => False
end
end DV
namespace DV
open PySem PySem.Spec PyProof.Rows L2
open LamX (ExtN TabS Tabs CodeO)
section
variable {X : Cx} {F : Fm} {a b c e : Expr} {es : List Expr} {ta tb tc te : TE} {da db dc de : TDE} {pos : Pos} {t : TA} {d : TDA}
def dNil : TDA := fun ρ Q => Q [] ρ
def dCons (te : TDE) (t : TDA) : TDA := fun ρ Q => te ρ fun r ρ1 => t ρ1 fun rs ρ2 => Q (r :: rs) ρ2
theorem da_nil : DA F tNil dNil := ⟨fun pins ρ σ H Q O h => h [] H O (by simp only [ROks]), fun _ _ _ hq h => hq _ _ h⟩
theorem da_cons (h1 : DE F te de) (h2 : DA F t d) : DA F (tCons te t) (dCons de d) := by
  constructor
  · intro pins ρ σ H Q O h
    refine h1.run pins ρ σ H _ O (h1.mono _ _ _ (fun r ρ1 h3 x H1 O1 R1 => ?_) h)
    refine h2.run (.val x r :: pins) ρ1 σ H1 _ (O1.push R1) (h2.mono _ _ _ (fun rs ρ2 h4 vs H2 O2 R2 => ?_) h3)
    obtain ⟨O3, R3⟩ := O2.popV
    refine h4 _ H2 O3 ?_
    simp only [ROks]
    exact ⟨x, vs, rfl, R3, R2⟩
  · intro ρ Q Q' hq h
    exact h1.mono _ _ _ (fun r ρ1 h3 => h2.mono _ _ _ (fun rs ρ2 h4 => hq _ _ h4) h3) h
theorem pda_nil : PDA X F [] tNil dNil := ⟨pa_nil, da_nil⟩
theorem pda_cons (h1 : PD X F e te de) (h2 : PDA X F es t d) (hs : starEach (e :: es) X.env = (false, eval e X.env) :: starEach es X.env := by rfl) : PDA X F (e :: es) (tCons te t) (dCons de d) := ⟨pa_cons h1.pe h2.pa hs, da_cons h1.de h2.da⟩
/-- all of them data that nobody changes -/
def dats : List R → Option (List PyData)
  | [] => some []
  | .d x :: rs => (dats rs).map (x :: ·)
  | _ :: _ => none
theorem dats_im {A : Addr → Prop} {ρ : Rho} {σ : L2.St} {H : Hp} : ∀ {rs : List R} {vs : List V} {xs : List PyData}, ROks F A ρ σ H rs vs → dats rs = some xs → ImAll F.K A H xs vs
  | [], _, _, h, e => by simp only [ROks] at h; simp only [dats] at e; subst h; cases e; exact .nil
  | .d x :: rs, _, _, h, e => by
    simp only [ROks] at h
    obtain ⟨v, us, rfl, h1, h2⟩ := h
    simp only [dats] at e
    cases e1 : dats rs with
    | none => rw [e1] at e; cases e
    | some xs => rw [e1] at e; cases e; exact .cons h1 (dats_im h2 e1)
  | .o _ :: _, _, _, _, e => by cases e
  | .raw _ :: _, _, _, _, e => by cases e
def onD (rs : List R) (f : List PyData → Prop) : Prop := match dats rs with
  | some xs => f xs
  | _ => False
theorem onD_of {rs : List R} {f : List PyData → Prop} (h : onD rs f) : ∃ xs, dats rs = some xs ∧ f xs := by
  unfold onD at h
  split at h
  · exact ⟨_, by assumption, h⟩
  · exact h.elim
theorem onD_mono {rs : List R} {f g : List PyData → Prop} (h : onD rs f) (k : ∀ xs, f xs → g xs) : onD rs g := by
  unfold onD at h ⊢
  split at h
  · exact k _ h
  · exact h.elim
def Few (n : Nat) : Prop := n ≤ sizeLine
def dTup (t : TDA) : TDE := fun ρ Q => t ρ fun rs ρ1 => onD rs fun xs => Few xs.length ∧ Q (.d (.tuple xs)) ρ1
theorem newTup {pins : List Pin} {ρ : Rho} {σ : L2.St} {H : Hp} (O : Ok F pins ρ σ H) {p : Addr} {xs : List PyData} {vs : List V} (hp : H p = none) (h : ImAll F.K (Av F pins ρ σ) H xs vs) :
    Ok F pins ρ σ (upd H p (.tup vs)) ∧ Im F.K (Av F pins ρ σ) (upd H p (.tup vs)) (.tuple xs) (.ref p) := by
  have g := grow_new (o := .tup vs) hp
  refine ⟨O.new hp, ?_⟩
  simp only [Im]
  refine ⟨p, vs, rfl, .inl ⟨.inl upd_same, fun z => ?_⟩, h.go ⟨fun a o _ e _ => g a o e, fun a z => .inl z⟩⟩
  obtain ⟨o, e⟩ := O.avH z
  rw [hp] at e; cases e
theorem pd_tup {x1} (h : PDA X F es t d) : PD X F (.Tuple es x1 pos) (tTup t) (dTup d) := by
  refine ⟨pe_tup h.pa, ?_, ?_⟩
  · intro pins ρ σ H Q O hq
    refine h.da.run pins ρ σ H _ O (h.da.mono _ _ _ (fun rs ρ1 h1 vs H1 O1 R1 => ?_) hq)
    obtain ⟨xs, e, hl, h2⟩ := onD_of h1
    have im := dats_im R1 e
    refine ⟨by rw [im.length]; exact hl, fun p hp => ?_⟩
    obtain ⟨O2, i2⟩ := newTup O1 hp im
    exact h2 _ _ O2 i2
  · intro ρ Q Q' hq hh
    exact h.da.mono _ _ _ (fun rs ρ1 h1 => onD_mono h1 fun xs h2 => ⟨h2.1, hq _ _ h2.2⟩) hh
def dLst (t : TDA) : TDL := fun ρ Q => t ρ fun rs ρ1 => onD rs fun xs => Few xs.length ∧ Q xs ρ1
theorem pl_lst (h : PDA X F es t d) : PDL X F (.List es pos) (tLst t) (dLst d) := by
  refine ⟨pe_lst h.pa, ?_, ?_⟩
  · intro pins ρ σ H Q O hq
    refine h.da.run pins ρ σ H _ O (h.da.mono _ _ _ (fun rs ρ1 h1 vs H1 O1 R1 => ?_) hq)
    obtain ⟨xs, e, hl, h2⟩ := onD_of h1
    have im := dats_im R1 e
    refine ⟨by rw [im.length]; exact hl, fun p hp => ?_⟩
    exact h2 _ _ (O1.pushL hp im)
  · intro ρ Q Q' hq hh
    exact h.da.mono _ _ _ (fun rs ρ1 h1 => onD_mono h1 fun xs h2 => ⟨h2.1, hq _ _ h2.2⟩) hh
/-- a new list as data -/
def dOfL (t : TDL) : TDE := fun ρ Q => t ρ fun xs ρ1 => Q (.d (.list xs)) ρ1
theorem pd_l {dl : TDL} (h : PDL X F e te dl) : PD X F e te (dOfL dl) := by
  refine ⟨h.pe, ?_, ?_⟩
  · intro pins ρ σ H Q O hq
    refine h.dl.run pins ρ σ H _ O (h.dl.mono _ _ _ (fun xs ρ1 h1 p H1 O1 => ?_) hq)
    obtain ⟨O2, i2⟩ := O1.popL
    exact h1 _ _ O2 i2
  · intro ρ Q Q' hq hh
    exact h.dl.mono _ _ _ (fun xs ρ1 h1 => hq _ _ h1) hh
abbrev FA := List PyData → (PyData → Prop) → Prop
structure SC (K : PySem.W.Frag) (r : List V → Hp → VK → Prop) (f : FA) : Prop where
  run : ∀ (H : Hp) (vs : List V) (ds : List PyData) (Q : VK), DpAll K H vs ds → f ds (fun z => ∀ v, Sc z v → Q v H) → r vs H Q
  mono : ∀ ds Q Q', (∀ z, Q z → Q' z) → f ds Q → f ds Q'
def dCB (f : FA) (t : TDA) : TDE := fun ρ Q => t ρ fun rs ρ1 => onVs ρ1 rs fun xs => f xs fun z => Q (.d z) ρ1
theorem de_cb {r : List V → Hp → VK → Prop} {f : FA} (hf : SC F.K r f) (h : DA F t d) : DE F (tCB r t) (dCB f d) := by
  constructor
  · intro pins ρ σ H Q O hq
    refine h.run pins ρ σ H _ O (h.mono _ _ _ (fun rs ρ1 h1 vs H1 O1 R1 => ?_) hq)
    obtain ⟨xs, e, h2⟩ := onVs_of h1
    exact hf.run H1 vs xs Q (vals_dp O1 R1 e) (hf.mono _ _ _ (fun z q v hv => q v H1 O1 (.sc hv)) h2)
  · intro ρ Q Q' hq hh
    exact h.mono _ _ _ (fun rs ρ1 h1 => onVs_mono h1 fun xs h2 => hf.mono _ _ _ (fun z => hq _ _) h2) hh
theorem pd_callB {r : List V → Hp → VK → Prop} {f : FA} {x : Str} {p : Pos} {id : String} (hc : CallR X (.builtin id) r) (hf : SC F.K r f) (hg : Gl X x) (hm : X.mg x = none) (hv : bootBuiltins x = some (.builtin id)) (ha : PDA X F (e :: es) t d) (hn : x ≠ "__name__" := by decide) (hdb : (x == ("__debug__" : Str)) = false := by decide)
    (he : starEach (e :: es) X.env = (false, eval e X.env) :: starEach es X.env := by rfl) (hpl : (backTo pos (starEach es X.env)).any (·.1) = false := by rfl) : PD X F (.Call (.Name x p) (e :: es) [] pos) (tCB r t) (dCB f d) :=
  ⟨pe_callB hc hg hm hv ha.pa hn hdb he hpl, de_cb hf ha.da⟩
theorem pd_callTy {r : List V → Hp → VK → Prop} {f : FA} {x : Str} {p : Pos} {T : String} (hc : CallR X (.type T) r) (hf : SC F.K r f) (hg : Gl X x) (hm : X.mg x = none) (hv : bootBuiltins x = some (.type T)) (ha : PDA X F (e :: es) t d) (hn : x ≠ "__name__" := by decide) (hdb : (x == ("__debug__" : Str)) = false := by decide)
    (he : starEach (e :: es) X.env = (false, eval e X.env) :: starEach es X.env := by rfl) (hpl : (backTo pos (starEach es X.env)).any (·.1) = false := by rfl) : PD X F (.Call (.Name x p) (e :: es) [] pos) (tCB r t) (dCB f d) :=
  ⟨pe_callTy hc hg hm hv ha.pa hn hdb he hpl, de_cb hf ha.da⟩
def fAbs : FA
  | [.int i], Q => Q (.int (if i < 0 then -i else i))
  | _, _ => False
theorem dpall1 {K : PySem.W.Frag} {H : Hp} {vs : List V} {d : PyData} (h : DpAll K H vs [d]) : ∃ v, vs = [v] ∧ Dp K H v d := by
  cases h with
  | cons h1 h2 => cases h2; exact ⟨_, rfl, h1⟩
theorem dpall2 {K : PySem.W.Frag} {H : Hp} {vs : List V} {d e : PyData} (h : DpAll K H vs [d, e]) : ∃ v u, vs = [v, u] ∧ Dp K H v d ∧ Dp K H u e := by
  cases h with
  | cons h1 h2 =>
    obtain ⟨u, rfl, h3⟩ := dpall1 h2
    exact ⟨_, u, rfl, h1, h3⟩
theorem dp_int {K : PySem.W.Frag} {H : Hp} {v : V} {i : Int} (h : Dp K H v (.int i)) : v = .int i := by cases h; rfl
theorem dp_bool {K : PySem.W.Frag} {H : Hp} {v : V} {i : Bool} (h : Dp K H v (.bool i)) : v = .bl i := by cases h; rfl
theorem sc_abs {K : PySem.W.Frag} : SC K (fun xs H Q => ∃ i, xs = [.int i] ∧ Q (.int (if i < 0 then -i else i)) H) fAbs := by
  constructor
  · intro H vs ds Q h q
    unfold fAbs at q
    split at q
    · obtain ⟨v, rfl, h1⟩ := dpall1 h
      cases dp_int h1
      exact ⟨_, rfl, q _ .int⟩
    · exact q.elim
  · intro ds Q Q' hq q
    unfold fAbs at q ⊢
    split at q
    · exact hq _ q
    · exact q.elim
def fInt : FA
  | [.int i], Q => Q (.int i)
  | [.bool k], Q => Q (.int (if k then 1 else 0))
  | _, _ => False
theorem sc_int {K : PySem.W.Frag} : SC K (fun xs H Q => (∃ i, xs = [.int i] ∧ Q (.int i) H) ∨ ∃ k, xs = [.bl k] ∧ Q (.int (if k then 1 else 0)) H) fInt := by
  constructor
  · intro H vs ds Q h q
    unfold fInt at q
    split at q
    · obtain ⟨v, rfl, h1⟩ := dpall1 h
      cases dp_int h1
      exact .inl ⟨_, rfl, q _ .int⟩
    · obtain ⟨v, rfl, h1⟩ := dpall1 h
      cases dp_bool h1
      exact .inr ⟨_, rfl, q _ .int⟩
    · exact q.elim
  · intro ds Q Q' hq q
    unfold fInt at q ⊢
    split at q <;> first | exact hq _ q | exact q.elim
def fMax : FA
  | [.int i, .int j], Q => Q (.int (if j > i then j else i))
  | _, _ => False
theorem sc_max {K : PySem.W.Frag} : SC K (fun xs H Q => ∃ i j, xs = [.int i, .int j] ∧ Q (.int (if j > i then j else i)) H) fMax := by
  constructor
  · intro H vs ds Q h q
    unfold fMax at q
    split at q
    · obtain ⟨v, u, rfl, h1, h2⟩ := dpall2 h
      cases dp_int h1; cases dp_int h2
      exact ⟨_, _, rfl, q _ .int⟩
    · exact q.elim
  · intro ds Q Q' hq q
    unfold fMax at q ⊢
    split at q <;> first | exact hq _ q | exact q.elim
def fMin : FA
  | [.int i, .int j], Q => Q (.int (if j < i then j else i))
  | _, _ => False
theorem sc_min {K : PySem.W.Frag} : SC K (fun xs H Q => ∃ i j, xs = [.int i, .int j] ∧ Q (.int (if j < i then j else i)) H) fMin := by
  constructor
  · intro H vs ds Q h q
    unfold fMin at q
    split at q
    · obtain ⟨v, u, rfl, h1, h2⟩ := dpall2 h
      cases dp_int h1; cases dp_int h2
      exact ⟨_, _, rfl, q _ .int⟩
    · exact q.elim
  · intro ds Q Q' hq q
    unfold fMin at q ⊢
    split at q <;> first | exact hq _ q | exact q.elim
def fGcd : FA
  | [.int i, .int j], Q => Q (.int ((Nat.gcd i.natAbs j.natAbs : Nat) : Int))
  | _, _ => False
/-- len of a list or a tuple -/
def fLen : FA
  | [.list xs], Q => Q (.int (xs.length : Nat))
  | [.tuple xs], Q => Q (.int (xs.length : Nat))
  | _, _ => False
theorem DpAll.length {K : PySem.W.Frag} {H : Hp} : ∀ {vs : List V} {ds : List PyData}, DpAll K H vs ds → vs.length = ds.length
  | _, [], h => by cases h; rfl
  | _, _ :: _, h => by cases h with | cons h1 h2 => simp [DpAll.length h2]
theorem sc_len {K : PySem.W.Frag} : SC K (fun xs H Q => ∃ p ys, xs = [.ref p] ∧ (SqL K H p ys ∨ SqT K H p ys) ∧ Q (.int ys.length) H) fLen := by
  constructor
  · intro H vs ds Q h q
    unfold fLen at q
    split at q
    · obtain ⟨v, rfl, h1⟩ := dpall1 h
      cases h1 with
      | lst h2 h3 => exact ⟨_, _, rfl, .inl h2, by rw [DpAll.length h3]; exact q _ .int⟩
    · obtain ⟨v, rfl, h1⟩ := dpall1 h
      cases h1 with
      | tup h2 h3 => exact ⟨_, _, rfl, .inr h2, by rw [DpAll.length h3]; exact q _ .int⟩
    · exact q.elim
  · intro ds Q Q' hq q
    unfold fLen at q ⊢
    split at q <;> first | exact hq _ q | exact q.elim
/-- repr of data -/
def rRepr (K : PySem.W.Frag) : List V → Hp → VK → Prop := fun vs H Q => ∃ v d, vs = [v] ∧ Dp K H v d ∧ d.showable = true ∧ d.hasDict = false ∧ d.depth ≤ 60 ∧ d.shown.length ≤ sizeLine ∧ Q (.str d.shown) H
theorem call_repr (hr : X.A.guards = some []) (hu : X.A.units + 64 < cLine) : CallR X (.builtin "repr") (rRepr X.K) := by
  intro pins s σ H vs us Q I r h
  obtain ⟨v, d, rfl, hd, hs, hn, hdp, hsz, q⟩ := h
  obtain ⟨u, rfl, ru⟩ := vals1 r
  obtain ⟨as, rd⟩ := Dp.reads I d v u hd ru
  have fin : ∀ (h' : Heap) (u' : Tok) (tk : Nat), (∀ b o, s.heap.get? b = some o → h'.get? b = some o) → EP X pins σ Q (.str d.shown u') { s with heap := h', toks := tk } := fun h' u' tk hk =>
    ⟨.str d.shown, H, I.kept hk, ⟨u', rfl⟩, q⟩
  cases d with
  | none =>
    cases hd; cases (show u = Value.none from ru)
    rw [PyData.shown_none] at q
    exact PySem.P.repr_of_none ⟨.str _, H, I.tok _, ⟨_, rfl⟩, q⟩
  | bool b =>
    cases hd; cases (show u = Value.bool b from ru)
    rw [PyData.shown_bool] at q
    exact PySem.P.repr_of_bool ⟨.str _, H, I.tok _, ⟨_, rfl⟩, q⟩
  | int i =>
    cases hd; obtain ⟨tk, rfl⟩ := (show ∃ t, u = Value.int i t from ru)
    have hz : i.natAbs.log2 < 1920 := by simpa [PyData.showable] using hs
    rw [PyData.shown_int] at q
    exact PySem.P.repr_of_int hz ⟨.str _, H, I.tok _, ⟨_, rfl⟩, q⟩
  | str x =>
    cases hd; obtain ⟨tk, rfl⟩ := (show ∃ t, u = Value.str x t from ru)
    rw [PyData.shown_str] at q hsz
    exact PySem.P.repr_of_str ⟨.str _, H, I.tok _, ⟨_, rfl⟩, q⟩ hsz
  | list xs =>
    cases hd; rename_i a vs h1 h2; cases (show u = Value.ref a from ru)
    exact repr_of_reads' rd hs (PyData.noDict_hsm hn) hr (by omega) (fun _ _ e => e) fin hsz
  | tuple xs =>
    cases hd; rename_i a vs h1 h2; cases (show u = Value.ref a from ru)
    exact repr_of_reads' rd hs (PyData.noDict_hsm hn) hr (by omega) (fun _ _ e => e) fin hsz
  | dict _ => cases hd
def Plain (d : PyData) : Prop := d.showable = true ∧ d.hasDict = false ∧ d.depth ≤ 60 ∧ d.shown.length ≤ sizeLine
def fRepr : FA
  | [d], Q => Plain d ∧ Q (.str d.shown)
  | _, _ => False
theorem sc_repr {K : PySem.W.Frag} : SC K (rRepr K) fRepr := by
  constructor
  · intro H vs ds Q h q
    unfold fRepr at q
    split at q
    · obtain ⟨v, rfl, h1⟩ := dpall1 h
      exact ⟨v, _, rfl, h1, q.1.1, q.1.2.1, q.1.2.2.1, q.1.2.2.2, q.2 _ .str⟩
    · exact q.elim
  · intro ds Q Q' hq q
    unfold fRepr at q ⊢
    split at q
    · exact ⟨q.1, hq _ q.2⟩
    · exact q.elim
end
end DV
namespace DV
open PySem PySem.Spec PyProof.Rows L2
open LamX (ExtN TabS Tabs CodeO)
structure FnG (P : Program) (w : World) (K : PySem.W.Frag) (mg : Str → Option Value) (base : Heap) (CX : CXT) (k : Nat) (f : Addr) (fd : FuncData) (ps : List Str) (sp : Sp) : Prop where
  size : ∀ vs H Q E, sp vs H Q E → vs.length = ps.length
  goes : ∀ (A : Around) (out : List Env) (s : Shared) (H : Hp) (ar : Args) (us : List Value) (vs : List V) (Q : VK) (E : XK),
    Room k A → A.guards = some [] → Env0 P w K mg base A out s H → BindsTo s fd ar (ps.zip us) → Vals vs us → sp vs H Q E → codeAny (model P w) A (.call (.ref f) ar) (CR CX out P w H s Q E) s
theorem FnG.up {P : Program} {w : World} {K : PySem.W.Frag} {mg : Str → Option Value} {base : Heap} {CX : CXT} {j k : Nat} {f : Addr} {fd : FuncData} {ps : List Str} {sp : Sp} (G : FnG P w K mg base CX j f fd ps sp) (h : j ≤ k) : FnG P w K mg base CX k f fd ps sp :=
  ⟨G.size, fun A out s H ar us vs Q E hr => G.goes A out s H ar us vs Q E (hr.mono h)⟩
section
variable {P : Program} {w : World} {K : PySem.W.Frag} {mg : Str → Option Value} {base : Heap} {T : List (Addr × Str)}
theorem fg_ofC {x qual : Str} {st : Stmt} {f : Addr} {fd : FuncData} {N ps : List Str} {k : Nat} {sp : Sp} (W : Fun K x qual st f fd) (S : FnScope N ps (defScope st)) (hlen : ∀ vs H Q E, sp vs H Q E → vs.length = ps.length)
    (body : ∀ (cdv : Value), fd.code = cdv → ∀ (A : Around) (out : List Env) (s : Shared) (H : Hp) (vs : List V) (Q : VK) (E : XK), Room k (A.deeper (envOfC qual (defScope st) s.heap.objs.size f cdv)) → A.guards = some [] → sp vs H Q E →
      ∃ t, PSs (cxOf CX0 P w K mg base N qual (defScope st) f cdv A out s H E).nox (defBody st) t ∧ t { nx := fun _ H' => Q .non H', rt := Q } (start N vs) H) : FnG P w K mg base CX0 (k + 1) f fd ps sp := by
  obtain ⟨oc, od, kV, doc, pm, an, cdv, ct, osl, rfl, lk, cd⟩ := W.ex
  constructor
  · exact hlen
  intro A out s H ar us vs Q E room hgd env0 hbind rel hs
  have inK : K.In s.heap := env0.mod.kin.keeps fun b o e => (env0.bs b o e).1
  have names : ∀ y ∈ ps.zip us, (defScope st).names.lookup y.1 = some .local ∨ ((defScope st).names.lookup y.1 = some .cell ∧ ((cellsFrom (s.heap.objs.size + 1) (defScope st).names []).lookup y.1).isSome = true) := by
    rintro ⟨n, v⟩ hy
    cases S.par n (List.of_mem_zip hy).1 with
    | inl q => exact .inl q
    | inr q => exact .inr ⟨q, PySem.W.cellsFrom_some _ _ _ (.inl q)⟩
  apply codeAny_call_function room.depth (inK _ _ lk) rfl S.co S.gen rfl (PySem.W.codeRec_of inK cd)
  apply hbind
  apply wpAny_newFunctionEnv_cells S.kind names
  rintro env rfl s1 ic
  constructor
  · exact (env0.mod.nolimit.keeps fun b o e => (env0.bs b o e).1).keeps ic.toInCall.keep
  apply codeAny_func
  obtain ⟨t, ht0, hq⟩ := body cdv rfl A out s H vs Q E (room.deeper _) hgd hs
  have ht := ht0.nox
  have I0 := inv_start (CX := CX0) (E := E) S room.hd env0 (hlen _ _ _ _ hs) rel ic
  refine wpAny_mono (ht.run [] s1 (start N vs) H _ I0 hq) ?_ fun _ _ z => z
  intro fl s' z
  cases fl with
  | ret u =>
    obtain ⟨v, σ', H', J, rv, q⟩ := z
    exact ⟨v, H', J.os, J.bare, J.base, J.hok, rv, q⟩
  | next =>
    obtain ⟨σ', H', J, q⟩ := z
    exact ⟨V.non, H', J.os, J.bare, J.base, J.hok, rfl, q⟩
  | brk => exact z.elim fun _ z => z.elim fun _ z => z.2.elim
  | cont => exact z.elim fun _ z => z.elim fun _ z => z.2.elim
theorem fg_of {x qual : Str} {st : Stmt} {f : Addr} {fd : FuncData} {N ps : List Str} {k : Nat} {sp : Sp} (W : Fun K x qual st f fd) (S : FnScope N ps (defScope st)) (hlen : ∀ vs H Q E, sp vs H Q E → vs.length = ps.length)
    (body : ∀ (cdv : Value) (A : Around) (out : List Env) (s : Shared) (H : Hp) (vs : List V) (Q : VK) (E : XK), Room k (A.deeper (envOfC qual (defScope st) s.heap.objs.size f cdv)) → A.guards = some [] → sp vs H Q E →
      ∃ t, PSs (cxOf CX0 P w K mg base N qual (defScope st) f cdv A out s H E).nox (defBody st) t ∧ t { nx := fun _ H' => Q .non H', rt := Q } (start N vs) H) : FnG P w K mg base CX0 (k + 1) f fd ps sp :=
  fg_ofC W S hlen fun cdv _ => body cdv
end
section
variable {X : Cx} {k : Nat} {f : Addr} {fd : FuncData} {ps : List Str} {sp : Sp} {E : XK} {x : Str} {p pos : Pos} {e : Expr} {es : List Expr} {t : TA}
theorem goes_fn {pins : List (Addr × Obj)} {σ : L2.St} {H : Hp} {s : Shared} {Q : VK} {us : List Value} {vs : List V} (G : FnG X.prog X.w X.K X.mg X.base CX0 k f fd ps sp) (hr : Room k X.A) (hgd : X.A.guards = some []) (hb : Binds X.K fd ps [])
    (I : Inv X pins σ H s) (r : Vals vs us) (h : sp vs H Q E) : wpAny (model X.prog X.w) X.A (call (.ref f) us) (EP X pins σ Q) X.xe s := by
  have bl : (us ++ []).length = ps.length := by rw [List.append_nil, ← r.length]; exact G.size _ _ _ _ h
  have bd := hb s us I.kIn bl
  rw [List.append_nil] at bd
  apply wpAny_call
  refine codeAny_mono (G.goes X.A X.stack s H ⟨us, []⟩ us vs Q E hr hgd I.env0 bd r h) ?_
  rintro (e | (u | _ | _ | _)) s' z
  all_goals first | exact I.after z | exact False.elim z
/-- f(e, ..) -/
theorem pe_callG (G : FnG X.prog X.w X.K X.mg X.base CX0 k f fd ps sp) (hr : Room k X.A) (hgd : X.A.guards = some []) (hg : Gl X x) (hm : X.mg x = some (.ref f)) (hk : PySem.W.keepIn X.K (.ref f) = true) (hb : Binds X.K fd ps [])
    (ha : PA X (e :: es) t) (hdb : (x == ("__debug__" : Str)) = false := by decide) (he : starEach (e :: es) X.env = (false, eval e X.env) :: starEach es X.env := by rfl) (hpl : (backTo pos (starEach es X.env)).any (·.1) = false := by rfl) :
    PE X (.Call (.Name x p) (e :: es) [] pos) (fun σ H Q => t σ H fun vs H1 => sp vs H1 Q E) := by
  constructor
  intro pins s σ H Q I h
  apply wpAny_Call_Name_kw
  apply ld_glob I hg hm _ hdb
  refine PySem.W.callWith_K (h₀ := X.base) I.ok.mod.kin hk (thn (ha.run pos pins s σ H _ I h) ?_) he hpl
  rintro us s1 ⟨vs, H1, I1, r, q⟩
  exact ⟨I1.kIn, goes_fn G hr hgd hb I1 r q⟩
end
end DV
namespace DV
open PySem PySem.Spec PyProof.Rows L2
open LamX (ExtN TabS Tabs CodeO)
section
variable {X : Cx} {F : Fm} {a b c e : Expr} {es : List Expr} {ta tb tc te : TE} {da db dc de : TDE} {pos : Pos} {t : TA} {d : TDA} {tt tu : TT} {dt du : TDT}
def dTV (te : TDE) : TDT := fun ρ Q => te ρ fun r ρ1 => match val ρ1 r with
  | some (.bool k) => Q k ρ1
  | _ => False
theorem dt_tv {k : TE → TT} (hk : ∀ te, k te = fun σ H Q => te σ H fun x H1 => ∃ c, x = .bl c ∧ Q c H1) (h : DE F te de) : DT F (k te) (dTV de) := by
  rw [hk]
  constructor
  · intro pins ρ σ H Q O hq
    refine h.run pins ρ σ H _ O (h.mono _ _ _ (fun r ρ1 h1 v H1 O1 R1 => ?_) hq)
    split at h1
    · rename_i k e
      cases dp_bool (val_dp O1 R1 e)
      exact ⟨k, rfl, h1 H1 O1⟩
    · exact h1.elim
  · intro ρ Q Q' hq hh
    refine h.mono _ _ _ (fun r ρ1 h1 => ?_) hh
    show match val ρ1 r with
      | some (.bool k) => Q' k ρ1
      | _ => False
    split at h1
    · rename_i k e
      exact hq _ _ h1
    · exact h1.elim
theorem pt_v (h : PD X F e te de) (he : ∀ whole, isTrue e X.env whole = (do let v ← whole; standAt e.pos; holding [v] (truthy v)) := by intro _; rfl) : PDT X F e (tB te) (dTV de) := ⟨pt_val h.pe he, dt_tv (k := tB) (fun _ => rfl) h.de⟩
def dNot (t : TDT) : TDT := fun ρ Q => t ρ fun k ρ1 => Q (!k) ρ1
theorem pt_no (h : PDT X F a tt dt) : PDT X F (.UnaryOp .Not a pos) (tNot tt) (dNot dt) :=
  ⟨pt_not h.pt, fun pins ρ σ H Q O hq => h.dt.run pins ρ σ H _ O (h.dt.mono _ _ _ (fun k ρ1 h1 H1 O1 => h1 H1 O1) hq), fun ρ Q Q' hq hh => h.dt.mono _ _ _ (fun k ρ1 h1 => hq _ _ h1) hh⟩
def dAnd (t u : TDT) : TDT := fun ρ Q => t ρ fun k ρ1 => if k = true then u ρ1 Q else Q false ρ1
def dOr (t u : TDT) : TDT := fun ρ Q => t ρ fun k ρ1 => if k = true then Q true ρ1 else u ρ1 Q
theorem dt_and (h1 : DT F tt dt) (h2 : DT F tu du) : DT F (tAnd tt tu) (dAnd dt du) := by
  constructor
  · intro pins ρ σ H Q O hq
    refine h1.run pins ρ σ H _ O (h1.mono _ _ _ (fun k ρ1 h3 H1 O1 => ?_) hq)
    cases k with
    | true => exact h2.run pins ρ1 σ H1 Q O1 h3
    | false => exact h3 H1 O1
  · intro ρ Q Q' hq hh
    refine h1.mono _ _ _ (fun k ρ1 h3 => ?_) hh
    cases k with
    | true => exact h2.mono _ _ _ hq h3
    | false => exact hq _ _ h3
theorem pwd_and1 (h : PDT X F a tt dt) : PDW X F (.BoolOp .And [a] pos) tt dt := ⟨pw_and1 h.pt, h.dt⟩
theorem pwd_and {rest : List Expr} (h : PDT X F a tt dt) (k : PDW X F (.BoolOp .And (b :: rest) pos) tu du) : PDW X F (.BoolOp .And (a :: b :: rest) pos) (tAnd tt tu) (dAnd dt du) := ⟨pw_and h.pt k.pw, dt_and h.dt k.dt⟩
theorem pt_w (h : PDW X F e tt dt) : PDT X F e tt dt := ⟨h.pw.pt, h.dt⟩
/-- and, or, not as values: truths -/
def dAndV (ta tb : TDE) : TDE := fun ρ Q => ta ρ fun r ρ1 => match val ρ1 r with
  | some (.bool k) => if k = true then tb ρ1 Q else Q (.d (.bool false)) ρ1
  | _ => False
def dOrV (ta tb : TDE) : TDE := fun ρ Q => ta ρ fun r ρ1 => match val ρ1 r with
  | some (.bool k) => if k = true then Q (.d (.bool true)) ρ1 else tb ρ1 Q
  | _ => False
def dNotV (ta : TDE) : TDE := fun ρ Q => ta ρ fun r ρ1 => match val ρ1 r with
  | some (.bool k) => Q (.d (.bool !k)) ρ1
  | _ => False
theorem pdn_one {op : BoolOp} (h : PD X F a ta da) : PD X F (.BoolOp op [a] pos) ta da := ⟨pe_one h.pe, h.de⟩
theorem pd_and {rest : List Expr} (ha : PD X F a ta da) (hb : PD X F (.BoolOp .And (b :: rest) pos) tb db) : PD X F (.BoolOp .And (a :: b :: rest) pos) (L2.tAndV ta tb) (dAndV da db) := by
  refine ⟨pe_and ha.pe hb.pe, ?_, ?_⟩
  · intro pins ρ σ H Q O hq
    refine ha.de.run pins ρ σ H _ O (ha.de.mono _ _ _ (fun r ρ1 h1 v H1 O1 R1 => ?_) hq)
    split at h1
    · rename_i k e
      cases dp_bool (val_dp O1 R1 e)
      refine ⟨k, rfl, ?_⟩
      cases k with
      | true => exact hb.de.run pins ρ1 σ H1 Q O1 h1
      | false => exact h1 _ H1 O1 (.sc .bool)
    · exact h1.elim
  · intro ρ Q Q' hq hh
    refine ha.de.mono _ _ _ (fun r ρ1 h1 => ?_) hh
    revert h1
    split
    · rename_i k e
      cases k with
      | true => exact fun h1 => hb.de.mono _ _ _ hq h1
      | false => exact fun h1 => hq _ _ h1
    · exact fun h1 => h1
theorem pd_not (ha : PD X F a ta da) : PD X F (.UnaryOp .Not a pos) (L2.tNotV ta) (dNotV da) := by
  refine ⟨pe_not ha.pe, ?_, ?_⟩
  · intro pins ρ σ H Q O hq
    refine ha.de.run pins ρ σ H _ O (ha.de.mono _ _ _ (fun r ρ1 h1 v H1 O1 R1 => ?_) hq)
    split at h1
    · rename_i k e
      cases dp_bool (val_dp O1 R1 e)
      exact ⟨k, rfl, h1 _ H1 O1 (.sc .bool)⟩
    · exact h1.elim
  · intro ρ Q Q' hq hh
    refine ha.de.mono _ _ _ (fun r ρ1 h1 => ?_) hh
    revert h1
    split
    · exact fun h1 => hq _ _ h1
    · exact fun h1 => h1
def dIfE (t : TDT) (ta tb : TDE) : TDE := fun ρ Q => t ρ fun k ρ1 => if k = true then ta ρ1 Q else tb ρ1 Q
theorem pd_ifExp (hc : PDT X F c tt dt) (ha : PD X F a ta da) (hb : PD X F b tb db) : PD X F (.IfExp c a b pos) (tIf tt ta tb) (dIfE dt da db) := by
  refine ⟨pe_ifExp hc.pt ha.pe hb.pe, ?_, ?_⟩
  · intro pins ρ σ H Q O hq
    refine hc.dt.run pins ρ σ H _ O (hc.dt.mono _ _ _ (fun k ρ1 h1 H1 O1 => ?_) hq)
    cases k with
    | true => exact ha.de.run pins ρ1 σ H1 Q O1 h1
    | false => exact hb.de.run pins ρ1 σ H1 Q O1 h1
  · intro ρ Q Q' hq hh
    refine hc.dt.mono _ _ _ (fun k ρ1 h1 => ?_) hh
    cases k with
    | true => exact ha.de.mono _ _ _ hq h1
    | false => exact hb.de.mono _ _ _ hq h1
end
structure Rel (F : Fm) (pins : List Pin) (D : Ends) (DD : DEnds) : Prop where
  nx : ∀ ρ σ H, Ok F pins ρ σ H → DD.nx ρ → D.nx σ H
  rt : ∀ ρ σ H v r, Ok F pins ρ σ H → ROk F (Av F pins ρ σ) ρ σ H r v → DD.rt r ρ → D.rt v H
  bk : ∀ ρ σ H, Ok F pins ρ σ H → DD.bk ρ → D.bk σ H
  ct : ∀ ρ σ H, Ok F pins ρ σ H → DD.ct ρ → D.ct σ H
  rl : ∀ ρ σ H p xs, Ok F (.acc p xs :: pins) ρ σ H → DD.rl xs ρ → D.rt (.ref p) H
def DS (F : Fm) (ts : TS) (tds : TDS) : Prop := ∀ (pins : List Pin) (ρ : Rho) (σ : L2.St) (H : Hp) (D : Ends) (DD : DEnds), Ok F pins ρ σ H → SPn F pins → Rel F pins D DD → tds DD ρ → ts D σ H
structure PDS (X : Cx) (F : Fm) (st : Stmt) (ts : TS) (tds : TDS) : Prop where
  ps : PS X st ts
  ds : DS F ts tds
structure PDSs (X : Cx) (F : Fm) (st : List Stmt) (ts : TS) (tds : TDS) : Prop where
  pss : PSs X st ts
  ds : DS F ts tds
section
variable {X : Cx} {F : Fm} {a b c e : Expr} {es : List Expr} {ta tb tc te : TE} {da db dc de : TDE} {pos : Pos} {t : TA} {d : TDA} {tt tu : TT} {dt du : TDT} {st : Stmt} {rest sts : List Stmt} {ts us : TS} {ds dus : TDS}
def dNext : TDS := fun DD ρ => DD.nx ρ
def dSeq (t u : TDS) : TDS := fun DD ρ => t { DD with nx := u DD } ρ
theorem dss_nil : PDSs X F [] tNext dNext := ⟨pss_nil, fun pins ρ σ H D DD O S R h => R.nx ρ σ H O h⟩
theorem dss_cons (h1 : PDS X F st ts ds) (h2 : PDSs X F rest us dus) : PDSs X F (st :: rest) (tSeq ts us) (dSeq ds dus) :=
  ⟨pss_cons h1.ps h2.pss, fun pins ρ σ H D DD O S R h => h1.ds pins ρ σ H { D with nx := us D } { DD with nx := dus DD } O S
    ⟨fun ρ1 σ1 H1 O1 q => h2.ds pins ρ1 σ1 H1 D DD O1 S R q, R.rt, R.bk, R.ct, R.rl⟩ h⟩
theorem dss_one (h1 : PDS X F st ts ds) : PDSs X F [st] ts ds := ⟨pss_one h1.ps, h1.ds⟩
def dBreak : TDS := fun DD ρ => DD.bk ρ
def dCont : TDS := fun DD ρ => DD.ct ρ
def dDrop (te : TDE) : TDS := fun DD ρ => te ρ fun _ ρ1 => DD.nx ρ1
def dRet (te : TDE) : TDS := fun DD ρ => te ρ DD.rt
theorem ds_ret (he : PD X F e te de) : PDS X F (.Return (some e) pos) (tRet te) (dRet de) :=
  ⟨ps_ret he.pe, fun pins ρ σ H D DD O S R h => he.de.run pins ρ σ H _ O (he.de.mono _ _ _ (fun r ρ1 h1 v H1 O1 R1 => R.rt ρ1 σ H1 v r O1 R1 h1) h)⟩
def dRetN : TDS := fun DD ρ => DD.rt (.d .none) ρ
def dIfS (c : TDT) (t u : TDS) : TDS := fun DD ρ => c ρ fun k ρ1 => if k = true then t DD ρ1 else u DD ρ1
theorem ds_if {c : Expr} {x y : List Stmt} (hc : PDT X F c tt dt) (h1 : PDSs X F x ts ds) (h2 : PDSs X F y us dus) : PDS X F (.If c x y pos) (tIfS tt ts us) (dIfS dt ds dus) := by
  refine ⟨ps_if hc.pt h1.pss h2.pss, fun pins ρ σ H D DD O S R h => ?_⟩
  refine hc.dt.run pins ρ σ H _ O (hc.dt.mono _ _ _ (fun k ρ1 h3 H1 O1 => ?_) h)
  cases k with
  | true => exact h1.ds pins ρ1 σ H1 D DD O1 S R h3
  | false => exact h2.ds pins ρ1 σ H1 D DD O1 S R h3
def setR (i : Nat) (r : R) (ρ : Rho) (k : Rho → Prop) : Prop := match r with
  | .d x => k (ρ.set i (some (.d x)))
  | .raw v => k (ρ.set i (some (.raw v)))
  | .o j => match ρ[j]? with
    | some (some (.ro x)) => k (ρ.set i (some (.ro x)))
    | _ => False
def SameOut (σ σ' : L2.St) (sl : List Nat) : Prop := ∀ vs : List Nat, (∀ i ∈ sl, i ∈ vs) → wipe σ' vs = wipe σ vs
abbrev TDGt := R → Rho → (Rho → Prop) → Prop
structure DG (F : Fm) (g : TG) (dg : TDGt) (sl : List Nat) : Prop where
  run : ∀ (pins : List Pin) (ρ : Rho) (σ : L2.St) (H : Hp) (v : V) (r : R) (Q : L2.St → Hp → Prop) (P : Rho → Prop), Ok F pins ρ σ H → (∀ i ∈ sl, Fr pins i) → ROk F (Av F pins ρ σ) ρ σ H r v → dg r ρ P →
    (∀ ρ' σ' H', Ok F pins ρ' σ' H' → SameOut σ σ' sl → P ρ' → Q σ' H') → g v σ H Q
  mono : ∀ r ρ P P', (∀ ρ', P ρ' → P' ρ') → dg r ρ P → dg r ρ P'
theorem wipe_out1 {σ : L2.St} {i : Nat} {u : Option V} : ∀ {vs : List Nat}, i ∈ vs → wipe (σ.set i u) vs = wipe σ vs
  | j :: r, h => by
    show (wipe (σ.set i u) r).set j none = (wipe σ r).set j none
    by_cases hr : i ∈ r
    · rw [wipe_out1 hr]
    · have e : i = j := by
        rcases List.mem_cons.mp h with z | z
        · exact z
        · exact absurd z hr
      subst e
      have : ∀ (vs : List Nat) (σ : L2.St), i ∉ vs → wipe (σ.set i u) vs = (wipe σ vs).set i u := fun vs => by
        induction vs with
        | nil => intro σ _; rfl
        | cons k ks ih =>
          intro σ hn
          show (wipe (σ.set i u) ks).set k none = ((wipe σ ks).set k none).set i u
          rw [ih σ (fun z => hn (List.mem_cons_of_mem _ z)), List.set_comm _ _ (fun z => hn (by rw [z]; exact List.mem_cons_self ..))]
      rw [this r σ hr, List.set_set]
theorem dg_name (i : Nat) : DG F (gName i) (setR i) [i] := by
  constructor
  · intro pins ρ σ H v r Q P O hf Rv h k
    have so : SameOut σ (σ.set i (some v)) [i] := fun vs hv => wipe_out1 (hv i (List.mem_singleton.mpr rfl))
    have hi := hf i (List.mem_singleton.mpr rfl)
    cases r with
    | d x => exact k _ _ _ (O.put hi (fun _ z => by cases z; exact id) fun f e => by cases e; exact ⟨v, rfl, Rv⟩) so h
    | raw u => exact k _ _ _ (O.put hi (fun _ z => by cases z; exact id) fun f e => by cases e; exact ⟨v, rfl, Rv⟩) so h
    | o j =>
      unfold setR at h
      dsimp only at h
      split at h
      · rename_i x e
        obtain ⟨u, h1, h2⟩ := O.ent j _ e
        have h3 := Rv.1
        rw [h1] at h3; cases h3
        exact k _ _ _ (O.put hi (fun _ z => by cases z; exact id) fun f e => by cases e; exact ⟨_, rfl, h2⟩) so h
      · exact h.elim
  · intro r ρ P P' hp h
    cases r with
    | d x => exact hp _ h
    | raw v => exact hp _ h
    | o j =>
      unfold setR at h ⊢
      dsimp only at h ⊢
      split at h
      · exact hp _ h
      · exact h.elim
structure DGs (F : Fm) (g : TGs) (dg : List PyData → Rho → (Rho → Prop) → Prop) (sl : List Nat) : Prop where
  run : ∀ (pins : List Pin) (ρ : Rho) (σ : L2.St) (H : Hp) (vs : List V) (xs : List PyData) (Q : L2.St → Hp → Prop) (P : Rho → Prop), Ok F pins ρ σ H → (∀ i ∈ sl, Fr pins i) → ImAll F.K (Av F pins ρ σ) H xs vs → dg xs ρ P →
    (∀ ρ' σ' H', Ok F pins ρ' σ' H' → SameOut σ σ' sl → P ρ' → Q σ' H') → g vs σ H Q
  mono : ∀ xs ρ P P', (∀ ρ', P ρ' → P' ρ') → dg xs ρ P → dg xs ρ P'
def dgNil : List PyData → Rho → (Rho → Prop) → Prop
  | [], ρ, P => P ρ
  | _, _, _ => False
def dgCons (g : TDGt) (gs : List PyData → Rho → (Rho → Prop) → Prop) : List PyData → Rho → (Rho → Prop) → Prop
  | x :: xs, ρ, P => g (.d x) ρ fun ρ' => gs xs ρ' P
  | _, _, _ => False
theorem dgs_nil : DGs F gNil dgNil [] := by
  constructor
  · intro pins ρ σ H vs xs Q P O hf hv h k
    cases xs with
    | nil => simp only [ImAll] at hv; exact ⟨hv, k ρ σ H O (fun _ _ => rfl) h⟩
    | cons x xs => exact h.elim
  · intro xs ρ P P' hp h
    cases xs with
    | nil => exact hp _ h
    | cons x xs => exact h.elim
def pinsOf : List V → List PyData → List Pin
  | v :: vs, x :: xs => .val v (.d x) :: pinsOf vs xs
  | _, _ => []
theorem Ok.pushAll {pins : List Pin} {ρ : Rho} {σ : L2.St} {H : Hp} (O : Ok F pins ρ σ H) : ∀ {xs : List PyData} {vs : List V}, ImAll F.K (Av F pins ρ σ) H xs vs → Ok F (pinsOf vs xs ++ pins) ρ σ H ∧ Av F (pinsOf vs xs ++ pins) ρ σ = Av F pins ρ σ
  | [], vs, h => by simp only [ImAll] at h; subst h; exact ⟨O, rfl⟩
  | x :: xs, vs, h => by
    simp only [ImAll] at h
    obtain ⟨v, us, rfl, h1, h2⟩ := h
    obtain ⟨O1, e⟩ := O.pushAll h2
    exact ⟨O1.push (v := v) (r := .d x) (by rw [e]; exact h1), e⟩
theorem Ok.popAll {pins : List Pin} {ρ : Rho} {σ : L2.St} {H : Hp} : ∀ {xs : List PyData} {vs : List V}, vs.length = xs.length → Ok F (pinsOf vs xs ++ pins) ρ σ H → Ok F pins ρ σ H ∧ Av F (pinsOf vs xs ++ pins) ρ σ = Av F pins ρ σ ∧ ImAll F.K (Av F pins ρ σ) H xs vs
  | [], [], _, O => ⟨O, rfl, .nil⟩
  | x :: xs, [], h, _ => by cases h
  | [], v :: vs, h, _ => by cases h
  | x :: xs, v :: vs, h, O => by
    obtain ⟨O1, r1⟩ := Ok.popV (show Ok F (.val v (.d x) :: (pinsOf vs xs ++ pins)) ρ σ H from O)
    obtain ⟨O2, e, r2⟩ := Ok.popAll (by simpa using h) O1
    have r1 : Im F.K (Av F (pinsOf vs xs ++ pins) ρ σ) H x v := r1
    rw [e] at r1
    exact ⟨O2, e, .cons r1 r2⟩
theorem fr_pinsOf {pins : List Pin} {i : Nat} (h : Fr pins i) : ∀ (vs : List V) (xs : List PyData), Fr (pinsOf vs xs ++ pins) i
  | [], _ => h
  | v :: vs, [] => h
  | v :: vs, x :: xs => fun u j hp => by
    rcases List.mem_cons.mp (show Pin.val u (.o j) ∈ Pin.val v (.d x) :: (pinsOf vs xs ++ pins) from hp) with z | z
    · cases z
    · exact fr_pinsOf h vs xs u j z
theorem SameOut.trans {σ σ1 σ2 : L2.St} {s t : List Nat} (h : SameOut σ σ1 s) (k : SameOut σ1 σ2 t) : SameOut σ σ2 (s ++ t) := fun vs hv =>
  (k vs fun i hi => hv i (List.mem_append_right _ hi)).trans (h vs fun i hi => hv i (List.mem_append_left _ hi))
theorem dgs_cons {g : TG} {dg : TDGt} {s t : List Nat} {gs : TGs} {dgs : List PyData → Rho → (Rho → Prop) → Prop} (h1 : DG F g dg s) (h2 : DGs F gs dgs t) : DGs F (gCons g gs) (dgCons dg dgs) (s ++ t) := by
  constructor
  · intro pins ρ σ H vs xs Q P O hf hv h k
    cases xs with
    | nil => exact h.elim
    | cons x xs =>
      simp only [ImAll] at hv
      obtain ⟨v, us, rfl, h3, h4⟩ := hv
      obtain ⟨O1, e1⟩ := O.pushAll h4
      refine ⟨v, us, rfl, h1.run (pinsOf us xs ++ pins) ρ σ H v (.d x) _ _ O1 (fun i hi => fr_pinsOf (hf i (List.mem_append_left _ hi)) us xs) (by rw [e1]; exact h3) h fun ρ' σ' H' O2 so q => ?_⟩
      obtain ⟨O3, _, r3⟩ := Ok.popAll h4.length O2
      exact h2.run pins ρ' σ' H' us xs Q P O3 (fun i hi => hf i (List.mem_append_right _ hi)) r3 q fun ρ2 σ2 H2 O4 so2 q2 => k ρ2 σ2 H2 O4 (so.trans so2) q2
  · intro xs ρ P P' hp h
    cases xs with
    | nil => exact h.elim
    | cons x xs => exact h1.mono _ _ _ _ (fun ρ' q => h2.mono _ _ _ _ hp q) h
def dgTup (n : Nat) (gs : List PyData → Rho → (Rho → Prop) → Prop) : TDGt := fun r ρ P => match r with
  | .d (.tuple xs) => xs.length = n ∧ gs xs ρ P
  | _ => False
theorem dg_tup {n : Nat} {gs : TGs} {dgs : List PyData → Rho → (Rho → Prop) → Prop} {s : List Nat} (h : DGs F gs dgs s) : DG F (gTup F.K n gs) (dgTup n dgs) s := by
  constructor
  · intro pins ρ σ H v r Q P O hf Rv hd k
    unfold dgTup at hd
    split at hd
    · rename_i xs
      have Rv : Im F.K (Av F pins ρ σ) H (.tuple xs) v := Rv
      simp only [Im] at Rv
      obtain ⟨a, vs, rfl, l, im⟩ := Rv
      exact ⟨a, vs, rfl, l.sq, by rw [im.length]; exact hd.1, h.run pins ρ σ H vs xs Q P O hf im hd.2 k⟩
    · exact hd.elim
  · intro r ρ P P' hp hd
    unfold dgTup at hd ⊢
    split at hd
    · exact ⟨hd.1, h.mono _ _ _ _ hp hd.2⟩
    · exact hd.elim
structure PDG (X : Cx) (F : Fm) (tg : Expr) (g : TG) (dg : TDGt) (sl : List Nat) : Prop where
  pg : PG X tg g
  dg : DG F g dg sl
structure PDGs (X : Cx) (F : Fm) (tgs : List Expr) (g : TGs) (dg : List PyData → Rho → (Rho → Prop) → Prop) (sl : List Nat) : Prop where
  pgs : PGs X tgs g
  dgs : DGs F g dg sl
theorem pgd_name {i : Nat} {x : Str} (hN : X.N.Nodup) (hi : X.N[i]? = some x := by rfl) (hx : Loc X.env.scope x := by first | exact Or.inl rfl | exact Or.inr rfl) (hf : X.fn x = true ∨ X.env.scope.names.lookup x = some .local := by first | exact .inl rfl | exact .inr rfl) : PDG X F (.Name x pos) (gName i) (setR i) [i] := ⟨pg_name hN hi hx hf, dg_name i⟩
theorem pgds_nil : PDGs X F [] gNil dgNil [] := ⟨pgs_nil, dgs_nil⟩
end
end DV
namespace DV
open PySem PySem.Spec PyProof.Rows L2
open LamX (ExtN TabS Tabs CodeO)
section
variable {X : Cx} {F : Fm} {a b c e : Expr} {es : List Expr} {ta tb tc te : TE} {da db dc de : TDE} {dl : TDL} {pos : Pos} {t : TA} {d : TDA} {tt tu : TT} {dt du : TDT} {st : Stmt} {rest sts : List Stmt} {ts us : TS} {ds dus : TDS}
theorem pgds_cons {tg : Expr} {tgs : List Expr} {g : TG} {dg : TDGt} {s u : List Nat} {gs : TGs} {dgs : List PyData → Rho → (Rho → Prop) → Prop} (h1 : PDG X F tg g dg s) (h2 : PDGs X F tgs gs dgs u)
    (hs : (assignEach (tg :: tgs) X.env).map (·.2) = assign tg X.env :: (assignEach tgs X.env).map (·.2) := by rfl) : PDGs X F (tg :: tgs) (gCons g gs) (dgCons dg dgs) (s ++ u) := ⟨pgs_cons h1.pg h2.pgs hs, dgs_cons h1.dg h2.dgs⟩
theorem pgd_tup {tgs : List Expr} {k n : Nat} {gs : TGs} {dgs : List PyData → Rho → (Rho → Prop) → Prop} {s : List Nat} (hc : X.calm = true) (h : PDGs X F tgs gs dgs s) (hK : X.K = F.K := by rfl)
    (hn : (assignEach tgs X.env).length = n := by rfl) (hst : (assignEach tgs X.env).findIdx? (·.1) = none := by rfl) : PDG X F (.Tuple tgs k pos) (gTup F.K n gs) (dgTup n dgs) s := by
  refine ⟨?_, dg_tup h.dgs⟩
  have := pg_tup (pos := pos) (k := k) hc h.pgs hn hst
  rw [hK] at this
  exact this
def dAsg (te : TDE) (dg : TDGt) : TDS := fun DD ρ => te ρ fun r ρ1 => dg r ρ1 DD.nx
theorem dsa {g : TG} {dg : TDGt} {s : List Nat} (he : DE F te de) (hg : DG F g dg s) (hf : ∀ i ∈ s, ¬ F.fix i) : DS F (tAsg te g) (dAsg de dg) := fun pins ρ σ H D DD O S R h =>
  he.run pins ρ σ H _ O (he.mono _ _ _ (fun r ρ1 h1 v H1 O1 R1 => hg.run pins ρ1 σ H1 v r _ _ O1 (fun i hi => S.fr (hf i hi)) R1 h1 fun ρ2 σ2 H2 O2 _ q => R.nx ρ2 σ2 H2 O2 q) h)
theorem ds_asg {tg : Expr} {g : TG} {dg : TDGt} {s : List Nat} (he : PD X F e te de) (hg : PDG X F tg g dg s) (hf : ∀ i ∈ s, ¬ F.fix i) (hs : swapsWithSole [tg] e pos.line X.env = pure false := by rfl) (hw : swappedStores [tg] e X.env = pure none := by rfl)
    (h1 : (assignEach [tg] X.env).map (·.2) = [assign tg X.env] := by rfl) : PDS X F (.Assign [tg] e pos) (tAsg te g) (dAsg de dg) := ⟨ps_asg he.pe hg.pg hs hw h1, dsa he.de hg.dg hf⟩
theorem ds_set {i : Nat} {x : Str} {pos' : Pos} (hN : X.N.Nodup) (he : PD X F e te de) (hf : ¬ F.fix i) (hi : X.N[i]? = some x := by rfl) (hx : Loc X.env.scope x := by first | exact Or.inl rfl | exact Or.inr rfl) (hs : swapsWith e (some (.Name x pos')) pos.line X.env = pure false := by rfl) (hfn : X.fn x = true ∨ X.env.scope.names.lookup x = some .local := by first | exact .inl rfl | exact .inr rfl) :
    PDS X F (.Assign [.Name x pos'] e pos) (tAsg te (gName i)) (dAsg de (setR i)) := ⟨ps_set hN hi hx he.pe hs hfn, dsa he.de (dg_name i) fun j hj => by rw [List.mem_singleton.mp hj]; exact hf⟩
/-- x = a new list that is changed later -/
def dSetL (i : Nat) (tl : TDL) : TDS := fun DD ρ => tl ρ fun xs ρ1 => DD.nx (ρ1.set i (some (.own xs)))
theorem dsl {i : Nat} (he : DL F te dl) (hf : ¬ F.fix i) : DS F (tAsg te (gName i)) (dSetL i dl) := fun pins ρ σ H D DD O S R h =>
  he.run pins ρ σ H _ O (he.mono _ _ _ (fun xs ρ1 h1 p H1 O1 => R.nx _ _ H1 (O1.putL (S.fr hf)) h1) h)
theorem ds_setL {i : Nat} {x : Str} {pos' : Pos} (hN : X.N.Nodup) (he : PDL X F e te dl) (hf : ¬ F.fix i) (hi : X.N[i]? = some x := by rfl) (hx : Loc X.env.scope x := by first | exact Or.inl rfl | exact Or.inr rfl) (hs : swapsWith e (some (.Name x pos')) pos.line X.env = pure false := by rfl) (hfn : X.fn x = true ∨ X.env.scope.names.lookup x = some .local := by first | exact .inl rfl | exact .inr rfl) :
    PDS X F (.Assign [.Name x pos'] e pos) (tAsg te (gName i)) (dSetL i dl) := ⟨ps_set hN hi hx he.pe hs hfn, dsl he.dl hf⟩
def noO : R → Prop
  | .o _ => False
  | _ => True
/-- x, y = e, e' with plain locals -/
def dPar (i j : Nat) (t : TDA) : TDS := fun DD ρ => t ρ fun rs ρ1 => match rs with
  | [r, s] => noO s ∧ setR i r ρ1 fun ρ2 => setR j s ρ2 DD.nx
  | _ => False
theorem ds_par {i j : Nat} {x y : Str} {px py pt : Pos} {pt2 : Pos} {kt' k2'} (hc : X.calm = true) (hN : X.N.Nodup) (ha : PDA X F [a, b] t d) (hfi : ¬ F.fix i) (hfj : ¬ F.fix j) (hij : i ≠ j := by decide) (hi : X.N[i]? = some x := by rfl) (hj : X.N[j]? = some y := by rfl)
    (hx : X.env.scope.names.lookup x = some .local := by rfl) (hy : X.env.scope.names.lookup y = some .local := by rfl)
    (hw : swappedStores [.Tuple [.Name x px, .Name y py] kt' pt] (.Tuple [a, b] k2' pt2) X.env = pure (some [x, y]) := by rfl)
    (hs : swapsWithSole [.Tuple [.Name x px, .Name y py] kt' pt] (.Tuple [a, b] k2' pt2) pos.line X.env = pure false := by rfl) :
    PDS X F (.Assign [.Tuple [.Name x px, .Name y py] kt' pt] (.Tuple [a, b] k2' pt2) pos) (tPar i j t) (dPar i j d) := by
  refine ⟨ps_par hc hN hi hj hij hx hy ha.pa hw hs, fun pins ρ σ H D DD O S R h => ?_⟩
  refine ha.da.run pins ρ σ H _ O (ha.da.mono _ _ _ (fun rs ρ1 h1 vs H1 O1 R1 => ?_) h)
  split at h1
  · rename_i r s
    simp only [ROks] at R1
    obtain ⟨v, us, rfl, r1, w, us2, rfl, r2, rfl⟩ := R1
    refine ⟨v, w, rfl, ?_⟩
    have O2 := O1.push r2
    have g1 : gName i v σ H1 fun σ2 H2 => gName j w σ2 H2 fun σ3 H3 => D.nx σ3 H3 := by
      refine (dg_name (F := F) i).run (.val w s :: pins) ρ1 σ H1 v r _ _ O2 (fun k hk => ?_) (by exact r1) h1.2 fun ρ2 σ2 H2 O3 _ q => ?_
      · rw [List.mem_singleton.mp hk]
        intro u l hp
        rcases List.mem_cons.mp hp with z | z
        · cases z
          exact h1.1.elim
        · exact S.fr hfi u l z
      · obtain ⟨O4, r3⟩ := O3.popV
        exact (dg_name (F := F) j).run pins ρ2 σ2 H2 w s _ _ O4 (fun k hk => by rw [List.mem_singleton.mp hk]; exact S.fr hfj) r3 q fun ρ4 σ4 H4 O5 _ q2 => R.nx _ _ _ O5 q2
    exact g1
  · exact h1.elim
/-- the own list that stands in slot i -/
def onOwn (ρ : Rho) (i : Nat) (f : List PyData → Prop) : Prop := match ρ[i]? with
  | some (some (.own xs)) => f xs
  | _ => False
theorem onOwn_of {ρ : Rho} {i : Nat} {f : List PyData → Prop} (h : onOwn ρ i f) : ∃ xs, ρ[i]? = some (some (.own xs)) ∧ f xs := by
  unfold onOwn at h
  split at h
  · exact ⟨_, by assumption, h⟩
  · exact h.elim
theorem onOwn_mono {ρ : Rho} {i : Nat} {f g : List PyData → Prop} (h : onOwn ρ i f) (k : ∀ x, f x → g x) : onOwn ρ i g := by
  unfold onOwn at h ⊢
  split at h
  · exact k _ h
  · exact h.elim
/-- a datum -/
def onDat (r : R) (f : PyData → Prop) : Prop := match r with
  | .d x => f x
  | _ => False
theorem Ok.ownGet {pins : List Pin} {ρ : Rho} {σ : L2.St} {H : Hp} (O : Ok F pins ρ σ H) {i : Nat} {xs : List PyData} (h : ρ[i]? = some (some (.own xs))) :
    ∃ p vs, σ[i]? = some (some (.ref p)) ∧ H p = some (.lst vs) ∧ ImAll F.K (Av F pins ρ σ) H xs vs ∧ OwnAt ρ σ i p := by
  obtain ⟨v, h1, p, vs, rfl, h2, h3, _⟩ := O.ent i _ h
  exact ⟨p, vs, h1, h2, h3, ⟨_, h, trivial⟩, h1⟩
/-- a method of the own list at slot i -/
def dOwnM (i : Nat) (t : TDA) (k : List PyData → List R → (PyData → List PyData → Prop) → Prop) : TDE := fun ρ Q => onOwn ρ i fun _ => t ρ fun rs ρ1 => onOwn ρ1 i fun xs => k xs rs fun z ys => Q (.d z) (ρ1.set i (some (.own ys)))
def kAppend : List PyData → List R → (PyData → List PyData → Prop) → Prop
  | xs, [.d y], Q => Few (xs.length + 1) ∧ Q .none (xs ++ [y])
  | _, _, _ => False
def kInsert : List PyData → List R → (PyData → List PyData → Prop) → Prop
  | xs, [.d (.int i), .d y], Q => (Few (xs.length + 1) ∧ 0 ≤ i ∧ i < 2 ^ 63) ∧ Q .none (xs.take i.toNat ++ [y] ++ xs.drop i.toNat)
  | _, _, _ => False
/-- x[k] = e -/
def dSetItem (i : Nat) (te tk : TDE) : TDS := fun DD ρ => te ρ fun r ρ1 => onDat r fun y => onOwn ρ1 i fun _ => tk ρ1 fun s ρ2 => onV ρ2 s fun k => onOwn ρ2 i fun xs => match k with
  | .int k => (0 ≤ k ∧ k < xs.length) ∧ DD.nx (ρ2.set i (some (.own (xs.set k.toNat y))))
  | _ => False
theorem ixN_nat {n : Nat} {k : Int} (h0 : 0 ≤ k) (h1 : k < n) : ixN n k = some k.toNat := by
  unfold ixN; rw [if_pos h0, if_pos h1]
theorem ds_setItem {i : Nat} {k : Expr} {tk : TE} {dk : TDE} {x : Str} {vpos spos : Pos} (he : PD X F e te de) (hk : PD X F k tk dk) (hg : PG X (.Subscript (.Name x vpos) k spos) (gSub (tVar i) tk rSetL)) (hs : swapsWithSole [.Subscript (.Name x vpos) k spos] e pos.line X.env = pure false := by rfl) (hw : swappedStores [.Subscript (.Name x vpos) k spos] e X.env = pure none := by rfl)
    (h1 : (assignEach [.Subscript (.Name x vpos) k spos] X.env).map (·.2) = [assign (.Subscript (.Name x vpos) k spos) X.env] := by rfl) :
    PDS X F (.Assign [.Subscript (.Name x vpos) k spos] e pos) (tAsg te (gSub (tVar i) tk rSetL)) (dSetItem i de dk) := by
  refine ⟨ps_asg he.pe hg hs hw h1, fun pins ρ σ H D DD O S R h => ?_⟩
  refine he.de.run pins ρ σ H _ O (he.de.mono _ _ _ (fun r ρ1 h2 v H1 O1 R1 => ?_) h)
  cases r with
  | o j => exact h2.elim
  | raw u => exact h2.elim
  | d y =>
    obtain ⟨xs0, e0, h2⟩ := onOwn_of h2
    obtain ⟨p, vs0, g1, g2, g3, _⟩ := O1.ownGet e0
    refine ⟨.ref p, g1, ?_⟩
    refine hk.de.run (.val v (.d y) :: pins) ρ1 σ H1 _ (O1.push R1) (hk.de.mono _ _ _ (fun s ρ2 h3 u H2 O2 R2 => ?_) h2)
    obtain ⟨O3, R3⟩ := O2.popV
    obtain ⟨kk, e1, h4⟩ := onV_of h3
    obtain ⟨xs, e2, h5⟩ := onOwn_of h4
    obtain ⟨q, vs, f1, f2, f3, f4⟩ := O3.ownGet e2
    rw [g1] at f1; cases f1
    cases kk <;> first | exact h5.elim | skip
    rename_i k0
    cases dp_int (val_dp O2 R2 e1)
    refine ⟨p, vs, k0, k0.toNat, rfl, rfl, f2, ?_, R.nx _ _ _ (O3.setOwn f4 (f3.set _ R3)) h5.2⟩
    rw [f3.length]
    exact ixN_nat h5.1.1 h5.1.2
/-- x[k] += e, whole numbers -/
def dAddItem (i : Nat) (tk te : TDE) : TDS := fun DD ρ => onOwn ρ i fun _ => tk ρ fun s ρ1 => onV ρ1 s fun k => onOwn ρ1 i fun xs => match k with
  | .int k => (0 ≤ k ∧ k < xs.length) ∧ match xs[k.toNat]? with
    | some (.int n) => te ρ1 fun r ρ2 => onV ρ2 r fun y => onOwn ρ2 i fun ys => match y with
      | .int m => ys.length = xs.length ∧ DD.nx (ρ2.set i (some (.own (ys.set k.toNat (.int (n + m))))))
      | _ => False
    | _ => False
  | _ => False
theorem ds_addItem {i : Nat} {k : Expr} {tk : TE} {dk : TDE} {x : Str} {vpos spos : Pos} (hk : PD X F k tk dk) (he : PD X F e te de) (hp : PS X (.AugAssign (.Subscript (.Name x vpos) k spos) .Add e pos) (tAugS (tVar i) tk te (rIxL F.K) (ipI fun i j => i + j) rSetL)) :
    PDS X F (.AugAssign (.Subscript (.Name x vpos) k spos) .Add e pos) (tAugS (tVar i) tk te (rIxL F.K) (ipI fun i j => i + j) rSetL) (dAddItem i dk de) := by
  refine ⟨hp, fun pins ρ σ H D DD O S R h => ?_⟩
  obtain ⟨xs0, e0, h⟩ := onOwn_of h
  obtain ⟨p, vs0, g1, g2, g3, _⟩ := O.ownGet e0
  refine ⟨.ref p, g1, ?_⟩
  refine hk.de.run pins ρ σ H _ O (hk.de.mono _ _ _ (fun s ρ1 h3 u H1 O1 R1 => ?_) h)
  obtain ⟨kk, e1, h4⟩ := onV_of h3
  obtain ⟨xs, e2, h5⟩ := onOwn_of h4
  obtain ⟨q, vs, f1, f2, f3, f4⟩ := O1.ownGet e2
  rw [g1] at f1; cases f1
  cases kk <;> first | exact h5.elim | skip
  rename_i k0
  cases dp_int (val_dp O1 R1 e1)
  obtain ⟨hb, h6⟩ := h5
  split at h6
  · rename_i n en
    obtain ⟨v0, ev, iv⟩ := f3.get en
    cases (Im.int_iff.mp iv)
    refine ⟨p, vs, k0, .int n, rfl, rfl, .of f2, ?_, ?_⟩
    · unfold atI
      rw [f3.length, ixN_nat hb.1 hb.2]
      exact ev
    refine he.de.run pins ρ1 σ H1 _ O1 (he.de.mono _ _ _ (fun r ρ2 h7 w H2 O2 R2 => ?_) h6)
    obtain ⟨y, e3, h8⟩ := onV_of h7
    obtain ⟨ys, e4, h9⟩ := onOwn_of h8
    obtain ⟨q2, us, j1, j2, j3, j4⟩ := O2.ownGet e4
    rw [g1] at j1; cases j1
    cases y <;> first | exact h9.elim | skip
    rename_i m
    cases dp_int (val_dp O2 R2 e3)
    refine ⟨n, m, rfl, rfl, p, us, k0, k0.toNat, rfl, rfl, j2, ?_, R.nx _ _ _ (O2.setOwn j4 (j3.set _ .int)) h9.2⟩
    rw [j3.length, h9.1]
    exact ixN_nat hb.1 hb.2
  · exact h6.elim
end
end DV
namespace DV
open PySem PySem.Spec PyProof.Rows L2
open LamX (ExtN TabS Tabs CodeO)
section
variable {X : Cx} {F : Fm} {a b c e : Expr} {es : List Expr} {ta tb tc te : TE} {da db dc de : TDE} {dl : TDL} {pos : Pos} {t : TA} {d : TDA} {tt tu : TT} {dt du : TDT} {st : Stmt} {rest sts : List Stmt} {ts us : TS} {ds dus : TDS}
def dWhile (c : TDT) (tb : TDS) : TDS := fun DD ρ => ∃ (I : Rho → Prop) (μ : Rho → Nat), I ρ ∧ ∀ ρ, I ρ → c ρ fun k ρ1 => if k = true then tb { DD with nx := fun ρ' => I ρ' ∧ μ ρ' < μ ρ, ct := fun ρ' => I ρ' ∧ μ ρ' < μ ρ, bk := DD.nx } ρ1 else DD.nx ρ1
theorem ds_while {c : Expr} {body : List Stmt} (hp : PassesOwn (model X.prog X.w) X.A X.env X.xe) (hc : PDT X F c tt dt) (hb : PDSs X F body ts ds) : PDS X F (.While c body [] pos) (tWhile tt ts) (dWhile dt ds) := by
  refine ⟨ps_while hp hc.pt hb.pss, fun pins ρ σ H D DD O S R h => ?_⟩
  obtain ⟨I, μ, h0, h⟩ := h
  refine ⟨fun m σ H => ∃ ρ, Ok F pins ρ σ H ∧ I ρ ∧ m = μ ρ, ⟨_, ρ, O, h0, rfl⟩, ?_⟩
  rintro m σ1 H1 ⟨ρ1, O1, i1, rfl⟩
  refine hc.dt.run pins ρ1 σ1 H1 _ O1 (hc.dt.mono _ _ _ (fun k ρ2 h2 H2 O2 => ?_) (h ρ1 i1))
  cases k with
  | false => exact R.nx _ _ _ O2 h2
  | true =>
    refine ⟨fun σ' H' => ∃ ρ', Ok F pins ρ' σ' H' ∧ I ρ' ∧ μ ρ' < μ ρ1, fun σ' H' ⟨ρ', O', i', lt⟩ => ⟨μ ρ', lt, ρ', O', i', rfl⟩, ?_⟩
    exact hb.ds pins ρ2 σ1 H2 _ { DD with nx := fun ρ' => I ρ' ∧ μ ρ' < μ ρ1, ct := fun ρ' => I ρ' ∧ μ ρ' < μ ρ1, bk := DD.nx } O2 S ⟨fun ρ3 σ3 H3 O3 q => ⟨ρ3, O3, q⟩, R.rt, R.nx, fun ρ3 σ3 H3 O3 q => ⟨ρ3, O3, q⟩, R.rl⟩ h2
/-- what is walked: J gives the items, while the values pl are in mind -/
structure WOk (F : Fm) (J : It) (items : List PyData) (pl : List Pin) : Prop where
  goes : ∀ (i : Nat) (pins : List Pin) (ρ : Rho) (σ : L2.St) (H : Hp), (∀ p ∈ pl, p ∈ pins) → i < items.length → Ok F pins ρ σ H → J.go i H
  stops : ∀ (pins : List Pin) (ρ : Rho) (σ : L2.St) (H : Hp), (∀ p ∈ pl, p ∈ pins) → Ok F pins ρ σ H → J.stop items.length H
  yld : ∀ (i : Nat) (pins : List Pin) (ρ : Rho) (σ : L2.St) (H : Hp) (x : V) (H' : Hp), (∀ p ∈ pl, p ∈ pins) → i < items.length → Ok F pins ρ σ H → J.yld i H x H' → ∃ y, items[i]? = some y ∧ Ok F pins ρ σ H' ∧ Im F.K (Av F pins ρ σ) H' y x
abbrev TDI := Rho → (List PyData → Rho → Prop) → Prop
structure DI (F : Fm) (wi : TI) (dw : TDI) : Prop where
  run : ∀ (pins : List Pin) (ρ : Rho) (σ : L2.St) (H : Hp) (R : It → Hp → Prop), Ok F pins ρ σ H →
    dw ρ (fun items ρ' => ∀ J H' pl, WOk F J items pl → (∀ p ∈ pl, ∃ v x, p = .val v (.d x)) → Ok F (pl ++ pins) ρ' σ H' → R J H') → wi σ H R
  mono : ∀ ρ Q Q', (∀ r ρ', Q r ρ' → Q' r ρ') → dw ρ Q → dw ρ Q'
structure PDI (X : Cx) (F : Fm) (tg iter : Expr) (wi : TI) (dw : TDI) : Prop where
  pi : PI X tg iter wi
  di : DI F wi dw
theorem Ok.popVs {pins : List Pin} {ρ : Rho} {σ : L2.St} {H : Hp} : ∀ {pl : List Pin}, (∀ p ∈ pl, ∃ v x, p = .val v (.d x)) → Ok F (pl ++ pins) ρ σ H → Ok F pins ρ σ H ∧ Av F (pl ++ pins) ρ σ = Av F pins ρ σ
  | [], _, O => ⟨O, rfl⟩
  | p :: pl, h, O => by
    obtain ⟨v, x, rfl⟩ := h p (List.mem_cons_self ..)
    obtain ⟨O1, _⟩ := Ok.popV (show Ok F (.val v (.d x) :: (pl ++ pins)) ρ σ H from O)
    obtain ⟨O2, e⟩ := O1.popVs fun q hq => h q (List.mem_cons_of_mem _ hq)
    exact ⟨O2, e⟩
theorem SPn.app {pins : List Pin} (S : SPn F pins) {pl : List Pin} (h : ∀ p ∈ pl, ∃ v x, p = .val v (.d x)) : SPn F (pl ++ pins) := fun v j hp => by
  rcases List.mem_append.mp hp with z | z
  · obtain ⟨u, x, e⟩ := h _ z
    cases e
  · exact S v j z
theorem accs_app {pins : List Pin} : ∀ {pl : List Pin}, (∀ p ∈ pl, ∃ v x, p = .val v (.d x)) → accs (pl ++ pins) = accs pins
  | [], _ => rfl
  | p :: pl, h => by
    obtain ⟨v, x, rfl⟩ := h p (List.mem_cons_self ..)
    exact accs_app (pl := pl) fun q hq => h q (List.mem_cons_of_mem _ hq)
/-- fewer things in mind -/
theorem Ok.sub {pins qs : List Pin} {ρ : Rho} {σ : L2.St} {H : Hp} (O : Ok F pins ρ σ H) (h : ∀ p ∈ qs, p ∈ pins) (e : accs qs = accs pins) : Ok F qs ρ σ H := by
  have ae : Av F qs ρ σ = Av F pins ρ σ := by unfold Av; rw [e]
  exact ⟨O.len, by rw [ae]; exact O.ent, O.own, fun p hp => by rw [ae]; exact O.pin p (h p hp), by rw [e]; exact O.acs, O.fr, O.nh, O.ln, O.h0, O.lf, O.tb⟩
theorem Ok.popAV {pins : List Pin} {ρ : Rho} {σ : L2.St} {H : Hp} {p : Addr} {xs : List PyData} {pl : List Pin} (O : Ok F (.acc p xs :: (pl ++ pins)) ρ σ H) (h : ∀ p ∈ pl, ∃ v x, p = .val v (.d x)) : Ok F (.acc p xs :: pins) ρ σ H := by
  refine O.sub (fun q hq => ?_) ?_
  · rcases List.mem_cons.mp hq with z | z
    · rw [z]; exact List.mem_cons_self ..
    · exact List.mem_cons_of_mem _ (List.mem_append_right _ z)
  · show p :: accs pins = p :: accs (pl ++ pins)
    rw [accs_app h]
theorem Rel.app {pins : List Pin} {D : Ends} {DD : DEnds} (R : Rel F pins D DD) {pl : List Pin} (h : ∀ p ∈ pl, ∃ v x, p = .val v (.d x)) : Rel F (pl ++ pins) D DD :=
  ⟨fun ρ σ H O q => R.nx ρ σ H (O.popVs h).1 q, fun ρ σ H v r O r1 q => R.rt ρ σ H v r (O.popVs h).1 (by rw [(O.popVs h).2] at r1; exact r1) q, fun ρ σ H O q => R.bk ρ σ H (O.popVs h).1 q, fun ρ σ H O q => R.ct ρ σ H (O.popVs h).1 q, fun ρ σ H p xs O q => R.rl ρ σ H p xs (O.popAV h) q⟩
def dFor (wi : TDI) (g : TDGt) (tb : TDS) : TDS := fun DD ρ => wi ρ fun xs ρ1 => ∃ I : Nat → Rho → Prop, I 0 ρ1 ∧
  (∀ i x ρ, xs[i]? = some x → I i ρ → g (.d x) ρ fun ρ2 => tb { DD with nx := I (i + 1), ct := I (i + 1), bk := DD.nx } ρ2) ∧ ∀ ρ, I xs.length ρ → DD.nx ρ
theorem ds_for {tg iter : Expr} {body : List Stmt} {wi : TI} {dw : TDI} {g : TG} {dg : TDGt} {sl : List Nat} (hp : PassesOwn (model X.prog X.w) X.A X.env X.xe) (hc : X.calm = true) (hi : PDI X F tg iter wi dw) (hg : PDG X F tg g dg sl) (hb : PDSs X F body ts ds) (hf : ∀ i ∈ sl, ¬ F.fix i)
    (hs : ∀ x, foldedSetIterable iter X.env x = pure x := by intro _; rfl) : PDS X F (.For tg iter body [] pos) (tFor wi g ts) (dFor dw dg ds) := by
  refine ⟨?_, fun pins ρ σ H D DD O S R h => ?_⟩
  · first | exact ps_for hp hc hi.pi hg.pg hb.pss | exact ps_for hp hc hi.pi hg.pg hb.pss hs
  refine hi.di.run pins ρ σ H _ O (hi.di.mono _ _ _ (fun xs ρ1 h1 J H1 pl W hpl O1 => ?_) h)
  obtain ⟨I, h0, hturn, hend⟩ := h1
  have hin : ∀ p ∈ pl, p ∈ pl ++ pins := fun p hp => List.mem_append_left _ hp
  have R2 := R.app hpl
  refine ⟨fun i m σ H => ∃ ρ, Ok F (pl ++ pins) ρ σ H ∧ I i ρ ∧ i ≤ xs.length ∧ m = xs.length - i, ⟨_, ρ1, O1, h0, Nat.zero_le _, rfl⟩, ?_⟩
  rintro i m σ2 H2 ⟨ρ2, O2, i2, hle, rfl⟩
  by_cases hlt : i < xs.length
  · refine .inr ⟨W.goes i _ ρ2 σ2 H2 hin hlt O2, fun σ' H' => ∃ ρ', Ok F (pl ++ pins) ρ' σ' H' ∧ I (i + 1) ρ', fun σ' H' ⟨ρ', O', i'⟩ => ⟨xs.length - (i + 1), by omega, ρ', O', i', by omega, rfl⟩, fun x H3 hy => ?_⟩
    obtain ⟨y, ey, O3, im⟩ := W.yld i _ ρ2 σ2 H2 x H3 hin hlt O2 hy
    refine hg.dg.run _ ρ2 σ2 H3 x (.d y) _ _ O3 (fun j hj => (S.app hpl).fr (hf j hj)) im (hturn i y ρ2 ey i2) fun ρ4 σ4 H4 O4 _ q => ?_
    exact hb.ds _ ρ4 σ4 H4 _ { DD with nx := I (i + 1), ct := I (i + 1), bk := DD.nx } O4 (S.app hpl) ⟨fun ρ5 σ5 H5 O5 q => ⟨ρ5, O5, q⟩, R2.rt, R2.nx, fun ρ5 σ5 H5 O5 q => ⟨ρ5, O5, q⟩, R2.rl⟩ q
  · have e : i = xs.length := by omega
    subst e
    exact .inl ⟨W.stops _ ρ2 σ2 H2 hin O2, R2.nx _ _ _ O2 (hend ρ2 i2)⟩
def dLc (wi : TDI) (g : TDGt) (tt : TDT) (te : TDE) (vs : List Nat) : TDL := fun ρ Q => wi ρ fun xs ρ1 => (∀ i ∈ vs, ρ1[i]? = some none) ∧ ∃ I : Nat → List PyData → Rho → Prop, I 0 [] ρ1 ∧
  (∀ i x acc ρ, xs[i]? = some x → I i acc ρ → g (.d x) ρ fun ρ2 => tt ρ2 fun k ρ3 => if k = true then te ρ3 fun r ρ4 => onDat r fun y => Few (acc.length + 1) ∧ I (i + 1) (acc ++ [y]) (wipeR ρ4 vs) else I (i + 1) acc (wipeR ρ3 vs)) ∧
  ∀ acc ρ, I xs.length acc ρ → Q acc (wipeR ρ vs)
def dYes : TDT := fun ρ Q => Q true ρ
structure PDTs (X : Cx) (F : Fm) (ifs : List Expr) (tt : TT) (td : TDT) : Prop where
  pts : PTs X ifs tt
  dt : DT F tt td
theorem dts_nil : PDTs X F [] tYes dYes := ⟨pts_nil, fun pins ρ σ H Q O h => h H O, fun ρ Q Q' hq h => hq _ _ h⟩
theorem dl_lc {wi : TI} {dw : TDI} {g : TG} {dg : TDGt} {vs : List Nat} (hi : DI F wi dw) (hg : DG F g dg vs) (ht : DT F tt dt) (he : DE F te de) : DL F (tLc wi g tt te vs) (dLc dw dg dt de vs) := by
  constructor
  · intro pins ρ σ H Q O h
    refine hi.run pins ρ σ H _ O (hi.mono _ _ _ (fun xs ρ1 h1 J H1 pl W hpl O1 D hD => ?_) h)
    obtain ⟨hno, I, h0, hturn, hend⟩ := h1
    have hfr : ∀ {p : List Pin}, (∀ q ∈ p, q ∈ pl ++ pins ∨ ∃ a ys, q = .acc a ys) → ∀ i ∈ vs, Fr p i := fun {p} hp i hi v j hm e => by
      subst e
      rcases hp _ hm with z | ⟨a, ys, z⟩
      · obtain ⟨_, x, hx⟩ := O1.pin _ z
        unfold slot at hx
        rw [hno j hi] at hx
        cases hx
      · cases z
    -- the state of a turn: the values pl, the new list, at the wiped slots
    have hin : ∀ acc, ∀ p ∈ pl, p ∈ (Pin.acc D acc :: (pl ++ pins)) := fun acc p hp => List.mem_cons_of_mem _ (List.mem_append_left _ hp)
    have hfr2 : ∀ acc, ∀ i ∈ vs, Fr (Pin.acc D acc :: (pl ++ pins)) i := fun acc => hfr fun q hq => by
      rcases List.mem_cons.mp hq with z | z
      · exact .inr ⟨_, _, z⟩
      · exact .inl z
    have start : Ok F (.acc D [] :: (pl ++ pins)) ρ1 σ (upd H1 D (.lst [])) := O1.pushL hD .nil
    have hw1 : wipeR ρ1 vs = ρ1 := by
      have : ∀ (us : List Nat), (∀ i ∈ us, ρ1[i]? = some none) → wipeR ρ1 us = ρ1 := fun us => by
        induction us with
        | nil => intro _; rfl
        | cons k ks ih =>
          intro hk
          show (wipeR ρ1 ks).set k none = ρ1
          rw [ih fun i hi => hk i (List.mem_cons_of_mem _ hi)]
          apply List.ext_getElem?
          intro n
          by_cases e : k = n
          · subst e
            have := hk k (List.mem_cons_self ..)
            have hl : k < ρ1.length := by
              rcases Nat.lt_or_ge k ρ1.length with z | z
              · exact z
              · rw [List.getElem?_eq_none z] at this; cases this
            rw [List.getElem?_set_self hl, this]
          · rw [List.getElem?_set_ne e]
      exact this vs hno
    have start2 : Ok F (.acc D [] :: (pl ++ pins)) ρ1 (wipe σ vs) (upd H1 D (.lst [])) := by
      have := start.wipe (hfr2 [])
      rw [hw1] at this
      exact this
    refine ⟨fun i m H => ∃ acc ρ, Ok F (.acc D acc :: (pl ++ pins)) ρ (wipe σ vs) H ∧ I i acc ρ ∧ i ≤ xs.length ∧ m = xs.length - i, ⟨_, [], ρ1, start2, h0, Nat.zero_le _, rfl⟩, ?_⟩
    rintro i m H2 ⟨acc, ρ2, O2, i2, hle, rfl⟩
    by_cases hlt : i < xs.length
    · refine .inr ⟨W.goes i _ ρ2 _ H2 (hin acc) hlt O2, fun H' => ∃ acc ρ, Ok F (.acc D acc :: (pl ++ pins)) ρ (wipe σ vs) H' ∧ I (i + 1) acc ρ, fun H' ⟨acc', ρ', O', i'⟩ => ⟨xs.length - (i + 1), by omega, acc', ρ', O', i', by omega, rfl⟩, fun x H3 hy => ?_⟩
      obtain ⟨y, ey, O3, im⟩ := W.yld i _ ρ2 _ H2 x H3 (hin acc) hlt O2 hy
      refine hg.run _ ρ2 _ H3 x (.d y) _ _ O3 (hfr2 acc) im (hturn i y acc ρ2 ey i2) fun ρ4 σ4 H4 O4 so q => ?_
      have hw4 : wipe σ4 vs = wipe σ vs := by
        have := so vs fun _ h => h
        rw [this]
        have idem : ∀ (us : List Nat) (τ : L2.St), (∀ i ∈ us, i ∈ vs) → wipe (wipe σ vs) us = wipe σ vs := fun us => by
          induction us with
          | nil => intro _ _; rfl
          | cons k ks ih =>
            intro τ hk
            show (wipe (wipe σ vs) ks).set k none = wipe σ vs
            rw [ih τ fun i hi => hk i (List.mem_cons_of_mem _ hi)]
            apply List.ext_getElem?
            intro n
            by_cases e : k = n
            · subst e
              have hk1 := hk k (List.mem_cons_self ..)
              by_cases hl : k < (wipe σ vs).length
              · rw [List.getElem?_set_self hl]
                have : ∀ (ws : List Nat), k ∈ ws → k < σ.length → (wipe σ ws)[k]? = some none := fun ws => by
                  induction ws with
                  | nil => intro h _; cases h
                  | cons w ws ih2 =>
                    intro h hl2
                    show ((wipe σ ws).set w none)[k]? = some none
                    by_cases e2 : w = k
                    · subst e2
                      rw [List.getElem?_set_self (by rw [wipe_length]; exact hl2)]
                    · rw [List.getElem?_set_ne e2]
                      rcases List.mem_cons.mp h with z | z
                      · exact absurd z.symm e2
                      · exact ih2 z hl2
                rw [this vs hk1 (by rw [wipe_length] at hl; exact hl)]
              · rw [List.getElem?_eq_none (by rw [List.length_set]; omega), List.getElem?_eq_none (by omega)]
            · rw [List.getElem?_set_ne e]
        exact idem vs σ fun _ h => h
      refine ⟨hw4, ?_⟩
      refine ht.run _ ρ4 σ4 H4 _ O4 (ht.mono _ _ _ (fun k ρ5 h5 H5 O5 => ?_) q)
      cases k with
      | false =>
        have := O5.wipe (hfr2 acc)
        rw [hw4] at this
        exact ⟨acc, _, this, h5⟩
      | true =>
        refine he.run _ ρ5 σ4 H5 _ O5 (he.mono _ _ _ (fun r ρ6 h6 w H6 O6 R6 => ?_) h5)
        cases r with
        | o j => exact h6.elim
        | raw u => exact h6.elim
        | d z =>
          obtain ⟨vsD, hHD, hiD, _, _⟩ := O6.pin _ (List.mem_cons_self ..)
          refine ⟨vsD, hHD, ?_, acc ++ [z], wipeR ρ6 vs, ?_, h6.2⟩
          · have := h6.1
            unfold Few at this
            rw [hiD.length]; omega
          · have O7 := (O6.setAcc (hiD.append (.cons R6 .nil))).wipe (hfr2 (acc ++ [z]))
            rw [hw4] at O7
            exact O7
    · have e : i = xs.length := by omega
      subst e
      refine .inl ⟨W.stops _ ρ2 _ H2 (hin acc) O2, ?_⟩
      have hq := hend acc ρ2 i2
      refine hq D H2 ?_
      have O3 := O2.wipe (hfr2 acc)
      have hww : wipe (wipe σ vs) vs = wipe (wipe σ vs) vs := rfl
      have O4 : Ok F (.acc D acc :: (pl ++ pins)) (wipeR ρ2 vs) σ H2 := by
        refine Ok.unwipe (vs := vs) (Ok.unwipe (vs := vs) O3 ?_) ?_
        all_goals
          intro i hi
          by_cases hl : i < ρ2.length
          · exact .inl (wipeR_none hi hl)
          · exact .inr (List.getElem?_eq_none (by rw [wipeR_len]; omega))
      refine O4.sub (fun p hp => ?_) (by show D :: accs pins = D :: accs (pl ++ pins); rw [accs_app hpl])
      rcases List.mem_cons.mp hp with z | z
      · exact z ▸ List.mem_cons_self ..
      · exact List.mem_cons_of_mem _ (List.mem_append_right _ z)
  · intro ρ Q Q' hq h
    refine hi.mono _ _ _ (fun xs ρ1 h1 => ?_) h
    obtain ⟨hno, I, h0, hturn, hend⟩ := h1
    exact ⟨hno, I, h0, hturn, fun acc ρ i => hq _ _ (hend acc ρ i)⟩
end
end DV
namespace DV
open PySem PySem.Spec PyProof.Rows L2
open LamX (ExtN TabS Tabs CodeO)
section
variable {X : Cx} {F : Fm} {a b c e : Expr} {es : List Expr} {ta tb tc te : TE} {da db dc de : TDE} {dl : TDL} {pos : Pos} {t : TA} {d : TDA} {tt tu : TT} {dt du : TDT}
/-- what a def's parameter is handed: data that nobody changes (d), or a list that is read alone (ro) -/
inductive Kd
  | d | ro
def ArgOk (K : PySem.W.Frag) (N Z : Addr → Prop) (H : Hp) : Kd → PyData → V → Prop
  | .d, x, v => Im K N H x v
  | .ro, x, v => Im K N H x v ∨ ∃ a us xs, v = .ref a ∧ x = .list xs ∧ ((Rd H a (.lst us) ∧ ¬ Z a) ∨ SqL K (fun _ => none) a us) ∧ ImAll K N H xs us
def ArgsOk (K : PySem.W.Frag) (N Z : Addr → Prop) (H : Hp) : List Kd → List PyData → List V → Prop
  | k :: ks, x :: xs, vs => ∃ v us, vs = v :: us ∧ ArgOk K N Z H k x v ∧ ArgsOk K N Z H ks xs us
  | [], [], vs => vs = []
  | _, _, _ => False
def noZ : Addr → Prop := fun _ => False
abbrev Sd := List PyData → (PyData → Prop) → Prop
/-- the promise of a def that changes nothing -/
def spP (K : PySem.W.Frag) (T : List (Addr × Str)) (ks : List Kd) (S : Sd) : Sp := fun vs H Q _ => ∃ (N : Addr → Prop) (xs : List PyData), Tabs T H ∧ (∀ a, N a → ∃ o, H a = some o ∧ Mutab o) ∧ ArgsOk K N noZ H ks xs vs ∧
  S xs fun z => ∀ v H', Gr H H' → Tabs T H' → Im K N H' z v → Q v H'
abbrev Sb := List PyData → List PyData → (PyData → List PyData → Prop) → Prop
/-- all but B has grown -/
structure GrB (B : Addr) (H H' : Hp) : Prop where
  ext : ∀ a o, a ≠ B → H a = some o → nt o → H' a = some o
  tbl : ∀ a ps, H a = some (.tbl ps) → ∃ qs, H' a = some (.tbl qs)
/-- of one that changes its first argument, a list, alone -/
def spB (K : PySem.W.Frag) (T : List (Addr × Str)) (ks : List Kd) (S : Sb) : Sp := fun vs H Q _ => ∃ (N : Addr → Prop) (B : Addr) (bvs ws : List V) (bag xs : List PyData), Tabs T H ∧ vs = .ref B :: ws ∧ N B ∧ (∀ a, N a → ∃ o, H a = some o ∧ Mutab o) ∧ H B = some (.lst bvs) ∧ ImAll K N H bag bvs ∧ ArgsOk K N (fun a => a = B) H ks xs ws ∧
  S bag xs fun z bag' => ∀ v H' bvs', GrB B H H' → Tabs T H' → H' B = some (.lst bvs') → ImAll K N H' bag' bvs' → Im K N H' z v → Q v H'
def dats2 (ρ : Rho) : List Kd → List R → Option (List PyData)
  | .d :: ks, .d x :: rs => (dats2 ρ ks rs).map (x :: ·)
  | .ro :: ks, r :: rs => match val ρ r, dats2 ρ ks rs with
    | some x, some xs => some (x :: xs)
    | _, _ => none
  | [], [] => some []
  | _, _ => none
theorem ro_arg {Z : Addr → Prop} {pins : List Pin} {ρ : Rho} {σ : L2.St} {H : Hp} (O : Ok F pins ρ σ H) {r : R} {v : V} {x : PyData} (h2 : ∀ a, Z a → F.L a ∨ F.H0 a = none) (h1 : ∀ j a, r = .o j → OwnAt ρ σ j a → ¬ Z a)
    (h : ROk F (Av F pins ρ σ) ρ σ H r v) (hv : val ρ r = some x) : ArgOk F.K (Av F pins ρ σ) Z H .ro x v := by
  have ro : ∀ {x : PyData} {v : V}, RoOk F (Av F pins ρ σ) H x v → ArgOk F.K (Av F pins ρ σ) Z H .ro x v := by
    rintro x v (h | ⟨a, us, xs, e, e2, l, t⟩)
    · exact .inl h
    · refine .inr ⟨a, us, xs, e, e2, ?_, t⟩
      rcases l with ⟨l, n⟩ | l
      · refine .inl ⟨?_, fun z => ?_⟩
        · rcases l with l | ⟨o, l⟩
          · exact .inl (O.fr _ _ n l nt_lst)
          · exact .inr ⟨o, O.fr _ _ n l nt_frz⟩
        · rcases h2 a z with z | z
          · exact n z
          · rcases l with l | ⟨o, l⟩
            · rw [z] at l; cases l
            · rw [z] at l; cases l
      · exact .inr l
  cases r with
  | d y => cases hv; exact .inl h
  | raw u => cases hv
  | o i =>
    have g1 := h.1
    have hv : slot ρ i = some x := hv
    unfold slot at hv
    split at hv
    · rename_i y e; cases hv
      obtain ⟨u, g2, g3⟩ := O.ent i _ e
      rw [g1] at g2; cases g2
      exact .inl g3
    · rename_i ys e; cases hv
      obtain ⟨p, vs, g2, g3, g4, g5⟩ := O.ownGet e
      rw [g1] at g2; cases g2
      exact .inr ⟨p, vs, ys, rfl, rfl, .inl ⟨.inl g3, h1 i p rfl g5⟩, g4⟩
    · rename_i y e; cases hv
      obtain ⟨u, g2, g3⟩ := O.ent i _ e
      rw [g1] at g2; cases g2
      exact ro g3
    · cases hv
theorem args_ok {Z : Addr → Prop} {pins : List Pin} {ρ : Rho} {σ : L2.St} {H : Hp} (O : Ok F pins ρ σ H) (h2 : ∀ a, Z a → F.L a ∨ F.H0 a = none) : ∀ {ks : List Kd} {rs : List R} {vs : List V} {xs : List PyData}, (∀ r ∈ rs, ∀ j a, r = .o j → OwnAt ρ σ j a → ¬ Z a) → ROks F (Av F pins ρ σ) ρ σ H rs vs → dats2 ρ ks rs = some xs → ArgsOk F.K (Av F pins ρ σ) Z H ks xs vs
  | [], [], vs, xs, _, h, e => by
    simp only [ROks] at h; simp only [dats2] at e; cases e
    simp only [ArgsOk]; exact h
  | .d :: ks, .d x :: rs, vs, xs, hz, h, e => by
    simp only [ROks] at h
    obtain ⟨v, us, rfl, h1, h3⟩ := h
    simp only [dats2] at e
    cases e1 : dats2 ρ ks rs with
    | none => rw [e1] at e; cases e
    | some ys =>
      rw [e1] at e; cases e
      simp only [ArgsOk]
      exact ⟨v, us, rfl, h1, args_ok O h2 (fun r hr => hz r (List.mem_cons_of_mem _ hr)) h3 e1⟩
  | .ro :: ks, r :: rs, vs, xs, hz, h, e => by
    simp only [ROks] at h
    obtain ⟨v, us, rfl, h1, h3⟩ := h
    simp only [dats2] at e
    cases e0 : val ρ r with
    | none => rw [e0] at e; cases e
    | some x =>
      cases e1 : dats2 ρ ks rs with
      | none => rw [e0, e1] at e; cases e
      | some ys =>
        rw [e0, e1] at e; cases e
        simp only [ArgsOk]
        exact ⟨v, us, rfl, ro_arg O h2 (hz r (List.mem_cons_self ..)) h1 e0, args_ok O h2 (fun r hr => hz r (List.mem_cons_of_mem _ hr)) h3 e1⟩
  | [], _ :: _, _, _, _, _, e => by simp only [dats2] at e; cases e
  | .d :: _, [], _, _, _, _, e => by simp only [dats2] at e; cases e
  | .ro :: _, [], _, _, _, _, e => by simp only [dats2] at e; cases e
  | .d :: _, .o _ :: _, _, _, _, _, e => by simp only [dats2] at e; cases e
  | .d :: _, .raw _ :: _, _, _, _, _, e => by simp only [dats2] at e; cases e
def onArgs (ρ : Rho) (ks : List Kd) (rs : List R) (f : List PyData → Prop) : Prop := match dats2 ρ ks rs with
  | some xs => f xs
  | _ => False
theorem onArgs_of {ρ : Rho} {ks : List Kd} {rs : List R} {f : List PyData → Prop} (h : onArgs ρ ks rs f) : ∃ xs, dats2 ρ ks rs = some xs ∧ f xs := by
  unfold onArgs at h
  split at h
  · exact ⟨_, by assumption, h⟩
  · exact h.elim
theorem onArgs_mono {ρ : Rho} {ks : List Kd} {rs : List R} {f g : List PyData → Prop} (h : onArgs ρ ks rs f) (k : ∀ xs, f xs → g xs) : onArgs ρ ks rs g := by
  unfold onArgs at h ⊢
  split at h
  · exact k _ h
  · exact h.elim
def MonoP (S : Sd) : Prop := ∀ xs Q Q', (∀ z, Q z → Q' z) → S xs Q → S xs Q'
def MonoB (S : Sb) : Prop := ∀ bag xs Q Q', (∀ z b, Q z b → Q' z b) → S bag xs Q → S bag xs Q'
def dCallP (ks : List Kd) (S : Sd) (t : TDA) : TDE := fun ρ Q => t ρ fun rs ρ1 => onArgs ρ1 ks rs fun xs => S xs fun z => Q (.d z) ρ1
theorem de_callP {ks : List Kd} {S : Sd} {E : XK} (hS : MonoP S) (h : DA F t d) : DE F (fun σ H Q => t σ H fun vs H1 => spP F.K F.T ks S vs H1 Q E) (dCallP ks S d) := by
  constructor
  · intro pins ρ σ H Q O hq
    refine h.run pins ρ σ H _ O (h.mono _ _ _ (fun rs ρ1 h1 vs H1 O1 R1 => ?_) hq)
    obtain ⟨xs, e, h2⟩ := onArgs_of h1
    refine ⟨Av F pins ρ1 σ, xs, O1.tb.1, fun a ha => O1.avM ha, args_ok O1 (fun a z => z.elim) (fun _ _ _ _ _ _ z => z) R1 e, hS _ _ _ (fun z q v H' g tb im => ?_) h2⟩
    exact q v H' (O1.heapN g tb) im
  · intro ρ Q Q' hq hh
    exact h.mono _ _ _ (fun rs ρ1 h1 => onArgs_mono h1 fun xs h2 => hS _ _ _ (fun z => hq _ _) h2) hh
theorem pd_callP {ks : List Kd} {S : Sd} {k : Nat} {f : Addr} {fd : FuncData} {ps : List Str} {x : Str} {p : Pos} (G : FnG X.prog X.w X.K X.mg X.base CX0 k f fd ps (spP F.K F.T ks S)) (hS : MonoP S) (hr : Room k X.A) (hgd : X.A.guards = some []) (hg : Gl X x) (hm : X.mg x = some (.ref f)) (hk : PySem.W.keepIn X.K (.ref f) = true) (hb : Binds X.K fd ps [])
    (ha : PDA X F (e :: es) t d) (hdb : (x == ("__debug__" : Str)) = false := by decide) (he : starEach (e :: es) X.env = (false, eval e X.env) :: starEach es X.env := by rfl) (hpl : (backTo pos (starEach es X.env)).any (·.1) = false := by rfl) :
    PD X F (.Call (.Name x p) (e :: es) [] pos) (fun σ H Q => t σ H fun vs H1 => spP F.K F.T ks S vs H1 Q E0) (dCallP ks S d) :=
  ⟨pe_callG G hr hgd hg hm hk hb ha.pa hdb he hpl, de_callP hS ha.da⟩
def noSelf (i : Nat) : List R → Prop
  | [] => True
  | .o j :: rs => j ≠ i ∧ noSelf i rs
  | _ :: rs => noSelf i rs
theorem noSelf_mem {i : Nat} : ∀ {rs : List R}, noSelf i rs → ∀ r ∈ rs, ∀ j, r = .o j → j ≠ i
  | .o k :: rs, h, r, hr, j, e => by
    rcases List.mem_cons.mp hr with z | z
    · rw [z] at e; cases e; exact h.1
    · exact noSelf_mem h.2 r z j e
  | .d _ :: rs, h, r, hr, j, e => by
    rcases List.mem_cons.mp hr with z | z
    · rw [z] at e; cases e
    · exact noSelf_mem (show noSelf i rs from h) r z j e
  | .raw _ :: rs, h, r, hr, j, e => by
    rcases List.mem_cons.mp hr with z | z
    · rw [z] at e; cases e
    · exact noSelf_mem (show noSelf i rs from h) r z j e
/-- f(bag, ..): the first argument the own list at slot i -/
def dCallB (ks : List Kd) (S : Sb) (t : TDA) : TDE := fun ρ Q => t ρ fun rs ρ1 => match rs with
  | .o i :: rs => noSelf i rs ∧ onOwn ρ1 i fun bag => onArgs ρ1 ks rs fun xs => S bag xs fun z bag' => Q (.d z) (ρ1.set i (some (.own bag')))
  | _ => False
theorem Ok.lent {pins : List Pin} {ρ : Rho} {σ : L2.St} {H H' : Hp} (O : Ok F pins ρ σ H) {i : Nat} {B : Addr} {vs : List V} {ys : List PyData} (h : OwnAt ρ σ i B) (g : GrB B H H') (tb : Tabs F.T H') (hB : H' B = some (.lst vs)) (hv : ImAll F.K (Av F pins ρ σ) H' ys vs) :
    Ok F pins (ρ.set i (some (.own ys))) σ H' ∧ Av F pins (ρ.set i (some (.own ys))) σ = Av F pins ρ σ := by
  have ae : Av F pins (ρ.set i (some (.own ys))) σ = Av F pins ρ σ := by
    funext b
    unfold Av
    simp only [setOwn_iff (xs := ys) h]
  have aB : Av F pins ρ σ B := .inr (.inl ⟨i, h⟩)
  have G : Go (Av F pins ρ σ) (Av F pins ρ σ) H H' := ⟨fun a o n e m => g.ext a o (fun z => n (by rw [z]; exact aB)) e m, fun a z => .inl z⟩
  -- first a heap with an empty list at B, then the heap H'
  have O1 := O.setOwn (xs := []) (vs := []) h .nil
  have ae1 : Av F pins (ρ.set i (some (.own []))) σ = Av F pins ρ σ := by
    funext b
    unfold Av
    simp only [setOwn_iff (xs := []) h]
  have hi : i < ρ.length := by
    obtain ⟨⟨zs, h1, _⟩, _⟩ := h
    rcases Nat.lt_or_ge i ρ.length with z | z
    · exact z
    · rw [List.getElem?_eq_none z] at h1; cases h1
  refine ⟨?_, ae⟩
  refine ⟨by rw [List.length_set]; exact O.len, fun j f hj => ?_, fun j k b z1 z2 => O.own j k b ((setOwn_iff h j b).mp z1) ((setOwn_iff h k b).mp z2), fun p hp => ?_, O.acs, fun b o n e m => ?_, fun b z => ?_, O.ln, O.h0, fun j b z => O.lf j b ((setOwn_iff h j b).mp z), ⟨tb, fun a ps e => let ⟨qs, h1⟩ := O.tb.2 a ps e; g.tbl a qs h1⟩⟩
  · rw [ae]
    rcases getset hj with ⟨rfl, q, hl⟩ | ⟨ne, q⟩
    · cases q
      obtain ⟨_, _, hl⟩ := O.ownL h
      exact ⟨.ref B, h.2, B, vs, rfl, hB, hv, hl⟩
    · obtain ⟨v, h3, h4⟩ := O.ent j f q
      refine ⟨v, h3, EntOk.goM G h4 fun b us ev hb ex mu => ?_⟩
      subst ev
      exact g.ext b _ (fun z => ne (O.own j i B (by subst z; exact ⟨⟨f, q, ex⟩, h3⟩) h)) hb mu.nt
  · rw [ae]
    have hq := O.pin p hp
    cases p with
    | val v r =>
      cases r with
      | d x => exact Im.go G hq
      | o j =>
        refine ⟨hq.1, ?_⟩
        by_cases e2 : j = i
        · subst e2
          exact ⟨.list ys, by unfold slot; rw [List.getElem?_set_self hi]⟩
        · obtain ⟨x, hx2⟩ := hq.2
          exact ⟨x, by rw [slot_ne e2]; exact hx2⟩
      | raw u => exact hq
    | acc b zs =>
      obtain ⟨us, h3, h4, h5, h6⟩ := hq
      exact ⟨us, g.ext b _ (fun z => h6 (by subst z; exact ⟨i, h⟩)) h3 nt_lst, h4.go G, h5, fun ⟨j, z⟩ => h6 ⟨j, (setOwn_iff h j b).mp z⟩⟩
  · obtain ⟨_, _, hl⟩ := O.ownL h
    refine g.ext b o (fun z => ?_) (O.fr b o n e m) m
    subst z
    rcases hl with hl | hl
    · exact n hl
    · rw [hl] at e; cases e
  · by_cases e : b = B
    · subst e; exact ⟨_, hB, trivial⟩
    · obtain ⟨o, z, m⟩ := O.nh b z
      exact ⟨o, g.ext b o e z m.nt, m⟩
theorem de_callB {ks : List Kd} {S : Sb} {E : XK} (hS : MonoB S) (h : DA F t d) : DE F (fun σ H Q => t σ H fun vs H1 => spB F.K F.T ks S vs H1 Q E) (dCallB ks S d) := by
  constructor
  · intro pins ρ σ H Q O hq
    refine h.run pins ρ σ H _ O (h.mono _ _ _ (fun rs ρ1 h1 vs H1 O1 R1 => ?_) hq)
    cases rs with
    | nil => exact h1.elim
    | cons r rs =>
      cases r with
      | d x => exact h1.elim
      | raw u => exact h1.elim
      | o i =>
        obtain ⟨hns, h1⟩ := h1
        obtain ⟨bag, e0, h2⟩ := onOwn_of h1
        obtain ⟨xs, e, h3⟩ := onArgs_of h2
        simp only [ROks] at R1
        obtain ⟨v, us, rfl, R0, R1⟩ := R1
        obtain ⟨B, bvs, g1, g2, g3, g4⟩ := O1.ownGet e0
        have := R0.1
        rw [g1] at this; cases this
        refine ⟨Av F pins ρ1 σ, B, bvs, us, bag, xs, O1.tb.1, rfl, .inr (.inl ⟨i, g4⟩), fun a ha => O1.avM ha, g2, g3, args_ok O1 (fun a z => by obtain ⟨_, _, hl⟩ := O1.ownL g4; rw [z]; exact hl) (fun r hr j a e z ea => noSelf_mem hns r hr j e (O1.own j i B (by rw [← ea]; exact z) g4)) R1 e, hS _ _ _ _ (fun z bag' q v H' bvs' g tb hB hv im => ?_) h3⟩
        obtain ⟨O2, ae⟩ := O1.lent g4 g tb hB hv
        exact q v H' O2 (by show Im F.K (Av F pins (ρ1.set i (some (.own bag'))) σ) H' z v; rw [ae]; exact im)
  · intro ρ Q Q' hq hh
    refine h.mono _ _ _ (fun rs ρ1 h1 => ?_) hh
    cases rs with
    | nil => exact h1.elim
    | cons r rs =>
      cases r with
      | d x => exact h1.elim
      | raw u => exact h1.elim
      | o i => exact ⟨h1.1, onOwn_mono h1.2 fun bag h2 => onArgs_mono h2 fun xs h3 => hS _ _ _ _ (fun z b => hq _ _) h3⟩
theorem pd_callBag {ks : List Kd} {S : Sb} {k : Nat} {f : Addr} {fd : FuncData} {ps : List Str} {x : Str} {p : Pos} (G : FnG X.prog X.w X.K X.mg X.base CX0 k f fd ps (spB F.K F.T ks S)) (hS : MonoB S) (hr : Room k X.A) (hgd : X.A.guards = some []) (hg : Gl X x) (hm : X.mg x = some (.ref f)) (hk : PySem.W.keepIn X.K (.ref f) = true) (hb : Binds X.K fd ps [])
    (ha : PDA X F (e :: es) t d) (hdb : (x == ("__debug__" : Str)) = false := by decide) (he : starEach (e :: es) X.env = (false, eval e X.env) :: starEach es X.env := by rfl) (hpl : (backTo pos (starEach es X.env)).any (·.1) = false := by rfl) :
    PD X F (.Call (.Name x p) (e :: es) [] pos) (fun σ H Q => t σ H fun vs H1 => spB F.K F.T ks S vs H1 Q E0) (dCallB ks S d) :=
  ⟨pe_callG G hr hgd hg hm hk hb ha.pa hdb he hpl, de_callB hS ha.da⟩
end
def entOf : Kd → PyData → Ent
  | .d, x => .d x
  | .ro, x => .ro x
def rhoP (n : Nat) (ks : List Kd) (xs : List PyData) : Rho := (ks.zip xs).map (fun p => some (entOf p.1 p.2)) ++ List.replicate (n - xs.length) none
def frP (K : PySem.W.Frag) (H : Hp) (N : Addr → Prop) (T : List (Addr × Str)) : Fm := ⟨K, H, N, fun _ => False, fun _ => False, T⟩
def frB (K : PySem.W.Frag) (H : Hp) (N : Addr → Prop) (B : Addr) (T : List (Addr × Str)) : Fm := ⟨K, H, N, fun a => a = B, fun i => i = 0, T⟩
theorem ArgsOk.len {K : PySem.W.Frag} {N Z : Addr → Prop} {H : Hp} : ∀ {ks : List Kd} {xs : List PyData} {vs : List V}, ArgsOk K N Z H ks xs vs → vs.length = ks.length ∧ xs.length = ks.length
  | [], [], _, h => by simp only [ArgsOk] at h; subst h; exact ⟨rfl, rfl⟩
  | k :: ks, x :: xs, _, h => by
    simp only [ArgsOk] at h
    obtain ⟨v, us, rfl, _, h2⟩ := h
    obtain ⟨e1, e2⟩ := ArgsOk.len h2
    exact ⟨by simp [e1], by simp [e2]⟩
  | [], _ :: _, _, h => by simp only [ArgsOk] at h
  | _ :: _, [], _, h => by simp only [ArgsOk] at h
theorem ArgsOk.at {K : PySem.W.Frag} {N Z : Addr → Prop} {H : Hp} : ∀ {ks : List Kd} {xs : List PyData} {vs : List V} {i : Nat} {e : Ent}, ArgsOk K N Z H ks xs vs → ((ks.zip xs).map (fun p => some (entOf p.1 p.2)))[i]? = some (some e) → ∃ k x v, e = entOf k x ∧ vs[i]? = some v ∧ ArgOk K N Z H k x v
  | [], [], _, _, _, _, h => by simp at h
  | k :: ks, x :: xs, _, 0, e, h, he => by
    simp only [ArgsOk] at h
    obtain ⟨v, us, rfl, h1, _⟩ := h
    simp at he
    exact ⟨k, x, v, he.symm, rfl, h1⟩
  | k :: ks, x :: xs, _, i + 1, e, h, he => by
    simp only [ArgsOk] at h
    obtain ⟨v, us, rfl, _, h2⟩ := h
    obtain ⟨k', x', v', g1, g2, g3⟩ := ArgsOk.at (i := i) h2 (by simpa using he)
    exact ⟨k', x', v', g1, by simpa using g2, g3⟩
  | [], _ :: _, _, _, _, h, _ => by simp only [ArgsOk] at h
  | _ :: _, [], _, _, _, h, _ => by simp only [ArgsOk] at h
end DV
namespace DV
open PySem PySem.Spec PyProof.Rows L2
open LamX (ExtN TabS Tabs CodeO)
theorem rhoP_len {n : Nat} {ks : List Kd} {xs : List PyData} (h : xs.length = ks.length) (hn : ks.length ≤ n) : (rhoP n ks xs).length = n := by
  unfold rhoP
  rw [List.length_append, List.length_map, List.length_zip, List.length_replicate]
  omega
theorem rhoP_some {n : Nat} {ks : List Kd} {xs : List PyData} {i : Nat} {e : Ent} (h : (rhoP n ks xs)[i]? = some (some e)) : ((ks.zip xs).map (fun p => some (entOf p.1 p.2)))[i]? = some (some e) := by
  unfold rhoP at h
  by_cases hi : i < ((ks.zip xs).map (fun p => some (entOf p.1 p.2))).length
  · rw [List.getElem?_append_left hi] at h; exact h
  · rw [List.getElem?_append_right (by omega), List.getElem?_replicate] at h
    split at h <;> cases h
theorem arg_ent {K : PySem.W.Frag} {N A Z : Addr → Prop} {H : Hp} {F : Fm} (hF : F.K = K) (hH : F.H0 = H) (hL : ∀ a, F.L a → Z a) (hA : ∀ a, A a → N a) {k : Kd} {x : PyData} {v : V} (h : ArgOk K N Z H k x v) : EntOk F A H (entOf k x) v := by
  subst hF hH
  have G : Go N A F.H0 F.H0 := ⟨fun a o _ e _ => e, fun a z => .inl (hA a z)⟩
  cases k with
  | d => exact Im.go G h
  | ro =>
    rcases h with h | ⟨a, us, xs, e, e2, l, t⟩
    · exact .inl (Im.go G h)
    · refine .inr ⟨a, us, xs, e, e2, ?_, t.go G⟩
      rcases l with ⟨l, n⟩ | l
      · exact .inl ⟨l, fun z => n (hL a z)⟩
      · exact .inr l
def retP (r : R) (ρ : Rho) (Q : PyData → Prop) : Prop := match r with
  | .d z => Q z
  | .o i => onOwn ρ i fun xs => Q (.list xs)
  | .raw _ => False
def retB (r : R) (ρ : Rho) (Q : PyData → List PyData → Prop) : Prop := onOwn ρ 0 fun bag => match r with
  | .d z => Q z bag
  | .o (i + 1) => onOwn ρ (i + 1) fun xs => Q (.list xs) bag
  | _ => False
theorem fixP {K : PySem.W.Frag} {H : Hp} {N : Addr → Prop} {T : List (Addr × Str)} {i : Nat} : ¬ (frP K H N T).fix i := fun z => z
theorem fixB {K : PySem.W.Frag} {H : Hp} {N : Addr → Prop} {B : Addr} {T : List (Addr × Str)} {i : Nat} (h : i ≠ 0) : ¬ (frB K H N B T).fix i := h
theorem nofixP {K : PySem.W.Frag} {H : Hp} {N : Addr → Prop} {T : List (Addr × Str)} {l : List Nat} : ∀ i ∈ l, ¬ (frP K H N T).fix i := fun _ _ z => z
section
variable {P : Program} {w : World} {K : PySem.W.Frag} {mg : Str → Option Value} {base : Heap} {T : List (Addr × Str)}
theorem fnPC {x qual : Str} {st : Stmt} {f : Addr} {fd : FuncData} {N ps : List Str} {k : Nat} {ks : List Kd} {S : Sd} (W : Fun K x qual st f fd) (Sc : FnScope N ps (defScope st)) (hks : ks.length = ps.length)
    (body : ∀ (cdv : Value), fd.code = cdv → ∀ (A : Around) (out : List Env) (s : Shared) (H : Hp) (E : XK) (Nn : Addr → Prop), Room k (A.deeper (envOfC qual (defScope st) s.heap.objs.size f cdv)) → A.guards = some [] →
      ∃ ts tds, PDSs (cxOf CX0 P w K mg base N qual (defScope st) f cdv A out s H E).nox (frP K H Nn T) (defBody st) ts tds ∧
        ∀ xs Q, xs.length = ks.length → S xs Q → tds { nx := fun _ => Q .none, rt := fun r ρ => retP r ρ Q } (rhoP N.length ks xs)) : FnG P w K mg base CX0 (k + 1) f fd ps (spP K T ks S) := by
  have hpl : ps.length ≤ N.length := by have := congrArg List.length Sc.pre; rw [List.length_take] at this; omega
  refine fg_ofC W Sc (fun vs H Q E h => ?_) fun cdv hcd A out s H vs Q E hr hgd h => ?_
  · obtain ⟨Nn, xs, _, _, ha, _⟩ := h
    rw [ha.len.1, hks]
  obtain ⟨Nn, xs, tb, hM, ha, hS⟩ := h
  have hN : ∀ a, Nn a → ∃ o, H a = some o := fun a z => let ⟨o, e, _⟩ := hM a z; ⟨o, e⟩
  obtain ⟨ts, tds, hb, hq⟩ := body cdv hcd A out s H E Nn hr hgd
  refine ⟨ts, hb.pss, ?_⟩
  have hl := ha.len
  have noOwn : ∀ i a, ¬ OwnAt (rhoP N.length ks xs) (L2.start N vs) i a := by
    rintro i a ⟨⟨ys, h1, hm⟩, _⟩
    obtain ⟨k, x, v, e, _⟩ := ha.at (rhoP_some h1)
    subst e
    cases k <;> exact hm
  have O : Ok (frP K H Nn T) [] (rhoP N.length ks xs) (L2.start N vs) H := by
    refine ⟨?_, fun i e h1 => ?_, fun i j a h1 _ => absurd h1 (noOwn i a), fun p hp => (nomatch hp), .nil, fun a o _ e _ => e, hM, fun a h => h.elim, hN, fun i a _ h => h.elim, tb, fun a ps e => ⟨ps, e⟩⟩
    · rw [rhoP_len hl.2 (by rw [hks]; exact hpl)]
      unfold L2.start
      rw [List.length_append, List.length_map, List.length_replicate]
      omega
    · obtain ⟨k, x, v, rfl, h2, h3⟩ := ha.at (rhoP_some h1)
      refine ⟨v, ?_, arg_ent (N := Nn) rfl rfl (fun a z => z) (fun a z => ?_) h3⟩
      · have hi : i < vs.length := by
          rcases Nat.lt_or_ge i vs.length with z | z
          · exact z
          · rw [List.getElem?_eq_none z] at h2; cases h2
        unfold L2.start
        rw [List.getElem?_append_left (by simpa using hi), List.getElem?_map, h2]; rfl
      · rcases z with z | ⟨j, z⟩ | z
        · exact z
        · exact absurd z (noOwn j a)
        · cases z
  refine hb.ds [] _ _ H _ _ O (fun v j hp => nomatch hp) ⟨fun ρ σ H' O' q => ?_, fun ρ σ H' v r O' R' q => ?_, fun _ _ _ _ q => False.elim q, fun _ _ _ _ q => False.elim q, fun _ _ _ _ _ _ q => False.elim q⟩ (hq xs _ hl.2 hS)
  · exact q .non H' ⟨fun a o e => O'.fr a o (fun z => z) e, O'.tb.2⟩ O'.tb.1 .none
  · have G : Go (Av (frP K H Nn T) [] ρ σ) Nn H' H' := ⟨fun _ _ _ e _ => e, fun a z => .inl (.inl z)⟩
    have fr : Gr H H' := ⟨fun a o e => O'.fr a o (fun z => z) e, O'.tb.2⟩
    cases r with
    | d z => exact q v H' fr O'.tb.1 (Im.go G R')
    | raw u => exact q.elim
    | o i =>
      obtain ⟨ys, e, q⟩ := onOwn_of q
      obtain ⟨p, us, h1, h2, h3, h4⟩ := O'.ownGet e
      have := R'.1
      rw [h1] at this; cases this
      refine q _ H' fr O'.tb.1 ?_
      simp only [Im]
      refine ⟨p, us, rfl, ⟨h2, fun z => ?_⟩, h3.go G⟩
      obtain ⟨_, _, hl⟩ := O'.ownL h4
      rcases hl with hl | hl
      · exact hl
      · obtain ⟨o, e⟩ := hN p z
        have hl : H p = none := hl
        rw [hl] at e; cases e
theorem fnP {x qual : Str} {st : Stmt} {f : Addr} {fd : FuncData} {N ps : List Str} {k : Nat} {ks : List Kd} {S : Sd} (W : Fun K x qual st f fd) (Sc : FnScope N ps (defScope st)) (hks : ks.length = ps.length)
    (body : ∀ (cdv : Value) (A : Around) (out : List Env) (s : Shared) (H : Hp) (E : XK) (Nn : Addr → Prop), Room k (A.deeper (envOfC qual (defScope st) s.heap.objs.size f cdv)) → A.guards = some [] →
      ∃ ts tds, PDSs (cxOf CX0 P w K mg base N qual (defScope st) f cdv A out s H E).nox (frP K H Nn T) (defBody st) ts tds ∧
        ∀ xs Q, xs.length = ks.length → S xs Q → tds { nx := fun _ => Q .none, rt := fun r ρ => retP r ρ Q } (rhoP N.length ks xs)) : FnG P w K mg base CX0 (k + 1) f fd ps (spP K T ks S) :=
  fnPC W Sc hks fun cdv _ => body cdv
theorem fnB {x qual : Str} {st : Stmt} {f : Addr} {fd : FuncData} {N ps : List Str} {k : Nat} {ks : List Kd} {S : Sb} (W : Fun K x qual st f fd) (Sc : FnScope N ps (defScope st)) (hks : ks.length + 1 = ps.length)
    (body : ∀ (cdv : Value) (A : Around) (out : List Env) (s : Shared) (H : Hp) (E : XK) (Nn : Addr → Prop) (B : Addr), Room k (A.deeper (envOfC qual (defScope st) s.heap.objs.size f cdv)) → A.guards = some [] →
      ∃ ts tds, PDSs (cxOf CX0 P w K mg base N qual (defScope st) f cdv A out s H E).nox (frB K H Nn B T) (defBody st) ts tds ∧
        ∀ bag xs Q, xs.length = ks.length → S bag xs Q → tds { nx := fun ρ => retB (.d .none) ρ Q, rt := fun r ρ => retB r ρ Q } (some (.own bag) :: rhoP (N.length - 1) ks xs)) : FnG P w K mg base CX0 (k + 1) f fd ps (spB K T ks S) := by
  have hpl : ps.length ≤ N.length := by have := congrArg List.length Sc.pre; rw [List.length_take] at this; omega
  refine fg_of W Sc (fun vs H Q E h => ?_) fun cdv A out s H vs Q E hr hgd h => ?_
  · obtain ⟨Nn, B, bvs, ws, bag, xs, _, rfl, _, _, _, _, ha, _⟩ := h
    rw [List.length_cons, ha.len.1, hks]
  obtain ⟨Nn, B, bvs, ws, bag, xs, tb, rfl, hNB, hM, hB, hbag, ha, hS⟩ := h
  have hN : ∀ a, Nn a → ∃ o, H a = some o := fun a z => let ⟨o, e, _⟩ := hM a z; ⟨o, e⟩
  obtain ⟨ts, tds, hb, hq⟩ := body cdv A out s H E Nn B hr hgd
  refine ⟨ts, hb.pss, ?_⟩
  have hl := ha.len
  have own0 : ∀ i a, OwnAt (some (.own bag) :: rhoP (N.length - 1) ks xs) (L2.start N (.ref B :: ws)) i a → i = 0 ∧ a = B := by
    rintro i a ⟨⟨ys, h1, hm⟩, h2⟩
    cases i with
    | zero =>
      have h2 : some (some (V.ref B)) = some (some (V.ref a)) := h2
      cases h2; exact ⟨rfl, rfl⟩
    | succ i =>
      obtain ⟨k, x, v, e, _⟩ := ha.at (rhoP_some (show (rhoP (N.length - 1) ks xs)[i]? = some (some ys) by simpa using h1))
      subst e
      cases k <;> exact hm.elim
  have at0 : OwnAt (some (.own bag) :: rhoP (N.length - 1) ks xs) (L2.start N (.ref B :: ws)) 0 B := ⟨⟨.own bag, rfl, trivial⟩, rfl⟩
  have avN : ∀ a, Av (frB K H Nn B T) [.val (.ref B) (.o 0)] (some (.own bag) :: rhoP (N.length - 1) ks xs) (L2.start N (.ref B :: ws)) a → Nn a := by
    rintro a (z | ⟨j, z⟩ | z)
    · exact z
    · rw [(own0 j a z).2]; exact hNB
    · cases z
  have G0 : Go Nn (Av (frB K H Nn B T) [.val (.ref B) (.o 0)] (some (.own bag) :: rhoP (N.length - 1) ks xs) (L2.start N (.ref B :: ws))) H H := ⟨fun _ _ _ e _ => e, fun a z => .inl (avN a z)⟩
  have O : Ok (frB K H Nn B T) [.val (.ref B) (.o 0)] (some (.own bag) :: rhoP (N.length - 1) ks xs) (L2.start N (.ref B :: ws)) H := by
    refine ⟨?_, fun i e h1 => ?_, fun i j a h1 h2 => (own0 i a h1).1.trans (own0 j a h2).1.symm, fun p hp => ?_, .nil, fun a o _ e _ => e, hM, fun a h => ?_, hN, fun i a h _ => (own0 i a h).1, tb, fun a ps e => ⟨ps, e⟩⟩
    · rw [List.length_cons, rhoP_len hl.2 (by omega)]
      unfold L2.start
      rw [List.length_append, List.length_map, List.length_replicate, List.length_cons]
      omega
    · cases i with
      | zero =>
        have h1 : some (some (Ent.own bag)) = some (some e) := h1
        cases h1
        exact ⟨.ref B, rfl, B, bvs, rfl, hB, hbag.go G0, .inl rfl⟩
      | succ i =>
        obtain ⟨k, x, v, rfl, h2, h3⟩ := ha.at (rhoP_some (show (rhoP (N.length - 1) ks xs)[i]? = some (some e) by simpa using h1))
        refine ⟨v, ?_, ?_⟩
        · have hi : i < ws.length := by
            rcases Nat.lt_or_ge i ws.length with z | z
            · exact z
            · rw [List.getElem?_eq_none z] at h2; cases h2
          unfold L2.start
          rw [List.getElem?_append_left (by simpa using hi), List.getElem?_map]
          show (ws[i]?).map some = some (some v)
          rw [h2]; rfl
        · exact arg_ent (N := Nn) rfl rfl (fun a z => z) avN h3
    · rcases List.mem_cons.mp hp with rfl | hp
      · exact ⟨rfl, .list bag, rfl⟩
      · cases hp
    · rw [h]; exact hNB
  refine hb.ds [.val (.ref B) (.o 0)] _ _ H _ _ O (fun v j hp => ?_) ⟨fun ρ σ H' O' q => ?_, fun ρ σ H' v r O' R' q => ?_, fun _ _ _ _ q => False.elim q, fun _ _ _ _ q => False.elim q, fun _ _ _ _ _ _ q => False.elim q⟩ (hq bag xs _ hl.2 hS)
  · rcases List.mem_cons.mp hp with z | z
    · cases z; rfl
    · cases z
  all_goals
    have G : Go (Av (frB K H Nn B T) [.val (.ref B) (.o 0)] ρ σ) Nn H' H' := ⟨fun _ _ _ e _ => e, fun a z => .inl (.inl z)⟩
    have fr : GrB B H H' := ⟨fun a o n e => O'.fr a o n e, O'.tb.2⟩
    obtain ⟨bag', e0, q⟩ := onOwn_of q
    obtain ⟨p, us, h1, h2, h3, h4⟩ := O'.ownGet e0
    have hp0 := (O'.pin _ (List.mem_cons_self ..)).1
    rw [h1] at hp0; cases hp0
  · exact q .non H' us fr O'.tb.1 h2 (h3.go G) .none
  · cases r with
    | d z => exact q v H' us fr O'.tb.1 h2 (h3.go G) (Im.go G R')
    | raw u => exact q.elim
    | o i =>
      cases i with
      | zero => exact q.elim
      | succ i =>
        obtain ⟨ys, e, q⟩ := onOwn_of q
        obtain ⟨p, vs, g1, g2, g3, g4⟩ := O'.ownGet e
        have := R'.1
        rw [g1] at this; cases this
        refine q _ H' us fr O'.tb.1 h2 (h3.go G) ?_
        simp only [Im]
        refine ⟨p, vs, rfl, ⟨g2, fun z => ?_⟩, g3.go G⟩
        obtain ⟨_, _, hl⟩ := O'.ownL g4
        rcases hl with hl | hl
        · have hl : p = B := hl
          subst hl
          have := O'.own _ _ _ g4 h4
          cases this
        · obtain ⟨o, e⟩ := hN p z
          have hl : H p = none := hl
          rw [hl] at e; cases e
end
end DV
namespace DV
open PySem PySem.Spec PyProof.Rows L2
open LamX (ExtN TabS Tabs CodeO)
section
variable {X : Cx} {F : Fm} {a b c e : Expr} {es : List Expr} {ta tb tc te : TE} {da db dc de : TDE} {dl dl2 : TDL} {pos : Pos} {t : TA} {d : TDA} {tt tu : TT} {dt du : TDT}
theorem get_list : PGet X (rIxL X.K) := by
  intro pins s σ H o i ov iv Q I ro ri h
  obtain ⟨p, xs, k, z, rfl, rfl, hq, he, q⟩ := h
  cases ro
  obtain ⟨tk, rfl⟩ := ri
  obtain ⟨its, r, pl, hz⟩ := I.list hq
  obtain ⟨j, h1, h2, h3, h4, h5⟩ := atI_get he
  obtain ⟨w, ew, rw'⟩ := r.get h2
  have hl := r.length
  have hn := line63
  have fin : EP X pins σ Q w s := ⟨z, H, I, rw', q⟩
  by_cases h0 : 0 ≤ k
  · have hj : k.toNat = j := by
      rw [seqIndex_of h0 h5] at h1
      exact Option.some.inj h1
    exact wpAny_getItem_list pl.isList h0 (by omega) (by rw [hj]; simpa using ew) fin
  · have hj : (k + (its.toArray.size : Int)).toNat = j := by
      rw [seqIndex_neg (by omega) h4] at h1
      rw [List.size_toArray, ← hl]
      exact Option.some.inj h1
    exact wpAny_getItem_list_neg pl.isList (by omega) (by rw [List.size_toArray] <;> omega) (by omega) (by rw [hj]; simpa using ew) fin
/-- the items of a list or tuple -/
def items (ρ : Rho) : R → Option (List PyData)
  | .d (.list xs) => some xs
  | .d (.tuple xs) => some xs
  | .o i => match ρ[i]? with
    | some (some (.own xs)) => some xs
    | some (some (.ro (.list xs))) => some xs
    | some (some (.ro (.tuple xs))) => some xs
    | some (some (.d (.list xs))) => some xs
    | some (some (.d (.tuple xs))) => some xs
    | _ => none
  | _ => none
section
variable {pins : List Pin} {ρ : Rho} {σ : L2.St} {H : Hp}
theorem im_items {A : Addr → Prop} {x : PyData} {v : V} {xs : List PyData} (h : Im F.K A H x v) (e : x = .list xs ∨ x = .tuple xs) : ∃ a vs, v = .ref a ∧ (SqL F.K H a vs ∨ SqT F.K H a vs) ∧ ImAll F.K A H xs vs := by
  rcases e with rfl | rfl
  · simp only [Im] at h
    obtain ⟨a, vs, e, l, t⟩ := h
    exact ⟨a, vs, e, .inl l.sq, t⟩
  · simp only [Im] at h
    obtain ⟨a, vs, e, l, t⟩ := h
    exact ⟨a, vs, e, .inr l.sq, t⟩
theorem items_ok (O : Ok F pins ρ σ H) {r : R} {v : V} {xs : List PyData} (h : ROk F (Av F pins ρ σ) ρ σ H r v) (e : items ρ r = some xs) : ∃ a vs, v = .ref a ∧ (SqL F.K H a vs ∨ SqT F.K H a vs) ∧ ImAll F.K (Av F pins ρ σ) H xs vs := by
  cases r with
  | raw u => cases e
  | d x =>
    cases x <;> first | cases e | skip
    · exact im_items h (.inl rfl)
    · exact im_items h (.inr rfl)
  | o i =>
    have h1 := h.1
    have e : (match ρ[i]? with
      | some (some (.own xs)) => some xs
      | some (some (.ro (.list xs))) => some xs
      | some (some (.ro (.tuple xs))) => some xs
      | some (some (.d (.list xs))) => some xs
      | some (some (.d (.tuple xs))) => some xs
      | _ => none) = some xs := e
    split at e
    · rename_i ys q; cases e
      obtain ⟨p, vs, g1, g2, g3, _⟩ := O.ownGet q
      rw [h1] at g1; cases g1
      exact ⟨p, vs, rfl, .inl (.of g2), g3⟩
    · rename_i ys q; cases e
      obtain ⟨u, g1, g2⟩ := O.ent i _ q
      rw [h1] at g1; cases g1
      rcases g2 with g2 | ⟨p, us, zs, rfl, g4, g5, g6⟩
      · exact im_items g2 (.inl rfl)
      · cases g4; exact ⟨p, us, rfl, .inl (g5.sq O), g6⟩
    · rename_i ys q; cases e
      obtain ⟨u, g1, g2⟩ := O.ent i _ q
      rw [h1] at g1; cases g1
      rcases g2 with g2 | ⟨p, us, zs, rfl, g4, g5, g6⟩
      · exact im_items g2 (.inr rfl)
      · cases g4
    · rename_i ys q; cases e
      obtain ⟨u, g1, g2⟩ := O.ent i _ q
      rw [h1] at g1; cases g1
      exact im_items g2 (.inl rfl)
    · rename_i ys q; cases e
      obtain ⟨u, g1, g2⟩ := O.ent i _ q
      rw [h1] at g1; cases g1
      exact im_items g2 (.inr rfl)
    · cases e
end
def onItems (ρ : Rho) (r : R) (f : List PyData → Prop) : Prop := match items ρ r with
  | some xs => f xs
  | _ => False
theorem onItems_of {ρ : Rho} {r : R} {f : List PyData → Prop} (h : onItems ρ r f) : ∃ xs, items ρ r = some xs ∧ f xs := by
  unfold onItems at h
  split at h
  · exact ⟨_, by assumption, h⟩
  · exact h.elim
theorem onItems_mono {ρ : Rho} {r : R} {f g : List PyData → Prop} (h : onItems ρ r f) (k : ∀ xs, f xs → g xs) : onItems ρ r g := by
  unfold onItems at h ⊢
  split at h
  · exact k _ h
  · exact h.elim
def onInt (ρ : Rho) (r : R) (f : Int → Prop) : Prop := match val ρ r with
  | some (.int k) => f k
  | _ => False
theorem onInt_of {ρ : Rho} {r : R} {f : Int → Prop} (h : onInt ρ r f) : ∃ k, val ρ r = some (.int k) ∧ f k := by
  unfold onInt at h
  split at h
  · exact ⟨_, by assumption, h⟩
  · exact h.elim
theorem onInt_mono {ρ : Rho} {r : R} {f g : Int → Prop} (h : onInt ρ r f) (k : ∀ x, f x → g x) : onInt ρ r g := by
  unfold onInt at h ⊢
  split at h
  · exact k _ h
  · exact h.elim
def onAt (xs : List PyData) (k : Int) (f : PyData → Prop) : Prop := match atI xs k with
  | some y => f y
  | _ => False
theorem onAt_of {xs : List PyData} {k : Int} {f : PyData → Prop} (h : onAt xs k f) : ∃ y, atI xs k = some y ∧ f y := by
  unfold onAt at h
  split at h
  · exact ⟨_, by assumption, h⟩
  · exact h.elim
theorem onAt_mono {xs : List PyData} {k : Int} {f g : PyData → Prop} (h : onAt xs k f) (m : ∀ x, f x → g x) : onAt xs k g := by
  unfold onAt at h ⊢
  split at h
  · exact m _ h
  · exact h.elim
def dIx (ta tb : TDE) : TDE := dBin ta tb fun r s ρ Q => onItems ρ r fun xs => onInt ρ s fun k => onAt xs k fun y => Q (.d y) ρ
theorem at_rel {K : PySem.W.Frag} {N : Addr → Prop} {H : Hp} {xs : List PyData} {vs : List V} {k : Int} {y : PyData} (h : ImAll K N H xs vs) (e : atI xs k = some y) : ∃ v, atI vs k = some v ∧ Im K N H y v := by
  unfold atI at e ⊢
  rw [h.length]
  cases q : ixN xs.length k with
  | none => rw [q] at e; cases e
  | some j =>
    rw [q] at e
    exact h.get e
theorem pd_ix (ha : PD X F a ta da) (hb : PD X F b tb db) (hs : PlainIx b) (hK : X.K = F.K := by rfl) : PD X F (.Subscript a b pos) (tOp (fun x y H Q => rIxL F.K x y H Q ∨ rIxT F.K x y H Q) ta tb) (dIx da db) := by
  refine ⟨?_, de_bin ha.de hb.de (fun pins ρ σ H x y r s Q O R1 R2 h => ?_) fun r s ρ Q Q' hq h => onItems_mono h fun xs h => onInt_mono h fun k h => onAt_mono h fun y h => hq _ _ h⟩
  · have := pe_ix (pos := pos) (ix_list.or ix_tup) ha.pe hb.pe hs
    rw [hK] at this
    exact this
  obtain ⟨xs, e1, h⟩ := onItems_of h
  obtain ⟨k, e2, h⟩ := onInt_of h
  obtain ⟨y, e3, h⟩ := onAt_of h
  obtain ⟨p, vs, rfl, l, im⟩ := items_ok O R1 e1
  cases dp_int (val_dp O R2 e2)
  obtain ⟨v, e4, i4⟩ := at_rel im e3
  rcases l with l | l
  · exact .inl ⟨p, vs, k, v, rfl, rfl, l, e4, h v H O i4⟩
  · exact .inr ⟨p, vs, k, v, rfl, rfl, l, e4, h v H O i4⟩
def cutD (xs : List PyData) (lo hi : Option Int) : List PyData := (xs.drop (HT.sIx xs.length 0 lo)).take (HT.sIx xs.length xs.length hi - HT.sIx xs.length 0 lo)
theorem ImAll.cut {K : PySem.W.Frag} {N : Addr → Prop} {H : Hp} {xs : List PyData} {vs : List V} (h : ImAll K N H xs vs) (lo hi : Option Int) : ImAll K N H (cutD xs lo hi) (cutV vs lo hi) := by
  unfold cutD cutV
  rw [h.length]
  exact (h.drop _).take _
abbrev TDO := Rho → (Option Int → Rho → Prop) → Prop
structure DO (F : Fm) (to : TO) (td : TDO) : Prop where
  run : ∀ (pins : List Pin) (ρ : Rho) (σ : L2.St) (H : Hp) (Q : Option Int → Hp → Prop), Ok F pins ρ σ H → td ρ (fun o ρ' => ∀ H', Ok F pins ρ' σ H' → Q o H') → to σ H Q
  mono : ∀ ρ Q Q', (∀ r ρ', Q r ρ' → Q' r ρ') → td ρ Q → td ρ Q'
structure PDO (X : Cx) (F : Fm) (e : Option Expr) (to : TO) (td : TDO) : Prop where
  po : PO X e to
  d : DO F to td
def dNoPart : TDO := fun ρ Q => Q none ρ
def dPart (te : TDE) : TDO := fun ρ Q => te ρ fun r ρ1 => onInt ρ1 r fun k => Q (some k) ρ1
theorem pdo_none : PDO X F none tNoPart dNoPart := ⟨po_none, fun pins ρ σ H Q O h => h H O, fun _ _ _ hq h => hq _ _ h⟩
theorem pdo_some (h : PD X F e te de) : PDO X F (some e) (tPart te) (dPart de) := by
  refine ⟨po_some h.pe, fun pins ρ σ H Q O hq => ?_, fun ρ Q Q' hq hh => h.de.mono _ _ _ (fun r ρ1 h1 => onInt_mono h1 fun k => hq _ _) hh⟩
  refine h.de.run pins ρ σ H _ O (h.de.mono _ _ _ (fun r ρ1 h1 v H1 O1 R1 => ?_) hq)
  obtain ⟨k, e, q⟩ := onInt_of h1
  cases dp_int (val_dp O1 R1 e)
  exact ⟨k, rfl, q H1 O1⟩
def dSlice (te : TDE) (tl th : TDO) (k : R → Option Int → Option Int → Rho → Prop) (ρ : Rho) : Prop := te ρ fun r ρ1 => tl ρ1 fun lo ρ2 => th ρ2 fun hi ρ3 => k r lo hi ρ3
variable {lo hi : Option Expr} {tl th : TO} {dlo dhi : TDO} {p2 : Pos}
/-- the items of a list that callers or this body may change -/
def litems (ρ : Rho) : R → Option (List PyData)
  | .d (.list xs) => some xs
  | .o i => match ρ[i]? with
    | some (some (.own xs)) => some xs
    | some (some (.ro (.list xs))) => some xs
    | some (some (.d (.list xs))) => some xs
    | _ => none
  | _ => none
theorem litems_ok {pins : List Pin} {ρ : Rho} {σ : L2.St} {H : Hp} (O : Ok F pins ρ σ H) {r : R} {v : V} {xs : List PyData} (h : ROk F (Av F pins ρ σ) ρ σ H r v) (e : litems ρ r = some xs) : ∃ a vs, v = .ref a ∧ SqL F.K H a vs ∧ ImAll F.K (Av F pins ρ σ) H xs vs := by
  have lst : ∀ {A : Addr → Prop} {v : V} {xs : List PyData}, Im F.K A H (.list xs) v → ∃ a vs, v = .ref a ∧ SqL F.K H a vs ∧ ImAll F.K A H xs vs := fun {A v xs} h => by
    simp only [Im] at h
    obtain ⟨a, vs, e, l, t⟩ := h
    exact ⟨a, vs, e, l.sq, t⟩
  cases r with
  | raw u => cases e
  | d x =>
    cases x <;> first | cases e | skip
    exact lst h
  | o i =>
    have h1 := h.1
    have e : (match ρ[i]? with
      | some (some (.own xs)) => some xs
      | some (some (.ro (.list xs))) => some xs
      | some (some (.d (.list xs))) => some xs
      | _ => none) = some xs := e
    split at e
    · rename_i ys q; cases e
      obtain ⟨p, vs, g1, g2, g3, _⟩ := O.ownGet q
      rw [h1] at g1; cases g1
      exact ⟨p, vs, rfl, .of g2, g3⟩
    · rename_i ys q; cases e
      obtain ⟨u, g1, g2⟩ := O.ent i _ q
      rw [h1] at g1; cases g1
      rcases g2 with g2 | ⟨p, us, zs, rfl, g4, g5, g6⟩
      · exact lst g2
      · cases g4; exact ⟨p, us, rfl, g5.sq O, g6⟩
    · rename_i ys q; cases e
      obtain ⟨u, g1, g2⟩ := O.ent i _ q
      rw [h1] at g1; cases g1
      exact lst g2
    · cases e
def onL (ρ : Rho) (r : R) (f : List PyData → Prop) : Prop := match litems ρ r with
  | some xs => f xs
  | _ => False
theorem onL_of {ρ : Rho} {r : R} {f : List PyData → Prop} (h : onL ρ r f) : ∃ xs, litems ρ r = some xs ∧ f xs := by
  unfold onL at h
  split at h
  · exact ⟨_, by assumption, h⟩
  · exact h.elim
theorem onL_mono {ρ : Rho} {r : R} {f g : List PyData → Prop} (h : onL ρ r f) (k : ∀ xs, f xs → g xs) : onL ρ r g := by
  unfold onL at h ⊢
  split at h
  · exact k _ h
  · exact h.elim
def dSlL (te : TDE) (tl th : TDO) : TDL := fun ρ Q => dSlice te tl th (fun r lo hi ρ3 => onL ρ3 r fun xs => Q (cutD xs lo hi) ρ3) ρ
theorem pl_slice (he : PD X F e te de) (hl : PDO X F lo tl dlo) (hh : PDO X F hi th dhi) (hK : X.K = F.K := by rfl) : PDL X F (.Subscript e (.Slice lo hi none p2) pos) (tSl (rSlL F.K) te tl th) (dSlL de dlo dhi) := by
  refine ⟨?_, fun pins ρ σ H Q O h => ?_, fun ρ Q Q' hq h => he.de.mono _ _ _ (fun r ρ1 h1 => hl.d.mono _ _ _ (fun l ρ2 h2 => hh.d.mono _ _ _ (fun u ρ3 h3 => onL_mono h3 fun xs => hq _ _) h2) h1) h⟩
  · have := pe_slice (pos := pos) (p2 := p2) sl_list he.pe hl.po hh.po
    rw [hK] at this
    exact this
  refine he.de.run pins ρ σ H _ O (he.de.mono _ _ _ (fun r ρ1 h1 v H1 O1 R1 => ?_) h)
  refine hl.d.run (.val v r :: pins) ρ1 σ H1 _ (O1.push R1) (hl.d.mono _ _ _ (fun l ρ2 h2 H2 O2 => ?_) h1)
  refine hh.d.run (.val v r :: pins) ρ2 σ H2 _ O2 (hh.d.mono _ _ _ (fun u ρ3 h3 H3 O3 => ?_) h2)
  obtain ⟨O4, R4⟩ := O3.popV
  obtain ⟨xs, e1, q⟩ := onL_of h3
  obtain ⟨p, vs, rfl, sq, im⟩ := litems_ok O4 R4 e1
  exact ⟨p, vs, rfl, sq, fun p' hp => q p' _ (O4.pushL hp (im.cut l u))⟩
def mitems (ρ : Rho) : R → Option (List PyData)
  | .d (.list xs) => some xs
  | .o i => match ρ[i]? with
    | some (some (.own xs)) => some xs
    | _ => none
  | _ => none
theorem mitems_ok {pins : List Pin} {ρ : Rho} {σ : L2.St} {H : Hp} (O : Ok F pins ρ σ H) {r : R} {v : V} {xs : List PyData} (h : ROk F (Av F pins ρ σ) ρ σ H r v) (e : mitems ρ r = some xs) : ∃ a vs, v = .ref a ∧ H a = some (.lst vs) ∧ ImAll F.K (Av F pins ρ σ) H xs vs := by
  cases r with
  | raw u => cases e
  | d x =>
    cases x <;> first | cases e | skip
    have h : Im F.K (Av F pins ρ σ) H (.list xs) v := h
    simp only [Im] at h
    obtain ⟨a, vs, e, l, t⟩ := h
    exact ⟨a, vs, e, l.1, t⟩
  | o i =>
    have h1 := h.1
    have e : (match ρ[i]? with
      | some (some (.own xs)) => some xs
      | _ => none) = some xs := e
    split at e
    · rename_i ys q; cases e
      obtain ⟨p, vs, g1, g2, g3, _⟩ := O.ownGet q
      rw [h1] at g1; cases g1
      exact ⟨p, vs, rfl, g2, g3⟩
    · cases e
def onM (ρ : Rho) (r : R) (f : List PyData → Prop) : Prop := match mitems ρ r with
  | some xs => f xs
  | _ => False
theorem onM_of {ρ : Rho} {r : R} {f : List PyData → Prop} (h : onM ρ r f) : ∃ xs, mitems ρ r = some xs ∧ f xs := by
  unfold onM at h
  split at h
  · exact ⟨_, by assumption, h⟩
  · exact h.elim
theorem onM_mono {ρ : Rho} {r : R} {f g : List PyData → Prop} (h : onM ρ r f) (k : ∀ xs, f xs → g xs) : onM ρ r g := by
  unfold onM at h ⊢
  split at h
  · exact k _ h
  · exact h.elim
def dCat (ta tb : TDE) : TDL := fun ρ Q => ta ρ fun r ρ1 => tb ρ1 fun s ρ2 => onM ρ2 r fun xs => onM ρ2 s fun ys => Few (xs.length + ys.length) ∧ Q (xs ++ ys) ρ2
theorem pl_cat (ha : PD X F a ta da) (hb : PD X F b tb db) : PDL X F (.BinOp a .Add b pos) (tOp rCat ta tb) (dCat da db) := by
  refine ⟨pe_op op_cat ha.pe hb.pe, fun pins ρ σ H Q O h => ?_, fun ρ Q Q' hq h => ha.de.mono _ _ _ (fun r ρ1 h1 => hb.de.mono _ _ _ (fun s ρ2 h2 => onM_mono h2 fun xs h3 => onM_mono h3 fun ys h4 => ⟨h4.1, hq _ _ h4.2⟩) h1) h⟩
  refine ha.de.run pins ρ σ H _ O (ha.de.mono _ _ _ (fun r ρ1 h1 x H1 O1 R1 => ?_) h)
  refine hb.de.run (.val x r :: pins) ρ1 σ H1 _ (O1.push R1) (hb.de.mono _ _ _ (fun s ρ2 h2 y H2 O2 R2 => ?_) h1)
  obtain ⟨O3, R3⟩ := O2.popV
  obtain ⟨xs, e1, h3⟩ := onM_of h2
  obtain ⟨ys, e2, h4, q⟩ := onM_of h3
  obtain ⟨p, vs, rfl, g1, i1⟩ := mitems_ok O3 R3 e1
  obtain ⟨p2, us, rfl, g2, i2⟩ := mitems_ok O3 R2 e2
  exact ⟨p, p2, vs, us, rfl, rfl, g1, g2, by rw [i1.length, i2.length]; exact h4, fun p' hp => q p' _ (O3.pushL hp (i1.append i2))⟩
def dTupOf (t : TDA) : TDE := fun ρ Q => t ρ fun rs ρ1 => match rs with
  | [.d (.tuple xs)] => Q (.d (.tuple xs)) ρ1
  | [r] => onL ρ1 r fun xs => Q (.d (.tuple xs)) ρ1
  | _ => False
end
section
variable {X : Cx} {F : Fm} {tg e e2 : Expr} {te te2 : TE} {de de2 : TDE} {pos p : Pos} {t : TA} {d : TDA}
theorem PI.or {tg iter : Expr} {w1 w2 : TI} (h1 : PI X tg iter w1) (h2 : PI X tg iter w2) : PI X tg iter (fun σ H R => w1 σ H R ∨ w2 σ H R) :=
  ⟨fun pins s σ H R I h => h.elim (h1.run pins s σ H R I) (h2.run pins s σ H R I)⟩
end
end DV
namespace DV
open PySem PySem.Spec PyProof.Rows L2
open LamX (ExtN TabS Tabs CodeO)
section
variable {X : Cx} {F : Fm} {tg e e2 a b : Expr} {te te2 ta tb : TE} {de de2 da db : TDE} {pos p : Pos} {t : TA} {d : TDA}
theorem wok_list {v : V} {xs : List PyData} {a : Addr} (hv : v = .ref a) : WOk F (Itl F.K a) xs [.val v (.d (.list xs))] := by
  subst hv
  have key : ∀ (pins : List Pin) (ρ : Rho) (σ : L2.St) (H : Hp), (∀ q ∈ [Pin.val (.ref a) (.d (.list xs))], q ∈ pins) → Ok F pins ρ σ H → ∃ vs, SqL F.K H a vs ∧ ImAll F.K (Av F pins ρ σ) H xs vs := fun pins ρ σ H hp O => by
    have h : Im F.K (Av F pins ρ σ) H (.list xs) (.ref a) := O.pin _ (hp _ (List.mem_cons_self ..))
    simp only [Im] at h
    obtain ⟨q, vs, e, l, im⟩ := h
    cases e
    exact ⟨vs, l.sq, im⟩
  refine ⟨fun i pins ρ σ H hp hi O => ?_, fun pins ρ σ H hp O => ?_, fun i pins ρ σ H x H' hp hi O y => ?_⟩
  · obtain ⟨vs, h1, h2⟩ := key pins ρ σ H hp O
    have hl := h2.length
    exact ⟨vs, vs[i]'(by omega), h1, by simp⟩
  · obtain ⟨vs, h1, h2⟩ := key pins ρ σ H hp O
    exact ⟨vs, h1, by rw [h2.length]; exact Nat.le_refl _⟩
  · obtain ⟨vs, h1, h2⟩ := key pins ρ σ H hp O
    obtain ⟨rfl, y⟩ := y
    obtain ⟨d, e1, e2⟩ := h2.getV (y vs h1)
    exact ⟨d, e1, O, e2⟩
theorem wok_tup {v : V} {xs : List PyData} {a : Addr} (hv : v = .ref a) : WOk F (Itt F.K a) xs [.val v (.d (.tuple xs))] := by
  subst hv
  have key : ∀ (pins : List Pin) (ρ : Rho) (σ : L2.St) (H : Hp), (∀ q ∈ [Pin.val (.ref a) (.d (.tuple xs))], q ∈ pins) → Ok F pins ρ σ H → ∃ vs, SqT F.K H a vs ∧ ImAll F.K (Av F pins ρ σ) H xs vs := fun pins ρ σ H hp O => by
    have h : Im F.K (Av F pins ρ σ) H (.tuple xs) (.ref a) := O.pin _ (hp _ (List.mem_cons_self ..))
    simp only [Im] at h
    obtain ⟨q, vs, e, l, im⟩ := h
    cases e
    exact ⟨vs, l.sq, im⟩
  refine ⟨fun i pins ρ σ H hp hi O => ?_, fun pins ρ σ H hp O => ?_, fun i pins ρ σ H x H' hp hi O y => ?_⟩
  · obtain ⟨vs, h1, h2⟩ := key pins ρ σ H hp O
    have hl := h2.length
    exact ⟨vs, vs[i]'(by omega), h1, by simp⟩
  · obtain ⟨vs, h1, h2⟩ := key pins ρ σ H hp O
    exact ⟨vs, h1, by rw [h2.length]; exact Nat.le_refl _⟩
  · obtain ⟨vs, h1, h2⟩ := key pins ρ σ H hp O
    obtain ⟨rfl, y⟩ := y
    obtain ⟨d, e1, e2⟩ := h2.getV (y vs h1)
    exact ⟨d, e1, O, e2⟩
theorem mem_pinsOf : ∀ {vs : List V} {xs : List PyData} {p : Pin}, p ∈ pinsOf vs xs → ∃ v x, p = .val v (.d x)
  | [], _, _, h => by cases h
  | _ :: _, [], _, h => by cases h
  | v :: vs, x :: xs, p, h => by
    rcases List.mem_cons.mp h with z | z
    · exact ⟨v, x, z⟩
    · exact mem_pinsOf z
theorem all_pinsOf {pins : List Pin} {ρ : Rho} {σ : L2.St} {H : Hp} (O : Ok F pins ρ σ H) : ∀ {vs : List V} {xs : List PyData}, vs.length = xs.length → (∀ q ∈ pinsOf vs xs, q ∈ pins) → ImAll F.K (Av F pins ρ σ) H xs vs
  | [], [], _, _ => .nil
  | v :: vs, x :: xs, hl, h => .cons (O.pin _ (h _ (List.mem_cons_self ..))) (all_pinsOf O (by simpa using hl) fun q hq => h q (List.mem_cons_of_mem _ hq))
  | [], _ :: _, hl, _ => by cases hl
  | _ :: _, [], hl, _ => by cases hl
/-- a list that is read alone -/
theorem wok_ro {xs : List PyData} {us : List V} {a : Addr} (hl : us.length = xs.length) (hr : LkR F a us) : WOk F (Itl F.K a) xs (pinsOf us xs) := by
  refine ⟨fun i pins ρ σ H hp hi O => ?_, fun pins ρ σ H hp O => ?_, fun i pins ρ σ H x H' hp hi O y => ?_⟩
  · exact ⟨us, us[i]'(by omega), hr.sq O, by simp⟩
  · exact ⟨us, hr.sq O, by rw [hl]; exact Nat.le_refl _⟩
  · obtain ⟨rfl, y⟩ := y
    obtain ⟨d, e1, e2⟩ := (all_pinsOf O hl hp).getV (y us (hr.sq O))
    exact ⟨d, e1, O, e2⟩
def dSeqI (te : TDE) : TDI := fun ρ Q => te ρ fun r ρ1 => match r with
  | .d (.list xs) => Q xs ρ1
  | .d (.tuple xs) => Q xs ρ1
  | .o i => match ρ1[i]? with
    | some (some (.ro (.list xs))) => Q xs ρ1
    | some (some (.ro (.tuple xs))) => Q xs ρ1
    | _ => False
  | _ => False
def iSeq (K : PySem.W.Frag) (tl : TE) : TI := fun σ H R => tl σ H fun x H1 => ∃ a, x = .ref a ∧ (((∃ xs, SqL K H1 a xs) ∧ R (Itl K a) H1) ∨ ((∃ xs, SqT K H1 a xs) ∧ R (Itt K a) H1))
theorem pi_seq (he : PE X e te) : PI X tg e (iSeq X.K te) := by
  constructor
  intro pins s σ H R I h
  refine thn (he.run pins s σ H _ I h) ?_
  rintro v s1 ⟨x, H1, I1, r1, a, rfl, hq⟩
  cases r1
  have new : ∀ (o : Obj), ∀ b ∈ [s1.heap.objs.size], FpOk X pins H1 b := fun o b hb => by
    obtain rfl : b = s1.heap.objs.size := by simpa using hb
    exact I1.fpOk (Nat.le_refl _) I1.fresh
  have keep : ∀ (o : Obj), Inv X pins σ H1 { s1 with heap := s1.heap.push o } := fun o => I1.kept (t' := s1.toks) fun b u e => Heap.get?_push_of_some _ e
  rcases hq with ⟨⟨xs, hq⟩, q⟩ | ⟨⟨xs, hq⟩, q⟩
  · obtain ⟨its, rv, pl, _⟩ := I1.list hq
    apply wpAny_pyIter_list pl.isList
    exact ⟨_, [s1.heap.objs.size], _, _, H1, rfl, keep _, turn_list a _, ⟨_, Heap.get?_push_size _ rfl, rfl, rfl⟩, new default, q⟩
  · obtain ⟨its, rv, pl, _⟩ := I1.tuple hq
    apply wpAny_pyIter_tuple (show s1.heap.IsTuple a its.toArray from pl)
    exact ⟨_, [s1.heap.objs.size], _, _, H1, rfl, keep _, turn_tuple a _, ⟨_, Heap.get?_push_size _ rfl, rfl, rfl⟩, new default, q⟩
theorem pdi_seq (he : PD X F e te de) (hK : X.K = F.K := by rfl) : PDI X F tg e (iSeq F.K te) (dSeqI de) := by
  refine ⟨?_, fun pins ρ σ H R O h => ?_, fun ρ Q Q' hq h => ?_⟩
  · have := pi_seq (tg := tg) he.pe
    rw [hK] at this
    exact this
  · refine he.de.run pins ρ σ H _ O (he.de.mono _ _ _ (fun r ρ1 h1 v H1 O1 R1 => ?_) h)
    split at h1
    · rename_i xs
      have im : Im F.K (Av F pins ρ1 σ) H1 (.list xs) v := R1
      have im2 := im
      simp only [Im] at im2
      obtain ⟨a, vs, rfl, l, _⟩ := im2
      refine ⟨a, rfl, .inl ⟨⟨vs, l.sq⟩, h1 _ H1 _ (wok_list rfl) (fun p hp => ?_) (O1.push (v := .ref a) (r := .d (.list xs)) im)⟩⟩
      rcases List.mem_cons.mp hp with z | z
      · exact ⟨_, _, z⟩
      · cases z
    · rename_i xs
      have im : Im F.K (Av F pins ρ1 σ) H1 (.tuple xs) v := R1
      have im2 := im
      simp only [Im] at im2
      obtain ⟨a, vs, rfl, l, _⟩ := im2
      refine ⟨a, rfl, .inr ⟨⟨vs, l.sq⟩, h1 _ H1 _ (wok_tup rfl) (fun p hp => ?_) (O1.push (v := .ref a) (r := .d (.tuple xs)) im)⟩⟩
      rcases List.mem_cons.mp hp with z | z
      · exact ⟨_, _, z⟩
      · cases z
    · rename_i i
      have g0 := R1.1
      split at h1
      · rename_i xs q
        obtain ⟨u, g1, g2⟩ := O1.ent i _ q
        rw [g0] at g1; cases g1
        rcases g2 with im | ⟨a, us, ys, rfl, e1, l, t⟩
        · have im2 := im
          simp only [Im] at im2
          obtain ⟨a, vs, rfl, l, _⟩ := im2
          refine ⟨a, rfl, .inl ⟨⟨vs, l.sq⟩, h1 _ H1 _ (wok_list rfl) (fun p hp => ?_) (O1.push (v := .ref a) (r := .d (.list xs)) im)⟩⟩
          rcases List.mem_cons.mp hp with z | z
          · exact ⟨_, _, z⟩
          · cases z
        · cases e1
          exact ⟨a, rfl, .inl ⟨⟨us, l.sq O1⟩, h1 _ H1 _ (wok_ro t.length l) (fun p hp => mem_pinsOf hp) (O1.pushAll t).1⟩⟩
      · rename_i xs q
        obtain ⟨u, g1, g2⟩ := O1.ent i _ q
        rw [g0] at g1; cases g1
        rcases g2 with im | ⟨a, us, ys, rfl, e1, l, t⟩
        · have im2 := im
          simp only [Im] at im2
          obtain ⟨a, vs, rfl, l, _⟩ := im2
          refine ⟨a, rfl, .inr ⟨⟨vs, l.sq⟩, h1 _ H1 _ (wok_tup rfl) (fun p hp => ?_) (O1.push (v := .ref a) (r := .d (.tuple xs)) im)⟩⟩
          rcases List.mem_cons.mp hp with z | z
          · exact ⟨_, _, z⟩
          · cases z
        · cases e1
      · exact h1.elim
    · exact h1.elim
  · refine he.de.mono _ _ _ (fun r ρ1 h1 => ?_) h
    revert h1
    split
    · exact fun h1 => hq _ _ h1
    · exact fun h1 => hq _ _ h1
    · intro h1
      split at h1
      · exact hq _ _ h1
      · exact hq _ _ h1
      · exact h1.elim
    · exact fun h1 => h1
def rng (lo : Int) (n : Nat) : List PyData := (List.range n).map fun k => .int (lo + (k : Nat))
theorem rng_at {lo : Int} {n i : Nat} (h : i < n) : (rng lo n)[i]? = some (.int (lo + (i : Nat))) := by
  unfold rng
  rw [List.getElem?_map, List.getElem?_range h]; rfl
theorem rng_len {lo : Int} {n : Nat} : (rng lo n).length = n := by unfold rng; rw [List.length_map, List.length_range]
theorem wok_rng {lo : Int} {n : Nat} : WOk F (Itr lo n) (rng lo n) [] := by
  refine ⟨fun i pins ρ σ H hp hi O => by rw [rng_len] at hi; exact hi, fun pins ρ σ H hp O => by rw [rng_len]; exact Nat.le_refl _, fun i pins ρ σ H x H' hp hi O y => ?_⟩
  rw [rng_len] at hi
  obtain ⟨rfl, rfl⟩ := y
  exact ⟨_, rng_at hi, O, .int⟩
def dRng1 (t : TDA) : TDI := fun ρ Q => t ρ fun rs ρ1 => match rs with
  | [.d (.int j)] => (-(2 ^ 62) ≤ j ∧ j < 2 ^ 62) ∧ Q (rng 0 j.toNat) ρ1
  | _ => False
def dRng2 (t : TDA) : TDI := fun ρ Q => t ρ fun rs ρ1 => match rs with
  | [.d (.int i), .d (.int j)] => (-(2 ^ 62) ≤ i ∧ i < 2 ^ 62 ∧ -(2 ^ 62) ≤ j ∧ j < 2 ^ 62) ∧ Q (rng i (j - i).toNat) ρ1
  | _ => False
theorem pdi_range1 (hg : Gl X "range") (hm : X.mg "range" = none) (ha : PDA X F [e] t d) (hs : starEach [e] X.env = [(false, eval e X.env)] := by rfl) : PDI X F tg (.Call (.Name "range" p) [e] [] pos) (iRng1 t) (dRng1 d) := by
  refine ⟨pi_range1 hg hm ha.pa hs, fun pins ρ σ H R O h => ?_, fun ρ Q Q' hq h => ?_⟩
  · refine ha.da.run pins ρ σ H _ O (ha.da.mono _ _ _ (fun rs ρ1 h1 vs H1 O1 R1 => ?_) h)
    split at h1
    · rename_i j
      simp only [ROks] at R1
      obtain ⟨v, _, rfl, r1, rfl⟩ := R1
      cases (Im.int_iff.mp (show Im F.K (Av F pins ρ1 σ) H1 (.int j) v from r1))
      exact ⟨j, rfl, h1.1.1, h1.1.2, h1.2 _ H1 [] wok_rng (fun p hp => nomatch hp) O1⟩
    · exact h1.elim
  · refine ha.da.mono _ _ _ (fun rs ρ1 h1 => ?_) h
    revert h1
    split
    · exact fun h1 => ⟨h1.1, hq _ _ h1.2⟩
    · exact fun h1 => h1
theorem pdi_range2 (hg : Gl X "range") (hm : X.mg "range" = none) (ha : PDA X F [e, e2] t d) (hs : starEach [e, e2] X.env = [(false, eval e X.env), (false, eval e2 X.env)] := by rfl) (hs2 : starEach [e2] X.env = [(false, eval e2 X.env)] := by rfl) :
    PDI X F tg (.Call (.Name "range" p) [e, e2] [] pos) (iRng2 t) (dRng2 d) := by
  refine ⟨pi_range2 hg hm ha.pa hs hs2, fun pins ρ σ H R O h => ?_, fun ρ Q Q' hq h => ?_⟩
  · refine ha.da.run pins ρ σ H _ O (ha.da.mono _ _ _ (fun rs ρ1 h1 vs H1 O1 R1 => ?_) h)
    split at h1
    · rename_i i j
      simp only [ROks] at R1
      obtain ⟨v, _, rfl, r1, w, _, rfl, r2, rfl⟩ := R1
      cases (Im.int_iff.mp (show Im F.K (Av F pins ρ1 σ) H1 (.int i) v from r1))
      cases (Im.int_iff.mp (show Im F.K (Av F pins ρ1 σ) H1 (.int j) w from r2))
      exact ⟨i, j, rfl, h1.1, h1.2 _ H1 [] wok_rng (fun p hp => nomatch hp) O1⟩
    · exact h1.elim
  · refine ha.da.mono _ _ _ (fun rs ρ1 h1 => ?_) h
    revert h1
    split
    · exact fun h1 => ⟨h1.1, hq _ _ h1.2⟩
    · exact fun h1 => h1
end
/-- comprehensions -/
theorem pl_lc {X : Cx} {F : Fm} {elt tg iter : Expr} {ifs : List Expr} {scope : Scope} {own : List (Str × Nat)} {pos : Pos} {wi : TI} {dw : TDI} {g : TG} {dg : TDGt} {tt : TT} {dt : TDT} {te : TE} {de : TDE} (hc : X.calm = true) (hN : X.N.Nodup) (hi : PDI X F tg iter wi dw) (ok : BlkOk X.N X.env.scope scope own)
    (hg : ∀ (s : Shared) (H : Hp) (C : Addr) (cl : List (Str × Addr)) (fp : List Addr), PDG (X.blk s H scope (compEnvC scope cl C X.env) fp) F tg g dg (own.map (·.2))) (ht : ∀ (s : Shared) (H : Hp) (C : Addr) (cl : List (Str × Addr)) (fp : List Addr), PDTs (X.blk s H scope (compEnvC scope cl C X.env) fp) F ifs tt dt)
    (he : ∀ (s : Shared) (H : Hp) (C : Addr) (cl : List (Str × Addr)) (fp : List Addr), PD (X.blk s H scope (compEnvC scope cl C X.env) fp) F elt te de) (hs : ∀ x, foldedSetIterable iter X.env x = pure x := by intro _; rfl) :
    PDL X F (.ListComp elt [⟨tg, iter, ifs, 0⟩] scope pos) (tLc wi g tt te (own.map (·.2))) (dLc dw dg dt de (own.map (·.2))) := by
  refine ⟨pe_lc hc hN hi.pi ok (fun s H C cl fp => (hg s H C cl fp).pg) (fun s H C cl fp => (ht s H C cl fp).pts) (fun s H C cl fp => (he s H C cl fp).pe) hs, ?_⟩
  exact dl_lc hi.di (hg (PySem.start X.prog).1 (fun _ => none) 0 [] []).dg (ht (PySem.start X.prog).1 (fun _ => none) 0 [] []).dt (he (PySem.start X.prog).1 (fun _ => none) 0 [] []).de
end DV
namespace DV
open PySem PySem.Spec PyProof.Rows L2
open LamX (ExtN TabS Tabs CodeO)
section
variable {X : Cx} {F : Fm} {e a b c : Expr} {es : List Expr} {te ta tb : TE} {de da db : TDE} {dl : TDL} {pos p : Pos} {t : TA} {d : TDA}
def tyName : PyData → String
  | .none => "NoneType"
  | .bool _ => "bool"
  | .int _ => "int"
  | .str _ => "str"
  | .list _ => "list"
  | .tuple _ => "tuple"
  | .dict _ => "dict"
def dIsi (n : String) (te : TDE) : TDE := fun ρ Q => te ρ fun r ρ1 => onV ρ1 r fun x => match kitB (tyName x) n with
  | some k => Q (.d (.bool k)) ρ1
  | _ => False
def fSqrt : FA
  | [.int i], Q => (0 ≤ i ∧ i.toNat.log2 < 13000) ∧ Q (.int ((Float64.isqrt i.toNat : Nat) : Int))
  | _, _ => False
abbrev fPow : F2 := fI CPow fun i j => .int (i ^ j.toNat)
theorem pd_pow (ha : PD X F a ta da) (hb : PD X F b tb db) : PD X F (.BinOp a .Pow b pos) (tOp (rI CPow fun i j => .int (i ^ j.toNat)) ta tb) (dOp fPow da db) := pd_op op_pow (so_I fun _ _ => .int) ha hb
/-- a chain of two comparisons of whole numbers -/
def dChainLe (f g : Int → Int → Bool) (ta tb tc : TDE) : TDE := fun ρ Q => ta ρ fun r ρ1 => tb ρ1 fun s ρ2 => onInt ρ2 r fun i => onInt ρ2 s fun j => if f i j = true then tc ρ2 fun u ρ3 => onInt ρ3 u fun k => Q (.d (.bool (g j k))) ρ3 else Q (.d (.bool false)) ρ2
end
abbrev SdL := List PyData → (List PyData → Prop) → Prop
def spF (K : PySem.W.Frag) (T : List (Addr × Str)) (ks : List Kd) (S : SdL) : Sp := fun vs H Q _ => ∃ (N : Addr → Prop) (xs : List PyData), Tabs T H ∧ (∀ a, N a → ∃ o, H a = some o ∧ Mutab o) ∧ ArgsOk K N noZ H ks xs vs ∧
  S xs fun zs => ∀ p H' us, Gr H H' → Tabs T H' → H p = none → H' p = some (.lst us) → ImAll K (fun a => N a ∨ a = p) H' zs us → Q (.ref p) H'
def MonoF (S : SdL) : Prop := ∀ xs Q Q', (∀ z, Q z → Q' z) → S xs Q → S xs Q'
section
variable {P : Program} {w : World} {K : PySem.W.Frag} {mg : Str → Option Value} {base : Heap} {T : List (Addr × Str)}
/-- its body: return [..] -/
theorem fnF {x qual : Str} {st : Stmt} {f : Addr} {fd : FuncData} {N ps : List Str} {k : Nat} {ks : List Kd} {S : SdL} {e : Expr} {pos : Pos} (W : Fun K x qual st f fd) (Sc : FnScope N ps (defScope st)) (hks : ks.length = ps.length) (hst : defBody st = [.Return (some e) pos])
    (body : ∀ (cdv : Value) (A : Around) (out : List Env) (s : Shared) (H : Hp) (E : XK) (Nn : Addr → Prop), Room k (A.deeper (envOfC qual (defScope st) s.heap.objs.size f cdv)) → A.guards = some [] →
      ∃ te dl, PDL (cxOf CX0 P w K mg base N qual (defScope st) f cdv A out s H E).nox (frP K H Nn T) e te dl ∧
        ∀ xs Q, xs.length = ks.length → S xs Q → dl (rhoP N.length ks xs) fun zs _ => Q zs) : FnG P w K mg base CX0 (k + 1) f fd ps (spF K T ks S) := by
  have hpl : ps.length ≤ N.length := by have := congrArg List.length Sc.pre; rw [List.length_take] at this; omega
  refine fg_of W Sc (fun vs H Q E h => ?_) fun cdv A out s H vs Q E hr hgd h => ?_
  · obtain ⟨Nn, xs, _, _, ha, _⟩ := h
    rw [ha.len.1, hks]
  obtain ⟨Nn, xs, tb, hM, ha, hS⟩ := h
  have hN : ∀ a, Nn a → ∃ o, H a = some o := fun a z => let ⟨o, e, _⟩ := hM a z; ⟨o, e⟩
  obtain ⟨te, dl, hb, hq⟩ := body cdv A out s H E Nn hr hgd
  refine ⟨_, by rw [hst]; exact pss_one (ps_ret hb.pe), ?_⟩
  have hl := ha.len
  have noOwn : ∀ i a, ¬ OwnAt (rhoP N.length ks xs) (L2.start N vs) i a := by
    rintro i a ⟨⟨ys, h1, hm⟩, _⟩
    obtain ⟨k, x, v, e, _⟩ := ha.at (rhoP_some h1)
    subst e
    cases k <;> exact hm
  have O : Ok (frP K H Nn T) [] (rhoP N.length ks xs) (L2.start N vs) H := by
    refine ⟨?_, fun i e h1 => ?_, fun i j a h1 _ => absurd h1 (noOwn i a), fun p hp => (nomatch hp), .nil, fun a o _ e _ => e, hM, fun a h => h.elim, hN, fun i a _ h => h.elim, tb, fun a ps e => ⟨ps, e⟩⟩
    · rw [rhoP_len hl.2 (by rw [hks]; exact hpl)]
      unfold L2.start
      rw [List.length_append, List.length_map, List.length_replicate]
      omega
    · obtain ⟨k, x, v, rfl, h2, h3⟩ := ha.at (rhoP_some h1)
      refine ⟨v, ?_, arg_ent (N := Nn) rfl rfl (fun a z => z) (fun a z => ?_) h3⟩
      · have hi : i < vs.length := by
          rcases Nat.lt_or_ge i vs.length with z | z
          · exact z
          · rw [List.getElem?_eq_none z] at h2; cases h2
        unfold L2.start
        rw [List.getElem?_append_left (by simpa using hi), List.getElem?_map, h2]; rfl
      · rcases z with z | ⟨j, z⟩ | z
        · exact z
        · exact absurd z (noOwn j a)
        · cases z
  refine hb.dl.run [] _ _ H _ O (hb.dl.mono _ _ _ (fun zs ρ q p H' O' => ?_) (hq xs _ hl.2 hS))
  obtain ⟨us, h1, h2, h3, h4⟩ := O'.pin _ (List.mem_cons_self ..)
  have hp : H p = none := h3
  refine q p H' us ⟨fun a o e => O'.fr a o (fun z => z) e, O'.tb.2⟩ O'.tb.1 hp h1 (h2.go ⟨fun _ _ _ e _ => e, fun a z => .inl ?_⟩)
  rcases z with z | rfl
  · exact .inl z
  · exact .inr (.inr (List.mem_cons_self ..))
end
section
variable {X : Cx} {F : Fm} {e : Expr} {es : List Expr} {t : TA} {d : TDA} {pos : Pos}
/-- kept in mind, from one heap to the next -/
theorem Ok.pushL2 {pins : List Pin} {ρ : Rho} {σ : L2.St} {H H' : Hp} (O : Ok F pins ρ σ H) (g : Gr H H') (tb : Tabs F.T H') {p : Addr} {xs : List PyData} {vs : List V} (hp : H p = none) (hp' : H' p = some (.lst vs)) (h : ImAll F.K (fun a => Av F pins ρ σ a ∨ a = p) H' xs vs) : Ok F (.acc p xs :: pins) ρ σ H' := by
  have avE : ∀ a, Av F (.acc p xs :: pins) ρ σ a → Av F pins ρ σ a ∨ a = p := fun a h => by
    rcases h with h | h | h
    · exact .inl (.inl h)
    · exact .inl (.inr (.inl h))
    · rcases List.mem_cons.mp (show a ∈ p :: accs pins from h) with rfl | h
      · exact .inr rfl
      · exact .inl (.inr (.inr h))
  have G : Go (Av F pins ρ σ) (Av F (.acc p xs :: pins) ρ σ) H H' := ⟨fun a o _ h m => g.ext a o h m, fun a h => (avE a h).imp_right fun z => by rw [z]; exact hp⟩
  have G2 : Go (fun a => Av F pins ρ σ a ∨ a = p) (Av F (.acc p xs :: pins) ρ σ) H' H' := ⟨fun a o _ h _ => h, fun a h => .inl (avE a h)⟩
  have nAv : ¬ Av F pins ρ σ p := fun h => by obtain ⟨o, h⟩ := O.avH h; rw [hp] at h; cases h
  refine ⟨O.len, fun i e h => ?_, O.own, fun q hq => ?_, ?_, fun a o n h m => g.ext _ _ (O.fr a o n h m) m, fun a h => ?_, O.ln, O.h0, O.lf, O.tb.gr g tb⟩
  · obtain ⟨v, h1, h2⟩ := O.ent i e h
    exact ⟨v, h1, EntOk.goM G h2 fun a us _ z _ mu => g.ext _ _ z mu.nt⟩
  · rcases List.mem_cons.mp hq with rfl | hq
    · refine ⟨vs, hp', h.go G2, ?_, fun ⟨i, z⟩ => nAv (.inr (.inl ⟨i, z⟩))⟩
      cases e : F.H0 p with
      | none => rfl
      | some o =>
        by_cases hl : F.L p
        · exact absurd (.inl (O.ln p hl)) nAv
        · exact absurd hp (O.fr0 p o hl e)
    · have h := O.pin q hq
      cases q with
      | val v r => exact ROk.go G h
      | acc a ys =>
        obtain ⟨us, h1, h2, h3⟩ := h
        exact ⟨us, g.ext _ _ h1 nt_lst, h2.go G, h3⟩
  · exact List.nodup_cons.mpr ⟨fun h => nAv (.inr (.inr h)), O.acs⟩
  · obtain ⟨o, h, m⟩ := O.nh a h
    exact ⟨o, g.ext _ _ h m.nt, m⟩
def dCallF (ks : List Kd) (S : SdL) (t : TDA) : TDL := fun ρ Q => t ρ fun rs ρ1 => onArgs ρ1 ks rs fun xs => S xs fun zs => Q zs ρ1
theorem pl_callF {ks : List Kd} {S : SdL} {k : Nat} {f : Addr} {fd : FuncData} {ps : List Str} {x : Str} {p : Pos} (G : FnG X.prog X.w X.K X.mg X.base CX0 k f fd ps (spF F.K F.T ks S)) (hS : MonoF S) (hr : Room k X.A) (hgd : X.A.guards = some []) (hg : Gl X x) (hm : X.mg x = some (.ref f)) (hk : PySem.W.keepIn X.K (.ref f) = true) (hb : Binds X.K fd ps [])
    (ha : PDA X F (e :: es) t d) (hdb : (x == ("__debug__" : Str)) = false := by decide) (he : starEach (e :: es) X.env = (false, eval e X.env) :: starEach es X.env := by rfl) (hpl : (backTo pos (starEach es X.env)).any (·.1) = false := by rfl) :
    PDL X F (.Call (.Name x p) (e :: es) [] pos) (fun σ H Q => t σ H fun vs H1 => spF F.K F.T ks S vs H1 Q E0) (dCallF ks S d) := by
  refine ⟨pe_callG G hr hgd hg hm hk hb ha.pa hdb he hpl, fun pins ρ σ H Q O h => ?_, fun ρ Q Q' hq h => ha.da.mono _ _ _ (fun rs ρ1 h1 => onArgs_mono h1 fun xs h2 => hS _ _ _ (fun z => hq _ _) h2) h⟩
  refine ha.da.run pins ρ σ H _ O (ha.da.mono _ _ _ (fun rs ρ1 h1 vs H1 O1 R1 => ?_) h)
  obtain ⟨xs, e, h2⟩ := onArgs_of h1
  exact ⟨Av F pins ρ1 σ, xs, O1.tb.1, fun a ha => O1.avM ha, args_ok O1 (fun a z => z.elim) (fun _ _ _ _ _ _ z => z) R1 e, hS _ _ _ (fun zs q p H' us g tb hp hp' im => q p H' (O1.pushL2 g tb hp hp' im)) h2⟩
end
section
variable {X : Cx} {F : Fm} {a b : Expr} {ta tb : TE} {da db : TDE} {pos : Pos}
theorem pt_cmpD {op : CmpOp} {r : R2} {f : F2} (ho : OpR X (compareOp op) r) (hm : behindInMarks op b = false) (hf : SO F.K r f) (ha : PD X F a ta da) (hb : PD X F b tb db) : PDT X F (.Compare a [op] [b] pos) (tTest (tOp r ta tb)) (dTV (dOp f da db)) :=
  ⟨pt_cmpR ho ha.pe hb.pe hm, dt_tv (k := tTest) (fun _ => rfl) (de_op hf ha.de hb.de)⟩
theorem pt_lt (ha : PD X F a ta da) (hb : PD X F b tb db) : PDT X F (.Compare a [.Lt] [b] pos) (tTest (tOp (rI0 fun i j => .bl (decide (i < j))) ta tb)) (dTV (dOp fLt da db)) := pt_cmpD op_lt (nomark _) (so_I0 fun _ _ => .bool) ha hb
theorem pt_gt (ha : PD X F a ta da) (hb : PD X F b tb db) : PDT X F (.Compare a [.Gt] [b] pos) (tTest (tOp (rI0 fun i j => .bl (decide (j < i))) ta tb)) (dTV (dOp fGt da db)) := pt_cmpD op_gt (nomark _) (so_I0 fun _ _ => .bool) ha hb
theorem pt_ge (ha : PD X F a ta da) (hb : PD X F b tb db) : PDT X F (.Compare a [.GtE] [b] pos) (tTest (tOp (rI0 fun i j => .bl (decide (j ≤ i))) ta tb)) (dTV (dOp fGe da db)) := pt_cmpD op_ge (nomark _) (so_I0 fun _ _ => .bool) ha hb
theorem pt_eq (hu : X.A.units + 64 < cLine) (hK : X.K = F.K) (ha : PD X F a ta da) (hb : PD X F b tb db) : PDT X F (.Compare a [.Eq] [b] pos) (tTest (tOp (rEqD F.K) ta tb)) (dTV (dOp fEq da db)) := by
  have h := pt_cmpD (X := X) (F := F) (pos := pos) (op_eqD hu) (nomark _) (by rw [hK]; exact so_Eq) ha hb
  rw [hK] at h; exact h
end
end DV
namespace DV
open PySem PySem.Spec PyProof.Rows L2
open LamX (ExtN TabS Tabs CodeO)
mutual
def okd : PyData → Bool
  | .none => true
  | .bool _ => true
  | .int i => decide (i.natAbs.log2 < 1000)
  | .str x => (PyData.str x).canLay0 && x.cps.toList.all fun c => decide (c < 16 ^ 8)
  | .list xs => okds xs
  | .tuple xs => okds xs
  | .dict _ => false
def okds : List PyData → Bool
  | [] => true
  | x :: xs => okd x && okds xs
end
mutual
def cost : PyData → Nat
  | .none => 5
  | .bool _ => 5
  | .int _ => 1001
  | .str x => 10 * x.length + 2
  | .list xs => costs xs + 3
  | .tuple xs => costs xs + 3
  | .dict _ => 0
def costs : List PyData → Nat
  | [] => 0
  | x :: xs => cost x + 2 + costs xs
end
theorem piled_costs : ∀ {ts : List Str} {xs : List PyData}, ts = PyData.shownAll xs → (∀ x ∈ xs, x.shown.length ≤ cost x) → (Str.join ", " ts).length ≤ costs xs
  | _, [], h, _ => by
    rw [PyData.shownAll_nil] at h; subst h
    show (Str.join ", " []).length ≤ 0
    decide
  | _, [x], h, hx => by
    rw [PyData.shownAll_cons, PyData.shownAll_nil] at h; subst h
    have := hx x (List.mem_cons_self ..)
    show x.shown.length ≤ cost x + 2 + 0
    omega
  | _, x :: y :: xs, h, hx => by
    rw [PyData.shownAll_cons] at h; subst h
    have ih := piled_costs (ts := PyData.shownAll (y :: xs)) (xs := y :: xs) rfl fun z hz => hx z (List.mem_cons_of_mem _ hz)
    have h1 := hx x (List.mem_cons_self ..)
    have e : Str.join ", " (x.shown :: PyData.shownAll (y :: xs)) = x.shown ++ ", " ++ Str.join ", " (PyData.shownAll (y :: xs)) := by
      rw [PyData.shownAll_cons]; rfl
    rw [e, strLen_append, strLen_append]
    have e2 : (Str.ofString ", ").length = 2 := by decide
    have e3 : costs (x :: y :: xs) = cost x + 2 + costs (y :: xs) := by simp only [costs]
    rw [e3]
    omega
mutual
theorem shown_le : ∀ d : PyData, okd d = true → d.shown.length ≤ cost d
  | .none, _ => by rw [PyData.shown_none]; simp only [cost]; decide
  | .bool b, _ => by rw [PyData.shown_bool]; simp only [cost]; cases b <;> decide
  | .int i, h => by
    simp only [okd, decide_eq_true_eq] at h
    rw [PyData.shown_int, PySem.ofString_length]
    simp only [cost]
    exact int_text_length_le (k := 1000) (by decide) h
  | .str x, h => by
    simp only [okd, Bool.and_eq_true, List.all_eq_true, decide_eq_true_eq] at h
    rw [PyData.shown_str]
    simp only [cost]
    exact StrLaws.reprText_len x h.2
  | .list xs, h => by
    simp only [okd] at h
    rw [PyData.shown_list, strLen_append, strLen_append]
    have := piled_costs (ts := PyData.shownAll xs) rfl (shown_les xs h)
    simp only [cost]
    have e1 : (Str.ofString "[").length = 1 := by decide
    have e2 : (Str.ofString "]").length = 1 := by decide
    omega
  | .tuple xs, h => by
    simp only [okd] at h
    rw [PyData.shown_tuple, strLen_append, strLen_append]
    have := piled_costs (ts := PyData.shownAll xs) rfl (shown_les xs h)
    simp only [cost]
    have e1 : (Str.ofString "(").length = 1 := by decide
    have e2 : (Str.ofString (if (xs.length == 1) = true then ",)" else ")")).length ≤ 2 := by split <;> decide
    omega
  | .dict _, h => by simp only [okd] at h; cases h
theorem shown_les : ∀ xs : List PyData, okds xs = true → ∀ x ∈ xs, x.shown.length ≤ cost x
  | [], _, x, hx => nomatch hx
  | y :: ys, h, x, hx => by
    simp only [okds, Bool.and_eq_true] at h
    rcases List.mem_cons.mp hx with e | hx
    · rw [e]; exact shown_le y h.1
    · exact shown_les ys h.2 x hx
end
mutual
theorem okd_facts : ∀ d : PyData, okd d = true → d.canLay0 = true ∧ d.showable = true ∧ d.hasDict = false
  | .none, _ => ⟨by simp [PyData.canLay0], by simp [PyData.showable], by simp [PyData.hasDict]⟩
  | .bool b, _ => ⟨by simp [PyData.canLay0], by simp [PyData.showable], by simp [PyData.hasDict]⟩
  | .int i, h => by
    simp only [okd, decide_eq_true_eq] at h
    exact ⟨by simp [PyData.canLay0], by simp only [PyData.showable, decide_eq_true_eq]; omega, by simp [PyData.hasDict]⟩
  | .str x, h => by
    simp only [okd, Bool.and_eq_true] at h
    exact ⟨h.1, by simp [PyData.showable], by simp [PyData.hasDict]⟩
  | .list xs, h => by
    simp only [okd] at h
    simp only [PyData.canLay0, PyData.showable, PyData.hasDict]
    exact okds_facts xs h
  | .tuple xs, h => by
    simp only [okd] at h
    simp only [PyData.canLay0, PyData.showable, PyData.hasDict]
    exact okds_facts xs h
  | .dict _, h => by simp only [okd] at h; cases h
theorem okds_facts : ∀ xs : List PyData, okds xs = true → PyData.canLayAll0 xs = true ∧ PyData.showableAll xs = true ∧ PyData.hasDictAll xs = false
  | [], _ => ⟨by simp [PyData.canLayAll0], by simp [PyData.showableAll], by simp [PyData.hasDictAll]⟩
  | y :: ys, h => by
    simp only [okds, Bool.and_eq_true] at h
    obtain ⟨a1, a2, a3⟩ := okd_facts y h.1
    obtain ⟨b1, b2, b3⟩ := okds_facts ys h.2
    simp only [PyData.canLayAll0, PyData.showableAll, PyData.hasDictAll]
    exact ⟨by rw [a1, b1]; rfl, by rw [a2, b2]; rfl, by rw [a3, b3]; rfl⟩
end
/-- data that can be compared and shown -/
structure Fine (d : PyData) : Prop where
  ok : okd d = true
  deep : d.depth ≤ 60
  few : cost d ≤ 16000000
theorem Fine.shaped {d : PyData} (h : Fine d) : SeqAt.shaped d = true := by
  unfold SeqAt.shaped
  rw [Bool.and_eq_true, decide_eq_true_eq]
  exact ⟨(okd_facts d h.ok).1, by have := h.deep; omega⟩
theorem Fine.plain {d : PyData} (h : Fine d) : Plain d := by
  refine ⟨(okd_facts d h.ok).2.1, (okd_facts d h.ok).2.2, h.deep, Nat.le_trans (shown_le d h.ok) (Nat.le_trans h.few ?_)⟩
  rw [sizeLine_eq]; decide
theorem Fine.refl {d : PyData} (h : Fine d) : PyData.eqv d d = true := SeqAt.eqv_refl d (okd_facts d h.ok).1
end DV
namespace DV
open PySem PySem.Spec PyProof.Rows L2
open LamX (ExtN TabS Tabs CodeO)
theorem few_le {n : Nat} (h : n ≤ 100000) : Few n := Nat.le_trans h (by rw [sizeLine_eq]; decide)
theorem sh_int {i : Int} : SeqAt.shaped (.int i) = true := by simp [SeqAt.shaped, PyData.canLay0, PyData.depth]
theorem eqv_int {i j : Int} : PyData.eqv (.int i) (.int j) = decide (i = j) := by
  simp only [PyData.eqv]; exact Bool.beq_eq_decide_eq i j
theorem on0 {x : PyData} {xs : List PyData} {f : PyData → Prop} : onAt (x :: xs) 0 f = f x := by
  have e : atI (x :: xs) 0 = some x := by
    unfold atI ixN
    rw [if_pos (by omega), if_pos (by rw [List.length_cons]; omega)]; rfl
  unfold onAt; rw [e]
theorem on1 {x y : PyData} {xs : List PyData} {f : PyData → Prop} : onAt (x :: y :: xs) 1 f = f y := by
  have e : atI (x :: y :: xs) 1 = some y := by
    unfold atI ixN
    rw [if_pos (by omega), if_pos (by rw [List.length_cons, List.length_cons]; omega)]; rfl
  unfold onAt; rw [e]
theorem on2 {x y z : PyData} {xs : List PyData} {f : PyData → Prop} : onAt (x :: y :: z :: xs) 2 f = f z := by
  have e : atI (x :: y :: z :: xs) 2 = some z := by
    unfold atI ixN
    rw [if_pos (by omega), if_pos (by rw [List.length_cons, List.length_cons, List.length_cons]; omega)]; rfl
  unfold onAt; rw [e]
theorem on3 {x y z u : PyData} {xs : List PyData} {f : PyData → Prop} : onAt (x :: y :: z :: u :: xs) 3 f = f u := by
  have e : atI (x :: y :: z :: u :: xs) 3 = some u := by
    unfold atI ixN
    rw [if_pos (by omega), if_pos (by rw [List.length_cons, List.length_cons, List.length_cons, List.length_cons]; omega)]; rfl
  unfold onAt; rw [e]
theorem cutD_sub {xs : List PyData} {lo hi : Option Int} : ∀ y ∈ cutD xs lo hi, y ∈ xs := fun y h => List.mem_of_mem_drop (List.mem_of_mem_take h)
theorem cutD_len {xs : List PyData} {lo hi : Option Int} : (cutD xs lo hi).length ≤ xs.length := by
  unfold cutD
  rw [List.length_take, List.length_drop]; omega
theorem ite_t {c : Prop} [Decidable c] {A B : Prop} (h : c) (k : A) : if decide c = true then A else B := by rw [decide_eq_true h, if_pos rfl]; exact k
theorem ite_f {c : Prop} [Decidable c] {A B : Prop} (h : ¬ c) (k : B) : if decide c = true then A else B := by rw [decide_eq_false h, if_neg (by decide)]; exact k
theorem ite_b {c : Prop} [Decidable c] {A B : Prop} (k : c → A) (m : ¬ c → B) : if decide c = true then A else B := by
  by_cases h : c
  · exact ite_t h (k h)
  · exact ite_f h (m h)
theorem cmw {i j : Int} {a b : Nat} (ha : i.natAbs < 2 ^ a) (hb : j.natAbs < 2 ^ b) (h0 : 0 < a := by decide) (h1 : 0 < b := by decide) (h : a + b ≤ 1000000 := by decide) : CMulW i j := wide_mul ha hb h0 h1 h
theorem cdw {i j : Int} {b : Nat} (h : 0 < j) (hb : j.natAbs < 2 ^ b) (h0 : 0 < b := by decide) (h9 : b ≤ 9000 := by decide) : CDivW i j := wide_div h hb h0 h9
/-- one statement, what follows kept shut -/
theorem seqI {t u : TDS} {DD : DEnds} {ρ : Rho} (h : ∀ k, k = u DD → t { DD with nx := k } ρ) : dSeq t u DD ρ := h _ rfl
theorem tn0 : Int.toNat 0 = 0 := rfl
theorem tn1 : Int.toNat 1 = 1 := rfl
theorem tn2 : Int.toNat 2 = 2 := rfl
theorem tn3 : Int.toNat 3 = 3 := rfl
/-- the state of the draws, behind at most m of them -/
def Bag (m : Nat) (bag : List PyData) : Prop := ∃ (a b c : Int) (cells : List Int), bag = [.int a, .int b, .int c, .list (cells.map .int)] ∧ 0 ≤ a ∧ 0 ≤ b ∧ b < 4294967296 ∧ 0 ≤ c ∧ c ≤ m ∧ cells.length ≤ 63 ∧ ∀ k ∈ cells, (0 : Int) ≤ k
theorem Bag.up {m n : Nat} {bag : List PyData} (h : Bag m bag) (k : m ≤ n) : Bag n bag := by
  obtain ⟨a, b, c, cells, e, h1, h2, h3, h4, h5, h6⟩ := h
  exact ⟨a, b, c, cells, e, h1, h2, h3, h4, by omega, h6⟩
def S_take : Sb := fun bag xs Q => ∃ (m : Nat) (n : Int), Bag m bag ∧ m < 2 ^ 60 ∧ xs = [.int n] ∧ 0 < n ∧ n.natAbs < 2 ^ 8000 ∧ ∀ (v : Int) bag', 0 ≤ v → v < n → Bag (m + 1) bag' → Q (.int v) bag'
theorem m_take : MonoB S_take := fun bag xs Q Q' hq ⟨m, n, h1, h2, h3, h4, h5, h6⟩ => ⟨m, n, h1, h2, h3, h4, h5, fun v b a1 a2 a3 => hq _ _ (h6 v b a1 a2 a3)⟩
def td_take : TDS := dSeq
          (dIfS (dTV (dOp fEq (dIx (dVar 0) (dC (PyData.int 0))) (dC (PyData.int 0))))
            (dSeq
              (dAsg
                (dIx
                  (dOfL
                    (dCat
                      (dOfL
                        (dSlL (dIx (dVar 0) (dC (PyData.int 3))) (dPart (dIx (dVar 0) (dC (PyData.int 2)))) dNoPart))
                      (dOfL (dLst (dCons (dC (PyData.int 0)) dNil)))))
                  (dC (PyData.int 0)))
                (setR 2))
              (dSeq (dAddItem 0 (dC (PyData.int 2)) (dC (PyData.int 1)))
                (dSeq
                  (dIfS (dTV (dOp fGe (dVar 2) (dOp fPow (dC (PyData.int 10)) (dC (PyData.int 18)))))
                    (dSetItem 0 (dVar 2) (dC (PyData.int 0))) dNext)
                  (dSeq
                    (dAsg
                      (dOp fAdd
                        (dOp fAdd (dOp fMul (dIx (dVar 0) (dC (PyData.int 1))) (dC (PyData.int 48271)))
                          (dOp fMod (dCB fInt (dCons (dVar 2) dNil)) (dC (PyData.int 2147483647))))
                        (dOp fMul (dC (PyData.int 7919)) (dIx (dVar 0) (dC (PyData.int 2)))))
                      (setR 3))
                    (dSetItem 0 (dOp fMod (dCB fInt (dCons (dVar 3) dNil)) (dC (PyData.int 2147483647)))
                      (dC (PyData.int 1)))))))
            dNext)
          (dSeq
            (dIfS (dTV (dOp fGt (dIx (dVar 0) (dC (PyData.int 0))) (dC (PyData.int 0))))
              (dSeq (dAsg (dOp fMod (dCB fInt (dCons (dIx (dVar 0) (dC (PyData.int 0))) dNil)) (dVar 1)) (setR 4))
                (dSeq
                  (dSetItem 0 (dOp fDiv (dCB fInt (dCons (dIx (dVar 0) (dC (PyData.int 0))) dNil)) (dVar 1))
                    (dC (PyData.int 0)))
                  (dRet (dVar 4))))
              dNext)
            (dSeq
              (dAsg
                (dOp fMod
                  (dCB fInt
                    (dCons
                      (dOp fMul (dOp fAdd (dIx (dVar 0) (dC (PyData.int 1))) (dC (PyData.int 1)))
                        (dC (PyData.int 39373)))
                      dNil))
                  (dC (PyData.int 1000000007)))
                (setR 5))
              (dSeq
                (dAsg
                  (dOp fMod
                    (dCB fInt
                      (dCons
                        (dOp fMul
                          (dOp fMod (dCB fInt (dCons (dOp fMul (dVar 5) (dVar 5)) dNil)) (dC (PyData.int 998244353)))
                          (dC (PyData.int 30011)))
                        dNil))
                    (dC (PyData.int 998244353)))
                  (setR 6))
                (dRet (dOp fMod (dCB fInt (dCons (dOp fDiv (dVar 6) (dC (PyData.int 7))) dNil)) (dVar 1))))))
/-- behind the first if -/
def td_take2 : TDS := (dSeq
            (dIfS (dTV (dOp fGt (dIx (dVar 0) (dC (PyData.int 0))) (dC (PyData.int 0))))
              (dSeq (dAsg (dOp fMod (dCB fInt (dCons (dIx (dVar 0) (dC (PyData.int 0))) dNil)) (dVar 1)) (setR 4))
                (dSeq
                  (dSetItem 0 (dOp fDiv (dCB fInt (dCons (dIx (dVar 0) (dC (PyData.int 0))) dNil)) (dVar 1))
                    (dC (PyData.int 0)))
                  (dRet (dVar 4))))
              dNext)
            (dSeq
              (dAsg
                (dOp fMod
                  (dCB fInt
                    (dCons
                      (dOp fMul (dOp fAdd (dIx (dVar 0) (dC (PyData.int 1))) (dC (PyData.int 1)))
                        (dC (PyData.int 39373)))
                      dNil))
                  (dC (PyData.int 1000000007)))
                (setR 5))
              (dSeq
                (dAsg
                  (dOp fMod
                    (dCB fInt
                      (dCons
                        (dOp fMul
                          (dOp fMod (dCB fInt (dCons (dOp fMul (dVar 5) (dVar 5)) dNil)) (dC (PyData.int 998244353)))
                          (dC (PyData.int 30011)))
                        dNil))
                    (dC (PyData.int 998244353)))
                  (setR 6))
                (dRet (dOp fMod (dCB fInt (dCons (dOp fDiv (dVar 6) (dC (PyData.int 7))) dNil)) (dVar 1))))))
theorem rd_take2 {m : Nat} {n a b c : Int} {cells : List Int} {x2 x3 : Option Ent} {Q : PyData → List PyData → Prop} (hn : 0 < n) (hn2 : n.natAbs < 2 ^ 8000) (h0 : 0 ≤ a) (h1 : 0 ≤ b) (h2 : b < 4294967296) (h3 : 0 ≤ c) (h4 : c ≤ m) (h5 : cells.length ≤ 63) (h6 : ∀ k ∈ cells, (0 : Int) ≤ k)
    (q : ∀ (v : Int) bag', 0 ≤ v → v < n → Bag m bag' → Q (.int v) bag') : td_take2 { nx := fun ρ => retB (.d .none) ρ Q, rt := fun r ρ => retB r ρ Q } [some (.own [.int a, .int b, .int c, .list (cells.map .int)]), some (.d (.int n)), x2, x3, none, none, none] := by
  unfold td_take2
  simp only [dSeq, dAsg, dCB, dCons, dNil, dVar, onVs, vals, val, slot, setR, fGcd, dIfS, dTV, dOp, dBin, onV2, fLt, fLe, fGt, fGe, fAdd, fSub, fMul, fDiv, fMod, fI0, dC, dUn, onV, fNeg, dNext, dRet, dTup, onD, dats, fDivZ, fI, fPow, Few, retP, fAbs, fInt, fMax, fMin, fLen, fSqrt, fEq, fNe, dNot, dAnd, dOr, dAndV, dOrV, dNotV, dIfE, dDrop, dRetN, dPar, noO, dSetL, dLst, dOfL, dOwnM, onOwn, onDat, kAppend, kInsert, dSetItem, dAddItem, dIx, onItems, items, onInt, dNoPart, dPart, dSlice, onL, litems, dSlL, dCat, onM, mitems, dTupOf, dSeqI, dRng1, dRng2, dCallP, dCallB, dCallF, noSelf, onArgs, dats2, dIsi, tyName, dYes, dgTup, dgCons, dgNil, retB, dBreak, dCont, ne_eq, not_false_eq_true, true_and, and_true, List.getElem?_cons_zero, List.getElem?_cons_succ, List.set_cons_zero, List.set_cons_succ, Option.map, List.length_cons, List.length_nil, on0, on1, on2, on3]
  refine ite_b (fun ha => ?_) fun ha => ?_
  · refine ⟨hn, cdw hn hn2, ⟨by decide, by decide⟩, ?_⟩
    exact q _ _ (Int.emod_nonneg _ (by clear hn2; omega)) (Int.emod_lt_of_pos _ hn) ⟨a / n, b, c, cells, rfl, Int.ediv_nonneg h0 (by clear hn2; omega), h1, h2, h3, h4, h5, h6⟩
  · have e0 : ∀ x k : Int, 0 < k → 0 ≤ x % k ∧ x % k < k := fun x k hk => ⟨Int.emod_nonneg _ (by omega), Int.emod_lt_of_pos _ hk⟩
    refine ⟨cmw (a := 40) (b := 20) (by omega) (by decide), by decide, ?_⟩
    obtain ⟨u1, u2⟩ := e0 ((b + 1) * 39373) 1000000007 (by decide)
    generalize (b + 1) * 39373 % 1000000007 = u at u1 u2 ⊢
    refine ⟨cmw (a := 40) (b := 40) (by omega) (by omega), by decide, ?_⟩
    obtain ⟨w1, w2⟩ := e0 (u * u) 998244353 (by decide)
    generalize u * u % 998244353 = w at w1 w2 ⊢
    refine ⟨cmw (a := 40) (b := 20) (by omega) (by decide), by decide, cdw (b := 20) (by decide) (by decide), hn, ?_⟩
    exact q _ _ (e0 _ n hn).1 (e0 _ n hn).2 ⟨a, b, c, cells, rfl, h0, h1, h2, h3, h4, h5, h6⟩
theorem rd_take {bag xs : List PyData} {Q : PyData → List PyData → Prop} (hS : S_take bag xs Q) : td_take { nx := fun ρ => retB (.d .none) ρ Q, rt := fun r ρ => retB r ρ Q } (some (.own bag) :: rhoP 6 [.d] xs) := by
  obtain ⟨m, n, ⟨a, b, c, cells, rfl, h0, h1, h2, h3, h4, h5, h6⟩, hm, rfl, hn, hn2, q⟩ := hS
  have e : (some (.own [.int a, .int b, .int c, .list (cells.map .int)]) :: rhoP 6 [.d] [.int n] : Rho) = [some (.own [.int a, .int b, .int c, .list (cells.map .int)]), some (.d (.int n)), none, none, none, none, none] := rfl
  rw [e]
  show dSeq _ td_take2 _ _
  unfold dSeq
  simp only [dSeq, dAsg, dCB, dCons, dNil, dVar, onVs, vals, val, slot, setR, fGcd, dIfS, dTV, dOp, dBin, onV2, fLt, fLe, fGt, fGe, fAdd, fSub, fMul, fDiv, fMod, fI0, dC, dUn, onV, fNeg, dNext, dRet, dTup, onD, dats, fDivZ, fI, fPow, Few, retP, fAbs, fInt, fMax, fMin, fLen, fSqrt, fEq, fNe, dNot, dAnd, dOr, dAndV, dOrV, dNotV, dIfE, dDrop, dRetN, dPar, noO, dSetL, dLst, dOfL, dOwnM, onOwn, onDat, kAppend, kInsert, dSetItem, dAddItem, dIx, onItems, items, onInt, dNoPart, dPart, dSlice, onL, litems, dSlL, dCat, onM, mitems, dTupOf, dSeqI, dRng1, dRng2, dCallP, dCallB, dCallF, noSelf, onArgs, dats2, dIsi, tyName, dYes, dgTup, dgCons, dgNil, retB, dBreak, dCont, ne_eq, not_false_eq_true, true_and, and_true, List.getElem?_cons_zero, List.getElem?_cons_succ, List.set_cons_zero, List.set_cons_succ, Option.map, List.length_cons, List.length_nil, on0, on1, on2, on3, sh_int, eqv_int]
  refine ite_b (fun ha => ?_) fun ha => ?_
  · -- the next cell
    have hc : ∃ (k : Int) (rest : List PyData), cutD (cells.map PyData.int) (some c) none ++ [PyData.int 0] = .int k :: rest ∧ 0 ≤ k := by
      cases e1 : cutD (cells.map PyData.int) (some c) none with
      | nil => exact ⟨0, [], rfl, by decide⟩
      | cons y ys =>
        have hy : y ∈ cells.map PyData.int := cutD_sub (lo := some c) (hi := none) y (by rw [e1]; exact List.mem_cons_self ..)
        obtain ⟨k, hk, rfl⟩ := List.mem_map.mp hy
        exact ⟨k, ys ++ [PyData.int 0], rfl, h6 k hk⟩
    obtain ⟨k, rest, e1, hk⟩ := hc
    have hl : (cutD (cells.map PyData.int) (some c) none).length ≤ 63 := Nat.le_trans cutD_len (by rw [List.length_map]; exact h5)
    rw [e1]
    simp only [dSeq, dAsg, dCB, dCons, dNil, dVar, onVs, vals, val, slot, setR, fGcd, dIfS, dTV, dOp, dBin, onV2, fLt, fLe, fGt, fGe, fAdd, fSub, fMul, fDiv, fMod, fI0, dC, dUn, onV, fNeg, dNext, dRet, dTup, onD, dats, fDivZ, fI, fPow, Few, retP, fAbs, fInt, fMax, fMin, fLen, fSqrt, fEq, fNe, dNot, dAnd, dOr, dAndV, dOrV, dNotV, dIfE, dDrop, dRetN, dPar, noO, dSetL, dLst, dOfL, dOwnM, onOwn, onDat, kAppend, kInsert, dSetItem, dAddItem, dIx, onItems, items, onInt, dNoPart, dPart, dSlice, onL, litems, dSlL, dCat, onM, mitems, dTupOf, dSeqI, dRng1, dRng2, dCallP, dCallB, dCallF, noSelf, onArgs, dats2, dIsi, tyName, dYes, dgTup, dgCons, dgNil, retB, dBreak, dCont, ne_eq, not_false_eq_true, true_and, and_true, List.getElem?_cons_zero, List.getElem?_cons_succ, List.set_cons_zero, List.set_cons_succ, Option.map, List.length_cons, List.length_nil, on0, on1, on2, on3, sh_int, eqv_int, tn0, tn1, tn2, tn3]
    refine ⟨few_le (by omega), few_le (by omega), ⟨by decide, by decide⟩, ⟨by decide, by decide, by decide⟩, ?_⟩
    refine ite_b (fun hk2 => ?_) fun hk2 => ?_
    · refine ⟨⟨by decide, by decide⟩, cmw (a := 40) (b := 20) (by omega) (by decide), by decide, cmw (a := 20) (b := 62) (by decide) (by omega), by decide, ⟨by decide, by decide⟩, ?_⟩
      have z := Int.emod_lt_of_pos (b * 48271 + k % 2147483647 + 7919 * (c + 1)) (show (0 : Int) < 2147483647 by decide)
      exact rd_take2 (m := m + 1) hn hn2 hk (Int.emod_nonneg _ (by decide)) (by omega) (by omega) (by omega) h5 h6 q
    · refine ⟨cmw (a := 40) (b := 20) (by omega) (by decide), by decide, cmw (a := 20) (b := 62) (by decide) (by omega), by decide, ⟨by decide, by decide⟩, ?_⟩
      have z := Int.emod_lt_of_pos (b * 48271 + k % 2147483647 + 7919 * (c + 1)) (show (0 : Int) < 2147483647 by decide)
      exact rd_take2 (m := m + 1) hn hn2 h0 (Int.emod_nonneg _ (by decide)) (by omega) (by omega) (by omega) h5 h6 q
  · exact rd_take2 hn hn2 h0 h1 h2 h3 (by omega) h5 h6 q
/-- one of some things -/
def S_some : Sb := fun bag xs Q => ∃ (m : Nat) (ys : List PyData), Bag m bag ∧ m < 2 ^ 60 ∧ (xs = [.list ys] ∨ xs = [.tuple ys]) ∧ 0 < ys.length ∧ ys.length ≤ 100000 ∧ ∀ y bag', y ∈ ys → Bag (m + 1) bag' → Q y bag'
theorem m_some : MonoB S_some := fun bag xs Q Q' hq ⟨m, ys, h1, h2, h3, h4, h5, h6⟩ => ⟨m, ys, h1, h2, h3, h4, h5, fun y b a1 a2 => hq _ _ (h6 y b a1 a2)⟩
theorem onAt_mem {ys : List PyData} {v : Int} {f : PyData → Prop} (h0 : 0 ≤ v) (h1 : v < ys.length) (h : ∀ y ∈ ys, f y) : onAt ys v f := by
  have hv : v.toNat < ys.length := by omega
  have e : atI ys v = some ys[v.toNat] := by
    unfold atI ixN
    rw [if_pos h0, if_pos h1]
    exact List.getElem?_eq_getElem hv
  unfold onAt; rw [e]
  exact h _ (List.getElem_mem hv)
/-- the draws at their start -/
def S_bag : SdL := fun xs Q => ∃ ns : List Int, xs = [.list (ns.map .int)] ∧ ∀ bag, Bag 0 bag → Q bag
theorem m_bag : MonoF S_bag := fun xs Q Q' hq ⟨ns, h1, h2⟩ => ⟨ns, h1, fun b hb => hq _ (h2 b hb)⟩
theorem rd_bag {xs : List PyData} {Q : List PyData → Prop} (hS : S_bag xs Q) :
    dLst (dCons (dC (PyData.int 0)) (dCons (dC (PyData.int 1234567891)) (dCons (dC (PyData.int 0)) (dCons (dOfL
                    (dLc (dSeqI (dOfL (dSlL (dVar 0) dNoPart (dPart (dC (PyData.int 63)))))) (setR 1) dYes
                      (dCB fAbs (dCons (dVar 1) dNil)) [1])) dNil)))) (rhoP 2 [.ro] xs) fun zs _ => Q zs := by
  obtain ⟨ns, rfl, q⟩ := hS
  have e : rhoP 2 [.ro] [.list (ns.map .int)] = [some (.ro (.list (ns.map .int))), none] := rfl
  rw [e]
  have hl : (cutD (ns.map PyData.int) none (some 63)).length ≤ 63 := by
    unfold cutD
    rw [List.length_take]
    have : HT.sIx (ns.map PyData.int).length (ns.map PyData.int).length (some 63) ≤ 63 := by
      rw [show (63 : Int) = ((63 : Nat) : Int) from rfl, HT.sIx_nat]; omega
    omega
  have hi : ∀ (i : Nat) (x : PyData), (cutD (ns.map PyData.int) none (some 63))[i]? = some x → ∃ k : Int, x = .int k := fun i x h => by
    have := cutD_sub x (List.mem_of_getElem? h)
    obtain ⟨k, _, rfl⟩ := List.mem_map.mp this
    exact ⟨k, rfl⟩
  simp only [dLc, dSeq, dAsg, dCB, dCons, dNil, dVar, onVs, vals, val, slot, setR, fGcd, dIfS, dTV, dOp, dBin, onV2, fLt, fLe, fGt, fGe, fAdd, fSub, fMul, fDiv, fMod, fI0, dC, dUn, onV, fNeg, dNext, dRet, dTup, onD, dats, fDivZ, fI, fPow, Few, retP, fAbs, fInt, fMax, fMin, fLen, fSqrt, fEq, fNe, dNot, dAnd, dOr, dAndV, dOrV, dNotV, dIfE, dDrop, dRetN, dPar, noO, dSetL, dLst, dOfL, dOwnM, onOwn, onDat, kAppend, kInsert, dSetItem, dAddItem, dIx, onItems, items, onInt, dNoPart, dPart, dSlice, onL, litems, dSlL, dCat, onM, mitems, dTupOf, dSeqI, dRng1, dRng2, dCallP, dCallB, dCallF, noSelf, onArgs, dats2, dIsi, tyName, dYes, dgTup, dgCons, dgNil, retB, dBreak, dCont, ne_eq, not_false_eq_true, true_and, and_true, List.getElem?_cons_zero, List.getElem?_cons_succ, List.set_cons_zero, List.set_cons_succ, Option.map, List.length_cons, List.length_nil]
  refine ⟨fun i hi => ?_, fun i acc ρ => i ≤ 63 ∧ ρ = [some (.ro (.list (ns.map .int))), none] ∧ ∃ cs : List Int, acc = cs.map .int ∧ cs.length = i ∧ ∀ k ∈ cs, (0 : Int) ≤ k, ⟨by omega, rfl, [], rfl, rfl, fun k hk => nomatch hk⟩, fun i x acc ρ hx hI => ?_, fun acc ρ hI => ?_⟩
  · obtain rfl : i = 1 := by simpa using hi
    rfl
  · obtain ⟨hi0, rfl, cs, rfl, hc, hp⟩ := hI
    obtain ⟨k, rfl⟩ := hi i x hx
    have hil : i < 63 := by
      have := (List.getElem?_eq_some_iff.mp hx).1
      omega
    simp only [dSeq, dAsg, dCB, dCons, dNil, dVar, onVs, vals, val, slot, setR, fGcd, dIfS, dTV, dOp, dBin, onV2, fLt, fLe, fGt, fGe, fAdd, fSub, fMul, fDiv, fMod, fI0, dC, dUn, onV, fNeg, dNext, dRet, dTup, onD, dats, fDivZ, fI, fPow, Few, retP, fAbs, fInt, fMax, fMin, fLen, fSqrt, fEq, fNe, dNot, dAnd, dOr, dAndV, dOrV, dNotV, dIfE, dDrop, dRetN, dPar, noO, dSetL, dLst, dOfL, dOwnM, onOwn, onDat, kAppend, kInsert, dSetItem, dAddItem, dIx, onItems, items, onInt, dNoPart, dPart, dSlice, onL, litems, dSlL, dCat, onM, mitems, dTupOf, dSeqI, dRng1, dRng2, dCallP, dCallB, dCallF, noSelf, onArgs, dats2, dIsi, tyName, dYes, dgTup, dgCons, dgNil, retB, dBreak, dCont, ne_eq, not_false_eq_true, true_and, and_true, List.getElem?_cons_zero, List.getElem?_cons_succ, List.set_cons_zero, List.set_cons_succ, Option.map, List.length_cons, List.length_nil, wipeR, if_pos]
    refine ⟨few_le (by rw [List.length_map]; omega), by omega, cs ++ [if k < 0 then -k else k], by rw [List.map_append]; rfl, by rw [List.length_append, hc]; rfl, fun j hj => ?_⟩
    rcases List.mem_append.mp hj with h | h
    · exact hp j h
    · obtain rfl : j = if k < 0 then -k else k := by simpa using h
      split <;> omega
  · obtain ⟨hi0, rfl, cs, rfl, hc, hp⟩ := hI
    exact ⟨few_le (by decide), q _ ⟨0, 1234567891, 0, cs, rfl, by decide, by decide, by decide, by decide, by decide, by omega, hp⟩⟩
/-- the same, and shown the same -/
def S_alike : Sd
  | [x, y], Q => (x = y ∧ Fine x) ∧ Q (.bool true)
  | _, _ => False
theorem m_alike : MonoP S_alike := fun xs Q Q' hq h => by
  unfold S_alike at h ⊢
  split at h
  · exact ⟨h.1, hq _ h.2⟩
  · exact h.elim
theorem rd_alike {xs : List PyData} {Q : PyData → Prop} (hS : S_alike xs Q) :
    dRet (dAndV (dOp fEq (dVar 0) (dVar 1)) (dOp fEqS (dCB fRepr (dCons (dVar 0) dNil)) (dCB fRepr (dCons (dVar 1) dNil)))) { nx := fun _ => Q .none, rt := fun r ρ => retP r ρ Q } (rhoP 2 [.ro, .ro] xs) := by
  unfold S_alike at hS
  split at hS
  · rename_i x y
    obtain ⟨⟨rfl, hf⟩, q⟩ := hS
    have e : rhoP 2 [.ro, .ro] [x, x] = [some (.ro x), some (.ro x)] := rfl
    rw [e]
    simp only [dSeq, dAsg, dCB, dCons, dNil, dVar, onVs, vals, val, slot, setR, fGcd, dIfS, dTV, dOp, dBin, onV2, fLt, fLe, fGt, fGe, fAdd, fSub, fMul, fDiv, fMod, fI0, dC, dUn, onV, fNeg, dNext, dRet, dTup, onD, dats, fDivZ, fI, fPow, Few, retP, fAbs, fInt, fMax, fMin, fLen, fSqrt, fEq, fNe, dNot, dAnd, dOr, dAndV, dOrV, dNotV, dIfE, dDrop, dRetN, dPar, noO, dSetL, dLst, dOfL, dOwnM, onOwn, onDat, kAppend, kInsert, dSetItem, dAddItem, dIx, onItems, items, onInt, dNoPart, dPart, dSlice, onL, litems, dSlL, dCat, onM, mitems, dTupOf, dSeqI, dRng1, dRng2, dCallP, dCallB, dCallF, noSelf, onArgs, dats2, dIsi, tyName, dYes, dgTup, dgCons, dgNil, retB, dBreak, dCont, ne_eq, not_false_eq_true, true_and, and_true, List.getElem?_cons_zero, List.getElem?_cons_succ, List.set_cons_zero, List.set_cons_succ, Option.map, List.length_cons, List.length_nil, fRepr, fEqS, hf.shaped, hf.refl, if_pos]
    exact ⟨hf.plain, hf.plain, by simpa only [decide_true] using q⟩
  · exact hS.elim
theorem law_args {K : PySem.W.Frag} {T : List (Addr × Str)} {H : Hp} {a : Addr} {ns : List Int} {n : Nat} {S : Sd} {E : XK} (tb : Tabs T H) (hl : ns.length ≤ n) (hS : SqL K H a (ns.map V.int)) (hm : MonoP S) (h : ∀ ns : List Int, ns.length ≤ n → S [.list (ns.map .int)] fun z => z = .bool true) :
    spP K T [.ro] S [.ref a] H (fun v _ => v = .bl true) E := by
  refine ⟨fun _ => False, [.list (ns.map .int)], tb, fun a z => z.elim, ?_, hm _ _ _ (fun z hz v H' _ _ im => ?_) (h ns hl)⟩
  · simp only [ArgsOk]
    refine ⟨.ref a, [], rfl, .inr ⟨a, ns.map .int, ns.map .int, rfl, rfl, ?_, ImAll.ints ns⟩, rfl⟩
    rcases hS with h | h
    · exact .inl ⟨h, fun z => z⟩
    · exact .inr (.inr h)
  · subst hz
    exact Im.bool_iff.mp im
end DV
namespace DV
open PySem PySem.Spec PyProof.Rows L2
open LamX (ExtN TabS Tabs CodeO)
section
variable {X : Cx} {F : Fm} {a b c e : Expr} {es : List Expr} {ta tb tc te : TE} {da db dc de : TDE} {pos : Pos} {t : TA} {d : TDA}
def isNo : PyData → Bool
  | .none => true
  | _ => false
theorem isNo_of {K : PySem.W.Frag} {H : Hp} {v : V} {x : PyData} (h : Dp K H v x) : decide (v = .non) = isNo x := by
  cases h <;> rfl
def dIsN (te : TDE) : TDE := fun ρ Q => te ρ fun r ρ1 => onV ρ1 r fun x => Q (.d (.bool (isNo x))) ρ1
def dNotN (te : TDE) : TDE := fun ρ Q => te ρ fun r ρ1 => onV ρ1 r fun x => Q (.d (.bool (!isNo x))) ρ1
theorem de_notN (he : DE F te de) : DE F (tNotN te) (dNotN de) := by
  constructor
  · intro pins ρ σ H Q O h
    refine he.run pins ρ σ H _ O (he.mono _ _ _ (fun r ρ1 h1 v H1 O1 R1 => ?_) h)
    obtain ⟨x, e1, h2⟩ := onV_of h1
    rw [isNo_of (val_dp O1 R1 e1)]
    exact h2 _ _ O1 (.sc .bool)
  · intro ρ Q Q' hq h
    exact he.mono _ _ _ (fun r ρ1 h1 => onV_mono h1 fun x h2 => hq _ _ h2) h
theorem pt_notN {j p2} (he : PD X F e te de) : PDT X F (.Compare e [.IsNot] [.Constant .none j p2] pos) (tB (tNotN te)) (dTV (dNotN de)) := ⟨pt_cmp (pc_notN he.pe), dt_tv (k := tB) (fun _ => rfl) (de_notN he.de)⟩
def dAug (i : Nat) (f : Int → Int → Int) (te : TDE) : TDS := fun DD ρ => onInt ρ (.o i) fun n => te ρ fun r ρ1 => onInt ρ1 r fun m => DD.nx (ρ1.set i (some (.d (.int (f n m)))))
def asInts : List PyData → Option (List Int)
  | [] => some []
  | .int i :: xs => (asInts xs).map (i :: ·)
  | _ :: _ => none
def dListOf (t : TDA) : TDL := fun ρ Q => t ρ fun rs ρ1 => match rs with
  | [r] => onItems ρ1 r fun xs => Q xs ρ1
  | _ => False
def titems : R → Option (List PyData)
  | .d (.tuple xs) => some xs
  | _ => none
def onT (r : R) (f : List PyData → Prop) : Prop := match titems r with
  | some xs => f xs
  | _ => False
theorem onT_of {r : R} {f : List PyData → Prop} (h : onT r f) : ∃ xs, r = .d (.tuple xs) ∧ f xs := by
  unfold onT at h
  split at h
  · rename_i xs e
    cases r <;> first | cases e | skip
    rename_i x
    cases x <;> first | cases e | skip
    exact ⟨_, rfl, h⟩
  · exact h.elim
theorem onT_mono {r : R} {f g : List PyData → Prop} (h : onT r f) (k : ∀ xs, f xs → g xs) : onT r g := by
  unfold onT at h ⊢
  split at h
  · exact k _ h
  · exact h.elim
theorem im_tup {A : Addr → Prop} {H : Hp} {xs : List PyData} {v : V} (h : Im F.K A H (.tuple xs) v) : ∃ a vs, v = .ref a ∧ SqT F.K H a vs ∧ ImAll F.K A H xs vs := by
  simp only [Im] at h
  obtain ⟨a, vs, e, l, t⟩ := h
  exact ⟨a, vs, e, l.sq, t⟩
def dCatT (ta tb : TDE) : TDE := dBin ta tb fun r s ρ Q => onT r fun xs => onT s fun ys => Few (xs.length + ys.length) ∧ Q (.d (.tuple (xs ++ ys))) ρ
theorem pd_catT (ha : PD X F a ta da) (hb : PD X F b tb db) (hK : X.K = F.K := by rfl) : PD X F (.BinOp a .Add b pos) (tOp (rCatA F.K) ta tb) (dCatT da db) := by
  refine ⟨?_, de_bin ha.de hb.de (fun pins ρ σ H x y r s Q O R1 R2 h => ?_) fun r s ρ Q Q' hq h => onT_mono h fun xs h => onT_mono h fun ys h => ⟨h.1, hq _ _ h.2⟩⟩
  · have := pe_op (pos := pos) op_catA ha.pe hb.pe
    rw [hK] at this
    exact this
  obtain ⟨xs, e1, h2⟩ := onT_of h
  subst e1
  obtain ⟨ys, e2, hl, q⟩ := onT_of h2
  subst e2
  have i1 : Im F.K (Av F pins ρ σ) H (.tuple xs) x := R1
  have i2 : Im F.K (Av F pins ρ σ) H (.tuple ys) y := R2
  obtain ⟨p, vs, rfl, l1, im1⟩ := im_tup i1
  obtain ⟨p2, us, rfl, l2, im2⟩ := im_tup i2
  refine ⟨p, p2, vs, us, rfl, rfl, l1, l2, by rw [im1.length, im2.length]; exact hl, fun hz => ?_, fun _ hz => ?_, fun _ _ p' hp => ?_⟩
  · have : xs = [] := List.length_eq_zero_iff.mp (by rw [← im1.length, hz]; rfl)
    subst this
    exact q _ _ O i2
  · have : ys = [] := List.length_eq_zero_iff.mp (by rw [← im2.length, hz]; rfl)
    subst this
    rw [List.append_nil] at q
    exact q _ _ O i1
  · obtain ⟨O2, i3⟩ := newTup O hp (im1.append im2)
    exact q _ _ O2 i3
variable {lo hi : Option Expr} {tl th : TO} {dlo dhi : TDO} {p2 : Pos}
def dSlT (te : TDE) (tl th : TDO) : TDE := fun ρ Q => dSlice te tl th (fun r lo hi ρ3 => onT r fun xs => Q (.d (.tuple (cutD xs lo hi))) ρ3) ρ
theorem pd_sliceT (he : PD X F e te de) (hl : PDO X F lo tl dlo) (hh : PDO X F hi th dhi) (hK : X.K = F.K := by rfl) : PD X F (.Subscript e (.Slice lo hi none p2) pos) (tSl (rSlA F.K) te tl th) (dSlT de dlo dhi) := by
  refine ⟨?_, fun pins ρ σ H Q O h => ?_, fun ρ Q Q' hq h => he.de.mono _ _ _ (fun r ρ1 h1 => hl.d.mono _ _ _ (fun l ρ2 h2 => hh.d.mono _ _ _ (fun u ρ3 h3 => onT_mono h3 fun xs => hq _ _) h2) h1) h⟩
  · have := pe_slice (pos := pos) (p2 := p2) sl_tupA he.pe hl.po hh.po
    rw [hK] at this
    exact this
  refine he.de.run pins ρ σ H _ O (he.de.mono _ _ _ (fun r ρ1 h1 v H1 O1 R1 => ?_) h)
  refine hl.d.run (.val v r :: pins) ρ1 σ H1 _ (O1.push R1) (hl.d.mono _ _ _ (fun l ρ2 h2 H2 O2 => ?_) h1)
  refine hh.d.run (.val v r :: pins) ρ2 σ H2 _ O2 (hh.d.mono _ _ _ (fun u ρ3 h3 H3 O3 => ?_) h2)
  obtain ⟨O4, R4⟩ := O3.popV
  obtain ⟨xs, rfl, q⟩ := onT_of h3
  have i1 : Im F.K (Av F pins ρ3 σ) H3 (.tuple xs) v := R4
  obtain ⟨p, vs, rfl, sq, im⟩ := im_tup i1
  refine ⟨p, vs, rfl, sq, fun hw => ?_, fun _ p' hp => ?_⟩
  · have : cutD xs l u = xs := by
      unfold cutD
      rw [← im.length, hw.1, hw.2, List.drop_zero, Nat.sub_zero, im.length, List.take_length]
    rw [this] at q
    exact q _ _ O4 i1
  · obtain ⟨O5, i3⟩ := newTup O4 hp (im.cut l u)
    exact q _ _ O5 i3
end
end DV
namespace DV
open PySem PySem.Spec PyProof.Rows L2
open LamX (ExtN TabS Tabs CodeO)
section
variable {X : Cx} {F : Fm} {tg e e2 a b c : Expr} {te te2 ta tb tc : TE} {de de2 da db dc : TDE} {pos p : Pos} {t : TA} {d : TDA} {dl : TDL}
def dPar3 (i j l : Nat) (t : TDA) : TDS := fun DD ρ => t ρ fun rs ρ1 => match rs with
  | [r, s, u] => noO s ∧ noO u ∧ setR i r ρ1 fun ρ2 => setR j s ρ2 fun ρ3 => setR l u ρ3 DD.nx
  | _ => False
theorem de_l (h : DL F te dl) : DE F te (dOfL dl) := by
  refine ⟨?_, ?_⟩
  · intro pins ρ σ H Q O hq
    refine h.run pins ρ σ H _ O (h.mono _ _ _ (fun xs ρ1 h1 p H1 O1 => ?_) hq)
    obtain ⟨O2, i2⟩ := O1.popL
    exact h1 _ _ O2 i2
  · intro ρ Q Q' hq hh
    exact h.mono _ _ _ (fun xs ρ1 h1 => hq _ _ h1) hh
def dRetL (tl : TDL) : TDS := fun DD ρ => tl ρ DD.rl
end
theorem ds_setLc {X : Cx} {F : Fm} {i : Nat} {y : Str} {py : Pos} {elt tg iter : Expr} {ifs : List Expr} {scope : Scope} {own : List (Str × Nat)} {pos spos : Pos} {wi : TI} {dw : TDI} {g : TG} {dg : TDGt} {tt : TT} {dt : TDT} {te : TE} {de : TDE} (hc : X.calm = true) (hN : X.N.Nodup) (hi : PDI X F tg iter wi dw) (ok : BlkOk X.N X.env.scope scope own)
    (hg : ∀ (s : Shared) (H : Hp) (C : Addr) (cl : List (Str × Addr)) (fp : List Addr), PDG (X.blk s H scope (compEnvC scope cl C X.env) fp) F tg g dg (own.map (·.2))) (ht : ∀ (s : Shared) (H : Hp) (C : Addr) (cl : List (Str × Addr)) (fp : List Addr), PDTs (X.blk s H scope (compEnvC scope cl C X.env) fp) F ifs tt dt)
    (he : ∀ (s : Shared) (H : Hp) (C : Addr) (cl : List (Str × Addr)) (fp : List Addr), PD (X.blk s H scope (compEnvC scope cl C X.env) fp) F elt te de) (hf : ¬ F.fix i)
    (hs : ∀ x, foldedSetIterable iter X.env x = pure x := by intro _; rfl) (hy : X.N[i]? = some y := by rfl) (hyl : X.env.scope.names.lookup y = some .local := by rfl)
    (hsw : swapsWith (.ListComp elt [⟨tg, iter, ifs, 0⟩] scope pos) (some (.Name y py)) spos.line X.env = pure true := by rfl) :
    PDS X F (.Assign [.Name y py] (.ListComp elt [⟨tg, iter, ifs, 0⟩] scope pos) spos) (tAsg (tLc wi g tt te (own.map (·.2))) (gName i)) (dAsg (dOfL (dLc dw dg dt de (own.map (·.2)))) (setR i)) := by
  refine ⟨ps_setLc hc hN hy hyl hsw hi.pi ok (fun s H C cl fp => (hg s H C cl fp).pg) (fun s H C cl fp => (ht s H C cl fp).pts) (fun s H C cl fp => (he s H C cl fp).pe) hs, ?_⟩
  exact dsa (de_l (dl_lc hi.di (hg (PySem.start X.prog).1 (fun _ => none) 0 [] []).dg (ht (PySem.start X.prog).1 (fun _ => none) 0 [] []).dt (he (PySem.start X.prog).1 (fun _ => none) 0 [] []).de)) (dg_name i) fun j hj => by rw [List.mem_singleton.mp hj]; exact hf
end DV
namespace DV
open PySem PySem.Spec PyProof.Rows L2
open LamX (ExtN TabS Tabs CodeO)
/-- a list stands at a while the values pl are in mind -/
def LstAt (F : Fm) (pl : List Pin) (a : Addr) (xs : List PyData) : Prop := ∀ (pins : List Pin) (ρ : Rho) (σ : L2.St) (H : Hp), (∀ q ∈ pl, q ∈ pins) → Ok F pins ρ σ H → ∃ vs, SqL F.K H a vs ∧ ImAll F.K (Av F pins ρ σ) H xs vs
def TupAt (F : Fm) (pl : List Pin) (a : Addr) (xs : List PyData) : Prop := ∀ (pins : List Pin) (ρ : Rho) (σ : L2.St) (H : Hp), (∀ q ∈ pl, q ∈ pins) → Ok F pins ρ σ H → ∃ vs, SqT F.K H a vs ∧ ImAll F.K (Av F pins ρ σ) H xs vs
section
variable {X : Cx} {F : Fm} {tg e e2 a b c : Expr} {te te2 ta tb tc : TE} {de de2 da db dc : TDE} {pos p tpos : Pos} {t : TA} {d : TDA} {dl : TDL} {elts : List Expr} {kk : Nat}
theorem LstAt.up {pl pm : List Pin} {a : Addr} {xs : List PyData} (h : LstAt F pl a xs) (k : ∀ q ∈ pl, q ∈ pm) : LstAt F pm a xs := fun pins ρ σ H hp O => h pins ρ σ H (fun q hq => hp q (k q hq)) O
theorem TupAt.up {pl pm : List Pin} {a : Addr} {xs : List PyData} (h : TupAt F pl a xs) (k : ∀ q ∈ pl, q ∈ pm) : TupAt F pm a xs := fun pins ρ σ H hp O => h pins ρ σ H (fun q hq => hp q (k q hq)) O
/-- what is walked or zipped: a list, or a tuple -/
def seqs (ρ : Rho) : R → Option (Bool × List PyData)
  | .d (.list xs) => some (false, xs)
  | .d (.tuple xs) => some (true, xs)
  | .o i => match ρ[i]? with
    | some (some (.ro (.list xs))) => some (false, xs)
    | some (some (.ro (.tuple xs))) => some (true, xs)
    | _ => none
  | _ => none
def zipD (xs ys : List PyData) : List PyData := List.zipWith (fun x y => .tuple [x, y]) xs ys
def dZip (t : TDA) : TDI := fun ρ Q => t ρ fun rs ρ1 => match rs with
  | [r, s] => match seqs ρ1 r, seqs ρ1 s with
    | some (k, xs), some (l, ys) => k = l ∧ Q (zipD xs ys) ρ1
    | _, _ => False
  | _ => False
def enumD (xs : List PyData) : List PyData := zipD (rng 0 xs.length) xs
end
end DV
namespace DV
open PySem PySem.Spec PyProof.Rows L2
open LamX (ExtN TabS Tabs CodeO)
open AutoSeq1 (wpAny_loadPart')
section
variable {X : Cx} {F : Fm} {tg e e2 a b c : Expr} {te te2 ta tb tc : TE} {de de2 da db dc : TDE} {pos p tpos : Pos} {t : TA} {d : TDA} {elts : List Expr} {kk : Nat}
def dEnum (t : TDA) : TDI := fun ρ Q => t ρ fun rs ρ1 => match rs with
  | [r] => match seqs ρ1 r with
    | some (_, xs) => Q (enumD xs) ρ1
    | _ => False
  | _ => False
end
end DV
set_option maxHeartbeats 4000000
namespace DV
open PySem PySem.Spec PyProof.Rows L2
open LamX (ExtN TabS Tabs CodeO)
abbrev Pr := Int × Int
def lle (p q : Pr) : Prop := p.1 < q.1 ∨ (p.1 = q.1 ∧ p.2 ≤ q.2)
inductive All2 {α β : Type} (R : α → β → Prop) : List α → List β → Prop
  | nil : All2 R [] []
  | cons {a b as bs} : R a b → All2 R as bs → All2 R (a :: as) (b :: bs)
def encP (p : Pr) : PyData := .tuple [.int p.1, .int p.2]
def asPairs : List PyData → Option (List Pr)
  | [] => some []
  | .tuple [.int x, .int y] :: xs => (asPairs xs).map ((x, y) :: ·)
  | _ :: _ => none
theorem All2.len {α β : Type} {R : α → β → Prop} : ∀ {as : List α} {bs : List β}, All2 R as bs → as.length = bs.length
  | _, _, .nil => rfl
  | _, _, .cons _ h => by rw [List.length_cons, List.length_cons, h.len]
/-- a sorted rearrangement -/
def Sortd (ps qs : List Pr) : Prop := qs.Perm ps ∧ qs.Pairwise lle
def SortdI (ps qs : List Int) : Prop := qs.Perm ps ∧ qs.Pairwise (· ≤ ·)
section
variable {X : Cx} {F : Fm} {e : Expr} {t : TA} {d : TDA} {pos : Pos}
def dSort (t : TDA) : TDL := fun ρ Q => t ρ fun rs ρ1 => match rs with
  | [r] => onL ρ1 r fun xs => (∃ ps, asPairs xs = some ps ∧ ∀ qs, Sortd ps qs → Q (qs.map encP) ρ1) ∨ (∃ ns, asInts xs = some ns ∧ ∀ ms, SortdI ns ms → Q (ms.map .int) ρ1)
  | _ => False
end
end DV
set_option maxHeartbeats 4000000
namespace DV
open PySem PySem.Spec PyProof.Rows L2
open LamX (ExtN TabS Tabs CodeO)
/-- each pair once, in order -/
def SortdS (ps qs : List Pr) : Prop := qs.Nodup ∧ qs.Pairwise lle ∧ ∀ p, p ∈ qs ↔ p ∈ ps
section
variable {X : Cx} {F : Fm} {e : Expr} {t : TA} {d : TDA} {pos : Pos}
def dSortSet (t : TDA) : TDL := fun ρ Q => t ρ fun rs ρ1 => match rs with
  | [r] => onL ρ1 r fun xs => ∃ ps, asPairs xs = some ps ∧ ps.length < 64 ∧ ∀ qs, SortdS ps qs → Q (qs.map encP) ρ1
  | _ => False
end
end DV
namespace HQ
open PySem PyProof.Rows
section
variable {prog : Program} {w : World} {A : Around} {E : Value → Shared → Prop} {s : Shared}
abbrev sw (xs : Array Value) (i j : Nat) (x y : Value) : Array Value := (xs.setIfInBounds i y).setIfInBounds j x
end
end HQ
namespace DV
open PySem PySem.Spec PyProof.Rows L2
open LamX (ExtN TabS Tabs CodeO)
end DV
namespace DV
open PySem PySem.Spec PyProof.Rows L2
open LamX (ExtN TabS Tabs CodeO)
end DV
namespace DV
open PySem PySem.Spec PyProof.Rows L2
section
variable {X : Cx} {F : Fm} {e e2 : Expr} {es : List Expr} {t : TA} {d : TDA} {pos p vpos apos cpos : Pos} {te : TE} {de : TDE} {i : Nat} {x : Str}
def dExtend (i : Nat) (t : TDA) : TDE := fun ρ Q => onOwn ρ i fun _ => t ρ fun rs ρ1 => match rs with
  | [r] => onM ρ1 r fun zs => onOwn ρ1 i fun xs => Few (xs.length + zs.length) ∧ Q (.d .none) (ρ1.set i (some (.own (xs ++ zs))))
  | _ => False
end
end DV
namespace DV
open PySem PySem.Spec PyProof.Rows L2
open LamX (ExtN TabS Tabs CodeO)
abbrev sortD (ds : List PyData) : List PyData := ds.mergeSort (PySem.W.dataLe false id)
/-- what can be sorted -/
structure CanSort (ds : List PyData) : Prop where
  al : PySem.W.AllAlike ds
  so : PySem.W.Sortable ds
  dp : ∀ d ∈ ds, d.depth ≤ 50
section
variable {X : Cx} {F : Fm} {e : Expr} {t : TA} {d : TDA} {pos : Pos}
def dSortD (t : TDA) : TDL := fun ρ Q => t ρ fun rs ρ1 => match rs with
  | [r] => onL ρ1 r fun xs => CanSort xs ∧ Q (sortD xs) ρ1
  | _ => False
end
end DV
namespace DV
open PySem PySem.Spec PyProof.Rows L2
open LamX (ExtN TabS Tabs CodeO)
section
variable {X : Cx} {F : Fm} {e e2 : Expr} {t : TA} {d : TDA} {pos p kpos : Pos} {te : TE} {de : TDE}
def dMaxDf (t : TDA) (te : TDE) : TDE := fun ρ Q => t ρ fun rs ρ1 => match rs with
  | [r] => te ρ1 fun s ρ2 => match s, seqs ρ2 r with
    | .d (.int k), some (_, xs) => ∃ ns, asInts xs = some ns ∧ (ns = [] → Q (.d (.int k)) ρ2) ∧ ∀ m, m ∈ ns → (∀ y ∈ ns, y ≤ m) → Q (.d (.int m)) ρ2
    | _, _ => False
  | _ => False
end
end DV
namespace DV
open PySem PySem.Spec PyProof.Rows L2
open LamX (ExtN TabS Tabs CodeO)
open AutoSeq1 (wpAny_loadPart')
section
variable {X : Cx} {F : Fm} {a b : Expr} {ta tb : TE} {da db : TDE} {pos : Pos}
def repD (k : Int) (xs : List PyData) : List PyData := (List.replicate k.toNat xs).flatten
def dRepT (ta tb : TDE) : TDE := dBin ta tb fun r s ρ Q => onT r fun xs => onInt ρ s fun k => (xs ≠ [] ∧ 1 ≤ k ∧ k ≤ 1000 ∧ xs.length ≤ 1000) ∧ Q (.d (.tuple (repD k xs))) ρ
end
end DV
namespace DV
open PySem PySem.Spec PyProof.Rows L2
open LamX (ExtN TabS Tabs CodeO)
section
variable {X : Cx} {F : Fm} {e e2 : Expr} {te te2 : TE} {de de2 : TDE} {pos p p2 pos2 : Pos}
def dRg1 (te : TDE) (k : Int → Int → Rho → Prop) : Rho → Prop := fun ρ => te ρ fun r ρ1 => onInt ρ1 r fun n => RgOk 0 n ∧ k 0 n ρ1
def dRg2 (te te2 : TDE) (k : Int → Int → Rho → Prop) : Rho → Prop := fun ρ => te ρ fun r ρ1 => te2 ρ1 fun s ρ2 => onInt ρ2 r fun a => onInt ρ2 s fun b => RgOk a b ∧ k a b ρ2
def dLstRg (d : (Int → Int → Rho → Prop) → Rho → Prop) : TDL := fun ρ Q => d (fun a b ρ1 => Q (rng a (b - a).toNat) ρ1) ρ
def dTupRg (d : (Int → Int → Rho → Prop) → Rho → Prop) : TDE := fun ρ Q => d (fun a b ρ1 => Q (.d (.tuple (rng a (b - a).toNat))) ρ1) ρ
end
end DV
namespace DV
open PySem PySem.Spec PyProof.Rows L2
open LamX (ExtN TabS Tabs CodeO)
open scoped Rat
def Bd (k : Nat) (i : Int) : Prop := i.natAbs < 2 ^ k
theorem Bd.up {j k : Nat} {i : Int} (h : Bd j i) (z : j ≤ k) : Bd k i := Nat.lt_of_lt_of_le h (Nat.pow_le_pow_right (by decide) z)
theorem Bd.mul {j k : Nat} {x y : Int} (h : Bd j x) (h2 : Bd k y) : Bd (j + k) (x * y) := wide_lt h h2
theorem Bd.add {j k : Nat} {x y : Int} (h : Bd j x) (h2 : Bd k y) : Bd (j + k + 1) (x + y) := by
  have h := h.up (show j ≤ j + k by omega)
  have h2 := h2.up (show k ≤ j + k by omega)
  unfold Bd at *
  have := Int.natAbs_add_le x y
  rw [Nat.pow_succ]; omega
theorem Bd.neg {k : Nat} {x : Int} (h : Bd k x) : Bd k (-x) := by unfold Bd at *; omega
theorem Bd.sub {j k : Nat} {x y : Int} (h : Bd j x) (h2 : Bd k y) : Bd (j + k + 1) (x - y) := by
  rw [Int.sub_eq_add_neg]; exact h.add h2.neg
/-- of one size -/
theorem Bd.add1 {k : Nat} {x y : Int} (h : Bd k x) (h2 : Bd k y) : Bd (k + 1) (x + y) := by
  unfold Bd at *
  have := Int.natAbs_add_le x y
  rw [Nat.pow_succ]; omega
theorem Bd.sub1 {k : Nat} {x y : Int} (h : Bd k x) (h2 : Bd k y) : Bd (k + 1) (x - y) := by
  rw [Int.sub_eq_add_neg]; exact h.add1 h2.neg
theorem Bd.of {k : Nat} {i : Int} (h : -(2 ^ k) < i) (h2 : i < 2 ^ k) : Bd k i := by
  unfold Bd
  have e : ((2 ^ k : Nat) : Int) = 2 ^ k := by simp
  omega
theorem cmb {j k : Nat} {x y : Int} (h : Bd j x) (h2 : Bd k y) (h3 : j + k < 999000 := by decide) : CMulW x y :=
  wide_mul (h.up (Nat.le_succ j)) (h2.up (Nat.le_max_left k 1)) (Nat.succ_pos _) (by omega) (by rcases Nat.le_total k 1 with z | z <;> omega)
theorem cdwB {x y : Int} {k : Nat} (h : 0 < y) (hb : Bd k y) (h9 : k ≤ 8999 := by decide) : CDivW x y := wide_div h (hb.up (Nat.le_succ k)) (Nat.succ_pos _) (by omega)
def fr (q : Rat) : PyData := .tuple [.int q.num, .int (q.den : Int)]
theorem den_pos (q : Rat) : (0 : Int) < q.den := by have := q.den_nz; omega
structure Sz (k : Nat) (q : Rat) : Prop where
  n : Bd k q.num
  d : Bd k (q.den : Int)
theorem Sz.up {j k : Nat} {q : Rat} (h : Sz j q) (z : j ≤ k) : Sz k q := ⟨h.n.up z, h.d.up z⟩
theorem Sz.pos {k : Nat} {q : Rat} (h : Sz k q) : 0 < k := by
  have := h.d; unfold Bd at this
  rcases Nat.eq_zero_or_pos k with rfl | z
  · have := q.den_nz; omega
  · exact z
theorem ediv_bd {k : Nat} {x : Int} {g : Int} (h : Bd k x) (hg : 0 ≤ g) : Bd k (x / g) := by
  unfold Bd at *
  exact Nat.lt_of_le_of_lt (Int.natAbs_ediv_le_natAbs x g) h
theorem sz_divInt {j k : Nat} {n d : Int} (h : Bd j n) (h2 : Bd k d) (hd : d ≠ 0) : Sz (max j k) (n /. d) := by
  constructor
  · rw [Rat.num_divInt]
    refine (ediv_bd (k := j) ?_ (by omega)).up (Nat.le_max_left ..)
    unfold Bd at *
    rw [Int.natAbs_mul]
    have : d.sign.natAbs = 1 := by rw [Int.natAbs_sign_of_ne_zero hd]
    rw [this]; omega
  · rw [Rat.den_divInt, if_neg hd]
    refine Bd.up (j := k) ?_ (Nat.le_max_right ..)
    unfold Bd at *
    rw [Int.natAbs_natCast]
    exact Nat.lt_of_le_of_lt (Nat.div_le_self _ _) h2
theorem rat_ndi (q : Rat) : q = q.num /. (q.den : Int) := (Rat.num_divInt_den q).symm
theorem add_ndi (p q : Rat) : p + q = (p.num * q.den + q.num * p.den) /. (p.den * q.den) := by
  conv => lhs; rw [rat_ndi p, rat_ndi q]
  exact Rat.divInt_add_divInt _ _ (Int.ne_of_gt (den_pos p)) (Int.ne_of_gt (den_pos q))
theorem sub_ndi (p q : Rat) : p - q = (p.num * q.den - q.num * p.den) /. (p.den * q.den) := by
  conv => lhs; rw [rat_ndi p, rat_ndi q]
  exact Rat.divInt_sub_divInt _ _ (Int.ne_of_gt (den_pos p)) (Int.ne_of_gt (den_pos q))
theorem mul_ndi (p q : Rat) : p * q = (p.num * q.num) /. (p.den * q.den) := by
  conv => lhs; rw [rat_ndi p, rat_ndi q]
  exact Rat.divInt_mul_divInt _ _
theorem dd_ne (p q : Rat) : (p.den : Int) * q.den ≠ 0 := Int.ne_of_gt (Int.mul_pos (den_pos p) (den_pos q))
theorem Sz.add {j k : Nat} {p q : Rat} (h : Sz j p) (h2 : Sz k q) : Sz (j + k + 1) (p + q) := by
  rw [add_ndi]
  refine (sz_divInt ((h.n.mul h2.d).add1 ((h2.n.mul h.d).up (show k + j ≤ j + k by omega))) (h.d.mul h2.d) (dd_ne p q)).up (by omega)
theorem Sz.sub {j k : Nat} {p q : Rat} (h : Sz j p) (h2 : Sz k q) : Sz (j + k + 1) (p - q) := by
  rw [sub_ndi]
  refine (sz_divInt ((h.n.mul h2.d).sub1 ((h2.n.mul h.d).up (show k + j ≤ j + k by omega))) (h.d.mul h2.d) (dd_ne p q)).up (by omega)
theorem Sz.mul {j k : Nat} {p q : Rat} (h : Sz j p) (h2 : Sz k q) : Sz (j + k) (p * q) := by
  rw [mul_ndi]
  refine (sz_divInt (h.n.mul h2.n) (h.d.mul h2.d) (dd_ne p q)).up (by omega)
theorem Sz.neg {k : Nat} {p : Rat} (h : Sz k p) : Sz k (-p) := ⟨h.n.neg, h.d⟩
theorem Sz.int {k : Nat} {a : Int} (h : Bd k a) : Sz (max k 1) (a : Rat) := ⟨h.up (Nat.le_max_left ..), Bd.up (j := 1) (by unfold Bd; show (1 : Int).natAbs < 2 ^ 1; decide) (Nat.le_max_right ..)⟩
def SpE {α : Type} (arg : α → List PyData) (pre : α → Prop) (res : α → PyData) : Sd := fun xs Q => ∃ a, xs = arg a ∧ pre a ∧ Q (res a)
theorem m_SpE {α : Type} {arg : α → List PyData} {pre : α → Prop} {res : α → PyData} : MonoP (SpE arg pre res) := fun xs Q Q' hq ⟨a, h1, h2, h3⟩ => ⟨a, h1, h2, hq _ h3⟩
def SpR {α : Type} (arg : α → List PyData) (pre : α → Prop) (post : α → PyData → Prop) : Sd := fun xs Q => ∃ a, xs = arg a ∧ pre a ∧ ∀ z, post a z → Q z
theorem m_SpR {α : Type} {arg : α → List PyData} {pre : α → Prop} {post : α → PyData → Prop} : MonoP (SpR arg pre post) := fun xs Q Q' hq ⟨a, h1, h2, h3⟩ => ⟨a, h1, h2, fun z hz => hq _ (h3 z hz)⟩
/-- with draws: at most n of them -/
def SpB {α : Type} (n : Nat) (arg : α → List PyData) (pre : α → Prop) (post : α → PyData → Prop) : Sb := fun bag xs Q => ∃ a m, Bag m bag ∧ m + n < 2 ^ 60 ∧ xs = arg a ∧ pre a ∧ ∀ z bag', post a z → Bag (m + n) bag' → Q z bag'
theorem m_SpB {α : Type} {n : Nat} {arg : α → List PyData} {pre : α → Prop} {post : α → PyData → Prop} : MonoB (SpB n arg pre post) := fun bag xs Q Q' hq ⟨a, m, h1, h2, h3, h4, h5⟩ => ⟨a, m, h1, h2, h3, h4, fun z b hz hb => hq _ _ (h5 z b hz hb)⟩
def clipR (p : Rat) : Rat := if p < 0 then 0 else if 1 < p then 1 else p
end DV
namespace DV
open PySem PySem.Spec PyProof.Rows L2
open LamX (ExtN TabS Tabs CodeO)
open scoped Rat
structure Lg where
  ax : Int
  ay : Int
  bx : Int
  by' : Int
def pr (a b : Int) : PyData := .tuple [.int a, .int b]
def eL (l : Lg) : PyData := .tuple [pr l.ax l.ay, pr l.bx l.by']
def px (l : Lg) (s : Rat) : Rat := (l.ax : Rat) + s * ((l.bx - l.ax : Int) : Rat)
def py (l : Lg) (s : Rat) : Rat := (l.ay : Rat) + s * ((l.by' - l.ay : Int) : Rat)
def gx (l o : Lg) (s t : Rat) : Rat := px o t - px l s
def gy (l o : Lg) (s t : Rat) : Rat := py o t - py l s
def gsq (l o : Lg) (s t : Rat) : Rat := gx l o s t * gx l o s t + gy l o s t * gy l o s t
abbrev Cn := Rat × Rat
def lexLt (a b : Cn) : Prop := if a.1 ≠ b.1 then a.1 < b.1 else a.2 < b.2
instance (a b : Cn) : Decidable (lexLt a b) := by unfold lexLt; infer_instance
def crn (rho : Rat) : List Cn := [(0, 0), (rho, 0), (1, 1 - rho), (1, 1), (1 - rho, 1), (0, rho)]
def clipP (l o : Lg) (a b : Cn) : Rat :=
  let f1 := gx l o a.1 a.2
  let f2 := gy l o a.1 a.2
  let r1 := gx l o b.1 b.2 - f1
  let r2 := gy l o b.1 b.2 - f2
  let st := r1 * r1 + r2 * r2
  clipR (if st ≠ 0 then ((-1 : Int) : Rat) * (f1 * r1 + f2 * r2) / st else if lexLt b a then 1 else 0)
def onS (l o : Lg) (a b : Cn) : Rat := a.1 + clipP l o a b * (b.1 - a.1)
def onT' (l o : Lg) (a b : Cn) : Rat := a.2 + clipP l o a b * (b.2 - a.2)
abbrev Row3 := Rat × Rat × Rat
def edge (l o : Lg) (a b : Cn) : Row3 := (gsq l o (onS l o a b) (onT' l o a b), onS l o a b, onT' l o a b)
def turnI (l o : Lg) : Int := (l.bx - l.ax) * (o.by' - o.ay) - (l.by' - l.ay) * (o.bx - o.ax)
def inS (l o : Lg) : Rat := ((o.ax - l.ax) * (o.by' - o.ay) - (o.ay - l.ay) * (o.bx - o.ax)) /. turnI l o
def inT (l o : Lg) : Rat := ((o.ax - l.ax) * (l.by' - l.ay) - (o.ay - l.ay) * (l.bx - l.ax)) /. turnI l o
def rabs (q : Rat) : Rat := if q < 0 then -q else q
def okIn (s t rho : Rat) : Prop := ¬ (s < 0 ∨ t < 0 ∨ 1 < s ∨ 1 < t ∨ rho < rabs (s - t))
instance (s t rho : Rat) : Decidable (okIn s t rho) := by unfold okIn; infer_instance
def inner (l o : Lg) (rho : Rat) : List Row3 := if turnI l o = 0 then [] else if okIn (inS l o) (inT l o) rho then [(0, inS l o, inT l o)] else []
def rowLt (a b : Row3) : Prop := a.1 < b.1 ∨ (a.1 = b.1 ∧ lexLt a.2 b.2)
instance (a b : Row3) : Decidable (rowLt a b) := by unfold rowLt; infer_instance
def bestOf : List Row3 → Option Row3
  | rows => rows.foldl (fun best row => match best with
    | none => some row
    | some b => if rowLt row b then some row else some b) none
def edges (l o : Lg) (rho : Rat) : List Row3 := List.zipWith (edge l o) (crn rho) ((crn rho).drop 1 ++ (crn rho).take 1)
def rowsL (l o : Lg) (rho : Rat) : List Row3 := inner l o rho ++ edges l o rho
def nearL (l o : Lg) (rho : Rat) : Row3 := (bestOf (rowsL l o rho)).getD (0, 0, 0)
end DV
namespace DV
open PySem PySem.Spec PyProof.Rows L2
open LamX (ExtN TabS Tabs CodeO)
open scoped Rat
end DV
namespace DV
open PySem PySem.Spec PyProof.Rows L2
open LamX (ExtN TabS Tabs CodeO)
section
variable {X : Cx} {F : Fm} {a b c e : Expr} {es : List Expr} {ta tb tc te : TE} {da db dc de : TDE} {pos : Pos} {t : TA} {d : TDA}
theorem ImAll.reverse {K : PySem.W.Frag} {N : Addr → Prop} {H : Hp} : ∀ {ds : List PyData} {vs : List V}, ImAll K N H ds vs → ImAll K N H ds.reverse vs.reverse
  | [], _, h => by simp only [ImAll] at h; subst h; exact .nil
  | d :: ds, _, h => by
    simp only [ImAll] at h
    obtain ⟨x, xs, rfl, l, t⟩ := h
    rw [List.reverse_cons, List.reverse_cons]
    exact t.reverse.append (.cons l .nil)
def dRevT (te : TDE) : TDE := fun ρ Q => te ρ fun r ρ1 => onT r fun xs => Q (.d (.tuple xs.reverse)) ρ1
theorem pd_glob {x : Str} {v : V} {u : Value} {z : PyData} (hg : Gl X x) (hm : X.mg x = some u) (r : RelV v u) (hz : Sc z v) (hd : (x == ("__debug__" : Str)) = false := by decide) : PD X F (.Name x pos) (tC v) (dC z) := ⟨pe_glob hg hm r hd, de_c hz⟩
theorem pd_globI {x : Str} {i : Int} (hg : Gl X x) (hm : ∃ tk, X.mg x = some (.int i tk)) (hd : (x == ("__debug__" : Str)) = false := by decide) : PD X F (.Name x pos) (tC (.int i)) (dC (.int i)) := pd_glob hg hm.choose_spec ⟨_, rfl⟩ .int hd
end
end DV
namespace DV
open PySem PySem.Spec PyProof.Rows L2
open LamX (ExtN TabS Tabs CodeO)
open scoped Rat
theorem u_take {m : Nat} {n : Int} {bag : List PyData} {Q : PyData → List PyData → Prop} (hb : Bag m bag) (hm : m + 1 < 2 ^ 60) (h0 : 0 < n) (h1 : n ≤ 1000000000) (q : ∀ v bag', 0 ≤ v → v < n → Bag (m + 1) bag' → Q (.int v) bag') : S_take bag [.int n] Q :=
  ⟨m, n, hb, by omega, rfl, h0, Nat.lt_of_lt_of_le (show n.natAbs < 2 ^ 30 by omega) (Nat.pow_le_pow_right (by decide) (by decide)), q⟩
theorem u_some {m : Nat} {ys : List PyData} {bag : List PyData} {Q : PyData → List PyData → Prop} (hb : Bag m bag) (hm : m + 1 < 2 ^ 60) (h0 : 0 < ys.length) (h1 : ys.length ≤ 100000) (q : ∀ y ∈ ys, ∀ bag', Bag (m + 1) bag' → Q y bag') : S_some bag [.list ys] Q :=
  ⟨m, ys, hb, by omega, .inl rfl, h0, h1, fun y b h => q y h b⟩
theorem u_alike {x : PyData} {Q : PyData → Prop} (h : Fine x) (q : Q (.bool true)) : S_alike [x, x] Q := ⟨⟨rfl, h⟩, q⟩
def isI (lo hi : Int) : PyData → Bool
  | .int d => decide (lo ≤ d) && decide (d ≤ hi)
  | _ => false
theorem of_isI {lo hi : Int} {y : PyData} (h : isI lo hi y = true) : ∃ d : Int, y = .int d ∧ lo ≤ d ∧ d ≤ hi := by
  cases y <;> first | cases h | skip
  rename_i d
  simp only [isI, Bool.and_eq_true, decide_eq_true_eq] at h
  exact ⟨d, rfl, h⟩
theorem of_all {lo hi : Int} {ys : List PyData} (h : ys.all (isI lo hi) = true) : ∀ y ∈ ys, ∃ d : Int, y = .int d ∧ lo ≤ d ∧ d ≤ hi := fun y hy => of_isI (List.all_eq_true.mp h y hy)
theorem bd_of {k : Nat} {i : Int} (b : Int) (h1 : -b ≤ i) (h2 : i ≤ b) (hb : b.natAbs < 2 ^ k := by decide) : Bd k i := by unfold Bd; omega
end DV
namespace DV
open PySem PySem.Spec PyProof.Rows L2
open LamX (ExtN TabS Tabs CodeO)
open scoped Rat
def lcIn (g : TDGt) (tt : TDT) (te : TDE) (vs : List Nat) (Q : List PyData → Rho → Prop) (xs : List PyData) (ρ1 : Rho) : Prop :=
  (∀ i ∈ vs, ρ1[i]? = some none) ∧ ∃ I : Nat → List PyData → Rho → Prop, I 0 [] ρ1 ∧
  (∀ i x acc ρ, xs[i]? = some x → I i acc ρ → g (.d x) ρ fun ρ2 => tt ρ2 fun k ρ3 => if k = true then te ρ3 fun r ρ4 => onDat r fun y => Few (acc.length + 1) ∧ I (i + 1) (acc ++ [y]) (wipeR ρ4 vs) else I (i + 1) acc (wipeR ρ3 vs)) ∧
  ∀ acc ρ, I xs.length acc ρ → Q acc (wipeR ρ vs)
theorem dLc_eq {wi : TDI} {g : TDGt} {tt : TDT} {te : TDE} {vs : List Nat} : dLc wi g tt te vs = fun ρ Q => wi ρ fun xs ρ1 => lcIn g tt te vs Q xs ρ1 := rfl
def forIn1 (g : TDGt) (tb : TDS) (DD : DEnds) (xs : List PyData) (ρ1 : Rho) : Prop := ∃ I : Nat → Rho → Prop, I 0 ρ1 ∧
  (∀ i x ρ, xs[i]? = some x → I i ρ → g (.d x) ρ fun ρ2 => tb { DD with nx := I (i + 1), ct := I (i + 1), bk := DD.nx } ρ2) ∧ ∀ ρ, I xs.length ρ → DD.nx ρ
theorem dFor_eq {wi : TDI} {g : TDGt} {tb : TDS} : dFor wi g tb = fun DD ρ => wi ρ fun xs ρ1 => forIn1 g tb DD xs ρ1 := rfl
section
variable {g : TDGt} {tt : TDT} {te : TDE} {tb : TDS} {DD : DEnds} {vs : List Nat} {Q : List PyData → Rho → Prop} {ρ : Rho}
theorem take_succ_some {α : Type} {as : List α} {i : Nat} {a : α} (h : as[i]? = some a) : as.take (i + 1) = as.take i ++ [a] := by
  rw [List.take_succ, h]; rfl
/-- every item is tested and made; nothing else changes -/
theorem lc_fm {α : Type} (as : List α) (enc : α → PyData) (f : α → Option PyData) (hv : ∀ i ∈ vs, ρ[i]? = some none) (hl : as.length ≤ 100000)
    (turn : ∀ (i : Nat) (a : α), as[i]? = some a → ∀ (C1 : PyData → Rho → Prop) (C2 : Rho → Prop) (n : Nat), Few n → (∀ y, f a = some y → C1 y ρ) → (f a = none → C2 ρ) →
      g (.d (enc a)) ρ fun ρ2 => tt ρ2 fun k ρ3 => if k = true then te ρ3 fun r ρ4 => onDat r fun y => Few n ∧ C1 y (wipeR ρ4 vs) else C2 (wipeR ρ3 vs))
    (q : Q (as.filterMap f) (wipeR ρ vs)) : lcIn g tt te vs Q (as.map enc) ρ := by
  refine ⟨hv, fun i acc ρ' => ρ' = ρ ∧ acc = (as.take i).filterMap f, ⟨rfl, rfl⟩, ?_, ?_⟩
  · rintro i x acc _ hx ⟨rfl, rfl⟩
    rw [List.getElem?_map] at hx
    cases ha : as[i]? with
    | none => rw [ha] at hx; cases hx
    | some a =>
      rw [ha] at hx
      cases hx
      have hi := (List.getElem?_eq_some_iff.mp ha).1
      refine turn i a ha (fun y ρ2 => ρ2 = _ ∧ _ = (as.take (i + 1)).filterMap f) (fun ρ2 => ρ2 = _ ∧ _ = (as.take (i + 1)).filterMap f) _ ?_ (fun y hy => ⟨rfl, ?_⟩) fun hn => ⟨rfl, ?_⟩
      · refine few_le ?_
        have := List.length_filterMap_le f (as.take i)
        rw [List.length_take] at this
        omega
      · rw [take_succ_some ha, List.filterMap_append, List.filterMap_cons, hy]; rfl
      · rw [take_succ_some ha, List.filterMap_append, List.filterMap_cons, hn]; exact (List.append_nil _).symm
  · rintro acc _ ⟨rfl, rfl⟩
    rw [List.length_map, List.take_length]
    exact q
theorem lc_map {α : Type} (as : List α) (enc : α → PyData) (f : α → PyData) (hv : ∀ i ∈ vs, ρ[i]? = some none) (hl : as.length ≤ 100000)
    (turn : ∀ (i : Nat) (a : α), as[i]? = some a → ∀ (C1 : PyData → Rho → Prop) (C2 : Rho → Prop) (n : Nat), Few n → C1 (f a) ρ →
      g (.d (enc a)) ρ fun ρ2 => tt ρ2 fun k ρ3 => if k = true then te ρ3 fun r ρ4 => onDat r fun y => Few n ∧ C1 y (wipeR ρ4 vs) else C2 (wipeR ρ3 vs))
    (q : Q (as.map f) (wipeR ρ vs)) : lcIn g tt te vs Q (as.map enc) ρ := by
  refine lc_fm as enc (fun a => some (f a)) hv hl (fun i a ha C1 C2 n hn h1 _ => turn i a ha C1 C2 n hn (h1 _ rfl)) ?_
  rw [show as.filterMap (fun a => some (f a)) = as.map f from by rw [← List.filterMap_eq_map]; rfl]
  exact q
/-- a loop by what holds between its turns: the state is made of s -/
theorem for_st {α S : Type} (as : List α) (enc : α → PyData) (mk : S → Rho) (I : Nat → S → Prop) (s0 : S) (e : ρ = mk s0) (h0 : I 0 s0)
    (turn : ∀ (i : Nat) (a : α) (s : S), as[i]? = some a → I i s → ∀ C : Rho → Prop, (∀ s', I (i + 1) s' → C (mk s')) → g (.d (enc a)) (mk s) fun ρ2 => tb { DD with nx := C, ct := C, bk := DD.nx } ρ2)
    (fin : ∀ s, I as.length s → DD.nx (mk s)) : forIn1 g tb DD (as.map enc) ρ := by
  refine ⟨fun i ρ' => ∃ s, ρ' = mk s ∧ I i s, ⟨s0, e, h0⟩, ?_, ?_⟩
  · rintro i x _ hx ⟨s, rfl, hI⟩
    rw [List.getElem?_map] at hx
    cases ha : as[i]? with
    | none => rw [ha] at hx; cases hx
    | some a =>
      rw [ha] at hx
      cases hx
      exact turn i a s ha hI _ fun s' h' => ⟨s', rfl, h'⟩
  · rintro _ ⟨s, rfl, hI⟩
    rw [List.length_map] at hI
    exact fin s hI
theorem rng_map {lo : Int} {n : Nat} : rng lo n = (List.range n).map fun k => PyData.int (lo + (k : Nat)) := rfl
theorem for_rng {S : Type} (lo : Int) (n : Nat) (mk : S → Rho) (I : Nat → S → Prop) (s0 : S) (e : ρ = mk s0) (h0 : I 0 s0)
    (turn : ∀ (i : Nat) (s : S), i < n → I i s → ∀ C : Rho → Prop, (∀ s', I (i + 1) s' → C (mk s')) → g (.d (.int (lo + (i : Nat)))) (mk s) fun ρ2 => tb { DD with nx := C, ct := C, bk := DD.nx } ρ2)
    (fin : ∀ s, I n s → DD.nx (mk s)) : forIn1 g tb DD (rng lo n) ρ := by
  rw [rng_map]
  refine for_st (List.range n) _ mk I s0 e h0 (fun i a s ha hI C hC => ?_) fun s hs => fin s (by rwa [List.length_range] at hs)
  obtain ⟨hi, e⟩ := List.getElem?_eq_some_iff.mp ha
  rw [List.getElem_range] at e
  subst e
  rw [List.length_range] at hi
  exact turn _ s hi hI C hC
end
end DV
namespace DV
open PySem PySem.Spec PyProof.Rows L2
open LamX (ExtN TabS Tabs CodeO)
open scoped Rat
def within (s t rho : Rat) : Prop := 0 ≤ s ∧ s ≤ 1 ∧ 0 ≤ t ∧ t ≤ 1 ∧ rabs (s - t) ≤ rho
instance (s t rho : Rat) : Decidable (within s t rho) := by unfold within; infer_instance
end DV
namespace DV
open PySem PySem.Spec PyProof.Rows L2
open LamX (ExtN TabS Tabs CodeO)
section
variable {F : Fm} {tt tt1 : TT} {dt dt1 : TDT} {te : TE} {de : TDE}
def dLc2 (wi : TDI) (g : TDGt) (tt : TDT) (wi1 : TDI) (g1 : TDGt) (tt1 : TDT) (te : TDE) (vs vs1 : List Nat) : TDL := fun ρ Q => wi ρ fun xs ρ1 => (∀ i ∈ vs, ρ1[i]? = some none) ∧ ∃ I : Nat → List PyData → Rho → Prop, I 0 [] ρ1 ∧
  (∀ i x acc ρ, xs[i]? = some x → I i acc ρ → g (.d x) ρ fun ρ2 => tt ρ2 fun k ρ3 => if k = true then wi1 ρ3 fun ys ρ4 => (∀ i ∈ vs1, ρ4[i]? = some none) ∧ ∃ J : Nat → List PyData → Rho → Prop, J 0 acc ρ4 ∧
      (∀ j y acc ρ, ys[j]? = some y → J j acc ρ → g1 (.d y) ρ fun ρ5 => tt1 ρ5 fun k ρ6 => if k = true then te ρ6 fun r ρ7 => onDat r fun z => Few (acc.length + 1) ∧ J (j + 1) (acc ++ [z]) (wipeR ρ7 vs1) else J (j + 1) acc (wipeR ρ6 vs1)) ∧
      ∀ acc ρ, J ys.length acc ρ → I (i + 1) acc (wipeR ρ vs)
    else I (i + 1) acc (wipeR ρ3 vs)) ∧
  ∀ acc ρ, I xs.length acc ρ → Q acc (wipeR ρ vs)
end
theorem DG.up {F : Fm} {g : TG} {dg : TDGt} {sl sm : List Nat} (h : DG F g dg sl) (k : ∀ i ∈ sl, i ∈ sm) : DG F g dg sm :=
  ⟨fun pins ρ σ H v r Q P O fr ro d q => h.run pins ρ σ H v r Q P O (fun i hi => fr i (k i hi)) ro d fun ρ' σ' H' O' so p => q ρ' σ' H' O' (fun vs hv => so vs fun i hi => hv i (k i hi)) p, h.mono⟩
end DV
namespace DV
open PySem PySem.Spec PyProof.Rows L2
open LamX (ExtN TabS Tabs CodeO)
open scoped Rat
theorem nodup_le {α : Type} : ∀ {xs ys : List α}, xs.Nodup → (∀ x ∈ xs, x ∈ ys) → xs.length ≤ ys.length
  | [], _, _, _ => Nat.zero_le _
  | x :: xs, ys, h, k => by
    obtain ⟨l, r, rfl⟩ := List.append_of_mem (k x (List.mem_cons_self ..))
    obtain ⟨h1, h2⟩ := List.nodup_cons.mp h
    have := nodup_le (xs := xs) (ys := l ++ r) h2 fun y hy => by
      have hm := k y (List.mem_cons_of_mem _ hy)
      simp only [List.mem_append, List.mem_cons] at hm ⊢
      rcases hm with z | z | z
      · exact .inl z
      · subst z; exact absurd hy h1
      · exact .inr z
    simp only [List.length_append, List.length_cons] at this ⊢
    omega
theorem fw_of {n : Nat} (h : n ≤ 100000) : (n ≤ sizeLine) = True := eq_true (few_le h)
theorem fw0 : ((0 : Nat) ≤ sizeLine) = True := fw_of (by decide)
theorem fw1 : ((0 : Nat) + 1 ≤ sizeLine) = True := fw_of (by decide)
theorem fw2 : ((0 : Nat) + 1 + 1 ≤ sizeLine) = True := fw_of (by decide)
theorem fw3 : ((0 : Nat) + 1 + 1 + 1 ≤ sizeLine) = True := fw_of (by decide)
theorem fw4 : ((0 : Nat) + 1 + 1 + 1 + 1 ≤ sizeLine) = True := fw_of (by decide)
theorem fw5 : ((0 : Nat) + 1 + 1 + 1 + 1 + 1 ≤ sizeLine) = True := fw_of (by decide)
theorem fw6 : ((0 : Nat) + 1 + 1 + 1 + 1 + 1 + 1 ≤ sizeLine) = True := fw_of (by decide)
theorem fw7 : ((0 : Nat) + 1 + 1 + 1 + 1 + 1 + 1 + 1 ≤ sizeLine) = True := fw_of (by decide)
theorem fw8 : ((0 : Nat) + 1 + 1 + 1 + 1 + 1 + 1 + 1 + 1 ≤ sizeLine) = True := fw_of (by decide)
theorem fw9 : ((0 : Nat) + 1 + 1 + 1 + 1 + 1 + 1 + 1 + 1 + 1 ≤ sizeLine) = True := fw_of (by decide)
theorem fw10 : ((0 : Nat) + 1 + 1 + 1 + 1 + 1 + 1 + 1 + 1 + 1 + 1 ≤ sizeLine) = True := fw_of (by decide)
theorem fw11 : ((0 : Nat) + 1 + 1 + 1 + 1 + 1 + 1 + 1 + 1 + 1 + 1 + 1 ≤ sizeLine) = True := fw_of (by decide)
theorem fw12 : ((0 : Nat) + 1 + 1 + 1 + 1 + 1 + 1 + 1 + 1 + 1 + 1 + 1 + 1 ≤ sizeLine) = True := fw_of (by decide)
theorem fw13 : ((0 : Nat) + 1 + 1 + 1 + 1 + 1 + 1 + 1 + 1 + 1 + 1 + 1 + 1 + 1 ≤ sizeLine) = True := fw_of (by decide)
theorem fw14 : ((0 : Nat) + 1 + 1 + 1 + 1 + 1 + 1 + 1 + 1 + 1 + 1 + 1 + 1 + 1 + 1 ≤ sizeLine) = True := fw_of (by decide)
theorem fw15 : ((0 : Nat) + 1 + 1 + 1 + 1 + 1 + 1 + 1 + 1 + 1 + 1 + 1 + 1 + 1 + 1 + 1 ≤ sizeLine) = True := fw_of (by decide)
theorem ite_nt {c : Prop} [Decidable c] {A B : Prop} (h : ¬ c) (k : A) : if (!decide c) = true then A else B := by rw [decide_eq_false h, if_pos (by rfl)]; exact k
theorem ite_nf {c : Prop} [Decidable c] {A B : Prop} (h : c) (k : B) : if (!decide c) = true then A else B := by rw [decide_eq_true h, if_neg (by decide)]; exact k
theorem ite_nb {c : Prop} [Decidable c] {A B : Prop} (k : ¬ c → A) (m : c → B) : if (!decide c) = true then A else B := by
  by_cases h : c
  · exact ite_nf h (m h)
  · exact ite_nt h (k h)
theorem hv1 {ρ : Rho} {i : Nat} (h : ρ[i]? = some none) : ∀ j ∈ [i], ρ[j]? = some none := fun j hj => by
  have : j = i := by simpa using hj
  rw [this]; exact h
end DV
namespace DV
open PySem PySem.Spec PyProof.Rows L2
open LamX (ExtN TabS Tabs CodeO)
section
variable {X : Cx} {F : Fm} {st : Stmt} {ts : TS} {ds : TDS} {tt : TT} {dt : TDT} {te : TE} {de : TDE}
def dFrz (i : Nat) (t : TDS) : TDS := fun DD ρ => onOwn ρ i fun xs => t DD (ρ.set i (some (.d (.list xs))))
def lcO (k : Nat) (g : TDGt) (tt : TDT) (te : TDE) (vs : List Nat) (Q : List PyData → Rho → Prop) (xs : List PyData) (ρ1 : Rho) : Prop :=
  ((∀ i ∈ vs, ρ1[i]? = some none) ∧ k ∉ vs) ∧ ∃ I : Nat → List PyData → Rho → Prop, I 0 [] ρ1 ∧
  (∀ i x acc ρ, xs[i]? = some x → I i acc ρ → ρ[k]? = some (some (.own xs)) → g (.d x) ρ fun ρ2 => tt ρ2 fun b ρ3 => if b = true then te ρ3 fun r ρ4 => onDat r fun y => Few (acc.length + 1) ∧ ρ4[k]? = some (some (.own xs)) ∧ I (i + 1) (acc ++ [y]) (wipeR ρ4 vs) else ρ3[k]? = some (some (.own xs)) ∧ I (i + 1) acc (wipeR ρ3 vs)) ∧
  ∀ acc ρ, I xs.length acc ρ → ρ[k]? = some (some (.own xs)) → Q acc (wipeR ρ vs)
def dLcO (k : Nat) (g : TDGt) (tt : TDT) (te : TDE) (vs : List Nat) : TDL := fun ρ Q => onOwn ρ k fun xs => lcO k g tt te vs Q xs ρ
end
open scoped Rat
end DV
namespace DV
open PySem PySem.Spec PyProof.Rows L2
open LamX (ExtN TabS Tabs CodeO)
open scoped Rat
structure Shp (k : Nat) (d : PyData) : Prop where
  lay : d.canLay0 = true
  deep : d.depth ≤ k
theorem Shp.up {j k : Nat} {d : PyData} (h : Shp j d) (z : j ≤ k) : Shp k d := ⟨h.lay, Nat.le_trans h.deep z⟩
theorem Shp.shaped {k : Nat} {d : PyData} (h : Shp k d) (z : k ≤ 64 := by decide) : SeqAt.shaped d = true := by
  unfold SeqAt.shaped
  rw [Bool.and_eq_true, decide_eq_true_eq]
  exact ⟨h.lay, Nat.le_trans h.deep z⟩
theorem Shp.int {i : Int} : Shp 0 (.int i) := ⟨by simp [PyData.canLay0], by simp [PyData.depth]⟩
theorem Shp.bool {i : Bool} : Shp 0 (.bool i) := ⟨by simp [PyData.canLay0], by simp [PyData.depth]⟩
theorem Shp.none : Shp 0 .none := ⟨by simp [PyData.canLay0], by simp [PyData.depth]⟩
theorem shps {k : Nat} : ∀ {xs : List PyData}, (∀ x ∈ xs, Shp k x) → PyData.canLayAll0 xs = true ∧ PyData.depthAll xs ≤ k
  | [], _ => ⟨by simp [PyData.canLayAll0], by simp [PyData.depthAll]⟩
  | x :: xs, h => by
    have a := h x (List.mem_cons_self ..)
    have b := shps (xs := xs) fun y hy => h y (List.mem_cons_of_mem _ hy)
    simp only [PyData.canLayAll0, PyData.depthAll, Bool.and_eq_true]
    exact ⟨⟨a.lay, b.1⟩, Nat.max_le.mpr ⟨a.deep, b.2⟩⟩
theorem Shp.tuple {k : Nat} {xs : List PyData} (h : ∀ x ∈ xs, Shp k x) : Shp (k + 1) (.tuple xs) := by
  have := shps h
  exact ⟨by simp only [PyData.canLay0]; exact this.1, by simp only [PyData.depth]; omega⟩
theorem Shp.list {k : Nat} {xs : List PyData} (h : ∀ x ∈ xs, Shp k x) : Shp (k + 1) (.list xs) := by
  have := shps h
  exact ⟨by simp only [PyData.canLay0]; exact this.1, by simp only [PyData.depth]; omega⟩
theorem Shp.map {α : Type} {k : Nat} {f : α → PyData} {xs : List α} (h : ∀ x ∈ xs, Shp k (f x)) : ∀ y ∈ xs.map f, Shp k y := fun y hy => by
  obtain ⟨x, hx, rfl⟩ := List.mem_map.mp hy
  exact h x hx
theorem all2 {P : PyData → Prop} {a b : PyData} (h : P a) (k : P b) : ∀ x ∈ [a, b], P x := fun x hx => by
  have : x = a ∨ x = b := by simpa using hx
  rcases this with e | e <;> rw [e] <;> assumption
theorem all3 {P : PyData → Prop} {a b c : PyData} (h : P a) (k : P b) (l : P c) : ∀ x ∈ [a, b, c], P x := fun x hx => by
  have : x = a ∨ x = b ∨ x = c := by simpa using hx
  rcases this with e | e | e <;> rw [e] <;> assumption
/-- as Fine, with numbers -/
structure Fn (k c : Nat) (d : PyData) : Prop where
  ok : okd d = true
  deep : d.depth ≤ k
  few : cost d ≤ c
theorem Fn.up {j k b c : Nat} {d : PyData} (h : Fn j b d) (z : j ≤ k) (y : b ≤ c) : Fn k c d := ⟨h.ok, Nat.le_trans h.deep z, Nat.le_trans h.few y⟩
theorem Fn.fine {k c : Nat} {d : PyData} (h : Fn k c d) (z : k ≤ 60 := by decide) (y : c ≤ 16000000 := by decide) : Fine d := ⟨h.ok, Nat.le_trans h.deep z, Nat.le_trans h.few y⟩
theorem Fn.int {i : Int} {k : Nat} (h : Bd k i) (z : k ≤ 1000 := by decide) : Fn 0 1001 (.int i) := by
  refine ⟨?_, by simp [PyData.depth], by simp [cost]⟩
  simp only [okd, decide_eq_true_eq]
  by_cases h0 : i.natAbs = 0
  · rw [h0]; decide
  · exact Nat.lt_of_lt_of_le ((Nat.log2_lt h0).mpr h) z
theorem Fn.bool {b : Bool} : Fn 0 5 (.bool b) := ⟨by simp [okd], by simp [PyData.depth], by simp [cost]⟩
theorem Fn.none : Fn 0 5 .none := ⟨by simp [okd], by simp [PyData.depth], by simp [cost]⟩
theorem fas {k c : Nat} : ∀ {xs : List PyData}, (∀ x ∈ xs, Fn k c x) → okds xs = true ∧ PyData.depthAll xs ≤ k ∧ costs xs ≤ xs.length * (c + 2)
  | [], _ => ⟨by simp [okds], by simp [PyData.depthAll], by simp [costs]⟩
  | x :: xs, h => by
    have a := h x (List.mem_cons_self ..)
    have b := fas (xs := xs) fun y hy => h y (List.mem_cons_of_mem _ hy)
    simp only [okds, PyData.depthAll, costs, Bool.and_eq_true, List.length_cons]
    have := a.few
    refine ⟨⟨a.ok, b.1⟩, Nat.max_le.mpr ⟨a.deep, b.2.1⟩, ?_⟩
    rw [Nat.succ_mul]
    omega
theorem Fn.tuple {k c n : Nat} {xs : List PyData} (h : ∀ x ∈ xs, Fn k c x) (hn : xs.length ≤ n) : Fn (k + 1) (n * (c + 2) + 3) (.tuple xs) := by
  obtain ⟨a, b, d⟩ := fas h
  have := Nat.mul_le_mul_right (c + 2) hn
  exact ⟨by simp only [okd]; exact a, by simp only [PyData.depth]; omega, by simp only [cost]; omega⟩
theorem Fn.list {k c n : Nat} {xs : List PyData} (h : ∀ x ∈ xs, Fn k c x) (hn : xs.length ≤ n) : Fn (k + 1) (n * (c + 2) + 3) (.list xs) := by
  obtain ⟨a, b, d⟩ := fas h
  have := Nat.mul_le_mul_right (c + 2) hn
  exact ⟨by simp only [okd]; exact a, by simp only [PyData.depth]; omega, by simp only [cost]; omega⟩
theorem Fn.map {α : Type} {k c : Nat} {f : α → PyData} {xs : List α} (h : ∀ x ∈ xs, Fn k c (f x)) : ∀ y ∈ xs.map f, Fn k c y := fun y hy => by
  obtain ⟨x, hx, rfl⟩ := List.mem_map.mp hy
  exact h x hx
abbrev P2 := Int × Int
def enc2 (p : P2) : PyData := pr p.1 p.2
/-- within so much of 0 -/
def Inb (b : Int) (p : P2) : Prop := -b ≤ p.1 ∧ p.1 ≤ b ∧ -b ≤ p.2 ∧ p.2 ≤ b
end DV
namespace DV
open PySem PySem.Spec PyProof.Rows L2
open LamX (ExtN TabS Tabs CodeO)
section
variable {X : Cx} {F : Fm} {e e2 : Expr} {t : TA} {d : TDA} {pos p : Pos}
def dMin2D (t : TDA) : TDE := fun ρ Q => t ρ fun rs ρ1 => match rs with
  | [.d x, .d y] => (PySem.W.AlikeAll [x, y] ∧ PyData.depthAll [x, y] ≤ 50) ∧ Q (.d (if PySem.W.dataLt y x = true then y else x)) ρ1
  | _ => False
end
end DV
namespace DV
open PySem PySem.Spec PyProof.Rows L2
open LamX (ExtN TabS Tabs CodeO)
open scoped Rat
end DV
namespace DV
open PySem PySem.Spec PyProof.Rows L2
open LamX (ExtN TabS Tabs CodeO)
open scoped Rat
end DV
namespace DV
open PySem PySem.Spec PyProof.Rows L2
open LamX (ExtN TabS Tabs CodeO)
open scoped Rat
end DV
namespace DV
open PySem PySem.Spec PyProof.Rows L2
open LamX (ExtN TabS Tabs CodeO)
open scoped Rat
end DV
namespace DV
open PySem PySem.Spec PyProof.Rows L2
open LamX (ExtN TabS Tabs CodeO)
open scoped Rat
def crI (p q : P2) : Int := p.1 * q.2 - p.2 * q.1
def sideOk (p q : P2) (least : Int) : Prop :=
  let x := q.1 - p.1
  let y := q.2 - p.2
  let along := -(p.1 * x + p.2 * y)
  if along ≤ 0 then least ≤ p.1 * p.1 + p.2 * p.2 else if x * x + y * y ≤ along then least ≤ q.1 * q.1 + q.2 * q.2 else least * (x * x + y * y) ≤ crI p q * crI p q
instance (p q : P2) (least : Int) : Decidable (sideOk p q least) := by unfold sideOk; infer_instance
end DV
namespace DV
open PySem PySem.Spec PyProof.Rows L2
open LamX (ExtN TabS Tabs CodeO)
open scoped Rat
end DV
namespace DV
open PySem PySem.Spec PyProof.Rows L2
open LamX (ExtN TabS Tabs CodeO)
open scoped Rat
def Bd2 (k : Nat) (p : P2) : Prop := Bd k p.1 ∧ Bd k p.2
theorem Bd2.up {j k : Nat} {p : P2} (h : Bd2 j p) (z : j ≤ k) : Bd2 k p := ⟨h.1.up z, h.2.up z⟩
theorem on_nat {xs : List PyData} {n : Nat} {x : PyData} {f : PyData → Prop} (h : xs[n]? = some x) : onAt xs (n : Int) f = f x := by
  have hl := (List.getElem?_eq_some_iff.mp h).1
  unfold onAt
  have : atI xs (n : Int) = some x := by
    unfold atI ixN
    rw [if_pos (by omega), if_pos (by omega)]
    exact h
  rw [this]
theorem on4 {a b c d x : PyData} {xs : List PyData} {f : PyData → Prop} : onAt (a :: b :: c :: d :: x :: xs) 4 f = f x := on_nat (n := 4) rfl
theorem on5 {a b c d e x : PyData} {xs : List PyData} {f : PyData → Prop} : onAt (a :: b :: c :: d :: e :: x :: xs) 5 f = f x := on_nat (n := 5) rfl
end DV
namespace DV
open PySem PySem.Spec PyProof.Rows L2
open LamX (ExtN TabS Tabs CodeO)
open scoped Rat
def lexI (p q : P2) : Prop := p.1 < q.1 ∨ (p.1 = q.1 ∧ p.2 < q.2)
instance (p q : P2) : Decidable (lexI p q) := by unfold lexI; infer_instance
end DV
namespace DV
open PySem PySem.Spec PyProof.Rows L2
open LamX (ExtN TabS Tabs CodeO)
open scoped Rat
end DV
namespace DV
open PySem PySem.Spec PyProof.Rows L2
open LamX (ExtN TabS Tabs CodeO)
open scoped Rat
inductive Paper
  | near (p q : Rat)
  | away (a b : Int)
/-- how far a corner lies in a direction -/
def far (l o : Lg) (a b : Int) (c : Cn) : Rat := (a : Rat) * gx l o c.1 c.2 + (b : Rat) * gy l o c.1 c.2
def farOk (l o : Lg) (r : Int) (a b : Int) (c : Cn) : Prop := 0 < far l o a b c ∧ ((r * r * (a * a + b * b) : Int) : Rat) ≤ far l o a b c * far l o a b c
instance (l o : Lg) (r a b : Int) (c : Cn) : Decidable (farOk l o r a b c) := by unfold farOk; infer_instance
def paperOk (l o : Lg) (rho : Rat) (r : Int) : Paper → Prop
  | .near p q => gsq l o p q < ((r * r : Int) : Rat) ∧ within p q rho
  | .away a b => ¬ (a = 0 ∧ b = 0) ∧ ∀ c ∈ crn rho, farOk l o r a b c
instance (l o : Lg) (rho : Rat) (r : Int) (w : Paper) : Decidable (paperOk l o rho r w) := by
  cases w <;> unfold paperOk <;> infer_instance
end DV
namespace DV
open PySem PySem.Spec PyProof.Rows L2
open LamX (ExtN TabS Tabs CodeO)
open scoped Rat
section
variable {X : Cx} {F : Fm} {a b c e : Expr} {es : List Expr} {ta tb tc te : TE} {da db dc de : TDE} {pos : Pos}
def fIsB : F2
  | .bool a, .bool b, Q => Q (.bool (decide (a = b)))
  | _, _, _ => False
def fNotB : F2
  | .bool a, .bool b, Q => Q (.bool (!decide (a = b)))
  | _, _, _ => False
variable {k : Bool} {j : Nat} {p2 : Pos}
end
end DV
namespace DV
open PySem PySem.Spec PyProof.Rows L2
open LamX (ExtN TabS Tabs CodeO)
open scoped Rat
section
variable {X : Cx} {F : Fm} {st : Stmt} {ts : TS} {ds : TDS}
def dFgt (i : Nat) (t : TDS) : TDS := fun DD ρ => t DD (ρ.set i none)
theorem ds_fgt {i : Nat} (h : PDS X F st ts ds) (hf : ¬ F.fix i) : PDS X F st ts (dFgt i ds) := by
  refine ⟨h.ps, fun pins ρ σ H D DD O S R k => ?_⟩
  have O2 := O.wipe (vs := [i]) (fun j hj => by rw [List.mem_singleton.mp hj]; exact S.fr hf)
  have O3 : Ok F pins (wipeR ρ [i]) σ H := Ok.unwipe (vs := [i]) O2 fun j hj => by
    rw [List.mem_singleton.mp hj]
    by_cases hl : i < ρ.length
    · exact .inl (wipeR_none (List.mem_singleton.mpr rfl) hl)
    · exact .inr (List.getElem?_eq_none (by rw [wipeR_len]; omega))
  exact h.ds pins _ σ H D DD O3 S R k
end
end DV
namespace DV
open PySem PySem.Spec PyProof.Rows L2
open LamX (ExtN TabS Tabs CodeO)
structure Zp where
  z : Addr
  TI : Addr
  TO : Addr
  i1 : Addr
  i2 : Addr
  l1 : Addr
  l2 : Addr
  xs : Array Value
  ys : Array Value
def Zp.n (p : Zp) : Nat := min p.xs.size p.ys.size
structure Zp.St (p : Zp) (b : Nat) (i : Nat) (h : Heap) : Prop where
  ti : PySem.IsPair h p.TI (Value.ref p.i1) (Value.ref p.i2)
  a1 : h.IsListIter p.i1 p.l1 i
  a2 : h.IsListIter p.i2 p.l2 i
  m1 : h.IsList p.l1 p.xs
  m2 : h.IsList p.l2 p.ys
  zip : (PySem.IsZip h p.z p.TI p.TO .none ∧ ∃ a c, PySem.IsPair h p.TO a c) ∨ ∃ T f oT, PySem.IsZipHeld h p.z p.TI p.TO T f ∧ h.get? T = some oT ∧ b ≤ (T : Nat)
structure Zp.Ps (p : Zp) (b : Nat) (i : Nat) (acc : Array Value) (h : Heap) : Prop where
  sz : acc.size = i
  at' : ∀ j : Nat, j < i → ∃ T x y, acc[j]? = some (Value.ref T) ∧ p.xs[j]? = some x ∧ p.ys[j]? = some y ∧ PySem.IsPair h T x y ∧ b ≤ (T : Nat)
  inc : ∀ (j k : Nat) (T U : Addr), j < k → acc[j]? = some (Value.ref T) → acc[k]? = some (Value.ref U) → (T : Nat) < (U : Nat)
end DV
namespace DV
open PySem PySem.Spec PyProof.Rows L2
open LamX (ExtN TabS Tabs CodeO)
section
variable {prog : Program} {w : World} {A : Around} {E : Value → Shared → Prop} {s : Shared}
structure Zp.In (p : Zp) (h : Heap) : Prop where
  D : ZipApart p.z p.TI p.TO p.i1 p.i2 p.l1 p.l2
  n : p.n ≤ 2 ^ 24
  z : PySem.IsZip h p.z p.TI p.TO .none
  TI : PySem.IsPair h p.TI (Value.ref p.i1) (Value.ref p.i2)
  TO : ∃ a c, PySem.IsPair h p.TO a c
  i1 : h.IsListIter p.i1 p.l1 0
  i2 : h.IsListIter p.i2 p.l2 0
  l1 : h.IsList p.l1 p.xs
  l2 : h.IsList p.l2 p.ys
end
def refOf : Value → Addr
  | .ref T => T
  | _ => 0
theorem Zp.Ps.list {p : Zp} {b n : Nat} {acc : Array Value} {h : Heap} (s : p.Ps b n acc h) : ∃ Ts : List Addr, acc.toList = Ts.map Value.ref ∧ Ts.length = n ∧ Ts.Nodup ∧ ∀ (j : Nat) (T : Addr), Ts[j]? = some T → ∃ x y, p.xs[j]? = some x ∧ p.ys[j]? = some y ∧ PySem.IsPair h T x y ∧ b ≤ (T : Nat) := by
  have hl : acc.toList.length = n := by rw [Array.length_toList]; exact s.sz
  have at2 : ∀ j : Nat, j < n → ∃ T x y, acc.toList[j]? = some (Value.ref T) ∧ p.xs[j]? = some x ∧ p.ys[j]? = some y ∧ PySem.IsPair h T x y ∧ b ≤ (T : Nat) := fun j hj => by
    obtain ⟨T, x, y, e1, r⟩ := s.at' j hj
    exact ⟨T, x, y, by rw [Array.getElem?_toList]; exact e1, r⟩
  refine ⟨acc.toList.map refOf, ?_, by rw [List.length_map, hl], ?_, fun j T hT => ?_⟩
  · rw [List.map_map]
    refine List.ext_getElem? fun j => ?_
    rw [List.getElem?_map]
    by_cases hj : j < n
    · obtain ⟨T, x, y, e, _⟩ := at2 j hj
      rw [e]; rfl
    · rw [List.getElem?_eq_none (by omega)]; rfl
  · refine List.nodup_iff_pairwise_ne.mpr (List.pairwise_iff_getElem.mpr fun j k hj hk hjk => ?_)
    rw [List.length_map] at hj hk
    obtain ⟨T, _, _, e, _⟩ := at2 j (by omega)
    obtain ⟨U, _, _, e', _⟩ := at2 k (by omega)
    have := s.inc j k T U hjk (by rw [← Array.getElem?_toList]; exact e) (by rw [← Array.getElem?_toList]; exact e')
    rw [List.getElem_map, List.getElem_map]
    rw [List.getElem?_eq_getElem hj] at e
    rw [List.getElem?_eq_getElem hk] at e'
    rw [Option.some.inj e, Option.some.inj e']
    exact Nat.ne_of_lt this
  · rw [List.getElem?_map] at hT
    by_cases hj : j < n
    · obtain ⟨T', x, y, e, r⟩ := at2 j hj
      rw [e] at hT
      cases hT
      exact ⟨x, y, r⟩
    · rw [List.getElem?_eq_none (by omega)] at hT; cases hT
end DV
namespace DV
open PySem PySem.Spec PyProof.Rows L2
open LamX (ExtN TabS Tabs CodeO)
section
variable {X : Cx} {F : Fm} {e e2 : Expr} {t : TA} {d : TDA} {p p2 pos pos2 : Pos}
def dTupZip (t : TDA) : TDE := fun ρ Q => t ρ fun rs ρ1 => match rs with
  | [r, s] => match seqs ρ1 r, seqs ρ1 s with
    | some (false, xs), some (false, ys) => Q (.d (.tuple (zipD xs ys))) ρ1
    | _, _ => False
  | _ => False
end
end DV
namespace DV
open PySem PySem.Spec PyProof.Rows L2
open LamX (ExtN TabS Tabs CodeO)
section
variable {X : Cx} {F : Fm} {k : Expr} {tk : TE} {dk : TDE} {i : Nat} {x : Str} {vpos spos : Pos}
def dgSet (i : Nat) (tk : TDE) : TDGt := fun r ρ P => onDat r fun y => onOwn ρ i fun _ => tk ρ fun s ρ2 => onV ρ2 s fun k => onOwn ρ2 i fun xs => match k with
  | .int k => (0 ≤ k ∧ k < xs.length) ∧ P (ρ2.set i (some (.own (xs.set k.toNat y))))
  | _ => False
end
end DV
namespace DV
open PySem PySem.Spec PyProof.Rows L2
open LamX (ExtN TabS Tabs CodeO)
section
variable {X : Cx} {F : Fm} {o e : Expr} {to : TE} {dl : TDL} {t : TA} {d : TDA} {apos cpos : Pos}
def dAppX (dl : TDL) (d : TDA) : TDE := fun ρ Q => dl ρ fun xs ρ1 => d ρ1 fun rs ρ2 => match rs with
  | [.d y] => Few (xs.length + 1) ∧ Q (.d .none) ρ2
  | _ => False
end
end DV
namespace DV
open PySem PySem.Spec PyProof.Rows L2
open LamX (ExtN TabS Tabs CodeO)
section
variable {g g1 : TDGt} {tt tt1 : TDT} {te : TDE} {wi1 : TDI} {vs vs1 : List Nat} {Q : List PyData → Rho → Prop} {ρ : Rho}
def lc2In (g : TDGt) (tt : TDT) (wi1 : TDI) (g1 : TDGt) (tt1 : TDT) (te : TDE) (vs vs1 : List Nat) (Q : List PyData → Rho → Prop) (xs : List PyData) (ρ1 : Rho) : Prop := (∀ i ∈ vs, ρ1[i]? = some none) ∧ ∃ I : Nat → List PyData → Rho → Prop, I 0 [] ρ1 ∧
  (∀ i x acc ρ, xs[i]? = some x → I i acc ρ → g (.d x) ρ fun ρ2 => tt ρ2 fun k ρ3 => if k = true then wi1 ρ3 fun ys ρ4 => (∀ i ∈ vs1, ρ4[i]? = some none) ∧ ∃ J : Nat → List PyData → Rho → Prop, J 0 acc ρ4 ∧
      (∀ j y acc ρ, ys[j]? = some y → J j acc ρ → g1 (.d y) ρ fun ρ5 => tt1 ρ5 fun k ρ6 => if k = true then te ρ6 fun r ρ7 => onDat r fun z => Few (acc.length + 1) ∧ J (j + 1) (acc ++ [z]) (wipeR ρ7 vs1) else J (j + 1) acc (wipeR ρ6 vs1)) ∧
      ∀ acc ρ, J ys.length acc ρ → I (i + 1) acc (wipeR ρ vs)
    else I (i + 1) acc (wipeR ρ3 vs)) ∧
  ∀ acc ρ, I xs.length acc ρ → Q acc (wipeR ρ vs)
theorem dLc2_eq {wi : TDI} : dLc2 wi g tt wi1 g1 tt1 te vs vs1 = fun ρ Q => wi ρ fun xs ρ1 => lc2In g tt wi1 g1 tt1 te vs vs1 Q xs ρ1 := rfl
end
theorem cut_take {xs : List PyData} {c : Int} (h : 0 ≤ c) : DV.cutD xs none (some c) = xs.take c.toNat := by
  unfold DV.cutD HT.sIx
  simp only [List.drop_zero]
  rw [if_neg (by omega)]
  apply List.ext_getElem?
  intro n
  simp only [List.getElem?_take]
  by_cases hn : n < xs.length
  · congr 1
    simp only [eq_iff_iff]
    omega
  · rw [List.getElem?_eq_none (by omega)]
    simp
end DV
namespace DV
open PySem PySem.Spec PyProof.Rows L2
open LamX (ExtN TabS Tabs CodeO)
section
variable {X : Cx} {F : Fm} {a b : Expr} {ta tb : TE} {da db : TDE} {pos : Pos}
def fNeS : F2
  | .str x, .str y, Q => Q (.bool (!decide (x = y)))
  | _, _, _ => False
def dRepL (ta tb : TDE) : TDL := fun ρ Q => ta ρ fun r ρ1 => tb ρ1 fun s ρ2 => onM ρ2 r fun xs => onInt ρ2 s fun k => (-(2 ^ 62) ≤ k ∧ k < 2 ^ 62 ∧ Few (xs.length * k.toNat)) ∧ Q (repD k xs) ρ2
end
end DV
namespace DV
open PySem PySem.Spec PyProof.Rows L2
open LamX (ExtN TabS Tabs CodeO)
open scoped Rat
structure Bn where
  sp : Int
  near : Int
  wind : Int
  clk : Int
  fall : Int
  way : Int
  sil : Int
  cuts : Int
  deep : Int
def eB (b : Bn) : PyData := .tuple [.int b.sp, .int b.near, .int b.wind, .int b.clk, .int b.fall, .int b.way, .int b.sil, .int b.cuts, .int b.deep]
def Bn.r (b : Bn) : Int := b.near + 2 * b.wind
def Bn.lag (b : Bn) : Int := b.fall + 2 * b.clk
/-- so large at most -/
structure BnB (k : Nat) (b : Bn) : Prop where
  sp : Bd k b.sp
  near : Bd k b.near
  wind : Bd k b.wind
  clk : Bd k b.clk
  fall : Bd k b.fall
  way : Bd k b.way
theorem BnB.r {k : Nat} {b : Bn} (h : BnB k b) : Bd (k + 3) b.r := (h.near.up (show k ≤ k + 2 by omega)).add1 (((show Bd 2 2 by unfold Bd; decide).mul h.wind).up (by omega))
theorem BnB.lag {k : Nat} {b : Bn} (h : BnB k b) : Bd (k + 3) b.lag := (h.fall.up (show k ≤ k + 2 by omega)).add1 (((show Bd 2 2 by unfold Bd; decide).mul h.clk).up (by omega))
structure BnOk (b : Bn) : Prop where
  sp0 : 1 ≤ b.sp
  sp1 : b.sp ≤ 100
  near0 : 1 ≤ b.near
  near1 : b.near ≤ 100
  wind0 : 0 ≤ b.wind
  wind1 : b.wind ≤ 20
  clk0 : 0 ≤ b.clk
  clk1 : b.clk ≤ 5
  fall0 : 0 ≤ b.fall
  fall1 : b.fall ≤ 20
  way0 : b.sp ≤ b.way
  way1 : b.way ≤ 700
  sil0 : 1 ≤ b.sil
  sil1 : b.sil ≤ 3
  cuts0 : 0 ≤ b.cuts
  cuts1 : b.cuts ≤ 2
  deep0 : 1 ≤ b.deep
  deep1 : b.deep ≤ 6
theorem BnOk.bd {b : Bn} (h : BnOk b) : BnB 10 b := by
  obtain ⟨h1, h2, h3, h4, h5, h6, h7, h8, h9, h10, h11, h12, _⟩ := h
  exact ⟨bd_of 700 (by omega) (by omega), bd_of 700 (by omega) (by omega), bd_of 700 (by omega) (by omega), bd_of 700 (by omega) (by omega), bd_of 700 (by omega) (by omega), bd_of 700 (by omega) (by omega)⟩
theorem BnOk.r0 {b : Bn} (h : BnOk b) : 1 ≤ b.r ∧ b.r ≤ 140 := by have := h.near0; have := h.near1; have := h.wind0; have := h.wind1; unfold Bn.r; omega
theorem BnOk.lag0 {b : Bn} (h : BnOk b) : 0 ≤ b.lag ∧ b.lag ≤ 30 := by have := h.clk0; have := h.clk1; have := h.fall0; have := h.fall1; unfold Bn.lag; omega
def rhoT (b : Bn) (t : Int) : Rat := b.lag /. t
theorem rd_some_r {bag xs : List PyData} {Q : PyData → List PyData → Prop} (hS : S_some bag xs Q) :
    dRet (dIx (dVar 1) (dCallB [Kd.d] S_take (dCons (dVar 0) (dCons (dCB fLen (dCons (dVar 1) dNil)) dNil)))) { nx := fun ρ => retB (.d .none) ρ Q, rt := fun r ρ => retB r ρ Q } (some (.own bag) :: rhoP 1 [.ro] xs) := by
  obtain ⟨m, ys, hb, hm, hx, h0, h1, q⟩ := hS
  have key : ∀ n : Int, n = (ys.length : Nat) → S_take bag [.int n] fun z bag' => ∃ v : Int, z = .int v ∧ 0 ≤ v ∧ v < ys.length ∧ Bag (m + 1) bag' := fun n hn =>
    ⟨m, n, hb, hm, rfl, by omega, Nat.lt_of_lt_of_le (by omega : n.natAbs < 2 ^ 17) (Nat.pow_le_pow_right (by decide) (by decide)), fun v bag' a1 a2 a3 => ⟨v, rfl, a1, by omega, a3⟩⟩
  rcases hx with rfl | rfl
  · have e : (some (.own bag) :: rhoP 1 [.ro] [.list ys] : Rho) = [some (.own bag), some (.ro (.list ys))] := rfl
    rw [e]
    simp only [dSeq, dAsg, dCB, dCons, dNil, dVar, onVs, vals, val, slot, setR, fGcd, dIfS, dTV, dOp, dBin, onV2, fLt, fLe, fGt, fGe, fAdd, fSub, fMul, fDiv, fMod, fI0, dC, dUn, onV, fNeg, dNext, dRet, dTup, onD, dats, fDivZ, fI, fPow, Few, retP, fAbs, fInt, fMax, fMin, fLen, fSqrt, fEq, fNe, dNot, dAnd, dOr, dAndV, dOrV, dNotV, dIfE, dDrop, dRetN, dPar, noO, dSetL, dLst, dOfL, dOwnM, onOwn, onDat, kAppend, kInsert, dSetItem, dAddItem, dIx, onItems, items, onInt, dNoPart, dPart, dSlice, onL, litems, dSlL, dCat, onM, mitems, dTupOf, dSeqI, dRng1, dRng2, dCallP, dCallB, dCallF, noSelf, onArgs, dats2, dIsi, tyName, dYes, dgTup, dgCons, dgNil, retB, dBreak, dCont, ne_eq, not_false_eq_true, true_and, and_true, List.getElem?_cons_zero, List.getElem?_cons_succ, List.set_cons_zero, List.set_cons_succ, Option.map, List.length_cons, List.length_nil, dLc_eq, dLc2_eq, dFor_eq, dSortSet, dSort, dListOf, dIsN, dNotN, isNo, dAug, dCatT, dSlT, onT, titems, dEnum, dZip, seqs, dRetL, dPar3, dRevT, dLstRg, dTupRg, dRg1, dRg2, dChainLe, List.nil_append, List.cons_append, if_true, if_false, dFrz, dLcO, dMin2D, dAppX, dRepL, fNeS, fEqS, dgSet, dTupZip, dFgt, fIsB, fNotB, List.map_cons, List.map_nil, fw0, fw1, fw2, fw3, fw4, fw5, fw6, fw7, fw8, fw9, fw10, fw11, fw12, fw13, fw14, fw15]
    refine m_take _ _ _ _ (fun z bag' h => ?_) (key _ rfl)
    obtain ⟨v, rfl, a1, a2, a3⟩ := h
    exact onAt_mem a1 a2 fun y hy => q y bag' hy a3
  · have e : (some (.own bag) :: rhoP 1 [.ro] [.tuple ys] : Rho) = [some (.own bag), some (.ro (.tuple ys))] := rfl
    rw [e]
    simp only [dSeq, dAsg, dCB, dCons, dNil, dVar, onVs, vals, val, slot, setR, fGcd, dIfS, dTV, dOp, dBin, onV2, fLt, fLe, fGt, fGe, fAdd, fSub, fMul, fDiv, fMod, fI0, dC, dUn, onV, fNeg, dNext, dRet, dTup, onD, dats, fDivZ, fI, fPow, Few, retP, fAbs, fInt, fMax, fMin, fLen, fSqrt, fEq, fNe, dNot, dAnd, dOr, dAndV, dOrV, dNotV, dIfE, dDrop, dRetN, dPar, noO, dSetL, dLst, dOfL, dOwnM, onOwn, onDat, kAppend, kInsert, dSetItem, dAddItem, dIx, onItems, items, onInt, dNoPart, dPart, dSlice, onL, litems, dSlL, dCat, onM, mitems, dTupOf, dSeqI, dRng1, dRng2, dCallP, dCallB, dCallF, noSelf, onArgs, dats2, dIsi, tyName, dYes, dgTup, dgCons, dgNil, retB, dBreak, dCont, ne_eq, not_false_eq_true, true_and, and_true, List.getElem?_cons_zero, List.getElem?_cons_succ, List.set_cons_zero, List.set_cons_succ, Option.map, List.length_cons, List.length_nil, dLc_eq, dLc2_eq, dFor_eq, dSortSet, dSort, dListOf, dIsN, dNotN, isNo, dAug, dCatT, dSlT, onT, titems, dEnum, dZip, seqs, dRetL, dPar3, dRevT, dLstRg, dTupRg, dRg1, dRg2, dChainLe, List.nil_append, List.cons_append, if_true, if_false, dFrz, dLcO, dMin2D, dAppX, dRepL, fNeS, fEqS, dgSet, dTupZip, dFgt, fIsB, fNotB, List.map_cons, List.map_nil, fw0, fw1, fw2, fw3, fw4, fw5, fw6, fw7, fw8, fw9, fw10, fw11, fw12, fw13, fw14, fw15]
    refine m_take _ _ _ _ (fun z bag' h => ?_) (key _ rfl)
    obtain ⟨v, rfl, a1, a2, a3⟩ := h
    exact onAt_mem a1 a2 fun y hy => q y bag' hy a3
abbrev NR := Rat × Int × Int × Rat × Rat
def pc (ls : List Lg) (rho : Rat) (i j : Nat) : Option NR := match ls[i]?, ls[j]? with
  | some l, some o => some ((nearL l o rho).1, (i : Int), (j : Int), (nearL l o rho).2.1, (nearL l o rho).2.2)
  | _, _ => none
def apartAll (ls : List Lg) (rho : Rat) (r : Int) : Prop := ∀ (i j : Nat) (l o : Lg), i < j → ls[i]? = some l → ls[j]? = some o → ((r * r : Int) : Rat) ≤ (nearL l o rho).1
noncomputable instance {ls : List Lg} {rho : Rat} {r : Int} : Decidable (apartAll ls rho r) := Classical.propDecidable _
theorem cut_drop {xs : List PyData} {c : Int} (h : 0 ≤ c) : DV.cutD xs (some c) none = xs.drop c.toNat := by
  unfold DV.cutD HT.sIx
  simp only
  rw [if_neg (by omega)]
  apply List.ext_getElem?
  intro n
  simp only [List.getElem?_take, List.getElem?_drop]
  by_cases hn : c.toNat + n < xs.length
  · rw [if_pos (by omega)]
    congr 1
    omega
  · rw [List.getElem?_eq_none (by omega)]
    rw [List.getElem?_eq_none (by omega)]
    split <;> rfl
end DV
namespace DV
open PySem PySem.Spec PyProof.Rows L2
open LamX (ExtN TabS Tabs CodeO)
open scoped Rat
def d2 (a b : P2) : Int := (a.1 - b.1) * (a.1 - b.1) + (a.2 - b.2) * (a.2 - b.2)
theorem d2_comm (a b : P2) : d2 a b = d2 b a := by unfold d2; grind
def SpP (sp : Int) (cs : List P2) : Prop := cs.Pairwise fun a b => sp * sp ≤ d2 a b
theorem SpP.perm {sp : Int} {cs ds : List P2} (h : SpP sp cs) (p : cs.Perm ds) : SpP sp ds := (p.pairwise_iff (fun {a b} h => by rw [d2_comm]; exact h)).mp h
theorem SpP.take {sp : Int} {cs : List P2} (h : SpP sp cs) (n : Nat) : SpP sp (cs.take n) := h.sublist (List.take_sublist n cs)
theorem SpP.snoc {sp : Int} {cs : List P2} {c : P2} (h : SpP sp cs) (k : ∀ a ∈ cs, sp * sp ≤ d2 a c) : SpP sp (cs ++ [c]) := by
  unfold SpP
  rw [List.pairwise_append]
  refine ⟨h, List.pairwise_singleton .., fun a ha b hb => ?_⟩
  rw [List.mem_singleton.mp hb]
  exact k a ha
theorem SpP.at {sp : Int} {cs : List P2} (h : SpP sp cs) {i j : Nat} {a b : P2} (hij : i < j) (ha : cs[i]? = some a) (hb : cs[j]? = some b) : sp * sp ≤ d2 a b := by
  obtain ⟨hi, rfl⟩ := List.getElem?_eq_some_iff.mp ha
  obtain ⟨hj, rfl⟩ := List.getElem?_eq_some_iff.mp hb
  exact (List.pairwise_iff_getElem.mp h) i j hi hj hij
end DV
namespace DV
open PySem PySem.Spec PyProof.Rows L2
open LamX (ExtN TabS Tabs CodeO)
section
variable {F : Fm} {ρ : Rho} {σ : L2.St} {H : Hp}
theorem accs_perm {a : Addr} {ps qs : List Pin} (h : ps.Perm qs) : a ∈ accs ps ↔ a ∈ accs qs := by
  rw [mem_accs, mem_accs]
  exact ⟨fun ⟨xs, z⟩ => ⟨xs, h.mem_iff.mp z⟩, fun ⟨xs, z⟩ => ⟨xs, h.mem_iff.mpr z⟩⟩
theorem Ok.swap {p q : Pin} {pins : List Pin} (O : Ok F (p :: q :: pins) ρ σ H) : Ok F (q :: p :: pins) ρ σ H := by
  have hp : (p :: q :: pins).Perm (q :: p :: pins) := .swap ..
  have e : Av F (q :: p :: pins) ρ σ = Av F (p :: q :: pins) ρ σ := by
    funext a
    unfold Av
    rw [accs_perm hp]
  refine ⟨O.len, by rw [e]; exact O.ent, O.own, fun r hr => by rw [e]; exact O.pin r (hp.mem_iff.mpr hr), ?_, O.fr, O.nh, O.ln, O.h0, O.lf, O.tb⟩
  have := O.acs
  cases p <;> cases q <;> simp only [accs] at this ⊢ <;> try exact this
  simp only [List.nodup_cons, List.mem_cons, not_or] at this ⊢
  exact ⟨⟨fun z => this.1.1 z.symm, this.2.1⟩, this.1.2, this.2.2⟩
end
section
variable {X : Cx} {F : Fm} {a b : Expr} {ta tb : TE} {da db : TDE} {dl dm : TDL} {pos : Pos}
def dParL (i j : Nat) (tl : TDL) (te : TDE) : TDS := fun DD ρ => tl ρ fun xs ρ1 => te ρ1 fun r ρ2 => onDat r fun y => DD.nx ((ρ2.set i (some (.own xs))).set j (some (.d y)))
/-- both -/
def dParLL (i j : Nat) (tl tm : TDL) : TDS := fun DD ρ => tl ρ fun xs ρ1 => tm ρ1 fun ys ρ2 => DD.nx ((ρ2.set i (some (.own xs))).set j (some (.own ys)))
end
end DV
namespace DV
open PySem PySem.Spec PyProof.Rows L2
open LamX (ExtN TabS Tabs CodeO)
open scoped Rat
def flw (b : Bn) : Int := b.lag * b.lag * (2 * b.way * b.way - b.sp * b.sp)
def lft (b : Bn) (t : Int) : Int := t * t * (b.sp * b.sp - 2 * b.r * b.r) - flw b
def enough (b : Bn) (t : Int) : Prop := 0 ≤ lft b t ∧ 8 * b.r * b.r * t * t * flw b ≤ lft b t * lft b t
instance {b : Bn} {t : Int} : Decidable (enough b t) := by unfold enough; infer_instance
theorem isq_nn (x : Int) : 0 ≤ x * x := by
  rcases Int.le_total 0 x with h | h
  · exact Int.mul_nonneg h h
  · exact Int.mul_nonneg_of_nonpos_of_nonpos h h
theorem sq_le {x y : Int} (h0 : 0 ≤ x) (h : x ≤ y) : x * x ≤ y * y := Int.mul_le_mul h h h0 (by omega)
theorem enough_alg {a c f : Int} (hc : 0 < c) (hf : 0 ≤ f) : (0 ≤ a - c - f ∧ 4 * (c * f) ≤ (a - c - f) * (a - c - f)) ↔ (c ≤ a ∧ 0 ≤ a + c - f ∧ 4 * (a * c) ≤ (a + c - f) * (a + c - f)) := by
  have id1 : (a - c - f) * (a - c - f) - 4 * (c * f) = (a + c - f) * (a + c - f) - 4 * (a * c) := by grind
  constructor
  · rintro ⟨h1, h2⟩
    exact ⟨by omega, by omega, by omega⟩
  · rintro ⟨h1, h2, h3⟩
    have h4 : 4 * (c * f) ≤ (a - c - f) * (a - c - f) := by omega
    refine ⟨?_, h4⟩
    by_cases h : a - c - f < 0
    · exfalso
      have e : (a - c - f) * (a - c - f) = (c + f - a) * (c + f - a) := by grind
      rw [e] at h4
      have p1 := sq_le (x := c + f - a) (y := f) (by omega) (by omega)
      have p2 := sq_le (x := c + f - a) (y := 2 * c) (by omega) (by omega)
      have f4 : 4 * c ≤ f := by
        have : f * (4 * c) ≤ f * f := by grind
        exact Int.le_of_mul_le_mul_left this (by omega)
      have c4 : f ≤ c := by
        have : c * f ≤ c * c := by grind
        exact Int.le_of_mul_le_mul_left this hc
      omega
    · omega
theorem flw_nn {b : Bn} (h0 : 0 ≤ b.sp) (h1 : b.sp ≤ b.way) : 0 ≤ flw b := by
  unfold flw
  have := sq_le h0 h1
  have := isq_nn b.way
  exact Int.mul_nonneg (isq_nn _) (by grind)
theorem enough_law {b : Bn} {t : Int} (ht : 1 ≤ t) (hr : 1 ≤ b.r) (h0 : 0 ≤ b.sp) (h1 : b.sp ≤ b.way) : enough b t ↔ (2 * b.r * b.r ≤ b.sp * b.sp ∧ 0 ≤ (b.sp * b.sp + 2 * b.r * b.r) * t * t - flw b ∧
    8 * b.sp * b.sp * b.r * b.r * t * t * t * t ≤ ((b.sp * b.sp + 2 * b.r * b.r) * t * t - flw b) * ((b.sp * b.sp + 2 * b.r * b.r) * t * t - flw b)) := by
  have tp : 0 < t * t := Int.mul_pos (by omega) (by omega)
  have rp : 0 < b.r * b.r := Int.mul_pos (by omega) (by omega)
  have cp : 0 < 2 * b.r * b.r * (t * t) := Int.mul_pos (by grind) tp
  have key := enough_alg (a := b.sp * b.sp * (t * t)) (c := 2 * b.r * b.r * (t * t)) (f := flw b) cp (flw_nn h0 h1)
  unfold enough
  have e1 : lft b t = b.sp * b.sp * (t * t) - 2 * b.r * b.r * (t * t) - flw b := by unfold lft; grind
  have e2 : 8 * b.r * b.r * t * t * flw b = 4 * (2 * b.r * b.r * (t * t) * flw b) := by grind
  have e3 : (b.sp * b.sp + 2 * b.r * b.r) * t * t - flw b = b.sp * b.sp * (t * t) + 2 * b.r * b.r * (t * t) - flw b := by grind
  have e4 : 8 * b.sp * b.sp * b.r * b.r * t * t * t * t = 4 * (b.sp * b.sp * (t * t) * (2 * b.r * b.r * (t * t))) := by grind
  rw [e1, e2, e3, e4, key]
  refine and_congr_left fun _ => ⟨fun h => Int.le_of_mul_le_mul_right h tp, fun h => Int.mul_le_mul_of_nonneg_right h (Int.le_of_lt tp)⟩
end DV
namespace DV
open PySem PySem.Spec PyProof.Rows L2
open LamX (ExtN TabS Tabs CodeO)
open scoped Rat
theorem SpP.sub {sp : Int} {cs ds : List P2} (h : SpP sp cs) (k : ds.Sublist cs) : SpP sp ds := List.Pairwise.sublist k h
/-- the bounds as they are drawn -/
structure BnV (b : Bn) : Prop where
  sp : b.sp = 1 ∨ b.sp = 2 ∨ b.sp = 3 ∨ b.sp = 5 ∨ b.sp = 7 ∨ b.sp = 10 ∨ b.sp = 13 ∨ b.sp = 20 ∨ b.sp = 60 ∨ b.sp = 100
  way : b.way ≤ 6 * b.sp
def apartTo (ls : List Lg) (rho : Rat) (r : Int) (n : Nat) : Prop := ∀ (i j : Nat) (l o : Lg), i < j → j < n → ls[i]? = some l → ls[j]? = some o → ((r * r : Int) : Rat) ≤ (nearL l o rho).1
noncomputable instance {ls : List Lg} {rho : Rat} {r : Int} {n : Nat} : Decidable (apartTo ls rho r n) := Classical.propDecidable _
end DV
namespace DV
open PySem PySem.Spec PyProof.Rows L2
open LamX (ExtN TabS Tabs CodeO)
end DV
namespace DV
open PySem PySem.Spec PyProof.Rows L2
open LamX (ExtN TabS Tabs CodeO)
section
variable {X : Cx} {F : Fm} {e e2 : Expr} {pos p tpos : Pos} {t : TA} {d : TDA} {elts : List Expr} {kk : Nat}
def dZipM (t : TDA) : TDI := fun ρ Q => t ρ fun rs ρ1 => match rs with
  | [r, s] => match seqs ρ1 r, seqs ρ1 s with
    | some (true, xs), some (false, ys) => Q (zipD xs ys) ρ1
    | _, _ => False
  | _ => False
end
end DV
namespace DV
open PySem PySem.Spec PyProof.Rows L2
open LamX (ExtN TabS Tabs CodeO)
open scoped Rat
end DV
namespace DV
open PySem PySem.Spec PyProof.Rows L2
open LamX (ExtN TabS Tabs CodeO)
open scoped Rat
def xI (b : Bn) (n : Int) : Int := n * n * (2 * b.way * b.way - b.sp * b.sp)
def leadI (b : Bn) (n : Int) : Int := ((Float64.isqrt (xI b n).toNat : Nat) : Int)
def wleg (b : Bn) (n : Int) : Lg := ⟨0, 0, n * b.sp - leadI b n, -(n * b.sp) - leadI b n⟩
def woth (b : Bn) (n : Int) : Lg := ⟨2 * n * b.sp, 0, n * b.sp - leadI b n, n * b.sp - leadI b n⟩
def lesR (p q : Rat) : Rat := if q < p then q else p
def wah (b : Bn) (t n : Int) : Rat := lesR (rhoT b t) ((n * b.sp) /. leadI b n)
def hlf : Rat := 1 /. 2
def wS (b : Bn) (t n : Int) : Rat := hlf * (1 - wah b t n)
def wT (b : Bn) (t n : Int) : Rat := hlf * (1 + wah b t n)
def wOk (b : Bn) (t n : Int) : Prop := gsq (wleg b n) (woth b n) (wS b t n) (wT b t n) < ((2 * n * b.r * (2 * n * b.r) : Int) : Rat)
instance {b : Bn} {t n : Int} : Decidable (wOk b t n) := by unfold wOk; infer_instance
structure WsOk (b : Bn) (t n : Int) : Prop where
  ok : BnOk b
  t0 : 1 ≤ t
  t1 : b.lag ≤ t
  t2 : t ≤ 1000000
  n0 : 1 ≤ n
  n1 : n < 2 ^ 95
theorem f0_pos {b : Bn} (ok : BnOk b) : 1 ≤ 2 * b.way * b.way - b.sp * b.sp ∧ 2 * b.way * b.way - b.sp * b.sp ≤ 980000 := by
  have s0 := ok.sp0
  have w0 := ok.way0
  have a := sq_le (x := b.sp) (y := b.way) (by omega) w0
  have c : 0 < b.sp * b.sp := Int.mul_pos (by omega) (by omega)
  have d := sq_le (x := b.way) (y := 700) (by omega) ok.way1
  have e : 2 * b.way * b.way = 2 * (b.way * b.way) := by grind
  omega
theorem WsOk.x0 {b : Bn} {t n : Int} (h : WsOk b t n) : 1 ≤ xI b n := by
  have f := (f0_pos h.ok).1
  have n0 := h.n0
  have nn : 0 < n * n := Int.mul_pos (by omega) (by omega)
  have := Int.mul_pos nn (show 0 < 2 * b.way * b.way - b.sp * b.sp by omega)
  unfold xI; omega
end DV
namespace DV
open PySem PySem.Spec PyProof.Rows L2
open LamX (ExtN TabS Tabs CodeO)
section
variable {X : Cx} {F : Fm} {e : Expr} {te : TE} {de : TDE} {pos : Pos}
def ipM : TIp := fun x y H Q => ∃ i j, x = .int i ∧ y = .int j ∧ CMulW i j ∧ Q (.int (i * j)) H
theorem ip_mulW : PIp X .Mult ipM := by
  intro pins s σ H x y v u Q I r1 r2 h
  obtain ⟨i, j, rfl, rfl, hm, q⟩ := h
  obtain ⟨t, rfl⟩ := r1
  obtain ⟨t', rfl⟩ := r2
  exact imul_int ⟨.int _, H, I.tok _, ⟨_, rfl⟩, q⟩ hm.ok
def dMulA (i : Nat) (te : TDE) : TDS := fun DD ρ => onInt ρ (.o i) fun n => te ρ fun r ρ1 => onInt ρ1 r fun m => CMulW n m ∧ DD.nx (ρ1.set i (some (.d (.int (n * m)))))
theorem ds_mul {i : Nat} {x : Str} {p2 : Pos} (hN : X.N.Nodup) (he : PD X F e te de) (hf : ¬ F.fix i) (hi : X.N[i]? = some x := by rfl) (hx : Loc X.env.scope x := by first | exact Or.inl rfl | exact Or.inr rfl) (hfn : X.fn x = true ∨ X.env.scope.names.lookup x = some .local := by first | exact .inl rfl | exact .inr rfl) :
    PDS X F (.AugAssign (.Name x p2) .Mult e pos) (tAug i te ipM) (dMulA i de) := by
  refine ⟨ps_aug hN hi hx he.pe ip_mulW hfn, fun pins ρ σ H D DD O S R h => ?_⟩
  obtain ⟨n, e1, h⟩ := onInt_of h
  have e1 : slot ρ i = some (.int n) := e1
  have hs : ∃ v, σ[i]? = some (some v) := by
    unfold slot at e1
    split at e1
    · rename_i y q
      obtain ⟨v, h1, _⟩ := O.ent i _ q; exact ⟨v, h1⟩
    · cases e1
    · rename_i y q
      obtain ⟨v, h1, _⟩ := O.ent i _ q; exact ⟨v, h1⟩
    · cases e1
  obtain ⟨v, hv⟩ := hs
  cases dp_int (slot_dp O hv e1)
  refine ⟨.int n, hv, ?_⟩
  refine he.de.run pins ρ σ H _ O (he.de.mono _ _ _ (fun r ρ1 h1 u H1 O1 R1 => ?_) h)
  obtain ⟨m, e2, hm, h2⟩ := onInt_of h1
  cases dp_int (val_dp O1 R1 e2)
  exact ⟨n, m, rfl, rfl, hm, R.nx _ _ _ (O1.put (S.fr hf) (fun _ z => by cases z; exact id) fun g e => by cases e; exact ⟨_, rfl, by simp only [EntOk, Im]⟩) h2⟩
end
end DV
namespace DV
open PySem PySem.Spec PyProof.Rows L2
open LamX (ExtN TabS Tabs CodeO)
section
variable {X : Cx} {F : Fm} {pos : Pos}
def dgUnl (n : Nat) (gs : List PyData → Rho → (Rho → Prop) → Prop) : TDGt := fun r ρ P => match r with
  | .d (.list xs) => xs.length = n ∧ gs xs ρ P
  | _ => False
end
end DV
namespace DV
open PySem PySem.Spec PyProof.Rows L2
open LamX (ExtN TabS Tabs CodeO)
theorem filter_mono {α : Type} {p q : α → Bool} (h : ∀ x, p x = true → q x = true) : ∀ xs : List α, (xs.filter p).length ≤ (xs.filter q).length
  | [] => Nat.le_refl _
  | x :: xs => by
    have ih := filter_mono h xs
    rw [List.filter_cons, List.filter_cons]
    cases hp : p x with
    | true => rw [h x hp]; simpa using ih
    | false =>
      simp only [Bool.false_eq_true, if_false]
      split
      · rw [List.length_cons]; omega
      · exact ih
def win (xs : List Int) (sp y : Int) : List Int := xs.filter fun x => decide (y ≤ x ∧ x < y + sp)
def HasC (xs : List Int) (sp : Int) (n : Nat) : Prop := ∃ y, n ≤ (win xs sp y).length
/-- rows for the xs: below k, unlike where the later x is less than sp behind -/
structure ColL (xs : List Int) (sp : Int) (k : Nat) (rs : List Int) : Prop where
  len : rs.length = xs.length
  rng : ∀ r ∈ rs, 0 ≤ r ∧ r < k
  un : ∀ (i j : Nat) (a b p q : Int), i < j → xs[i]? = some a → xs[j]? = some b → rs[i]? = some p → rs[j]? = some q → b - a < sp → p ≠ q
theorem HasC.zero {xs : List Int} {sp : Int} : HasC xs sp 0 := ⟨0, Nat.zero_le _⟩
theorem HasC.le {xs : List Int} {sp : Int} {m n : Nat} (h : HasC xs sp n) (k : m ≤ n) : HasC xs sp m := by obtain ⟨y, h⟩ := h; exact ⟨y, by omega⟩
theorem HasC.size {xs : List Int} {sp : Int} {n : Nat} (h : HasC xs sp n) : n ≤ xs.length := by
  obtain ⟨y, h⟩ := h
  exact Nat.le_trans h (List.length_filter_le ..)
theorem HasC.sub {xs ys : List Int} {sp : Int} {n : Nat} (h : HasC xs sp n) (k : xs.Sublist ys) : HasC ys sp n := by
  obtain ⟨y, h⟩ := h
  exact ⟨y, Nat.le_trans h (k.filter _).length_le⟩
theorem HasC.perm {xs ys : List Int} {sp : Int} {n : Nat} (h : HasC xs sp n) (k : xs.Perm ys) : HasC ys sp n := by
  obtain ⟨y, h⟩ := h
  exact ⟨y, by unfold win at *; rw [← (k.filter _).length_eq]; exact h⟩
theorem HasC.map {xs : List Int} {sp : Int} {n : Nat} {f : Int → Int} (g : Int → Int) (hf : ∀ x y, y ≤ x ∧ x < y + sp → g y ≤ f x ∧ f x < g y + sp) (h : HasC xs sp n) : HasC (xs.map f) sp n := by
  obtain ⟨y, h⟩ := h
  refine ⟨g y, Nat.le_trans h ?_⟩
  unfold win
  rw [List.filter_map, List.length_map]
  exact filter_mono (fun x hx => by
    rw [decide_eq_true_eq] at hx
    exact decide_eq_true (hf x y hx)) xs
theorem nodup_small {k : Nat} : ∀ {xs : List Int}, xs.Nodup → (∀ x ∈ xs, 0 ≤ x ∧ x < k) → xs.length ≤ k := fun {xs} h hx => by
  have := nodup_le (xs := xs) (ys := (List.range k).map fun i : Nat => (i : Int)) h fun x hm => by
    have := hx x hm
    exact List.mem_map.mpr ⟨x.toNat, List.mem_range.mpr (by omega), by omega⟩
  rw [List.length_map, List.length_range] at this
  exact this
/-- colours for all make no window too full -/
theorem col_has {xs rs : List Int} {sp : Int} {k n : Nat} (c : ColL xs sp k rs) (h : HasC xs sp n) : n ≤ k := by
  obtain ⟨y, h⟩ := h
  let zs := (List.zip xs rs).filter fun p => decide (y ≤ p.1 ∧ p.1 < y + sp)
  have e : (zs.map (·.1)) = win xs sp y := by
    show (((List.zip xs rs).filter fun p => decide (y ≤ p.1 ∧ p.1 < y + sp)).map (·.1)) = xs.filter _
    have := List.filter_map (f := (fun p : Int × Int => p.1)) (p := fun x => decide (y ≤ x ∧ x < y + sp)) (l := List.zip xs rs)
    rw [List.map_fst_zip (by rw [c.len]; exact Nat.le_refl _)] at this
    rw [this]; rfl
  have hn : n ≤ (zs.map (·.2)).length := by
    rw [List.length_map, ← List.length_map (f := fun p : Int × Int => p.1), e]; exact h
  refine Nat.le_trans hn (nodup_small ?_ fun r hr => ?_)
  · rw [List.Nodup, List.pairwise_map]
    have hp : (List.zip xs rs).Pairwise fun p q => q.1 - p.1 < sp → p.2 ≠ q.2 := by
      rw [List.pairwise_iff_getElem]
      intro i j hi hj hij hlt
      rw [List.length_zip] at hi hj
      have l1 := c.len
      have i1 : i < xs.length := by omega
      have j1 : j < xs.length := by omega
      have i2 : i < rs.length := by omega
      have j2 : j < rs.length := by omega
      have := c.un i j xs[i] xs[j] rs[i] rs[j] hij (List.getElem?_eq_getElem i1) (List.getElem?_eq_getElem j1) (List.getElem?_eq_getElem i2) (List.getElem?_eq_getElem j2)
      simp only [List.getElem_zip] at hlt ⊢
      exact this hlt
    have hp2 := hp.filter fun p => decide (y ≤ p.1 ∧ p.1 < y + sp)
    refine List.Pairwise.imp_of_mem (fun {p q} hpm hqm hpq => hpq ?_) hp2
    have a := (List.mem_filter.mp hpm).2
    have b := (List.mem_filter.mp hqm).2
    rw [decide_eq_true_eq] at a b
    omega
  · obtain ⟨p, hp, rfl⟩ := List.mem_map.mp hr
    exact c.rng _ (List.of_mem_zip (List.mem_filter.mp hp).1).2
structure RowsI (xs : List Int) (sp : Int) (j : Nat) (rows free : List Int) (freed many : Nat) : Prop where
  len : rows.length = j
  le : freed ≤ j
  perm : (free ++ rows.drop freed).Perm ((List.range many).map fun i : Nat => (i : Int))
  rng : ∀ r ∈ rows, 0 ≤ r ∧ r < many
  past : ∀ (i : Nat) (a b : Int), i < freed → xs[i]? = some a → xs[j]? = some b → a + sp ≤ b
  un : ∀ (i l : Nat) (a b p q : Int), i < l → l < j → xs[i]? = some a → xs[l]? = some b → rows[i]? = some p → rows[l]? = some q → b - a < sp → p ≠ q
  has : HasC xs sp many
theorem RowsI.start (xs : List Int) (sp : Int) : RowsI xs sp 0 [] [] 0 0 :=
  ⟨rfl, Nat.le_refl _, by simp, fun _ h => (by cases h), fun _ _ _ h => absurd h (Nat.not_lt_zero _), fun _ _ _ _ _ _ _ h => absurd h (Nat.not_lt_zero _), .zero⟩
/-- a row becomes free -/
theorem RowsI.free {xs : List Int} {sp : Int} {j : Nat} {rows free ms : List Int} {freed many : Nat} {r a b : Int} (h : RowsI xs sp j rows free freed many) (hr : rows[freed]? = some r) (ha : xs[freed]? = some a) (hb : xs[j]? = some b) (hab : a + sp ≤ b) (hm : ms.Perm (r :: free)) :
    RowsI xs sp j rows ms (freed + 1) many := by
  have hl := (List.getElem?_eq_some_iff.mp hr).1
  have l := h.len
  refine ⟨h.len, by omega, ?_, h.rng, fun i a' b' hi h1 h2 => ?_, h.un, h.has⟩
  · refine List.Perm.trans ?_ h.perm
    have e : rows.drop freed = r :: rows.drop (freed + 1) := by
      obtain ⟨hi, rfl⟩ := List.getElem?_eq_some_iff.mp hr
      exact List.drop_eq_getElem_cons hi
    rw [e]
    exact (hm.append_right _).trans (by simpa using (List.perm_middle (a := r) (l₁ := free) (l₂ := rows.drop (freed + 1))).symm)
  · by_cases z : i = freed
    · subst z
      rw [ha] at h1; cases h1
      rw [hb] at h2; cases h2
      exact hab
    · exact h.past i a' b' (by omega) h1 h2
/-- a free one is taken -/
theorem RowsI.take {xs : List Int} {sp : Int} {j : Nat} {rows free ms : List Int} {freed many : Nat} {r b : Int} (h : RowsI xs sp j rows free freed many) (hs : xs.Pairwise fun a b => a ≤ b) (hb : xs[j]? = some b) (hm : (r :: ms).Perm free) :
    RowsI xs sp (j + 1) (rows ++ [r]) ms freed many := by
  have l := h.len
  have hle := h.le
  have p : (r :: ms ++ rows.drop freed).Perm ((List.range many).map fun i : Nat => (i : Int)) := (hm.append_right _).trans h.perm
  have nd : (r :: ms ++ rows.drop freed).Nodup := by
    refine p.nodup_iff.mpr ?_
    rw [List.Nodup, List.pairwise_map]
    exact List.Pairwise.imp (fun {a b} hne e => hne (by omega)) List.nodup_range
  have hr : 0 ≤ r ∧ r < many := by
    have := p.mem_iff.mp (List.mem_append_left _ (List.mem_cons_self ..))
    obtain ⟨i, hi, rfl⟩ := List.mem_map.mp this
    have := List.mem_range.mp hi
    omega
  have rnot : r ∉ rows.drop freed := fun z => by
    rw [List.cons_append, List.nodup_cons] at nd
    exact nd.1 (List.mem_append_right _ z)
  refine ⟨by rw [List.length_append, l]; rfl, by omega, ?_, fun q hq => ?_, fun i a b' hi h1 h2 => ?_, fun i k a c q s hik hk h1 h2 h3 h4 hlt => ?_, h.has⟩
  · rw [List.drop_append_of_le_length (by omega)]
    refine List.Perm.trans ?_ p
    rw [← List.append_assoc]
    exact List.perm_append_comm
  · rcases List.mem_append.mp hq with hq | hq
    · exact h.rng q hq
    · rw [List.mem_singleton.mp hq]; exact hr
  · obtain ⟨hj1, e1⟩ := List.getElem?_eq_some_iff.mp h2
    obtain ⟨hj0, e0⟩ := List.getElem?_eq_some_iff.mp hb
    have := h.past i a b hi h1 hb
    have : b ≤ b' := by
      rw [← e1, ← e0]
      exact List.pairwise_iff_getElem.mp hs j (j + 1) hj0 hj1 (by omega)
    omega
  · rw [List.getElem?_append] at h3 h4
    rw [if_pos (by omega)] at h3
    by_cases z : k < j
    · rw [if_pos (by omega)] at h4
      exact h.un i k a c q s hik z h1 h2 h3 h4 hlt
    · have e : k = j := by omega
      subst e
      rw [if_neg (by omega), l, Nat.sub_self] at h4
      simp at h4
      subst h4
      rw [hb] at h2; cases h2
      intro e
      by_cases zf : i < freed
      · have := h.past i a b zf h1 hb
        omega
      · refine rnot (e ▸ List.mem_iff_getElem?.mpr ⟨i - freed, ?_⟩)
        rw [List.getElem?_drop, show freed + (i - freed) = i by omega]
        exact h3
end DV
namespace DV
open PySem PySem.Spec PyProof.Rows L2
open LamX (ExtN TabS Tabs CodeO)
structure Lmp where
  x : Int
  z : Int
  sh : List Str
  w : Int
def eLm (l : Lmp) : PyData := .tuple [.int l.x, .int l.z, .tuple (l.sh.map .str), .int l.w]
def eP (ls : List Lmp) : PyData := .tuple (ls.map eLm)
def lxs (ls : List Lmp) : List Int := ls.map Lmp.x
def UpL (xs : List Int) : Prop := xs.Pairwise fun a b => a ≤ b
theorem UpL.at {xs : List Int} (h : UpL xs) {i k : Nat} {a c : Int} (hik : i ≤ k) (h1 : xs[i]? = some a) (h2 : xs[k]? = some c) : a ≤ c := by
  by_cases e : i = k
  · subst e
    rw [h1] at h2; cases h2; omega
  · obtain ⟨hi, rfl⟩ := List.getElem?_eq_some_iff.mp h1
    obtain ⟨hk, rfl⟩ := List.getElem?_eq_some_iff.mp h2
    exact List.pairwise_iff_getElem.mp h i k hi hk (by omega)
theorem lxs_at {ls : List Lmp} {i : Nat} {l : Lmp} (h : ls[i]? = some l) : (lxs ls)[i]? = some l.x := by
  unfold lxs; rw [List.getElem?_map, h]; rfl
theorem lxs_len (ls : List Lmp) : (lxs ls).length = ls.length := List.length_map ..
theorem win_last {xs : List Int} {sp y : Int} {n : Nat} (hs : UpL xs) (n0 : 1 ≤ n) (h : n ≤ (win xs sp y).length) : ∃ b, xs[n - 1]? = some b ∧ b < y + sp := by
  have e : win xs sp y = (xs.take (n - 1)).filter (fun x => decide (y ≤ x ∧ x < y + sp)) ++ (xs.drop (n - 1)).filter (fun x => decide (y ≤ x ∧ x < y + sp)) := by
    rw [← List.filter_append, List.take_append_drop]; rfl
  rw [e, List.length_append] at h
  have h1 : ((xs.take (n - 1)).filter fun x => decide (y ≤ x ∧ x < y + sp)).length ≤ n - 1 := Nat.le_trans (List.length_filter_le ..) (by rw [List.length_take]; omega)
  obtain ⟨c, hc⟩ := List.exists_mem_of_length_pos (show 0 < ((xs.drop (n - 1)).filter fun x => decide (y ≤ x ∧ x < y + sp)).length by omega)
  obtain ⟨hc1, hc2⟩ := List.mem_filter.mp hc
  rw [decide_eq_true_eq] at hc2
  obtain ⟨i, hi⟩ := List.mem_iff_getElem?.mp hc1
  rw [List.getElem?_drop] at hi
  have hl := (List.getElem?_eq_some_iff.mp hi).1
  have hb := List.getElem?_eq_getElem (show n - 1 < xs.length by omega)
  have := hs.at (show n - 1 ≤ n - 1 + i by omega) hb hi
  exact ⟨_, hb, by omega⟩
theorem win_first {sp y : Int} {n : Nat} (n0 : 1 ≤ n) : ∀ {xs : List Int}, UpL xs → n ≤ (win xs sp y).length → ∃ j a b, xs[j]? = some a ∧ xs[j + (n - 1)]? = some b ∧ b < a + sp
  | [], _, h => by
    have : (win [] sp y).length = 0 := rfl
    omega
  | x :: xs, hs, h => by
    by_cases hx : y ≤ x ∧ x < y + sp
    · obtain ⟨b, hb, hlt⟩ := win_last hs n0 h
      exact ⟨0, x, b, rfl, by rw [Nat.zero_add]; exact hb, by omega⟩
    · have e : win (x :: xs) sp y = win xs sp y := by
        unfold win
        rw [List.filter_cons, if_neg (by rw [decide_eq_true_eq]; exact hx)]
      rw [e] at h
      obtain ⟨j, a, b, h1, h2, h3⟩ := win_first n0 (List.pairwise_cons.mp hs).2 h
      exact ⟨j + 1, a, b, by simpa using h1, by rw [show j + 1 + (n - 1) = (j + (n - 1)) + 1 by omega]; simpa using h2, h3⟩
/-- the most abreast, told place by place -/
structure Abr (xs : List Int) (sp : Int) (i : Nat) (m last : Nat) : Prop where
  has : HasC xs sp m
  le : last ≤ xs.length
  lo : i ≤ last
  z0 : i = 0 → last = 0
  low : ∀ k a b, k < last → 0 < i → xs[k]? = some a → xs[i - 1]? = some b → a < b + sp
  all : ∀ (j l : Nat) (a b : Int), j < i → j ≤ l → xs[j]? = some a → xs[l]? = some b → b < a + sp → l + 1 - j ≤ m
theorem Abr.most {xs : List Int} {sp : Int} {m last n : Nat} (h : Abr xs sp xs.length m last) (hs : UpL xs) (k : HasC xs sp n) : n ≤ m := by
  by_cases z : n = 0
  · omega
  obtain ⟨y, k⟩ := k
  obtain ⟨j, a, b, h1, h2, h3⟩ := win_first (by omega) hs k
  have := h.all j (j + (n - 1)) a b (List.getElem?_eq_some_iff.mp h1).1 (by omega) h1 h2 h3
  omega
theorem Abr.start (xs : List Int) (sp : Int) : Abr xs sp 0 0 0 := ⟨.zero, Nat.zero_le _, Nat.le_refl _, fun _ => rfl, fun _ _ _ h => absurd h (Nat.not_lt_zero _), fun _ _ _ _ h => absurd h (Nat.not_lt_zero _)⟩
end DV
namespace DV
open PySem PySem.Spec PyProof.Rows L2
open LamX (ExtN TabS Tabs CodeO)
structure PreL (xs : List Int) (sp : Int) (k : Nat) (p : List Int) : Prop where
  len : p.length ≤ xs.length
  rng : ∀ r ∈ p, 0 ≤ r ∧ r < k
  un : ∀ (i j : Nat) (a b q s : Int), i < j → xs[i]? = some a → xs[j]? = some b → p[i]? = some q → p[j]? = some s → b - a < sp → q ≠ s
theorem PreL.nil {xs : List Int} {sp : Int} {k : Nat} : PreL xs sp k [] := ⟨Nat.zero_le _, fun _ h => (by cases h), fun _ _ _ _ _ _ _ _ _ h => (by simp at h)⟩
theorem RowsI.few {xs : List Int} {sp : Int} {j : Nat} {rows free : List Int} {freed many : Nat} (h : RowsI xs sp j rows free freed many) : free.length ≤ xs.length := by
  have a := h.perm.length_eq
  rw [List.length_append, List.length_map, List.length_range] at a
  have := h.has.size
  omega
/-- the number of rows is told by the xs alone -/
def Rown (xs : List Int) (sp : Int) (n : Nat) : Prop := HasC xs sp n ∧ ∀ m, HasC xs sp m → m ≤ n
theorem Rown.of {xs rs : List Int} {sp : Int} {n : Nat} (c : ColL xs sp n rs) (h : HasC xs sp n) : Rown xs sp n := ⟨h, fun m k => col_has c k⟩
theorem UpL.sub {xs ys : List Int} (h : UpL ys) (k : xs.Sublist ys) : UpL xs := List.Pairwise.sublist k h
end DV
namespace DV
open PySem PySem.Spec PyProof.Rows PySem.Calls PySem.W
end DV
namespace DV
open PySem PySem.Spec PyProof.Rows L2
open LamX (ExtN TabS Tabs CodeO)
section
variable {X : Cx} {F : Fm} {e : Expr} {t : TA} {d : TDA} {pos : Pos}
def dSortDT (t : TDA) : TDL := fun ρ Q => t ρ fun rs ρ1 => match rs with
  | [r] => onT r fun xs => CanSort xs ∧ Q (sortD xs) ρ1
  | _ => False
def dDead : TDS := fun _ _ => False
end
end DV
namespace DV
open PySem PySem.Spec PyProof.Rows L2
open LamX (ExtN TabS Tabs CodeO)
section
variable {X : Cx} {F : Fm} {a b : Expr} {ta tb : TE} {da db : TDE} {dl dm : TDL} {pos : Pos}
def dParR (i j : Nat) (te : TDE) (tl : TDL) : TDS := fun DD ρ => te ρ fun r ρ1 => onDat r fun y => tl ρ1 fun xs ρ2 => DD.nx ((ρ2.set i (some (.d y))).set j (some (.own xs)))
end
def fMax3 : FA
  | [.int i, .int j, .int k], Q => Q (.int (if k > (if j > i then j else i) then k else (if j > i then j else i)))
  | _, _ => False
end DV
namespace DV
open PySem PySem.Spec PyProof.Rows L2
open LamX (ExtN TabS Tabs CodeO)
section
variable {X : Cx} {F : Fm} {pos : Pos}
def dNewDic (i : Nat) : TDS := fun DD ρ => DD.nx (ρ.set i (some (.dic [])))
end
end DV
namespace DV
open PySem PySem.Spec PyProof.Rows L2
open LamX (ExtN TabS Tabs CodeO)
def putD (kvs : List (List L2.Key × PyData)) (k : List L2.Key) (y : PyData) : List (List L2.Key × PyData) :=
  if (kvs.any fun kv => decide (kv.1 = k)) = true then kvs.map (fun kv => if kv.1 = k then (kv.1, y) else kv) else kvs ++ [(k, y)]
section
variable {X : Cx} {F : Fm} {pos : Pos} {es : List Expr} {t : TA} {d : TDA} {value : Expr} {tv : TE} {dv : TDE}
def onDic (ρ : Rho) (i : Nat) (f : List (List L2.Key × PyData) → Prop) : Prop := match ρ[i]? with
  | some (some (.dic kvs)) => f kvs
  | _ => False
/-- d[x, z] = v -/
def dDicPut (i : Nat) (t : TDA) (tv : TDE) : TDS := fun DD ρ => tv ρ fun r ρ1 => onDat r fun y => onDic ρ1 i fun _ => t ρ1 fun rs ρ2 => onD rs fun ds => match ds with
  | [.int x, .int z] => onDic ρ2 i fun kvs => kvs.length + 1 ≤ 100000 ∧ DD.nx (ρ2.set i (some (.dic (putD kvs [.inl x, .inl z] y))))
  | _ => False
end
end DV
namespace DV
open PySem PySem.Spec PyProof.Rows PySem.Calls PySem.W
end DV
namespace DV
open PySem PySem.Spec PyProof.Rows L2
open LamX (ExtN TabS Tabs CodeO)
def kD : L2.Key → PyData
  | .inl i => .int i
  | .inr x => .str x
def keyD (k : List L2.Key) : PyData := .tuple (k.map kD)
section
variable {X : Cx} {F : Fm} {pos : Pos}
def dSortDic (i : Nat) : TDL := fun ρ Q => onDic ρ i fun kvs => CanSort (kvs.map fun kv => keyD kv.1) ∧ Q (sortD (kvs.map fun kv => keyD kv.1)) ρ
end
end DV
namespace DV
open PySem PySem.Spec PyProof.Rows L2
open LamX (ExtN TabS Tabs CodeO)
def valD (kvs : List (List L2.Key × PyData)) (k : List L2.Key) : Option PyData := (kvs.find? fun kv => decide (kv.1 = k)).map (·.2)
section
variable {X : Cx} {F : Fm} {pos : Pos} {e : Expr} {te : TE} {de : TDE}
def onKey (r : R) (f : List L2.Key → Prop) : Prop := match r with
  | .d (.tuple [.int x, .int z]) => f [.inl x, .inl z]
  | _ => False
def dDicGet (i : Nat) (dk : TDE) : TDE := fun ρ Q => onDic ρ i fun _ => dk ρ fun r ρ1 => onKey r fun k => onDic ρ1 i fun kvs => match valD kvs k with
  | some y => Q (.d y) ρ1
  | none => False
end
end DV
namespace DV
open PySem PySem.Spec PyProof.Rows L2
open LamX (ExtN TabS Tabs CodeO)
/-- each of rs is the least row that no near earlier one has -/
def LeastR (xs : List Int) (sp : Int) (rs : List Int) : Prop := ∀ (j : Nat) (r b : Int), rs[j]? = some r → xs[j]? = some b →
  0 ≤ r ∧ (∀ (i : Nat) (a q : Int), i < j → xs[i]? = some a → rs[i]? = some q → b - a < sp → q ≠ r) ∧ ∀ s, 0 ≤ s → s < r → ∃ (i : Nat) (a : Int), i < j ∧ xs[i]? = some a ∧ rs[i]? = some s ∧ b - a < sp
theorem LeastR.nil {xs : List Int} {sp : Int} : LeastR xs sp [] := fun j r b h => by simp at h
/-- there is but one such list -/
theorem LeastR.unique {xs rs ss : List Int} {sp : Int} (h : LeastR xs sp rs) (k : LeastR xs sp ss) (h1 : rs.length = xs.length) (h2 : ss.length = xs.length) : rs = ss := by
  have key : ∀ n j, j < n → j < xs.length → rs[j]? = ss[j]? := by
    intro n
    induction n with
    | zero => intro j hj; omega
    | succ n ih =>
      intro j hj hx
      have er := List.getElem?_eq_getElem (show j < rs.length by omega)
      have es := List.getElem?_eq_getElem (show j < ss.length by omega)
      have eb := List.getElem?_eq_getElem hx
      generalize rs[j] = r at er
      generalize ss[j] = s at es
      generalize xs[j] = b at eb
      obtain ⟨r0, r1, r2⟩ := h j r b er eb
      obtain ⟨s0, s1, s2⟩ := k j s b es eb
      have same : ∀ i, i < j → rs[i]? = ss[i]? := fun i hi => ih i (by omega) (by omega)
      rcases Int.lt_trichotomy r s with z | z | z
      · obtain ⟨i, a, hi, ha, hq, hlt⟩ := s2 r r0 z
        exact absurd rfl (r1 i a r hi ha (by rw [same i hi]; exact hq) hlt)
      · rw [er, es, z]
      · obtain ⟨i, a, hi, ha, hq, hlt⟩ := r2 s s0 z
        exact absurd rfl (s1 i a s hi ha (by rw [← same i hi]; exact hq) hlt)
  refine List.ext_getElem? fun j => ?_
  by_cases z : j < xs.length
  · exact key (j + 1) j (Nat.lt_succ_self _) z
  · rw [List.getElem?_eq_none (by omega), List.getElem?_eq_none (by omega)]
/-- the next row -/
theorem LeastR.snoc {xs rs : List Int} {sp r b : Int} (h : LeastR xs sp rs) (hb : xs[rs.length]? = some b) (r0 : 0 ≤ r) (h1 : ∀ (i : Nat) (a q : Int), i < rs.length → xs[i]? = some a → rs[i]? = some q → b - a < sp → q ≠ r)
    (h2 : ∀ s, 0 ≤ s → s < r → ∃ (i : Nat) (a : Int), i < rs.length ∧ xs[i]? = some a ∧ rs[i]? = some s ∧ b - a < sp) : LeastR xs sp (rs ++ [r]) := by
  intro j q c hq hc
  have low : ∀ i, i < rs.length → (rs ++ [r])[i]? = rs[i]? := fun i hi => by rw [List.getElem?_append, if_pos hi]
  rw [List.getElem?_append] at hq
  by_cases z : j < rs.length
  · rw [if_pos z] at hq
    obtain ⟨a1, a2, a3⟩ := h j q c hq hc
    refine ⟨a1, fun i a p hi ha hp hlt => a2 i a p hi ha (by rw [← low i (by omega)]; exact hp) hlt, fun s s0 hs => ?_⟩
    obtain ⟨i, a, hi, ha, hp, hlt⟩ := a3 s s0 hs
    exact ⟨i, a, hi, ha, by rw [low i (by omega)]; exact hp, hlt⟩
  · rw [if_neg z] at hq
    have hj : j - rs.length = 0 := by
      have := (List.getElem?_eq_some_iff.mp hq).1
      simp at this
      omega
    rw [hj] at hq
    simp at hq
    subst hq
    have e : j = rs.length := by omega
    subst e
    rw [hb] at hc; cases hc
    refine ⟨r0, fun i a p hi ha hp hlt => h1 i a p hi ha (by rw [← low i hi]; exact hp) hlt, fun s s0 hs => ?_⟩
    obtain ⟨i, a, hi, ha, hp, hlt⟩ := h2 s s0 hs
    exact ⟨i, a, hi, ha, by rw [low i hi]; exact hp, hlt⟩
end DV
namespace DV
open PySem PySem.Spec PyProof.Rows L2
open LamX (ExtN TabS Tabs CodeO)
section
variable {F : Fm}
abbrev TDW := Rho → (List PyData → List PyData → Rho → Prop) → Prop
def lcW (k : Nat) (g : TDGt) (tt : TDT) (te : TDE) (vs : List Nat) (Q : List PyData → Rho → Prop) (items ys : List PyData) (ρ1 : Rho) : Prop :=
  ((∀ i ∈ vs, ρ1[i]? = some none) ∧ k ∉ vs) ∧ ∃ I : Nat → List PyData → Rho → Prop, I 0 [] ρ1 ∧
  (∀ i x acc ρ, items[i]? = some x → I i acc ρ → ρ[k]? = some (some (.own ys)) → g (.d x) ρ fun ρ2 => tt ρ2 fun b ρ3 => if b = true then te ρ3 fun r ρ4 => onDat r fun y => Few (acc.length + 1) ∧ ρ4[k]? = some (some (.own ys)) ∧ I (i + 1) (acc ++ [y]) (wipeR ρ4 vs) else ρ3[k]? = some (some (.own ys)) ∧ I (i + 1) acc (wipeR ρ3 vs)) ∧
  ∀ acc ρ, I items.length acc ρ → ρ[k]? = some (some (.own ys)) → Q acc (wipeR ρ vs)
def dLcW (k : Nat) (dw : TDW) (g : TDGt) (tt : TDT) (te : TDE) (vs : List Nat) : TDL := fun ρ Q => dw ρ fun items ys ρ1 => lcW k g tt te vs Q items ys ρ1
end
end DV
namespace DV
open PySem PySem.Spec PyProof.Rows L2
open LamX (ExtN TabS Tabs CodeO)
section
variable {F : Fm}
def dZipX (k : Nat) (te : TDE) : TDW := fun ρ Q => te ρ fun r ρ1 => onOwn ρ1 k fun ys => match seqs ρ1 r with
  | some (_, xs) => Q (zipD xs ys) ys ρ1
  | none => False
end
end DV
namespace DV
open PySem PySem.Spec PyProof.Rows L2
open LamX (ExtN TabS Tabs CodeO)
end DV
namespace DV
open PySem PySem.Spec PyProof.Rows L2
open LamX (ExtN TabS Tabs CodeO)
structure Scn where
  tk : Int
  hd : Int
  ls : List Lmp
structure Shw where
  b : Bn
  pads : List P2
  full : Int
  hold : Int
  fly : Int
  sc : List Scn
def eSc (s : Scn) : PyData := .tuple [.int s.tk, .int s.hd, eP s.ls]
def eW (w : Shw) : PyData := .tuple [eB w.b, .tuple (w.pads.map enc2), .tuple [.int w.full, .int w.hold, .int w.fly], .tuple (w.sc.map eSc)]
def lp (l : Lmp) : P2 := (l.x, l.z)
def lt2 (p q : P2) : Prop := p.1 < q.1 ∨ (p.1 = q.1 ∧ p.2 < q.2)
/-- a picture: places ascending, each once -/
def PicL (ls : List Lmp) : Prop := ls.Pairwise fun a b => lt2 (lp a) (lp b)
theorem PicL.up {ls : List Lmp} (h : PicL ls) : UpL (lxs ls) := by
  unfold UpL lxs
  rw [List.pairwise_map]
  refine List.Pairwise.imp (fun {a b} q => ?_) h
  rcases q with q | ⟨q, _⟩
  · exact Int.le_of_lt q
  · exact Int.le_of_eq q
def putL (ls : List Lmp) (l : Lmp) : List Lmp := if (ls.any fun k => decide (lp k = lp l)) = true then ls.map (fun k => if lp k = lp l then l else k) else ls ++ [l]
theorem LeastR.app {xs ys rs : List Int} {sp : Int} (h : LeastR xs sp rs) (hl : rs.length = xs.length) : LeastR (xs ++ ys) sp rs := by
  intro j r b hr hb
  have jl : j < xs.length := by rw [← hl]; exact (List.getElem?_eq_some_iff.mp hr).1
  have at' : ∀ i, i ≤ j → (xs ++ ys)[i]? = xs[i]? := fun i hi => List.getElem?_append_left (by omega)
  rw [at' j (Nat.le_refl _)] at hb
  obtain ⟨h0, h1, h2⟩ := h j r b hr hb
  refine ⟨h0, fun i a q hi ha hq => h1 i a q hi (by rw [at' i (by omega)] at ha; exact ha) hq, fun s s0 hs => ?_⟩
  obtain ⟨i, a, hi, ha, hq, hlt⟩ := h2 s s0 hs
  exact ⟨i, a, hi, by rw [at' i (by omega)]; exact ha, hq, hlt⟩
def deepL (ls : List Lmp) (rs : List Int) (d : Int) : List (Lmp × Int) := (List.zip ls rs).filter fun p => decide (p.2 < d)
theorem zip_snoc {α β : Type} {xs : List α} {ys : List β} {n : Nat} {x : α} {y : β} (hx : xs[n]? = some x) (hy : ys[n]? = some y) : List.zip (xs.take (n + 1)) (ys.take (n + 1)) = List.zip (xs.take n) (ys.take n) ++ [(x, y)] := by
  rw [List.take_add_one, List.take_add_one, hx, hy]
  have := (List.getElem?_eq_some_iff.mp hx).1
  have := (List.getElem?_eq_some_iff.mp hy).1
  rw [List.zip_append (by rw [List.length_take, List.length_take]; omega)]
  rfl
theorem deep_go {ls : List Lmp} {rs : List Int} {sp d : Int} (h : LeastR (lxs ls) sp rs) (hl : rs.length = ls.length) : ∀ n, n ≤ ls.length → LeastR (lxs ((deepL (ls.take n) (rs.take n) d).map (·.1))) sp ((deepL (ls.take n) (rs.take n) d).map (·.2))
  | 0, _ => by
    rw [List.take_zero, List.take_zero]
    exact .nil
  | n + 1, hn => by
    have ih := deep_go (d := d) h hl n (by omega)
    have h1 : ls[n]? = some ls[n] := List.getElem?_eq_getElem (by omega)
    have h2 : rs[n]? = some rs[n] := List.getElem?_eq_getElem (by omega)
    generalize ls[n] = l at h1
    generalize rs[n] = r at h2
    have hz : deepL (ls.take (n + 1)) (rs.take (n + 1)) d = deepL (ls.take n) (rs.take n) d ++ (if r < d then [(l, r)] else []) := by
      unfold deepL
      rw [zip_snoc h1 h2, List.filter_append]
      congr 1
      rw [List.filter_cons, List.filter_nil]
      by_cases c : r < d
      · rw [if_pos (decide_eq_true c), if_pos c]
      · rw [if_neg (fun z => c (of_decide_eq_true z)), if_neg c]
    rw [hz]
    by_cases c : r < d
    · rw [if_pos c, List.map_append, List.map_append]
      generalize hps : deepL (ls.take n) (rs.take n) d = ps at *
      have memp : ∀ {i : Nat} {a q : Int}, (lxs (ps.map (·.1)) ++ [l.x])[i]? = some a → (ps.map (·.2))[i]? = some q → ∃ k, k < n ∧ (lxs ls)[k]? = some a ∧ rs[k]? = some q := fun {i a q} ha hq => by
        have il : i < ps.length := by have := (List.getElem?_eq_some_iff.mp hq).1; rwa [List.length_map] at this
        rw [List.getElem?_append_left (by rw [lxs_len, List.length_map]; exact il)] at ha
        have hp : ps[i]? = some ps[i] := List.getElem?_eq_getElem il
        have hm : ps[i] ∈ ps := List.getElem_mem il
        generalize ps[i] = p at hp hm
        have ea : p.1.x = a := by
          have := lxs_at (ls := ps.map (·.1)) (l := p.1) (by rw [List.getElem?_map, hp]; rfl)
          rw [this] at ha
          exact Option.some.inj ha
        have eq : p.2 = q := by
          rw [List.getElem?_map, hp] at hq
          exact Option.some.inj hq
        rw [← hps] at hm
        obtain ⟨hm1, hm2⟩ := List.mem_filter.mp hm
        obtain ⟨k, hk⟩ := List.mem_iff_getElem?.mp hm1
        obtain ⟨k1, k2⟩ := List.getElem?_zip_eq_some.mp hk
        have kn : k < n := by have := (List.getElem?_eq_some_iff.mp k1).1; rw [List.length_take] at this; omega
        rw [List.getElem?_take_of_lt kn] at k1 k2
        exact ⟨k, kn, ea ▸ lxs_at k1, eq ▸ k2⟩
      obtain ⟨r0, ne, lo⟩ := h n r l.x h2 (lxs_at h1)
      have lps : (ps.map (·.2)).length = ps.length := List.length_map _
      have e1 : lxs (ps.map (·.1) ++ [(l, r)].map (·.1)) = lxs (ps.map (·.1)) ++ [l.x] := by
        unfold lxs
        rw [List.map_append]; rfl
      rw [e1]
      have ih2 := LeastR.app (ys := [l.x]) ih (by rw [lxs_len, List.length_map, List.length_map])
      refine ih2.snoc (b := l.x) ?_ r0 (fun i a q hi ha hq hlt => ?_) fun s s0 hs => ?_
      · rw [List.getElem?_append_right (by rw [lxs_len, List.length_map, List.length_map]; exact Nat.le_refl _), lxs_len, List.length_map, List.length_map, Nat.sub_self]; rfl
      · obtain ⟨k, kn, ka, kq⟩ := memp ha hq
        exact ne k a q kn ka kq hlt
      · obtain ⟨k, a, kn, ka, kq, hlt⟩ := lo s s0 hs
        have hlk : ∃ m, ls[k]? = some m ∧ m.x = a := by
          have : k < ls.length := by omega
          refine ⟨ls[k], List.getElem?_eq_getElem this, ?_⟩
          have := lxs_at (List.getElem?_eq_getElem this)
          rw [this] at ka
          exact Option.some.inj ka
        obtain ⟨m, hm, em⟩ := hlk
        have hs' : s < r := hs
        have hin : (m, s) ∈ ps := by
          rw [← hps]
          refine List.mem_filter.mpr ⟨List.mem_iff_getElem?.mpr ⟨k, List.getElem?_zip_eq_some.mpr ⟨?_, ?_⟩⟩, decide_eq_true (show s < d by omega)⟩
          · rw [List.getElem?_take_of_lt kn]; exact hm
          · rw [List.getElem?_take_of_lt kn]; exact kq
        obtain ⟨i, hi⟩ := List.mem_iff_getElem?.mp hin
        have il := (List.getElem?_eq_some_iff.mp hi).1
        refine ⟨i, a, by rw [List.length_map]; exact il, ?_, by rw [List.getElem?_map, hi]; rfl, hlt⟩
        rw [List.getElem?_append_left (by rw [lxs_len, List.length_map]; exact il), ← em]
        exact lxs_at (by rw [List.getElem?_map, hi]; rfl)
    · rw [if_neg c, List.append_nil]
      exact ih
/-- those below a depth keep their rows -/
theorem LeastR.deep {ls : List Lmp} {rs : List Int} {sp d : Int} (h : LeastR (lxs ls) sp rs) (hl : rs.length = ls.length) : LeastR (lxs ((deepL ls rs d).map (·.1))) sp ((deepL ls rs d).map (·.2)) := by
  have := deep_go (d := d) h hl ls.length (Nat.le_refl _)
  rw [List.take_length, show rs.take ls.length = rs by rw [← hl, List.take_length]] at this
  exact this
end DV
namespace DV
open PySem PySem.Spec PyProof.Rows L2
open LamX (ExtN TabS Tabs CodeO)
inductive Mi
  | d (x : PyData)
  | l (xs : List PyData)
inductive MP : List Mi → List V → List Pin → Prop
  | nil : MP [] [] []
  | d {ms : List Mi} {vs : List V} {ps : List Pin} {x : PyData} {v : V} (h : MP ms vs ps) : MP (.d x :: ms) (v :: vs) (.val v (.d x) :: ps)
  | l {ms : List Mi} {vs : List V} {ps : List Pin} {xs : List PyData} {p : Addr} (h : MP ms vs ps) : MP (.l xs :: ms) (.ref p :: vs) (.acc p xs :: ps)
theorem MP.len {ms : List Mi} {vs : List V} {ps : List Pin} (h : MP ms vs ps) : vs.length = ms.length := by
  induction h with
  | nil => rfl
  | d h ih => simp [ih]
  | l h ih => simp [ih]
section
variable {F : Fm} {ρ : Rho} {σ : L2.St} {H : Hp}
theorem accs_permL {ps qs : List Pin} (h : ps.Perm qs) : (accs ps).Perm (accs qs) := by
  induction h with
  | nil => exact .nil
  | cons x _ ih => cases x with
    | val v r => exact ih
    | acc a xs => exact ih.cons a
  | swap x y l => cases x <;> cases y <;> simp only [accs] <;> first | exact List.Perm.refl _ | exact .swap ..
  | trans _ _ h1 h2 => exact h1.trans h2
theorem Ok.perm {ps qs : List Pin} (O : Ok F ps ρ σ H) (hp : ps.Perm qs) : Ok F qs ρ σ H := by
  have e : Av F qs ρ σ = Av F ps ρ σ := by
    funext a
    unfold Av
    rw [accs_perm hp]
  exact ⟨O.len, by rw [e]; exact O.ent, O.own, fun r hr => by rw [e]; exact O.pin r (hp.mem_iff.mpr hr), (accs_permL hp).nodup_iff.mp O.acs, O.fr, O.nh, O.ln, O.h0, O.lf, O.tb⟩
def setM : List Nat → List Mi → Rho → Rho
  | i :: is, .d x :: ms, ρ => setM is ms (ρ.set i (some (.d x)))
  | i :: is, .l xs :: ms, ρ => setM is ms (ρ.set i (some (.own xs)))
  | _, _, ρ => ρ
end
abbrev TDM := Rho → (List Mi → Rho → Prop) → Prop
section
variable {X : Cx} {F : Fm} {e : Expr} {es : List Expr} {te : TE} {ta : TA} {de : TDE} {dl : TDL} {dm : TDM}
def dmNil : TDM := fun ρ Q => Q [] ρ
def dmD (de : TDE) (dm : TDM) : TDM := fun ρ Q => de ρ fun r ρ1 => onDat r fun x => dm ρ1 fun ms ρ2 => Q (.d x :: ms) ρ2
def dmL (dl : TDL) (dm : TDM) : TDM := fun ρ Q => dl ρ fun xs ρ1 => dm ρ1 fun ms ρ2 => Q (.l xs :: ms) ρ2
/-- the names at is take them -/
def dParM (is : List Nat) (dm : TDM) : TDS := fun DD ρ => dm ρ fun ms ρ1 => ms.length = is.length ∧ DD.nx (setM is ms ρ1)
end
end DV
namespace DV
open PySem PySem.Spec PyProof.Rows L2
open LamX (ExtN TabS Tabs CodeO)
def eTm (p : Int × Int) (s : Scn) : PyData := .tuple [.int p.1, .int p.2, .int (p.2 + s.tk), .int (p.2 + s.tk + s.hd)]
/-- a picture of small numbers -/
structure LmB (l : Lmp) : Prop where
  x0 : -100 ≤ l.x
  x1 : l.x ≤ 100
  z0 : -100 ≤ l.z
  z1 : l.z ≤ 100
  w0 : 0 ≤ l.w
  w1 : l.w ≤ 100
  s0 : l.sh ≠ []
  s1 : l.sh.length ≤ 4
  st : ∀ t ∈ l.sh, okd (.str t) = true ∧ t.length ≤ 12
structure ShwB (w : Shw) : Prop where
  ok : BnOk w.b
  np : w.pads.length ≤ 8
  ip : ∀ p ∈ w.pads, Inb 9800 p
  ns : w.sc.length ≤ 4
  tk : ∀ s ∈ w.sc, 1 ≤ s.tk ∧ w.b.lag ≤ s.tk ∧ s.tk ≤ 20000
  hd : ∀ s ∈ w.sc, 0 ≤ s.hd ∧ s.hd ≤ 1000
  pc : ∀ s ∈ w.sc, PicL s.ls ∧ s.ls.length ≤ 8 ∧ ∀ l ∈ s.ls, LmB l
  f0 : 0 ≤ w.full
  f1 : w.full ≤ 1000000
  h0 : 0 ≤ w.hold
  h1 : w.hold ≤ 2
  y0 : 1 ≤ w.fly
  y1 : w.fly ≤ 3
theorem on6 {a b c d e f' x : PyData} {xs : List PyData} {f : PyData → Prop} : onAt (a :: b :: c :: d :: e :: f' :: x :: xs) 6 f = f x := on_nat (n := 6) rfl
theorem on7 {a b c d e f' g x : PyData} {xs : List PyData} {f : PyData → Prop} : onAt (a :: b :: c :: d :: e :: f' :: g :: x :: xs) 7 f = f x := on_nat (n := 7) rfl
theorem on8 {a b c d e f' g h x : PyData} {xs : List PyData} {f : PyData → Prop} : onAt (a :: b :: c :: d :: e :: f' :: g :: h :: x :: xs) 8 f = f x := on_nat (n := 8) rfl
def seatsP (ls : List Lmp) (rs : List Int) (sp : Int) : List P2 := (List.zip ls rs).map fun p => (p.1.x, p.2 * sp)
theorem seatsP_len {ls : List Lmp} {rs : List Int} {sp : Int} : (seatsP ls rs sp).length ≤ ls.length := by
  unfold seatsP
  rw [List.length_map, List.length_zip]
  exact Nat.min_le_left _ _
/-- a column at which carriers may stand behind the scene k -/
def StandsAt (w : Shw) (k : Int) (p : P2) : Prop := p ∈ w.pads ∨ ∃ (i : Nat) (s : Scn) (rs : List Int), k = i ∧ w.sc[i]? = some s ∧ LeastR (lxs s.ls) w.b.sp rs ∧ rs.length = s.ls.length ∧ p ∈ seatsP s.ls rs w.b.sp
theorem standsAt_sc {w : Shw} {k : Nat} {p : P2} {s : Scn} {rs : List Int} (h : w.sc[k]? = some s) (l : LeastR (lxs s.ls) w.b.sp rs) (lr : rs.length = s.ls.length) : StandsAt w k p ↔ p ∈ w.pads ++ seatsP s.ls rs w.b.sp := by
  rw [List.mem_append]
  constructor
  · rintro (h2 | ⟨i, s2, rs2, e, h3, l2, lr2, h4⟩)
    · exact .inl h2
    · have : k = i := by omega
      subst this
      rw [h] at h3
      cases h3
      rw [LeastR.unique l l2 (by rw [lr, lxs_len]) (by rw [lr2, lxs_len])]
      exact .inr h4
  · rintro (h2 | h2)
    · exact .inl h2
    · exact .inr ⟨k, s, rs, rfl, h, l, lr, h2⟩
structure StandsL (w : Shw) (k : Int) (qs : List Pr) : Prop where
  mem : ∀ p, StandsAt w k p ↔ p ∈ qs
  nd : qs.Nodup
  up : qs.Pairwise lle
end DV
namespace DV
open PySem PySem.Spec PyProof.Rows L2
open LamX (ExtN TabS Tabs CodeO)
section
variable {ρ : Rho} {n : Nat} {gs : List PyData → Rho → (Rho → Prop) → Prop} {P : Rho → Prop}
theorem items_l {xs : List PyData} : items ρ (.d (.list xs)) = some xs := rfl
theorem items_t {xs : List PyData} : items ρ (.d (.tuple xs)) = some xs := rfl
theorem items_o {i : Nat} : items ρ (.o i) = match ρ[i]? with
    | some (some (.own xs)) => some xs
    | some (some (.ro (.list xs))) => some xs
    | some (some (.ro (.tuple xs))) => some xs
    | some (some (.d (.list xs))) => some xs
    | some (some (.d (.tuple xs))) => some xs
    | _ => none := rfl
theorem ti_t {xs : List PyData} : titems (.d (.tuple xs)) = some xs := rfl
theorem dgT_t {k : Nat} {xs : List PyData} : dgTup k gs (.d (.tuple xs)) ρ P = (xs.length = k ∧ gs xs ρ P) := rfl
theorem seqs_l {xs : List PyData} : seqs ρ (.d (.list xs)) = some (false, xs) := rfl
theorem seqs_t {xs : List PyData} : seqs ρ (.d (.tuple xs)) = some (true, xs) := rfl
theorem seqs_o {i : Nat} : seqs ρ (.o i) = match ρ[i]? with
    | some (some (.ro (.list xs))) => some (false, xs)
    | some (some (.ro (.tuple xs))) => some (true, xs)
    | _ => none := rfl
/-- what is walked -/
def walkR (r : R) (ρ1 : Rho) (Q : List PyData → Rho → Prop) : Prop := match r with
  | .d (.list xs) => Q xs ρ1
  | .d (.tuple xs) => Q xs ρ1
  | .o i => match ρ1[i]? with
    | some (some (.ro (.list xs))) => Q xs ρ1
    | some (some (.ro (.tuple xs))) => Q xs ρ1
    | _ => False
  | _ => False
theorem dSeqI_eq {te : TDE} : dSeqI te = fun ρ Q => te ρ fun r ρ1 => walkR r ρ1 Q := rfl
theorem wk_l {xs : List PyData} {Q : List PyData → Rho → Prop} : walkR (.d (.list xs)) ρ Q = Q xs ρ := rfl
theorem wk_t {xs : List PyData} {Q : List PyData → Rho → Prop} : walkR (.d (.tuple xs)) ρ Q = Q xs ρ := rfl
theorem wk_eP {ls : List Lmp} {Q : List PyData → Rho → Prop} : walkR (.d (eP ls)) ρ Q = Q (ls.map eLm) ρ := rfl
theorem wk_o {i : Nat} {Q : List PyData → Rho → Prop} : walkR (.o i) ρ Q = match ρ[i]? with
    | some (some (.ro (.list xs))) => Q xs ρ
    | some (some (.ro (.tuple xs))) => Q xs ρ
    | _ => False := rfl
/-- tuple(xs) -/
def tupR (rs : List R) (ρ1 : Rho) (Q : R → Rho → Prop) : Prop := match rs with
  | [.d (.tuple xs)] => Q (.d (.tuple xs)) ρ1
  | [r] => onL ρ1 r fun xs => Q (.d (.tuple xs)) ρ1
  | _ => False
theorem dTupOf_eq {t : TDA} : dTupOf t = fun ρ Q => t ρ fun rs ρ1 => tupR rs ρ1 Q := rfl
theorem tu_t {xs : List PyData} {Q : R → Rho → Prop} : tupR [.d (.tuple xs)] ρ Q = Q (.d (.tuple xs)) ρ := rfl
theorem tu_l {xs : List PyData} {Q : R → Rho → Prop} : tupR [.d (.list xs)] ρ Q = Q (.d (.tuple xs)) ρ := rfl
theorem tu_o {i : Nat} {Q : R → Rho → Prop} : tupR [.o i] ρ Q = onL ρ (.o i) fun xs => Q (.d (.tuple xs)) ρ := rfl
theorem tu_eP {ls : List Lmp} {Q : R → Rho → Prop} : tupR [.d (eP ls)] ρ Q = Q (.d (eP ls)) ρ := rfl
theorem items_eW {w : Shw} : items ρ (.d (eW w)) = some [eB w.b, .tuple (w.pads.map enc2), .tuple [.int w.full, .int w.hold, .int w.fly], .tuple (w.sc.map eSc)] := rfl
theorem items_eB {b : Bn} : items ρ (.d (eB b)) = some [.int b.sp, .int b.near, .int b.wind, .int b.clk, .int b.fall, .int b.way, .int b.sil, .int b.cuts, .int b.deep] := rfl
theorem items_eSc {s : Scn} : items ρ (.d (eSc s)) = some [.int s.tk, .int s.hd, eP s.ls] := rfl
theorem items_eLm {l : Lmp} : items ρ (.d (eLm l)) = some [.int l.x, .int l.z, .tuple (l.sh.map .str), .int l.w] := rfl
theorem items_eP {ls : List Lmp} : items ρ (.d (eP ls)) = some (ls.map eLm) := rfl
theorem items_eL {l : Lg} : items ρ (.d (eL l)) = some [pr l.ax l.ay, pr l.bx l.by'] := rfl
theorem items_pr {a b : Int} : items ρ (.d (pr a b)) = some [.int a, .int b] := rfl
theorem items_enc2 {p : P2} : items ρ (.d (enc2 p)) = some [.int p.1, .int p.2] := rfl
theorem items_eTm {p : Int × Int} {s : Scn} : items ρ (.d (eTm p s)) = some [.int p.1, .int p.2, .int (p.2 + s.tk), .int (p.2 + s.tk + s.hd)] := rfl
theorem ti_eB {b : Bn} : titems (.d (eB b)) = some [.int b.sp, .int b.near, .int b.wind, .int b.clk, .int b.fall, .int b.way, .int b.sil, .int b.cuts, .int b.deep] := rfl
theorem ti_eW {w : Shw} : titems (.d (eW w)) = some [eB w.b, .tuple (w.pads.map enc2), .tuple [.int w.full, .int w.hold, .int w.fly], .tuple (w.sc.map eSc)] := rfl
theorem ti_eLm {l : Lmp} : titems (.d (eLm l)) = some [.int l.x, .int l.z, .tuple (l.sh.map .str), .int l.w] := rfl
theorem ti_eP {ls : List Lmp} : titems (.d (eP ls)) = some (ls.map eLm) := rfl
theorem dgT_eSc {s : Scn} : dgTup 3 gs (.d (eSc s)) ρ P = gs [.int s.tk, .int s.hd, eP s.ls] ρ P := by simp [dgTup, eSc]
theorem dgT_eLm {l : Lmp} : dgTup 4 gs (.d (eLm l)) ρ P = gs [.int l.x, .int l.z, .tuple (l.sh.map .str), .int l.w] ρ P := by simp [dgTup, eLm]
theorem dgT_eL {l : Lg} : dgTup 2 gs (.d (eL l)) ρ P = gs [pr l.ax l.ay, pr l.bx l.by'] ρ P := by simp [dgTup, eL]
theorem dgT_pr {a b : Int} : dgTup 2 gs (.d (pr a b)) ρ P = gs [.int a, .int b] ρ P := by simp [dgTup, pr]
theorem dgT_enc2 {p : P2} : dgTup 2 gs (.d (enc2 p)) ρ P = gs [.int p.1, .int p.2] ρ P := by simp [dgTup, enc2, pr]
theorem dgT_eW {w : Shw} : dgTup 4 gs (.d (eW w)) ρ P = gs [eB w.b, .tuple (w.pads.map enc2), .tuple [.int w.full, .int w.hold, .int w.fly], .tuple (w.sc.map eSc)] ρ P := by simp [dgTup, eW]
theorem dgT_eTm {p : Int × Int} {s : Scn} : dgTup 4 gs (.d (eTm p s)) ρ P = gs [.int p.1, .int p.2, .int (p.2 + s.tk), .int (p.2 + s.tk + s.hd)] ρ P := by simp [dgTup, eTm]
theorem seqs_eP {ls : List Lmp} : seqs ρ (.d (eP ls)) = some (true, ls.map eLm) := rfl
theorem dOp_ap {f : F2} {ta tb : TDE} {Q : R → Rho → Prop} : dOp f ta tb ρ Q = ta ρ fun r ρ1 => tb ρ1 fun s ρ2 => onV2 ρ2 r s fun x y => f x y fun z => Q (.d z) ρ2 := rfl
theorem dIx_ap {ta tb : TDE} {Q : R → Rho → Prop} : dIx ta tb ρ Q = ta ρ fun r ρ1 => tb ρ1 fun s ρ2 => onItems ρ2 r fun xs => onInt ρ2 s fun k => onAt xs k fun y => Q (.d y) ρ2 := rfl
theorem dCatT_ap {ta tb : TDE} {Q : R → Rho → Prop} : dCatT ta tb ρ Q = ta ρ fun r ρ1 => tb ρ1 fun s ρ2 => onT r fun xs => onT s fun ys => Few (xs.length + ys.length) ∧ Q (.d (.tuple (xs ++ ys))) ρ2 := rfl
theorem dRepT_ap {ta tb : TDE} {Q : R → Rho → Prop} : dRepT ta tb ρ Q = ta ρ fun r ρ1 => tb ρ1 fun s ρ2 => onT r fun xs => onInt ρ2 s fun k => (xs ≠ [] ∧ 1 ≤ k ∧ k ≤ 1000 ∧ xs.length ≤ 1000) ∧ Q (.d (.tuple (repD k xs))) ρ2 := rfl
end
end DV
namespace PySem
open Sem (wp)
open AutoSeq1
end PySem
namespace DV
open PySem PySem.Spec PyProof.Rows L2
open LamX (ExtN TabS Tabs CodeO)
section
variable {X : Cx} {F : Fm} {e : Expr} {i : Nat} {x : Str} {vpos apos cpos : Pos} {t : TA} {d : TDA}
def dExtendT (i : Nat) (t : TDA) : TDE := fun ρ Q => onOwn ρ i fun _ => t ρ fun rs ρ1 => match rs with
  | [r] => onT r fun zs => onOwn ρ1 i fun xs => Few (xs.length + zs.length) ∧ Q (.d .none) (ρ1.set i (some (.own (xs ++ zs))))
  | _ => False
end
def rgDn (a : Int) (n : Nat) : List PyData := (List.range n).map fun k : Nat => PyData.int (a - (k : Nat))
section
variable {X : Cx} {F : Fm} {a b c : Expr} {t : TA} {d : TDA} {pos p p2 pos2 : Pos}
def dLstDn (t : TDA) : TDL := fun ρ Q => t ρ fun rs ρ1 => match rs with
  | [.d (.int i), .d (.int j), .d (.int k)] => k = -1 ∧ (-(2 ^ 62) ≤ i ∧ i < 2 ^ 62 ∧ -(2 ^ 62) ≤ j ∧ j < 2 ^ 62 ∧ (i - j).toNat ≤ 2 ^ 24) ∧ Q (rgDn i (i - j).toNat) ρ1
  | _ => False
end
end DV
namespace DV
open PySem PySem.Spec PyProof.Rows L2
open LamX (ExtN TabS Tabs CodeO)
def Bn.nr (b : Bn) (n : Int) : Bn := { b with near := n }
theorem BnOk.nr {b : Bn} (h : BnOk b) {n : Int} (h0 : 1 ≤ n) (h1 : n ≤ b.near) : BnOk (b.nr n) := by
  obtain ⟨_, _, _, _, _, _, _, _, _, _, _, _, _, _, _, _, _, _⟩ := h
  unfold Bn.nr
  constructor
  all_goals dsimp only
  all_goals omega
def Bn.plain (b : Bn) : Bn := { b with near := 1, wind := 0, clk := 0, fall := 0 }
/-- pads side by side -/
structure PadsI (sp wd hi : Int) (i : Nat) (ps : List P2) : Prop where
  len : ps.length = i
  at' : ∀ (k : Nat) (p : P2), ps[k]? = some p → p.1 = k * wd ∧ hi ≤ p.2 ∧ p.2 ≤ hi + sp
theorem PadsI.nil {sp wd hi : Int} : PadsI sp wd hi 0 [] := ⟨rfl, fun k p h => by simp at h⟩
theorem PadsI.snoc {sp wd hi y : Int} {i : Nat} {ps : List P2} (h : PadsI sp wd hi i ps) (h0 : hi ≤ y) (h1 : y ≤ hi + sp) : PadsI sp wd hi (i + 1) (ps ++ [(i * wd, y)]) := by
  refine ⟨by rw [List.length_append, h.len]; rfl, fun k p hp => ?_⟩
  by_cases e : k < ps.length
  · rw [List.getElem?_append_left e] at hp
    exact h.at' k p hp
  · rw [List.getElem?_append_right (by omega)] at hp
    have : k = i := by
      have := (List.getElem?_eq_some_iff.mp hp).1
      rw [List.length_singleton] at this
      have := h.len
      omega
    subst this
    rw [h.len, Nat.sub_self] at hp
    cases hp
    exact ⟨rfl, h0, h1⟩
theorem PadsI.up {sp wd hi : Int} {i : Nat} {ps : List P2} (h : PadsI sp wd hi i ps) (h0 : 1 ≤ wd) : ps.Pairwise fun p q => p.1 < q.1 := by
  rw [List.pairwise_iff_getElem]
  intro a b ha hb hab
  have e1 := (h.at' a _ (List.getElem?_eq_getElem ha)).1
  have e2 := (h.at' b _ (List.getElem?_eq_getElem hb)).1
  rw [e1, e2]
  exact Int.mul_lt_mul_of_pos_right (by omega) (by omega)
end DV
namespace DV
open PySem PySem.Spec PyProof.Rows L2
open LamX (ExtN TabS Tabs CodeO)
theorem LeastR.le {xs rs : List Int} {sp : Int} (h : LeastR xs sp rs) (hl : rs.length = xs.length) {j : Nat} {r : Int} (hr : rs[j]? = some r) : 0 ≤ r ∧ r ≤ j := by
  have jl := (List.getElem?_eq_some_iff.mp hr).1
  have hb := List.getElem?_eq_getElem (show j < xs.length by omega)
  obtain ⟨h0, _, h2⟩ := h j r _ hr hb
  refine ⟨h0, ?_⟩
  have := nodup_le (xs := (List.range r.toNat).map fun i : Nat => (i : Int)) (ys := rs.take j) (by
    rw [List.Nodup, List.pairwise_map]
    exact List.Pairwise.imp (fun {a b} hne e => hne (by omega)) List.nodup_range) fun x hx => by
    obtain ⟨i, hi, rfl⟩ := List.mem_map.mp hx
    have := List.mem_range.mp hi
    obtain ⟨k, a, hk, _, hq, _⟩ := h2 i (by omega) (by omega)
    exact List.mem_iff_getElem?.mpr ⟨k, by rw [List.getElem?_take_of_lt hk]; exact hq⟩
  rw [List.length_map, List.length_range, List.length_take] at this
  omega
theorem seatsP_in {ls : List Lmp} {rs : List Int} {sp : Int} (h : LeastR (lxs ls) sp rs) (hl : rs.length = ls.length) (ll : ls.length ≤ 8) (sp0 : 0 ≤ sp) (sp1 : sp ≤ 100) (hb : ∀ l ∈ ls, LmB l) : ∀ p ∈ seatsP ls rs sp, Inb 9800 p ∧ 0 ≤ p.2 := by
  intro p hp
  unfold seatsP at hp
  obtain ⟨⟨l, r⟩, hm, rfl⟩ := List.mem_map.mp hp
  obtain ⟨j, hj⟩ := List.mem_iff_getElem?.mp hm
  obtain ⟨j1, j2⟩ := List.getElem?_zip_eq_some.mp hj
  obtain ⟨r0, r1⟩ := h.le (by rw [hl, lxs_len]) j2
  have jl := (List.getElem?_eq_some_iff.mp j1).1
  have b := hb l (List.mem_of_getElem? j1)
  have := b.x0
  have := b.x1
  have q0 : 0 ≤ r * sp := Int.mul_nonneg r0 sp0
  have q1 : r * sp ≤ 8 * 100 := Int.mul_le_mul (by omega) sp1 sp0 (by decide)
  unfold Inb
  dsimp only
  omega
theorem StandsL.few {w : Shw} {k : Int} {qs : List Pr} (h : StandsL w k qs) (hw : ShwB w) : qs.length ≤ 16 ∧ ∀ p ∈ qs, Inb 9800 p := by
  have ok := hw.ok
  have sp0 := ok.sp0
  have sp1 := ok.sp1
  have inb : ∀ p ∈ qs, Inb 9800 p := fun p hp => by
    rcases (h.mem p).mpr hp with q | ⟨i, s, rs, _, hs, l, lr, q⟩
    · exact hw.ip p q
    · obtain ⟨_, p1, p2⟩ := hw.pc s (List.mem_of_getElem? hs)
      exact (seatsP_in l lr p1 (by omega) sp1 p2 p q).1
  refine ⟨?_, inb⟩
  have np := hw.np
  by_cases c : ∃ (i : Nat) (s : Scn) (rs : List Int), k = i ∧ w.sc[i]? = some s ∧ LeastR (lxs s.ls) w.b.sp rs ∧ rs.length = s.ls.length
  · obtain ⟨i, s, rs, rfl, hs, l, lr⟩ := c
    have := nodup_le (ys := w.pads ++ seatsP s.ls rs w.b.sp) h.nd fun p hp => (standsAt_sc hs l lr).mp ((h.mem p).mpr hp)
    have := seatsP_len (ls := s.ls) (rs := rs) (sp := w.b.sp)
    obtain ⟨_, p1, _⟩ := hw.pc s (List.mem_of_getElem? hs)
    rw [List.length_append] at *
    omega
  · have := nodup_le (ys := w.pads) h.nd fun p hp => by
      rcases (h.mem p).mpr hp with q | ⟨i, s, rs, e, hs, l, lr, _⟩
      · exact q
      · exact absurd ⟨i, s, rs, e, hs, l, lr⟩ c
    omega
theorem StandsL.fn {w : Shw} {k : Int} {qs : List Pr} (h : StandsL w k qs) (hw : ShwB w) : Fn 2 50000 (.tuple (qs.map encP)) := by
  obtain ⟨h1, h2⟩ := h.few hw
  refine (Fn.tuple (k := 1) (c := 2009) (n := 16) (Fn.map fun p hp => ?_) (by rw [List.length_map]; exact h1)).up (by decide) (by decide)
  obtain ⟨_, _, _, _⟩ := h2 p hp
  exact Fn.tuple (k := 0) (c := 1001) (n := 2) (all2 (Fn.int (bd_of 1000000 (by omega) (by omega) (k := 20))) (Fn.int (bd_of 1000000 (by omega) (by omega) (k := 20)))) (by simp)
end DV
namespace DV
open PySem PySem.Spec PyProof.Rows L2
open LamX (ExtN TabS Tabs CodeO TabB)
open NdefX (NF NScope CellsAt Caps ncx startF envF slotAt)
theorem Go.ofN {N : Addr → Prop} {H H' : Hp} (g : ExtN H H') : Go N N H H' := ⟨fun a o _ h m => g a o h m, fun _ h => .inl h⟩
theorem mut_ext {N : Addr → Prop} {H H' : Hp} (g : ExtN H H') (h : ∀ a, N a → ∃ o, H a = some o ∧ Mutab o) : ∀ a, N a → ∃ o, H' a = some o ∧ Mutab o := fun a z => by
  obtain ⟨o, e, m⟩ := h a z
  exact ⟨o, g a o e m.nt, m⟩
/-- at f stands such a function, from the state s, H on -/
structure Act (P : Program) (w : World) (K : PySem.W.Frag) (mg : Str → Option Value) (base : Heap) (T : List (Addr × Str)) (k : Nat) (fs : List Addr) (s : Shared) (H : Hp) (f : Addr) (dom : Int → Prop) (p : Int → Bool) : Prop where
  is_fn : ∀ (s1 : Shared) (H1 : Hp), Un fs [] H H1 s.heap s1.heap → PySem.W.FnAt f s1.heap
  goes : ∀ (A : Around) (out : List Env) (s1 : Shared) (H1 : Hp) (i : Int) (u : Value) (Q : VK) (E : XK), Room k A → A.guards = some [] → Env0 P w K mg base A out s1 H1 → Un fs [] H H1 s.heap s1.heap → Gr H H1 → Tabs T H1 →
    L2.RelV (.int i) u → dom i → (∀ H2, Gr H1 H2 → Tabs T H2 → Q (.bl (p i)) H2) → codeAny (model P w) A (.call (.ref f) ⟨[u], []⟩) (CR CX0 out P w H1 s1 Q E) s1
section
variable {X : Cx} {F : Fm} {e : Expr} {t : TA} {d : TDA} {k i : Nat} {f : Addr} {dom : Int → Prop} {p : Int → Bool} {x : Str} {p1 pos : Pos}
def tAct (X : Cx) (T : List (Addr × Str)) (f : Addr) (i : Nat) (dom : Int → Prop) (p : Int → Bool) (t : TA) : TE := fun σ H Q => σ[i]? = some (some (.ref f)) ∧
  t σ H fun vs H1 => ∃ j : Int, vs = [.int j] ∧ Gr X.H_0 H1 ∧ Tabs T H1 ∧ dom j ∧ ∀ H2, Gr H1 H2 → Tabs T H2 → Q (.bl (p j)) H2
def dAct (f : Addr) (i : Nat) (dom : Int → Prop) (p : Int → Bool) (d : TDA) : TDE := fun ρ Q => ρ[i]? = some (some (.raw (.ref f))) ∧
  d ρ fun rs ρ1 => ∃ j : Int, rs = [.d (.int j)] ∧ dom j ∧ Q (.d (.bool (p j))) ρ1
theorem pe_act (hA : Act X.prog X.w X.K X.mg X.base F.T k X.fs X.s_0 X.H_0 f dom p) (hex : X.ex = []) (hr : Room k X.A) (hgd : X.A.guards = some []) (hN : X.N[i]? = some x) (hv : Vis X.env.scope x) (ha : PA X [e] t)
    (hd : (x == ("__debug__" : Str)) = false) (hcd : (x == ("__classdict__" : Str)) = false) (he : starEach [e] X.env = [(false, eval e X.env)]) :
    PE X (.Call (.Name x p1) [e] [] pos) (tAct X F.T f i dom p t) := by
  constructor
  rintro pins s σ H Q I ⟨h1, h2⟩
  have un : ∀ {pins : List (Addr × Obj)} {s' : Shared} {σ' : L2.St} {H' : Hp}, Inv X pins σ' H' s' → Un X.fs [] X.H_0 H' X.s_0.heap s'.heap := fun J => by
    have := J.base
    rw [hex] at this
    exact this
  apply wpAny_Call_Name_kw
  refine thn ((pe_var (pos := p1) hN hv hd hcd).run pins s σ H (fun v G => v = .ref f ∧ G = H) I ⟨_, h1, rfl, rfl⟩) ?_
  rintro u s1 ⟨v, G, J, rv, rfl, rfl⟩
  cases (show u = Value.ref f from rv)
  refine PySem.W.callWith_F (first := []) (hA.is_fn _ _ (un J)) (thn (ha.run pos pins s1 σ G _ J h2) ?_) he rfl
  rintro us s2 ⟨vs, G2, J2, r, j, rfl, gr, tb, hj, q⟩
  refine ⟨hA.is_fn _ _ (un J2), ?_⟩
  cases r with
  | cons r0 r1 =>
    cases r1
    apply wpAny_call
    refine codeAny_mono (hA.goes X.A X.stack s2 G2 j _ Q E0 hr hgd J2.env0 (un J2) gr tb r0 hj q) ?_
    rintro (e | (u | _ | _ | _)) s' z
    all_goals first | exact J2.after z | exact False.elim z
theorem de_act (hF : F.H0 = X.H_0) (hL : ∀ a, ¬ F.L a) (h : DA F t d) : DE F (tAct X F.T f i dom p t) (dAct f i dom p d) := by
  constructor
  · rintro pins ρ σ H Q O ⟨h1, h2⟩
    obtain ⟨v, g1, g2⟩ := O.ent i _ h1
    cases (show v = .ref f from g2)
    refine ⟨g1, h.run pins ρ σ H _ O (h.mono _ _ _ ?_ h2)⟩
    rintro rs ρ1 ⟨j, rfl, hj, q⟩ vs H1 O1 R1
    simp only [ROks] at R1
    obtain ⟨v, us, rfl, r1, rfl⟩ := R1
    cases (Im.int_iff (K := F.K) (N := Av F pins ρ1 σ) (H := H1)).mp r1
    refine ⟨j, rfl, ⟨fun a o e => O1.fr a o (hL a) (by rw [hF]; exact e), fun a ps e => O1.tb.2 a ps (by rw [hF]; exact e)⟩, O1.tb.1, hj, fun H2 gr tb => q _ H2 (O1.heapN gr tb) (show Im F.K _ _ _ _ from Im.bool)⟩
  · rintro ρ Q Q' hq ⟨h1, h2⟩
    refine ⟨h1, h.mono _ _ _ ?_ h2⟩
    rintro rs ρ1 ⟨j, e, hj, q⟩
    exact ⟨j, e, hj, hq _ _ q⟩
theorem pd_act (hA : Act X.prog X.w X.K X.mg X.base F.T k X.fs X.s_0 X.H_0 f dom p) (hF : F.H0 = X.H_0) (hL : ∀ a, ¬ F.L a) (hr : Room k X.A) (hgd : X.A.guards = some []) (hN : X.N[i]? = some x) (hv : Vis X.env.scope x) (ha : PDA X F [e] t d) (hex : X.ex = [] := by rfl)
    (hd : (x == ("__debug__" : Str)) = false := by decide) (hcd : (x == ("__classdict__" : Str)) = false := by decide) (he : starEach [e] X.env = [(false, eval e X.env)] := by rfl) :
    PD X F (.Call (.Name x p1) [e] [] pos) (tAct X F.T f i dom p t) (dAct f i dom p d) :=
  ⟨pe_act hA hex hr hgd hN hv ha.pa hd hcd he, de_act hF hL ha.da⟩
end
theorem ok_args {K : PySem.W.Frag} {H : Hp} {N : Addr → Prop} {T : List (Addr × Str)} {ks : List Kd} {xs : List PyData} {vs : List V} {n : Nat} (tb : Tabs T H) (hM : ∀ a, N a → ∃ o, H a = some o ∧ Mutab o) (ha : ArgsOk K N noZ H ks xs vs) (hn : ks.length ≤ n) :
    Ok (frP K H N T) [] (rhoP n ks xs) (vs.map some ++ List.replicate (n - vs.length) none) H := by
  have hl := ha.len
  have no : ∀ i a, ¬ OwnAt (rhoP n ks xs) (vs.map some ++ List.replicate (n - vs.length) none) i a := by
    rintro i a ⟨⟨ys, h1, hm⟩, _⟩
    obtain ⟨k, x, v, e, _⟩ := ha.at (rhoP_some h1)
    subst e
    cases k <;> exact hm
  refine ⟨?_, fun i e h1 => ?_, fun i j a h1 _ => absurd h1 (no i a), fun p hp => (nomatch hp), .nil, fun a o _ e _ => e, hM, fun a h => h.elim, fun a z => let ⟨o, e, _⟩ := hM a z; ⟨o, e⟩, fun i a _ h => h.elim, tb, fun a ps e => ⟨ps, e⟩⟩
  · rw [rhoP_len hl.2 hn, List.length_append, List.length_map, List.length_replicate]
    omega
  · obtain ⟨k, x, v, rfl, h2, h3⟩ := ha.at (rhoP_some h1)
    have hi : i < vs.length := by
      rcases Nat.lt_or_ge i vs.length with z | z
      · exact z
      · rw [List.getElem?_eq_none z] at h2; cases h2
    refine ⟨v, ?_, arg_ent (N := N) rfl rfl (fun a z => z) (fun a z => ?_) h3⟩
    · rw [List.getElem?_append_left (by simpa using hi), List.getElem?_map, h2]; rfl
    · rcases z with z | ⟨j, z⟩ | z
      · exact z
      · exact absurd z (no j a)
      · cases z
/-- a lambda's words -/
abbrev lamN (qual : Str) (params : Arguments) (scope : Scope) (cl : List (Str × Addr)) (c : Addr) : NF := ⟨"<lambda>", qual, params, [], scope, cl, c⟩
theorem cells_un {cl : List (Str × Addr)} {fr : List Str} {ws : List (Option V)} {h h1 : Heap} {H H1 : Hp} {fs : List Addr} (C : CellsAt cl fr ws h H) (un : Un fs [] H H1 h h1) : CellsAt cl fr ws h1 H1 := by
  have nx : ∀ b : Addr, b ∉ ([] : List Addr) := fun b z => nomatch z
  refine ⟨C.len, fun y c e => ?_, C.inj, fun i y e => ?_⟩
  · obtain ⟨n, v, o, ho, hd⟩ := C.all y c e
    obtain ⟨sl, q⟩ := un.any ho n (nx c)
    exact ⟨un.free c o ho n (nx c), v, _, q, hd⟩
  · obtain ⟨c, hc, hv⟩ := C.has i y e
    refine ⟨c, hc, fun v ev => ?_⟩
    obtain ⟨u, r, o, ho, hd⟩ := hv v ev
    obtain ⟨sl, q⟩ := un.any ho (C.all y c hc).1 (nx c)
    exact ⟨u, r, _, q, hd⟩
theorem startF_eq {N : List Str} {v : V} {us : List V} : startF N [v] (us.map some) = (v :: us).map some ++ List.replicate (N.length - (v :: us).length) none := by
  unfold startF
  simp only [List.map_cons, List.map_nil, List.length_map, List.length_cons, List.length_nil, List.cons_append, List.nil_append]
  have e : N.length - (0 + 1) - us.length = N.length - (us.length + 1) := by omega
  rw [e]
theorem args_d {K : PySem.W.Frag} {N Z : Addr → Prop} {H : Hp} : ∀ {xs : List PyData} {vs : List V}, ImAll K N H xs vs → ArgsOk K N Z H (List.replicate xs.length .d) xs vs
  | [], _, h => by simp only [ImAll] at h; subst h; simp only [List.length_nil, List.replicate_zero, ArgsOk]
  | x :: xs, _, h => by
    simp only [ImAll] at h
    obtain ⟨v, us, rfl, h1, h2⟩ := h
    simp only [List.length_cons, List.replicate_succ, ArgsOk]
    exact ⟨v, us, rfl, h1, args_d h2⟩
/-- the lambda's function, by its body -/
theorem act_of {P : Program} {w : World} {K : PySem.W.Frag} {mg : Str → Option Value} {base : Heap} {T : List (Addr × Str)} {k : Nat} {fs : List Addr} {s : Shared} {H : Hp} {f c : Addr} {dom : Int → Prop} {p : Int → Bool} {qual y : Str} {params : Arguments} {body : Expr} {scope : Scope} {cl : List (Str × Addr)} {pm ctv : Value}
    {Nl fr : List Str} {N : Addr → Prop} {cs : List PyData} {us : List V} {db : TDE} (hf : s.heap.get? f = some (PySem.W.kla_obj "<lambda>" qual params body scope cl pm c ctv)) (hfn : H f = none) (hff : f ∉ fs) (hc : H c = some (CodeO c qual))
    (S : NScope Nl [y] fr scope) (hb : ∀ (q : Str) (cl : List (Str × Addr)) (pm cv ctv u : Value), bindArgs (PySem.W.kla_fn "<lambda>" q params body scope cl pm cv ctv) ⟨[u], []⟩ = pure [(y, u)])
    (C : CellsAt cl fr (us.map some) s.heap H) (hM : ∀ a, N a → ∃ o, H a = some o ∧ Mutab o) (hcs : ImAll K N H cs us)
    (hbody : ∀ (A : Around) (out : List Env) (s3 : Shared) (H3 : Hp) (E : XK), Room k (A.deeper (envF (lamN qual params scope cl c) f s3.heap.objs.size)) → A.guards = some [] →
      ∃ te, PD (ncx CX0 P w K mg base Nl (lamN qual params scope cl c) f A out s3 H3 E).nox (frP K H3 N T) body te db)
    (hdb : ∀ i, dom i → db (rhoP Nl.length (.d :: List.replicate cs.length .d) (.int i :: cs)) fun r _ => r = .d (.bool (p i))) : Act P w K mg base T (k + 1) fs s H f dom p := by
  have nx : f ∉ ([] : List Addr) := fun z => nomatch z
  constructor
  · intro s1 H1 un
    exact ⟨_, _, _, _, un.keep f _ hf hfn hff nx⟩
  intro A out s1 H1 i u Q E hr hgd e0 un gr tb ru hi q
  have of1 := un.keep f _ hf hfn hff nx
  obtain ⟨⟨oc, vs, tk, o1, o2, o3⟩, _, _⟩ := e0.hok c _ (gr.ext c _ hc (fun ps z => LamX.codeO_ne ps z))
  have C1 := cells_un C un
  refine PySem.W.kla_callFunE hr.depth of1 rfl S.co S.gen rfl ⟨c, oc, vs, tk, rfl, o1, o2, o3⟩ ?_
  rw [hb]
  have lim : s1.heap.NoLimit := e0.mod.nolimit.keeps fun b o e => (e0.bs b o e).1
  have par : ∀ z ∈ [(y, u)], scope.names.lookup z.1 = some .local := fun z hz => by
    cases List.mem_singleton.mp hz
    exact S.par y (List.mem_singleton.mpr rfl)
  apply wpAny_pure
  refine wpAny_newFunctionEnv S.nocell par (fun h1 hns hsb => ?_) S.kind
  have kp : ∀ b o, s1.heap.get? b = some o → h1.get? b = some o := fun b o e => hsb.extBut b o (Nat.ne_of_lt (Heap.lt_size e)) (Heap.get?_push_of_some _ e)
  refine ⟨lim.fresh _ hsb, ?_⟩
  show codeAny _ _ (.expr body (envF (lamN qual params scope cl c) f s1.heap.objs.size)) _ _
  obtain ⟨te, hpd⟩ := hbody A out s1 H1 E (hr.deeper _) hgd
  have J : Inv (ncx CX0 P w K mg base Nl (lamN qual params scope cl c) f A out s1 H1 E) [] (startF Nl [.int i] (us.map some)) H1 { s1 with heap := h1, toks := s1.toks + [(y, u)].length } :=
    NdefX.inv_startN (ps := [y]) (us := [u]) (vs := [.int i]) S hr.hd e0 rfl (.cons ru .nil) C1 hns kp
  have hks : (Kd.d :: List.replicate cs.length Kd.d).length ≤ Nl.length := by
    have q1 := congrArg List.length S.pre
    have q2 := C.len
    have q3 := hcs.length
    rw [List.length_take, List.length_append] at q1
    rw [List.length_map] at q2
    simp only [List.length_cons, List.length_replicate, List.length_nil] at q1 ⊢
    omega
  have Im1 : ImAll K N H1 (.int i :: cs) (.int i :: us) := .cons .int (hcs.go (Go.ofN gr.ext))
  have O : Ok (frP K H1 N T) [] (rhoP Nl.length (.d :: List.replicate cs.length .d) (.int i :: cs)) (startF Nl [.int i] (us.map some)) H1 := by
    rw [startF_eq]
    exact ok_args tb (mut_ext gr.ext hM) (args_d Im1) hks
  have hte : te (startF Nl [.int i] (us.map some)) H1 fun v H2 => Q v H2 := by
    refine hpd.de.run [] _ _ H1 _ O (hpd.de.mono _ _ _ ?_ (hdb i hi))
    rintro r ρ1 rfl v H2 O2 R2
    have R3 : Im K (Av (frP K H1 N T) [] ρ1 (startF Nl [.int i] (us.map some))) H2 (.bool (p i)) v := R2
    simp only [Im] at R3
    rw [R3]
    exact q H2 ⟨fun a o e => O2.fr a o (fun z => z) e, O2.tb.2⟩ O2.tb.1
  apply PySem.W.kla_codeExpr
  refine wpAny_mono (hpd.pe.nox.run [] _ _ H1 Q J hte) ?_ fun _ _ z => z
  rintro v s2 ⟨v0, H2, J2, rv, qq⟩
  exact ⟨v0, H2, J2.os, J2.bare, J2.base, J2.hok, rv, qq⟩
end DV
namespace DV
open PySem PySem.Spec PyProof.Rows L2
open LamX (ExtN TabS Tabs CodeO TabB)
open NdefX (NF NScope CellsAt Caps ncx startF envF slotAt)
abbrev Sl := PyData → (Int → Prop) → (Int → Bool) → (PyData → Prop) → Prop
def MonoL (S : Sl) : Prop := ∀ a dom p Q Q', (∀ z, Q z → Q' z) → S a dom p Q → S a dom p Q'
structure FnL (P : Program) (w : World) (K : PySem.W.Frag) (mg : Str → Option Value) (base : Heap) (T : List (Addr × Str)) (k : Nat) (g : Addr) (fd : FuncData) (x1 x2 : Str) (S : Sl) : Prop where
  goes : ∀ (A : Around) (out : List Env) (s : Shared) (H : Hp) (ar : Args) (u : Value) (v : V) (f : Addr) (N : Addr → Prop) (a : PyData) (dom : Int → Prop) (p : Int → Bool) (Q : VK) (E : XK), Room (k + 1) A → A.guards = some [] → Env0 P w K mg base A out s H →
    BindsTo s fd ar ([x1, x2].zip [u, .ref f]) → L2.RelV v u → Tabs T H → (∀ b, N b → ∃ o, H b = some o ∧ Mutab o) → Im K N H a v → Act P w K mg base T k (frs out) s H f dom p →
    S a dom p (fun z => ∀ v' H', Gr H H' → Tabs T H' → Im K N H' z v' → Q v' H') → codeAny (model P w) A (.call (.ref g) ar) (CR CX0 out P w H s Q E) s
section
variable {P : Program} {w : World} {K : PySem.W.Frag} {mg : Str → Option Value} {base : Heap} {T : List (Addr × Str)}
theorem fnL {x qual : Str} {st : Stmt} {g : Addr} {fd : FuncData} {N : List Str} {x1 x2 : Str} {k : Nat} {S : Sl} (W : Fun K x qual st g fd) (Sc : FnScope N [x1, x2] (defScope st))
    (body : ∀ (cdv : Value) (A : Around) (out : List Env) (s : Shared) (H : Hp) (E : XK) (Nn : Addr → Prop) (f : Addr) (dom : Int → Prop) (p : Int → Bool), Room k (A.deeper (envOfC qual (defScope st) s.heap.objs.size g cdv)) → A.guards = some [] → Act P w K mg base T k (frs out) s H f dom p →
      ∃ ts tds, PDSs (cxOf CX0 P w K mg base N qual (defScope st) g cdv A out s H E).nox (frP K H Nn T) (defBody st) ts tds ∧
        ∀ a Q, S a dom p Q → tds { nx := fun _ => Q .none, rt := fun r ρ => retP r ρ Q } (some (.d a) :: some (.raw (.ref f)) :: List.replicate (N.length - 2) none)) : FnL P w K mg base T k g fd x1 x2 S := by
  obtain ⟨oc, od, kV, doc, pm, an, cdv, ct, osl, rfl, lk, cd⟩ := W.ex
  constructor
  intro A out s H ar u v f N' a dom p Q E hr hgd e0 hb ru tb hM ha hA hS
  have two : 2 ≤ N.length := by have := congrArg List.length Sc.pre; rw [List.length_take] at this; simp only [List.length_cons, List.length_nil] at this; omega
  refine LamX.run_ofS (N := N) (ps := [x1, x2]) (us := [u, .ref f]) (vs := [v, .ref f]) lk cd Sc hr e0 hb (.cons ru (.cons rfl .nil)) rfl fun hr1 => ?_
  obtain ⟨ts, tds, hbd, hq⟩ := body cdv A out s H E N' f dom p hr1 hgd hA
  refine ⟨ts, hbd.pss.nox, ?_⟩
  have ent : ∀ (i : Nat) (e : Ent), (some (Ent.d a) :: some (Ent.raw (.ref f)) :: List.replicate (N.length - 2) none : Rho)[i]? = some (some e) → (i = 0 ∧ e = .d a) ∨ (i = 1 ∧ e = .raw (.ref f)) := by
    intro i e h
    match i, h with
    | 0, h => exact .inl ⟨rfl, by simpa using h.symm⟩
    | 1, h => exact .inr ⟨rfl, by simpa using h.symm⟩
    | i + 2, h =>
      simp only [List.getElem?_cons_succ, List.getElem?_replicate] at h
      split at h <;> cases h
  have no : ∀ i b, ¬ OwnAt (some (Ent.d a) :: some (Ent.raw (.ref f)) :: List.replicate (N.length - 2) none : Rho) (L2.start N [v, .ref f]) i b := by
    rintro i b ⟨⟨e, h1, hm⟩, _⟩
    rcases ent i e h1 with ⟨_, rfl⟩ | ⟨_, rfl⟩ <;> exact hm
  have O : Ok (frP K H N' T) [] (some (.d a) :: some (.raw (.ref f)) :: List.replicate (N.length - 2) none) (L2.start N [v, .ref f]) H := by
    refine ⟨?_, fun i e h1 => ?_, fun i j b h1 _ => absurd h1 (no i b), fun p hp => (nomatch hp), .nil, fun a o _ e _ => e, hM, fun a h => h.elim, fun a z => let ⟨o, e, _⟩ := hM a z; ⟨o, e⟩, fun i a _ h => h.elim, tb, fun a ps e => ⟨ps, e⟩⟩
    · unfold L2.start
      simp only [List.length_append, List.length_map, List.length_replicate, List.length_cons, List.length_nil]
      omega
    · rcases ent i e h1 with ⟨rfl, rfl⟩ | ⟨rfl, rfl⟩
      · refine ⟨v, rfl, ?_⟩
        refine Im.go ⟨fun _ _ _ e _ => e, fun b z => .inl ?_⟩ ha
        rcases z with z | ⟨j, z⟩ | z
        · exact z
        · exact absurd z (no j b)
        · cases z
      · exact ⟨.ref f, rfl, rfl⟩
  refine hbd.ds [] _ _ H _ _ O (fun v j hp => nomatch hp) ⟨fun ρ σ H' O' q => ?_, fun ρ σ H' v r O' R' q => ?_, fun _ _ _ _ q => False.elim q, fun _ _ _ _ q => False.elim q, fun _ _ _ _ _ _ q => False.elim q⟩ (hq a _ hS)
  · exact q .non H' ⟨fun a o e => O'.fr a o (fun z => z) e, O'.tb.2⟩ O'.tb.1 .none
  · have G : Go (Av (frP K H N' T) [] ρ σ) N' H' H' := ⟨fun _ _ _ e _ => e, fun a z => .inl (.inl z)⟩
    have fr : Gr H H' := ⟨fun a o e => O'.fr a o (fun z => z) e, O'.tb.2⟩
    cases r with
    | d z => exact q v H' fr O'.tb.1 (Im.go G R')
    | raw u => exact q.elim
    | o i =>
      obtain ⟨ys, e, q⟩ := onOwn_of q
      obtain ⟨b, us, h1, h2, h3, h4⟩ := O'.ownGet e
      have := R'.1
      rw [h1] at this; cases this
      refine q _ H' fr O'.tb.1 ?_
      simp only [Im]
      refine ⟨b, us, rfl, ⟨h2, fun z => ?_⟩, h3.go G⟩
      obtain ⟨_, _, hl⟩ := O'.ownL h4
      rcases hl with hl | hl
      · exact hl
      · obtain ⟨o, e, _⟩ := hM b z
        have hl : H b = none := hl
        rw [hl] at e; cases e
end
/-- the data of slots that are data -/
def datsAt : Rho → List Nat → Option (List PyData)
  | _, [] => some []
  | ρ, j :: js => match ρ[j]? with
    | some (some (.d x)) => (datsAt ρ js).map (x :: ·)
    | _ => none
theorem datsAt_im {F : Fm} {pins : List Pin} {ρ : Rho} {σ : L2.St} {H : Hp} (O : Ok F pins ρ σ H) : ∀ {js : List Nat} {cs : List PyData}, datsAt ρ js = some cs → ∃ us : List V, ImAll F.K (Av F pins ρ σ) H cs us ∧ js.map (slotAt σ) = us.map some
  | [], cs, h => by
    simp only [datsAt] at h
    cases h
    exact ⟨[], .nil, rfl⟩
  | j :: js, cs, h => by
    simp only [datsAt] at h
    split at h
    · rename_i x e
      cases h2 : datsAt ρ js with
      | none => rw [h2] at h; cases h
      | some ds =>
        rw [h2] at h
        cases h
        obtain ⟨us, g1, g2⟩ := datsAt_im O h2
        obtain ⟨v, g3, g4⟩ := O.ent j _ e
        exact ⟨v :: us, .cons g4 g1, by rw [List.map_cons, List.map_cons, g2, NdefX.slotAt_of g3]⟩
    · cases h
def dCallL (n : Nat) (js : List Nat) (S : Sl) (db : TDE) (d : TDE) : TDE := fun ρ Q => d ρ fun r ρ1 => ∃ (a : PyData) (cs : List PyData) (dom : Int → Prop) (p : Int → Bool), r = .d a ∧ datsAt ρ1 js = some cs ∧
  (∀ i, dom i → db (rhoP n (.d :: List.replicate cs.length .d) (.int i :: cs)) fun r _ => r = .d (.bool (p i))) ∧ S a dom p fun z => Q (.d z) ρ1
def tCallL (X : Cx) (T : List (Addr × Str)) (n : Nat) (js : List Nat) (S : Sl) (db : TDE) (t : TE) : TE := fun σ H Q => t σ H fun v1 H1 => ∃ (N : Addr → Prop) (a : PyData) (cs : List PyData) (us : List V) (dom : Int → Prop) (p : Int → Bool),
  Tabs T H1 ∧ (∀ b, N b → ∃ o, H1 b = some o ∧ Mutab o) ∧ Im X.K N H1 a v1 ∧ ImAll X.K N H1 cs us ∧ js.map (slotAt σ) = us.map some ∧
  (∀ i, dom i → db (rhoP n (.d :: List.replicate cs.length .d) (.int i :: cs)) fun r _ => r = .d (.bool (p i))) ∧
  S a dom p fun z => ∀ v H', ExtN H1 H' → (∀ b ps, X.H_0 b = some (.tbl ps) → ∃ qs, H' b = some (.tbl qs)) → Tabs T H' → Im X.K N H' z v → Q v H'
section
variable {X : Cx} {F : Fm} {e : Expr} {te : TE} {de : TDE} {k : Nat} {S : Sl} {db : TDE} {x y x1 x2 : Str} {g c P : Addr} {fd : FuncData} {params : Arguments} {body : Expr} {scope : Scope} {lpos p1 pos : Pos} {Nl fr : List Str} {js : List Nat}
theorem de_callL (hK : X.K = F.K) (hF : F.H0 = X.H_0) (hS : MonoL S) (h : DE F te de) : DE F (tCallL X F.T Nl.length js S db te) (dCallL Nl.length js S db de) := by
  constructor
  · intro pins ρ σ H Q O hq
    refine h.run pins ρ σ H _ O (h.mono _ _ _ ?_ hq)
    rintro r ρ1 ⟨a, cs, dom, p, rfl, hc, hb, hs⟩ v H1 O1 R1
    obtain ⟨us, g1, g2⟩ := datsAt_im O1 hc
    rw [← hK] at g1
    refine ⟨Av F pins ρ1 σ, a, cs, us, dom, p, O1.tb.1, fun b hb => O1.avM hb, by rw [hK]; exact R1, g1, g2, hb, hS _ _ _ _ _ (fun z q v H' ex tb tT im => ?_) hs⟩
    rw [hK] at im
    refine q v H' ?_ im
    have g := O1
    have G : Go (Av F pins ρ1 σ) (Av F pins ρ1 σ) H1 H' := .ofN ex
    exact O1.heapE ex ⟨tT, fun b ps e => tb b ps (by rw [← hF]; exact e)⟩
  · intro ρ Q Q' hq hh
    refine h.mono _ _ _ ?_ hh
    rintro r ρ1 ⟨a, cs, dom, p, e, hc, hb, hs⟩
    exact ⟨a, cs, dom, p, e, hc, hb, hS _ _ _ _ _ (fun z => hq _ _) hs⟩
theorem pe_callL (GL : FnL X.prog X.w X.K X.mg X.base F.T (k + 1) g fd x1 x2 S) (hS : MonoL S) (hr : Room (k + 2) X.A) (hgd : X.A.guards = some []) (hg : Gl X x) (hm : X.mg x = some (.ref g)) (hk : PySem.W.keepIn X.K (.ref g) = true) (hb : Binds X.K fd [x1, x2] [])
    (he : PE X e te) (TB : TabB X.base X.mg c P) (hcode : X.env.code = .ref c) (hmT : (P, X.env.qual ++ "<lambda>") ∈ F.T) (hu : ∀ p ∈ F.T, p.1 = P → p.2 = X.env.qual ++ "<lambda>")
    (Sc : NScope Nl [y] fr scope) (hdef : defaultsOf params X.env = ([], [])) (hbind : ∀ (q : Str) (cl : List (Str × Addr)) (pm cv ctv u : Value), bindArgs (PySem.W.kla_fn "<lambda>" q params body scope cl pm cv ctv) ⟨[u], []⟩ = pure [(y, u)])
    (hfree : ∀ z ∈ scope.names, z.2 = .free → X.env.scope.names.lookup z.1 = some .cell ∨ X.env.scope.names.lookup z.1 = some .free) (hfr : ∀ z ∈ fr, (z, NameKind.free) ∈ scope.names) (hjs : js.map (fun j => X.N[j]?) = fr.map some)
    (hbody : ∀ (q : Str) (f c' : Addr) (cl : List (Str × Addr)) (A : Around) (out : List Env) (s3 : Shared) (H3 : Hp) (E : XK) (N : Addr → Prop), Room k (A.deeper (envF (lamN q params scope cl c') f s3.heap.objs.size)) → A.guards = some [] →
      ∃ te, PD (ncx CX0 X.prog X.w X.K X.mg X.base Nl (lamN q params scope cl c') f A out s3 H3 E).nox (frP X.K H3 N F.T) body te db)
    (hdb : (x == ("__debug__" : Str)) = false) (hst : starEach [e, .Lambda params body scope lpos] X.env = (false, eval e X.env) :: starEach [.Lambda params body scope lpos] X.env) :
    PE X (.Call (.Name x p1) [e, .Lambda params body scope lpos] [] pos) (tCallL X F.T Nl.length js S db te) := by
  constructor
  intro pins s σ H Q I h
  apply wpAny_Call_Name_kw
  apply ld_glob I hg hm _ hdb
  refine PySem.W.callWith_K (h₀ := X.base) I.ok.mod.kin hk ?_ hst rfl
  rw [hst]
  show wpAny _ _ (spliced [(false, eval e X.env), (false, eval (.Lambda params body scope lpos) X.env)]) _ _ s
  apply Calls.spliced_cons
  refine thn (he.run pins s σ H _ I h) ?_
  rintro u s1 ⟨v1, H1, I1, r1, N, a, cs, us, dom, p, tb, hM, ia, ic, es, hd, hs⟩
  apply Calls.spliced_cons
  refine LamX.lam_make2 I1 TB hcode hmT hu tb hdef (fun z hz ez => (hfree z hz ez).elim (fun q => I1.ok.has _ (.inl q)) fun q => I1.ok.has _ (.inr q)) ?_
  intro f c' pm ctv H2 s2 I2 ex tb2 hf hfn hff hc
  apply Calls.spliced_nil
  refine ⟨I2.kIn, ?_⟩
  have C : CellsAt (cloFrom X.env.cells scope.names []) fr (us.map some) s2.heap H2 := by
    rw [← es]
    exact NdefX.cells_of I2 (Caps.made I2.ok hfree hfr hjs)
  have M2 := mut_ext ex hM
  have G12 : Go N N H1 H2 := .ofN ex
  have act : Act X.prog X.w X.K X.mg X.base F.T (k + 1) (frs X.stack) s2 H2 f dom p :=
    act_of hf hfn hff hc Sc hbind C M2 (ic.go G12) (fun A out s3 H3 E hr3 hg3 => hbody _ f c' _ A out s3 H3 E N hr3 hg3) hd
  have bl : ([u, .ref f] ++ [] : List Value).length = ([x1, x2] : List Str).length := rfl
  have bd := hb s2 [u, .ref f] I2.kIn bl
  rw [List.append_nil] at bd
  apply wpAny_call
  refine codeAny_mono (GL.goes X.A X.stack s2 H2 ⟨[u, .ref f], []⟩ u v1 f N a dom p Q E0 hr hgd I2.env0 bd r1 tb2 M2 (ia.go G12) act (hS _ _ _ _ _ (fun z q v H' gr tT im => ?_) hs)) ?_
  · refine q v H' (ex.trans gr.ext) (fun b ps e => ?_) tT im
    obtain ⟨more, e2⟩ := I2.base.tbls b ps e
    exact gr.tbl b _ e2
  · rintro (e | (u | _ | _ | _)) s' z
    all_goals first | exact I2.after z | exact False.elim z
theorem pd_callL (GL : FnL X.prog X.w X.K X.mg X.base F.T (k + 1) g fd x1 x2 S) (hS : MonoL S) (hr : Room (k + 2) X.A) (hgd : X.A.guards = some []) (hg : Gl X x) (hm : X.mg x = some (.ref g)) (hk : PySem.W.keepIn X.K (.ref g) = true) (hb : Binds X.K fd [x1, x2] [])
    (he : PD X F e te de) (TB : TabB X.base X.mg c P) (hcode : X.env.code = .ref c) (hmT : (P, X.env.qual ++ "<lambda>") ∈ F.T) (hu : ∀ p ∈ F.T, p.1 = P → p.2 = X.env.qual ++ "<lambda>")
    (hbody : ∀ (q : Str) (f c' : Addr) (cl : List (Str × Addr)) (A : Around) (out : List Env) (s3 : Shared) (H3 : Hp) (E : XK) (N : Addr → Prop), Room k (A.deeper (envF (lamN q params scope cl c') f s3.heap.objs.size)) → A.guards = some [] →
      ∃ te, PD (ncx CX0 X.prog X.w X.K X.mg X.base Nl (lamN q params scope cl c') f A out s3 H3 E).nox (frP X.K H3 N F.T) body te db)
    (hsc : NdefX.nscB Nl [y] fr scope = true) (hnd : NdefX.ndefB X.env.scope scope fr = true) (hjs : js.map (fun j => X.N[j]?) = fr.map some) (hF : F.H0 = X.H_0 := by rfl) (hK : X.K = F.K := by rfl) (hdef : defaultsOf params X.env = ([], []) := by rfl)
    (hbind : ∀ (q : Str) (cl : List (Str × Addr)) (pm cv ctv u : Value), bindArgs (PySem.W.kla_fn "<lambda>" q params body scope cl pm cv ctv) ⟨[u], []⟩ = pure [(y, u)] := by intros; rfl)
    (hdb : (x == ("__debug__" : Str)) = false := by decide) (hst : starEach [e, .Lambda params body scope lpos] X.env = (false, eval e X.env) :: starEach [.Lambda params body scope lpos] X.env := by rfl) :
    PD X F (.Call (.Name x p1) [e, .Lambda params body scope lpos] [] pos) (tCallL X F.T Nl.length js S db te) (dCallL Nl.length js S db de) :=
  ⟨pe_callL GL hS hr hgd hg hm hk hb he.pe TB hcode hmT hu (NdefX.nscope_by hsc) hdef hbind (NdefX.ndef_free hnd) (NdefX.ndef_fr hnd) hjs hbody hdb hst, de_callL hK hF hS he.de⟩
end
end DV
namespace DV
open PySem PySem.Spec PyProof.Rows L2
open LamX (ExtN TabS Tabs CodeO TabB)
/-- cs: the code objects of the defs that make functions, with their tables -/
theorem law_goesT {P : Program} {w : World} {K : PySem.W.Frag} {mg mb : Str → Option Value} {k : Nat} {fa a : Addr} {fd : FuncData} {x : Str} {sp : Sp} {s₁ : Shared} {vs : List Value} {ns : List Int} {cs : List (Addr × Addr)}
    (inK : K.In s₁.heap) (nm : s₁.heap.Ns mainGlobals mg) (nb : s₁.heap.Ns builtinsNs mb) (bb : ∀ x : Str, x ≠ "__name__" → mb x = bootBuiltins x) (nl : s₁.heap.NoLimit) (ng : s₁.gens = #[])
    (at_t : ∀ q ∈ cs, s₁.heap.get? q.2 = some (PySem.W.tabObj #[])) (noK : ∀ q ∈ cs, K.lookup q.2 = none) (heads : ∀ q ∈ cs, PySem.W.CodeHd s₁.heap q.1 q.2)
    (bmain : ∃ (b : Addr) (o : Obj), mg "__builtins__" = some (.ref b) ∧ b ≠ builtinsNs ∧ s₁.heap.get? b = some o ∧ o.cls = .type "module" ∧ o.dict = some builtinsNs ∧ o.data = .plain)
    (at_a : s₁.heap.get? a = some { cls := .type "list", data := .seq vs.toArray }) (hin : IntsAre vs ns) (short : ns.length ≤ sizeLine) (room : Room k callerA)
    (G : ∀ base : Heap, K.In base → base.Ns mainGlobals mg → (∀ q ∈ cs, TabB base mg q.1 q.2) → FnG P w K mg base CX0 k fa fd [x] sp) (bind : ∀ (s : Shared) (u : Value), BindsTo s fd ⟨[u], []⟩ [(x, u)])
    (hs : ∀ H : Hp, (∀ q ∈ cs, H q.2 = some (.tbl #[])) → SqL K H a (ns.map V.int) → sp [.ref a] H (fun v _ => v = .bl true) fun _ _ _ => False) :
    codeAny (model P w) callerA (.call (.ref fa) ⟨[.ref a], []⟩) (fun r s' => r = .ok (.ret (.bool true)) ∧ OldK s₁.heap s'.heap ∧ s'.os = s₁.os ∧ AllBare s'.gens) s₁ := by
  let ob : Obj := { cls := .type "list", data := .seq vs.toArray }
  let ts : List Addr := cs.map (·.2)
  have inT : ∀ {b : Addr}, b ∈ ts → ∃ q ∈ cs, q.2 = b := fun h => List.mem_map.mp h
  have tIn : ∀ {q : Addr × Addr}, q ∈ cs → q.2 ∈ ts := fun h => List.mem_map.mpr ⟨_, h, rfl⟩
  have ts_at : ∀ {b : Addr}, b ∈ ts → s₁.heap.get? b = some (PySem.W.tabObj #[]) := fun h => by
    obtain ⟨q, hq, rfl⟩ := inT h
    exact at_t q hq
  have an : a ∉ ts := fun h => by
    have e := ts_at h
    rw [at_a] at e
    have e2 : (Data.seq vs.toArray) = Data.fields #[] := congrArg Obj.data (Option.some.inj e)
    cases e2
  let Hs : Hp := fun b => if b ∈ ts then some (.tbl #[]) else if b = a ∧ K.lookup a = none then some (.frz ob (.lst (ns.map V.int))) else none
  have Hs_t : ∀ {b : Addr}, b ∈ ts → Hs b = some (.tbl #[]) := fun h => if_pos h
  have Hs_some : ∀ {b u}, Hs b = some u → (b ∈ ts ∧ u = .tbl #[]) ∨ (b ∉ ts ∧ b = a ∧ K.lookup a = none ∧ u = .frz ob (.lst (ns.map V.int))) := by
    intro b u q
    by_cases hb : b ∈ ts
    · rw [Hs_t hb] at q
      exact .inl ⟨hb, (Option.some.inj q).symm⟩
    · have q : (if b = a ∧ K.lookup a = none then some (HO.frz ob (.lst (ns.map V.int))) else none) = some u := (if_neg hb).symm.trans q
      split at q
      · rename_i c
        cases q
        exact .inr ⟨hb, c.1, c.2, rfl⟩
      · cases q
  have rel := vals_ints hin
  have sq : SqL K Hs a (ns.map V.int) := by
    cases hk : K.lookup a with
    | none => exact .inl (.inr ⟨ob, (if_neg an).trans (if_pos ⟨rfl, hk⟩)⟩)
    | some o =>
      have e := inK a o hk
      rw [at_a] at e; cases e
      exact .inr ⟨_, vs.toArray, _, hk, rfl, rfl, rfl, by rw [List.size_toArray, hin.length]; exact short, by simpa using rel⟩
  have hok : HOk P w Hs s₁.heap := by
    intro b u q
    rcases Hs_some q with ⟨h, rfl⟩ | ⟨_, rfl, _, rfl⟩
    · exact ts_at h
    · exact ⟨at_a, by rw [List.length_map]; exact short, vs, _, rel, at_a⟩
  have keepK : ∀ {b : Addr} {o : Obj}, K.lookup b = some o → Hs b = none := by
    intro b o e
    cases q : Hs b with
    | none => rfl
    | some u =>
      rcases Hs_some q with ⟨h, _⟩ | ⟨_, rfl, z, _⟩
      · obtain ⟨r, hr, rfl⟩ := inT h
        rw [noK r hr] at e; cases e
      · rw [z] at e; cases e
  -- what is neither a list nor a table is hidden by nothing
  have keepO : ∀ {b : Addr} {o : Obj}, s₁.heap.get? b = some o → (∀ zs n, o.data ≠ .seq zs n) → o.data ≠ .fields #[] → Hs b = none := by
    intro b o e d1 d2
    cases q : Hs b with
    | none => rfl
    | some u =>
      rcases Hs_some q with ⟨h, _⟩ | ⟨_, rfl, _, _⟩
      · rw [ts_at h] at e
        cases e
        exact absurd rfl d2
      · rw [at_a] at e
        cases e
        exact absurd rfl (d1 _ _)
  have ns_of : ∀ {b : Addr} {m : Str → Option Value}, s₁.heap.Ns b m → (hidT s₁.heap Hs).Ns b m := by
    rintro b m ⟨o, es, ep, e, d, r⟩
    exact ⟨o, es, ep, hidT_get e (keepO e (fun _ _ z => by rw [d] at z; cases z) (fun z => by rw [d] at z; cases z)), d, r⟩
  have kb : K.In (hidT s₁.heap Hs) := fun b o e => hidT_get (inK b o e) (keepK e)
  have md : Mod K mg (hidT s₁.heap Hs) := by
    obtain ⟨mc, l1, l2⟩ := nl
    exact ⟨kb, ns_of nm, ⟨mb, ns_of nb, bb⟩, ⟨mc, ns_of l1, l2⟩⟩
  have env0 : Env0 P w K mg (hidT s₁.heap Hs) callerA [] s₁ Hs :=
    ⟨rfl, md, fun b o => of_hidT, Nat.le_of_eq (hidT_size _ _), trivial, (fun b hb => nomatch hb), hok, .of_eq ng⟩
  obtain ⟨gO, gEs, gEp, gAt, gD, _⟩ := nm
  have gT : ∀ {b : Addr}, b ∈ ts → mainGlobals ≠ b := fun h z => by
    have e := ts_at h
    rw [← z, gAt] at e
    cases e
    cases gD
  have tabs : ∀ q ∈ cs, TabB (hidT s₁.heap Hs) mg q.1 q.2 := by
    intro q hq
    refine ⟨?_, ?_, gT (tIn hq)⟩
    · obtain ⟨o, us, c1, c2, c3, c4, c5, c6, c7, at_c, cls, dat, tab, rest⟩ := heads q hq
      refine ⟨o, us, c1, c2, c3, c4, c5, c6, c7, hidT_get at_c (keepO at_c (fun _ _ z => ?_) fun z => ?_), cls, dat, tab, rest⟩
      · rw [dat] at z; cases z
      · rw [dat] at z
        cases z
        simp at tab
    · obtain ⟨b, o, m1, m2, at_b, cls, dic, dat⟩ := bmain
      refine ⟨b, o, m1, m2, fun z => ?_, fun z => ?_, hidT_get at_b (keepO at_b (fun _ _ z => ?_) fun z => ?_), cls, dic, dat⟩
      · subst z
        rw [gAt] at at_b
        cases at_b
        rw [gD] at dat
        cases dat
      · subst z
        rw [at_t q hq] at at_b
        cases at_b
        cases dat
      · rw [dat] at z; cases z
      · rw [dat] at z; cases z
  have nm' : s₁.heap.Ns mainGlobals mg := ⟨gO, gEs, gEp, gAt, gD, by assumption⟩
  refine codeAny_mono ((G _ kb (ns_of nm') tabs).goes callerA [] s₁ Hs ⟨[.ref a], []⟩ [.ref a] [.ref a] _ _ room rfl env0 (bind s₁ (.ref a)) (.cons rfl .nil) (hs Hs (fun q hq => Hs_t (tIn hq)) sq)) ?_
  rintro (e | fl) s' z
  · exact False.elim z
  cases fl with
  | next => exact False.elim z
  | brk => exact False.elim z
  | cont => exact False.elim z
  | ret u =>
    obtain ⟨v, H', os, bare, un, hok', rv, q⟩ := z
    have q : v = .bl true := q
    subst q
    obtain rfl : u = Value.bool true := rv
    have same : ∀ b o, b ∉ ts → s₁.heap.get? b = some o → s'.heap.get? b = some o := by
      intro b o nt e
      cases q : Hs b with
      | none => exact un.keep b o e q (fun z => nomatch z) (fun z => nomatch z)
      | some u =>
        rcases Hs_some q with ⟨h, _⟩ | ⟨_, rfl, _, rfl⟩
        · exact absurd h nt
        · obtain ⟨e2, _⟩ := hok' _ _ (un.frzs _ _ _ q)
          rw [at_a] at e; cases e
          exact e2
    have tabs' : ∀ b, b ∈ ts → ∃ more : Array Value, s'.heap.get? b = some (PySem.W.tabObj more) := by
      intro b h
      obtain ⟨more, e⟩ := un.tbls b #[] (Hs_t h)
      exact ⟨_, hok' b _ e⟩
    refine ⟨rfl, ⟨fun b o e => ?_, fun b o e => ?_⟩, os, bare⟩
    · by_cases h : b ∈ ts
      · obtain ⟨more, e2⟩ := tabs' b h
        obtain ⟨r, hr, rfl⟩ := inT h
        rw [at_t r hr] at e
        cases e
        refine .inr (.inl ⟨((heads r hr).tab (at_t r hr)).isCodeTable, rfl, #[], more, rfl, ?_⟩)
        rw [Array.empty_append]
        exact e2
      · exact .inl (same b o h e)
    · by_cases h : b ∈ ts
      · obtain ⟨more, e2⟩ := tabs' b h
        exact ⟨_, e2⟩
      · exact ⟨o, same b o h e⟩
theorem walk_goesT {l : PySem.W.OpenLaw} {n k : Nat} {q : Program} {loose : List Str} {XP : (Str → Option Value) → Heap → Prop} {YP : World → Heap → Prop} {d : DefRec} {K : Params → PySem.W.Frag} {sp : PySem.W.Frag → Sp} {x : Str} {cs : List (Addr × Addr)}
    (hn : l.most = some n) (hn2 : n ≤ sizeLine) (hdf : d.params.defaults = []) (hr : Room k callerA) (hY : ∀ (w : World) (h : Heap), YP w h → (K w.params).In h) (hT : ∀ (w : World) (h : Heap), YP w h → ∀ r ∈ cs, h.get? r.2 = some (PySem.W.tabObj #[]))
    (G : ∀ (w : World) (mg : Str → Option Value) (fa : Addr) (h : Heap), (K w.params).In h → h.Ns mainGlobals mg → mg d.name = some (.ref fa) →
      ∃ fd : FuncData, (∀ r ∈ cs, (K w.params).lookup r.2 = none) ∧ (∀ r ∈ cs, PySem.W.CodeHd h r.1 r.2) ∧ (∀ (s : Shared) (u : Value), BindsTo s fd ⟨[u], []⟩ [(x, u)]) ∧ ∀ base : Heap, (K w.params).In base → base.Ns mainGlobals mg → (∀ r ∈ cs, TabB base mg r.1 r.2) → FnG l.prog w (K w.params) mg base CX0 k fa fd [x] (sp (K w.params)))
    (hsp : ∀ (K : PySem.W.Frag) (H : Hp) (a : Addr) (ns : List Int), (∀ r ∈ cs, H r.2 = some (.tbl #[])) → ns.length ≤ n → SqL K H a (ns.map V.int) → sp K [.ref a] H (fun v _ => v = .bl true) fun _ _ _ => False) :
    PySem.W.WalkO q loose XP YP l.row.toRowW d [] (fun f vs => PySem.call f vs) := by
  apply Att.attach_call hn hdf
  intro w s₀ s₁ mg mb fa o pm cd doc a vs ns Gr Y ho hd hcd hmg hobj hints hlen hg
  have inK := hY w _ Y
  obtain ⟨fd, noK, heads, hb, hF⟩ := G w mg fa _ inK Gr.T.g hmg
  exact law_goesT inK Gr.T.g Gr.T.b Gr.T.builtins Gr.T.nolimit hg (hT w _ Y) noK heads Gr.T.bmain hobj hints (Nat.le_trans hlen hn2) hr hF hb fun H hH => hsp _ H a ns hH hlen
/-- the tables at the start are empty: they tell of no code object -/
theorem tabs_nil {T : List (Addr × Str)} {H : Hp} (h : ∀ p ∈ T, H p.1 = some (.tbl #[])) : Tabs T H := fun p hp => LamX.TabS.nil (h p hp)
end DV
namespace DV
open PySem PySem.Spec PyProof.Rows L2
def CL (n : Nat) (js : List Nat) (S : Sl) (db : TDE) (Q : R → Rho → Prop) (r : R) (ρ : Rho) : Prop := ∃ (a : PyData) (cs : List PyData) (dom : Int → Prop) (p : Int → Bool), r = .d a ∧ datsAt ρ js = some cs ∧
  (∀ i, dom i → db (rhoP n (.d :: List.replicate cs.length .d) (.int i :: cs)) fun r _ => r = .d (.bool (p i))) ∧ S a dom p fun z => Q (.d z) ρ
theorem dCallL_eq {n : Nat} {js : List Nat} {S : Sl} {db : TDE} {d : TDE} {ρ : Rho} {Q : R → Rho → Prop} : dCallL n js S db d ρ Q = d ρ fun r ρ1 => CL n js S db Q r ρ1 := rfl
theorem CL_of {n : Nat} {js : List Nat} {S : Sl} {db : TDE} {ρ : Rho} {Q : R → Rho → Prop} {a : PyData} (cs : List PyData) (dom : Int → Prop) (p : Int → Bool) (hc : datsAt ρ js = some cs)
    (hb : ∀ i, dom i → db (rhoP n (.d :: List.replicate cs.length .d) (.int i :: cs)) fun r _ => r = .d (.bool (p i))) (hs : S a dom p fun z => Q (.d z) ρ) : CL n js S db Q (.d a) ρ := ⟨a, cs, dom, p, rfl, hc, hb, hs⟩
end DV
namespace DV
open PySem PySem.Spec PyProof.Rows L2
def Bn.sw (b : Bn) (c : Int) : Bn := { b with sp := c }
def plc : Bool → Int
  | true => 1
  | false => 0
def wth : Bool → Bn → Int → Bn
  | true, b, c => b.nr c
  | false, b, c => b.sw c
theorem flw_nr {b : Bn} {c : Int} : flw (b.nr c) = flw b := rfl
theorem near_anti {b : Bn} {t c d : Int} (hw : 0 ≤ b.wind) (hf : 0 ≤ flw b) (hc : 0 ≤ c) (hcd : c ≤ d) (h : enough (b.nr d) t) : enough (b.nr c) t := by
  obtain ⟨g1, g2⟩ := h
  have r0 : 0 ≤ (b.nr c).r := by show 0 ≤ c + 2 * b.wind; omega
  have r1 : (b.nr c).r ≤ (b.nr d).r := by show c + 2 * b.wind ≤ d + 2 * b.wind; omega
  have rr := sq_le r0 r1
  have e1 : lft (b.nr c) t = t * t * (b.sp * b.sp) - 2 * (t * t * ((b.nr c).r * (b.nr c).r)) - flw b := by unfold lft; rw [flw_nr]; show t * t * (b.sp * b.sp - 2 * _ * _) - _ = _; grind
  have e2 : lft (b.nr d) t = t * t * (b.sp * b.sp) - 2 * (t * t * ((b.nr d).r * (b.nr d).r)) - flw b := by unfold lft; rw [flw_nr]; show t * t * (b.sp * b.sp - 2 * _ * _) - _ = _; grind
  have tt := isq_nn t
  have k1 := Int.mul_le_mul_of_nonneg_left rr tt
  have le : lft (b.nr d) t ≤ lft (b.nr c) t := by rw [e1, e2]; omega
  have sq := sq_le g1 le
  have k2 := Int.mul_le_mul_of_nonneg_right k1 hf
  unfold enough
  rw [flw_nr] at g2 ⊢
  have e3 : ∀ x : Int, 8 * x * x * t * t * flw b = 8 * (t * t * (x * x) * flw b) := fun x => by grind
  rw [e3] at g2 ⊢
  exact ⟨by omega, by omega⟩
theorem near_top {b : Bn} {t : Int} (h : BnOk b) (ht : 1 ≤ t) : ¬ enough (b.nr b.sp) t := by
  rintro ⟨g1, _⟩
  have hf := flw_nn (b := b) (by have := h.sp0; omega) h.way0
  have r1 : b.sp ≤ (b.nr b.sp).r := by show b.sp ≤ b.sp + 2 * b.wind; have := h.wind0; omega
  have rr := sq_le (by have := h.sp0; omega) r1
  have sp : 0 < b.sp * b.sp := Int.mul_pos (by have := h.sp0; omega) (by have := h.sp0; omega)
  have tt : 0 < t * t := Int.mul_pos (by omega) (by omega)
  have e2 : lft (b.nr b.sp) t = t * t * (b.sp * b.sp) - 2 * (t * t * ((b.nr b.sp).r * (b.nr b.sp).r)) - flw b := by unfold lft; rw [flw_nr]; show t * t * (b.sp * b.sp - 2 * _ * _) - _ = _; grind
  have k1 := Int.mul_le_mul_of_nonneg_left rr (Int.le_of_lt tt)
  have k2 := Int.mul_pos tt sp
  omega
theorem sw_mono {b : Bn} {t c d : Int} (hc : 0 ≤ c) (hcd : c ≤ d) (h : enough (b.sw c) t) : enough (b.sw d) t := by
  obtain ⟨g1, g2⟩ := h
  have ss := sq_le hc hcd
  have tt := isq_nn t
  have ll := isq_nn b.lag
  have rr := isq_nn (b.r * t)
  have f1 : ∀ x : Int, flw (b.sw x) = b.lag * b.lag * (2 * b.way * b.way) - b.lag * b.lag * (x * x) := fun x => by show b.lag * b.lag * (2 * b.way * b.way - x * x) = _; grind
  have l1 : ∀ x : Int, lft (b.sw x) t = t * t * (x * x) - t * t * (2 * b.r * b.r) - flw (b.sw x) := fun x => by show t * t * (x * x - 2 * b.r * b.r) - _ = _; grind
  have k1 := Int.mul_le_mul_of_nonneg_left ss tt
  have k2 := Int.mul_le_mul_of_nonneg_left ss ll
  have fl : flw (b.sw d) ≤ flw (b.sw c) := by rw [f1, f1]; omega
  have le : lft (b.sw c) t ≤ lft (b.sw d) t := by rw [l1, l1]; omega
  have sq := sq_le g1 le
  have k3 := Int.mul_le_mul_of_nonneg_left fl rr
  unfold enough
  have e3 : ∀ x : Int, 8 * (b.sw x).r * (b.sw x).r * t * t * flw (b.sw x) = 8 * (b.r * t * (b.r * t) * flw (b.sw x)) := fun x => by show 8 * b.r * b.r * t * t * _ = _; grind
  rw [e3] at g2 ⊢
  exact ⟨by omega, by omega⟩
end DV
namespace K41
open PySem PySem.Spec PyProof.Rows L2 DV
open scoped Rat
def topS (i : Nat) : Stmt := PySem.Challenge.pw_lampsaloft_k41_greatest_near_and_least_s.main.body.getD i (.Pass ⟨0, 0, 0, 0⟩)
abbrev nm_r_of : List Str := ["bounds"]
abbrev s_r_of : Stmt := topS 1
theorem sc_r_of : FnScope nm_r_of ["bounds"] (defScope s_r_of) := ⟨rfl, rfl, rfl, by decide +kernel, rfl, by decide +kernel, by decide +kernel⟩
abbrev nm_lag_of : List Str := ["bounds"]
abbrev s_lag_of : Stmt := topS 2
theorem sc_lag_of : FnScope nm_lag_of ["bounds"] (defScope s_lag_of) := ⟨rfl, rfl, rfl, by decide +kernel, rfl, by decide +kernel, by decide +kernel⟩
abbrev nm_least_from : List Str := ["first", "is_so", "reach", "low", "high", "middle"]
abbrev s_least_from : Stmt := topS 4
theorem sc_least_from : FnScope nm_least_from ["first", "is_so"] (defScope s_least_from) := ⟨rfl, rfl, rfl, by decide +kernel, rfl, by decide +kernel, by decide +kernel⟩
abbrev nm__with : List Str := ["bounds", "place", "number"]
abbrev s__with : Stmt := topS 9
theorem sc__with : FnScope nm__with ["bounds", "place", "number"] (defScope s__with) := ⟨rfl, rfl, rfl, by decide +kernel, rfl, by decide +kernel, by decide +kernel⟩
abbrev nm_is_enough : List Str := ["bounds", "ticks", "spacing", "r", "lag", "way", "flown", "left"]
abbrev s_is_enough : Stmt := topS 10
theorem sc_is_enough : FnScope nm_is_enough ["bounds", "ticks"] (defScope s_is_enough) := ⟨rfl, rfl, rfl, by decide +kernel, rfl, by decide +kernel, by decide +kernel⟩
abbrev nm_greatest_near : List Str := ["bounds", "ticks", "too_great"]
abbrev s_greatest_near : Stmt := topS 11
theorem sc_greatest_near : FnScope nm_greatest_near ["bounds", "ticks"] (defScope s_greatest_near) := ⟨rfl, rfl, rfl, by decide +kernel, rfl, by decide +kernel, by decide +kernel⟩
abbrev nm_least_spacing : List Str := ["bounds", "ticks", "way"]
abbrev s_least_spacing : Stmt := topS 12
theorem sc_least_spacing : FnScope nm_least_spacing ["bounds", "ticks"] (defScope s_least_spacing) := ⟨rfl, rfl, rfl, by decide +kernel, rfl, by decide +kernel, by decide +kernel⟩
abbrev nm__law_bag : List Str := ["_law_script", "_law_cell"]
abbrev s__law_bag : Stmt := topS 14
theorem sc__law_bag : FnScope nm__law_bag ["_law_script"] (defScope s__law_bag) := ⟨rfl, rfl, rfl, by decide +kernel, rfl, by decide +kernel, by decide +kernel⟩
abbrev nm__law_take : List Str := ["_law_bag_here", "_law_many", "_law_cell", "_law_stirred", "_law_value", "_law_begin", "_law_second"]
abbrev s__law_take : Stmt := topS 15
theorem sc__law_take : FnScope nm__law_take ["_law_bag_here", "_law_many"] (defScope s__law_take) := ⟨rfl, rfl, rfl, by decide +kernel, rfl, by decide +kernel, by decide +kernel⟩
abbrev nm__law_some : List Str := ["_law_bag_here", "_law_things"]
abbrev s__law_some : Stmt := topS 16
theorem sc__law_some : FnScope nm__law_some ["_law_bag_here", "_law_things"] (defScope s__law_some) := ⟨rfl, rfl, rfl, by decide +kernel, rfl, by decide +kernel, by decide +kernel⟩
abbrev nm__law_alike : List Str := ["_law_found", "_law_due"]
abbrev s__law_alike : Stmt := topS 17
theorem sc__law_alike : FnScope nm__law_alike ["_law_found", "_law_due"] (defScope s__law_alike) := ⟨rfl, rfl, rfl, by decide +kernel, rfl, by decide +kernel, by decide +kernel⟩
abbrev nm__law_reach : List Str := ["_law_bounds_here"]
abbrev s__law_reach : Stmt := topS 18
theorem sc__law_reach : FnScope nm__law_reach ["_law_bounds_here"] (defScope s__law_reach) := ⟨rfl, rfl, rfl, by decide +kernel, rfl, by decide +kernel, by decide +kernel⟩
abbrev nm__law_lag : List Str := ["_law_bounds_here"]
abbrev s__law_lag : Stmt := topS 19
theorem sc__law_lag : FnScope nm__law_lag ["_law_bounds_here"] (defScope s__law_lag) := ⟨rfl, rfl, rfl, by decide +kernel, rfl, by decide +kernel, by decide +kernel⟩
abbrev nm__law_is_enough : List Str := ["_law_bounds_here", "_law_ticks_here", "_law_spacing", "_law_reach_here", "_law_way", "_law_lag_here", "_law_mine"]
abbrev s__law_is_enough : Stmt := topS 20
theorem sc__law_is_enough : FnScope nm__law_is_enough ["_law_bounds_here", "_law_ticks_here"] (defScope s__law_is_enough) := ⟨rfl, rfl, rfl, by decide +kernel, rfl, by decide +kernel, by decide +kernel⟩
abbrev nm__law_bounds : List Str := ["_law_bag_here", "_law_spacing", "_law_near", "_law_wind", "_law_clock", "_law_fall", "_law_way"]
abbrev s__law_bounds : Stmt := topS 21
theorem sc__law_bounds : FnScope nm__law_bounds ["_law_bag_here"] (defScope s__law_bounds) := ⟨rfl, rfl, rfl, by decide +kernel, rfl, by decide +kernel, by decide +kernel⟩
abbrev nm__law_ticks : List Str := ["_law_bag_here", "_law_bounds_here", "_law_lag_here"]
abbrev s__law_ticks : Stmt := topS 22
theorem sc__law_ticks : FnScope nm__law_ticks ["_law_bag_here", "_law_bounds_here"] (defScope s__law_ticks) := ⟨rfl, rfl, rfl, by decide +kernel, rfl, by decide +kernel, by decide +kernel⟩
abbrev nm__law_greatest_near : List Str := ["_law_bounds_here", "_law_ticks_here", "_law_found", "_law_near"]
abbrev s__law_greatest_near : Stmt := topS 23
theorem sc__law_greatest_near : FnScope nm__law_greatest_near ["_law_bounds_here", "_law_ticks_here"] (defScope s__law_greatest_near) := ⟨rfl, rfl, rfl, by decide +kernel, rfl, by decide +kernel, by decide +kernel⟩
abbrev nm__law_least_spacing : List Str := ["_law_bounds_here", "_law_ticks_here", "_law_low", "_law_high", "_law_turn", "_law_middle"]
abbrev s__law_least_spacing : Stmt := topS 24
theorem sc__law_least_spacing : FnScope nm__law_least_spacing ["_law_bounds_here", "_law_ticks_here"] (defScope s__law_least_spacing) := ⟨rfl, rfl, rfl, by decide +kernel, rfl, by decide +kernel, by decide +kernel⟩
abbrev nm_law : List Str := ["_law_script", "_law_bag_here", "_law_turn", "_law_bounds_here", "_law_ticks_here", "_law_near", "_law_spacing", "_law_told", "_law_one"]
abbrev s_law : Stmt := topS 25
theorem sc_law : FnScope nm_law ["_law_script"] (defScope s_law) := ⟨rfl, rfl, rfl, by decide +kernel, rfl, by decide +kernel, by decide +kernel⟩
structure Bi (mg : Str → Option Value) : Prop where
  b_min : mg "min" = none
  b_abs : mg "abs" = none
  b_int : mg "int" = none
  b_len : mg "len" = none
  b_repr : mg "repr" = none
  b_max : mg "max" = none
  b_range : mg "range" = none
  c_SPACING : ∃ tk, mg "SPACING" = some (.int 0 tk)
  c_WAY : ∃ tk, mg "WAY" = some (.int 5 tk)
  c_NEAR : ∃ tk, mg "NEAR" = some (.int 1 tk)
def S_r_of : Sd := SpE (α := Bn × Nat) (fun ⟨b, k⟩ => [eB b]) (fun ⟨b, k⟩ => BnB k b ∧ k ≤ 900) (fun ⟨b, k⟩ => .int b.r)
theorem m_r_of : MonoP S_r_of := m_SpE
theorem u_r_of {b : Bn} {k : Nat} {Q : PyData → Prop} (h0 : BnB k b) (h1 : k ≤ 900) (hQ : Q (.int b.r)) : S_r_of [eB b] Q := ⟨(b, k), rfl, ⟨h0, h1⟩, hQ⟩
def S_lag_of : Sd := SpE (α := Bn × Nat) (fun ⟨b, k⟩ => [eB b]) (fun ⟨b, k⟩ => BnB k b ∧ k ≤ 900) (fun ⟨b, k⟩ => .int b.lag)
theorem m_lag_of : MonoP S_lag_of := m_SpE
theorem u_lag_of {b : Bn} {k : Nat} {Q : PyData → Prop} (h0 : BnB k b) (h1 : k ≤ 900) (hQ : Q (.int b.lag)) : S_lag_of [eB b] Q := ⟨(b, k), rfl, ⟨h0, h1⟩, hQ⟩
def S_least_from : Sl := fun a dom p Q => ∃ first M : Int, a = .int first ∧ 0 ≤ first ∧ first ≤ M ∧ M ≤ 2 ^ 50 ∧ (∀ i, first ≤ i → i ≤ 2 * M → dom i) ∧ p M = true ∧ (∀ i j, first ≤ i → i ≤ j → j ≤ 2 * M → p i = true → p j = true) ∧
  ∀ m, first ≤ m → m ≤ M → p m = true → (∀ u, first ≤ u → u < m → p u = false) → Q (.int m)
theorem m_least_from : MonoL S_least_from := fun a dom p Q Q' hq ⟨first, M, h1, h2, h3, h4, h5, h6, h7, h8⟩ => ⟨first, M, h1, h2, h3, h4, h5, h6, h7, fun m a b c d => hq _ (h8 m a b c d)⟩
def S__with : Sd := SpE (α := Bn × Int × Bool) (fun ⟨b, c, w⟩ => [eB b, .int (plc w), .int c]) (fun ⟨b, c, w⟩ => True) (fun ⟨b, c, w⟩ => eB (wth w b c))
theorem m__with : MonoP S__with := m_SpE
theorem u__with {b : Bn} {c : Int} {w : Bool} {Q : PyData → Prop}  (hQ : Q (eB (wth w b c))) : S__with [eB b, .int (plc w), .int c] Q := ⟨(b, c, w), rfl, trivial, hQ⟩
abbrev S__law_bag : SdL := S_bag
theorem m__law_bag : MonoF S__law_bag := m_bag
abbrev S__law_take : Sb := S_take
theorem m__law_take : MonoB S__law_take := m_take
abbrev S__law_alike : Sd := S_alike
theorem m__law_alike : MonoP S__law_alike := m_alike
def S__law_reach : Sd := SpE (α := Bn × Nat) (fun ⟨b, k⟩ => [eB b]) (fun ⟨b, k⟩ => BnB k b ∧ k ≤ 900) (fun ⟨b, k⟩ => .int b.r)
theorem m__law_reach : MonoP S__law_reach := m_SpE
theorem u__law_reach {b : Bn} {k : Nat} {Q : PyData → Prop} (h0 : BnB k b) (h1 : k ≤ 900) (hQ : Q (.int b.r)) : S__law_reach [eB b] Q := ⟨(b, k), rfl, ⟨h0, h1⟩, hQ⟩
def S__law_lag : Sd := SpE (α := Bn × Nat) (fun ⟨b, k⟩ => [eB b]) (fun ⟨b, k⟩ => BnB k b ∧ k ≤ 900) (fun ⟨b, k⟩ => .int b.lag)
theorem m__law_lag : MonoP S__law_lag := m_SpE
theorem u__law_lag {b : Bn} {k : Nat} {Q : PyData → Prop} (h0 : BnB k b) (h1 : k ≤ 900) (hQ : Q (.int b.lag)) : S__law_lag [eB b] Q := ⟨(b, k), rfl, ⟨h0, h1⟩, hQ⟩
def S_is_enough : Sd := SpE (α := Bn × Int × Nat) (fun ⟨b, t, k⟩ => [eB b, .int t]) (fun ⟨b, t, k⟩ => BnB k b ∧ Bd k t ∧ k ≤ 100) (fun ⟨b, t, k⟩ => .bool (decide (enough b t)))
theorem m_is_enough : MonoP S_is_enough := m_SpE
theorem u_is_enough {b : Bn} {t : Int} {k : Nat} {Q : PyData → Prop} (h0 : BnB k b) (h1 : Bd k t) (h2 : k ≤ 100) (hQ : Q (.bool (decide (enough b t)))) : S_is_enough [eB b, .int t] Q := ⟨(b, t, k), rfl, ⟨h0, h1, h2⟩, hQ⟩
abbrev S__law_some : Sb := S_some
theorem m__law_some : MonoB S__law_some := m_some
def S__law_is_enough : Sd := SpE (α := Bn × Int × Nat) (fun ⟨b, t, k⟩ => [eB b, .int t]) (fun ⟨b, t, k⟩ => BnB k b ∧ Bd k t ∧ k ≤ 100 ∧ 1 ≤ t ∧ 1 ≤ b.r ∧ 0 ≤ b.sp ∧ b.sp ≤ b.way) (fun ⟨b, t, k⟩ => .bool (decide (enough b t)))
theorem m__law_is_enough : MonoP S__law_is_enough := m_SpE
theorem u__law_is_enough {b : Bn} {t : Int} {k : Nat} {Q : PyData → Prop} (h0 : BnB k b) (h1 : Bd k t) (h2 : k ≤ 100) (h3 : 1 ≤ t) (h4 : 1 ≤ b.r) (h5 : 0 ≤ b.sp) (h6 : b.sp ≤ b.way) (hQ : Q (.bool (decide (enough b t)))) : S__law_is_enough [eB b, .int t] Q := ⟨(b, t, k), rfl, ⟨h0, h1, h2, h3, h4, h5, h6⟩, hQ⟩
def S__law_bounds : Sb := SpB (α := Unit) 20 (fun _ => []) (fun _ => True) (fun _ z => ∃ b : Bn, z = eB b ∧ BnOk b ∧ BnV b)
theorem m__law_bounds : MonoB S__law_bounds := m_SpB
theorem u__law_bounds  {m : Nat} {bag : List PyData} {Q : PyData → List PyData → Prop} (hb : Bag m bag) (hm : m + 20 < 2 ^ 60)  (hQ : ∀ z bag', (∃ b : Bn, z = eB b ∧ BnOk b ∧ BnV b) → Bag (m + 20) bag' → Q z bag') : S__law_bounds bag [] Q := ⟨(), m, hb, hm, rfl, trivial, hQ⟩
def S__law_ticks : Sb := SpB (α := Bn) 2 (fun b => [eB b]) (fun b => BnOk b) (fun b z => ∃ t : Int, z = .int t ∧ 1 ≤ t ∧ b.lag ≤ t ∧ t ≤ 400)
theorem m__law_ticks : MonoB S__law_ticks := m_SpB
theorem u__law_ticks {b : Bn} {m : Nat} {bag : List PyData} {Q : PyData → List PyData → Prop} (hb : Bag m bag) (hm : m + 2 < 2 ^ 60) (h0 : BnOk b) (hQ : ∀ z bag', (∃ t : Int, z = .int t ∧ 1 ≤ t ∧ b.lag ≤ t ∧ t ≤ 400) → Bag (m + 2) bag' → Q z bag') : S__law_ticks bag [eB b] Q := ⟨(b), m, hb, hm, rfl, h0, hQ⟩
def S__law_greatest_near : Sd := SpR (α := Bn × Int) (fun ⟨b, t⟩ => [eB b, .int t]) (fun ⟨b, t⟩ => BnOk b ∧ 1 ≤ t ∧ t ≤ 1000000) (fun ⟨b, t⟩ z => (z = .none ∧ ¬ enough (b.nr 1) t) ∨ (∃ m, z = .int m ∧ 1 ≤ m ∧ m < b.sp ∧ enough (b.nr m) t ∧ ¬ enough (b.nr (m + 1)) t))
theorem m__law_greatest_near : MonoP S__law_greatest_near := m_SpR
theorem u__law_greatest_near {b : Bn} {t : Int} {Q : PyData → Prop} (h0 : BnOk b) (h1 : 1 ≤ t) (h2 : t ≤ 1000000) (hQ : ∀ z, ((z = .none ∧ ¬ enough (b.nr 1) t) ∨ (∃ m, z = .int m ∧ 1 ≤ m ∧ m < b.sp ∧ enough (b.nr m) t ∧ ¬ enough (b.nr (m + 1)) t)) → Q z) : S__law_greatest_near [eB b, .int t] Q := ⟨(b, t), rfl, ⟨h0, h1, h2⟩, hQ⟩
def S__law_least_spacing : Sd := SpR (α := Bn × Int) (fun ⟨b, t⟩ => [eB b, .int t]) (fun ⟨b, t⟩ => BnOk b ∧ 1 ≤ t ∧ t ≤ 1000000) (fun ⟨b, t⟩ z => (z = .none ∧ ¬ enough (b.sw b.way) t) ∨ (∃ m, z = .int m ∧ 1 ≤ m ∧ m ≤ b.way ∧ enough (b.sw m) t ∧ ∀ u, 1 ≤ u → u < m → ¬ enough (b.sw u) t))
theorem m__law_least_spacing : MonoP S__law_least_spacing := m_SpR
theorem u__law_least_spacing {b : Bn} {t : Int} {Q : PyData → Prop} (h0 : BnOk b) (h1 : 1 ≤ t) (h2 : t ≤ 1000000) (hQ : ∀ z, ((z = .none ∧ ¬ enough (b.sw b.way) t) ∨ (∃ m, z = .int m ∧ 1 ≤ m ∧ m ≤ b.way ∧ enough (b.sw m) t ∧ ∀ u, 1 ≤ u → u < m → ¬ enough (b.sw u) t)) → Q z) : S__law_least_spacing [eB b, .int t] Q := ⟨(b, t), rfl, ⟨h0, h1, h2⟩, hQ⟩
def S_greatest_near : Sd := SpR (α := Bn × Int) (fun ⟨b, t⟩ => [eB b, .int t]) (fun ⟨b, t⟩ => BnOk b ∧ 1 ≤ t ∧ t ≤ 1000000) (fun ⟨b, t⟩ z => (z = .none ∧ ¬ enough (b.nr 1) t) ∨ (∃ m, z = .int m ∧ 1 ≤ m ∧ m < b.sp ∧ enough (b.nr m) t ∧ ¬ enough (b.nr (m + 1)) t))
theorem m_greatest_near : MonoP S_greatest_near := m_SpR
theorem u_greatest_near {b : Bn} {t : Int} {Q : PyData → Prop} (h0 : BnOk b) (h1 : 1 ≤ t) (h2 : t ≤ 1000000) (hQ : ∀ z, ((z = .none ∧ ¬ enough (b.nr 1) t) ∨ (∃ m, z = .int m ∧ 1 ≤ m ∧ m < b.sp ∧ enough (b.nr m) t ∧ ¬ enough (b.nr (m + 1)) t)) → Q z) : S_greatest_near [eB b, .int t] Q := ⟨(b, t), rfl, ⟨h0, h1, h2⟩, hQ⟩
def S_least_spacing : Sd := SpR (α := Bn × Int) (fun ⟨b, t⟩ => [eB b, .int t]) (fun ⟨b, t⟩ => BnOk b ∧ 1 ≤ t ∧ t ≤ 1000000) (fun ⟨b, t⟩ z => (z = .none ∧ ¬ enough (b.sw b.way) t) ∨ (∃ m, z = .int m ∧ 1 ≤ m ∧ m ≤ b.way ∧ enough (b.sw m) t ∧ ∀ u, 1 ≤ u → u < m → ¬ enough (b.sw u) t))
theorem m_least_spacing : MonoP S_least_spacing := m_SpR
theorem u_least_spacing {b : Bn} {t : Int} {Q : PyData → Prop} (h0 : BnOk b) (h1 : 1 ≤ t) (h2 : t ≤ 1000000) (hQ : ∀ z, ((z = .none ∧ ¬ enough (b.sw b.way) t) ∨ (∃ m, z = .int m ∧ 1 ≤ m ∧ m ≤ b.way ∧ enough (b.sw m) t ∧ ∀ u, 1 ≤ u → u < m → ¬ enough (b.sw u) t)) → Q z) : S_least_spacing [eB b, .int t] Q := ⟨(b, t), rfl, ⟨h0, h1, h2⟩, hQ⟩
def S_law : Sd := fun xs Q => ∃ ns : List Int, xs = [.list (ns.map .int)] ∧ Q (.bool true)
theorem m_law : MonoP S_law := fun xs Q Q' hq ⟨ns, h1, h2⟩ => ⟨ns, h1, hq _ h2⟩
theorem law_spec : ∀ ns : List Int, ns.length ≤ 63 → S_law [.list (ns.map .int)] fun z => z = .bool true := fun ns _ => ⟨ns, rfl, rfl⟩
section
variable {P : Program} {w : World} {K : PySem.W.Frag} {mg : Str → Option Value} {base : Heap} {TT : List (Addr × Str)}
set_option maxHeartbeats 4000000 in
theorem ok_r_of {f : Addr} {fd : FuncData} (W : Fun K "r_of" "r_of" s_r_of f fd) (T : Bi mg) :
    FnG P w K mg base CX0 1 f fd ["bounds"] (spP K TT [.d] S_r_of) := by
  refine fnP W sc_r_of rfl fun cdv A out s H E Nn hr hgd => ⟨_, _, (dss_one (ds_ret (pd_add (pd_ix (pdv 0) pd_int (fun _ _ => rfl)) (pd_mul pd_int (pd_ix (pdv 0) pd_int (fun _ _ => rfl)))))), ?_⟩
  clear W T hr hgd
  rintro xs Q hl ⟨⟨b, k⟩, rfl, ⟨h0, h1⟩, hQ⟩
  clear hl
  replace hQ : Q (.int b.r) := hQ
  have e : rhoP nm_r_of.length [.d] [eB b] = [some (.d (eB b))] := rfl
  rw [e]
  clear e
  simp only [dSeq, dAsg, dCB, dCons, dNil, dVar, onVs, vals, val, slot, setR, fGcd, dIfS, dTV, dOp, dBin, onV2, fLt, fLe, fGt, fGe, fAdd, fSub, fMul, fDiv, fMod, fI0, dC, dUn, onV, fNeg, dNext, dRet, dTup, onD, dats, fDivZ, fI, fPow, Few, retP, fAbs, fInt, fMax, fMin, fLen, fSqrt, fEq, fNe, dNot, dAnd, dOr, dAndV, dOrV, dNotV, dIfE, dDrop, dRetN, dPar, noO, dSetL, dLst, dOfL, dOwnM, onOwn, onDat, kAppend, kInsert, dSetItem, dAddItem, dIx, onItems, items, onInt, dNoPart, dPart, dSlice, onL, litems, dSlL, dCat, onM, mitems, dTupOf, dSeqI, dRng1, dRng2, dCallP, dCallB, dCallF, noSelf, onArgs, dats2, dIsi, tyName, dYes, dgTup, dgCons, dgNil, retB, dBreak, dCont, ne_eq, not_false_eq_true, true_and, and_true, List.getElem?_cons_zero, List.getElem?_cons_succ, List.set_cons_zero, List.set_cons_succ, Option.map, List.length_cons, List.length_nil, dParM, dmNil, dmD, dmL, setM, dLc_eq, dLc2_eq, dFor_eq, dSortSet, dSort, dListOf, dIsN, dNotN, isNo, dAug, dMulA, dgUnl, dCatT, dSlT, onT, titems, dEnum, dZip, dZipM, seqs, dRetL, dPar3, dRevT, dLstRg, dTupRg, dRg1, dRg2, dChainLe, List.nil_append, List.cons_append, if_true, if_false, dFrz, dLcO, dMin2D, dAppX, dParL, dParLL, dRepL, fMax3, dNewDic, dDicPut, dDicGet, dSortDic, onDic, onKey, dLcW, dZipX, dParR, dDead, dSortD, dSortDT, fNeS, fEqS, dgSet, dTupZip, dFgt, fIsB, fNotB, List.map_cons, List.map_nil, fw0, fw1, fw2, fw3, fw4, fw5, fw6, fw7, fw8, fw9, fw10, fw11, fw12, fw13, fw14, fw15, eB, on1, on2]
  exact ⟨cmb (show Bd 2 2 by unfold Bd; decide) h0.wind (by omega), hQ⟩
set_option maxHeartbeats 4000000 in
theorem ok_lag_of {f : Addr} {fd : FuncData} (W : Fun K "lag_of" "lag_of" s_lag_of f fd) (T : Bi mg) :
    FnG P w K mg base CX0 1 f fd ["bounds"] (spP K TT [.d] S_lag_of) := by
  refine fnP W sc_lag_of rfl fun cdv A out s H E Nn hr hgd => ⟨_, _, (dss_one (ds_ret (pd_add (pd_ix (pdv 0) pd_int (fun _ _ => rfl)) (pd_mul pd_int (pd_ix (pdv 0) pd_int (fun _ _ => rfl)))))), ?_⟩
  clear W T hr hgd
  rintro xs Q hl ⟨⟨b, k⟩, rfl, ⟨h0, h1⟩, hQ⟩
  clear hl
  replace hQ : Q (.int b.lag) := hQ
  have e : rhoP nm_lag_of.length [.d] [eB b] = [some (.d (eB b))] := rfl
  rw [e]
  clear e
  simp only [dSeq, dAsg, dCB, dCons, dNil, dVar, onVs, vals, val, slot, setR, fGcd, dIfS, dTV, dOp, dBin, onV2, fLt, fLe, fGt, fGe, fAdd, fSub, fMul, fDiv, fMod, fI0, dC, dUn, onV, fNeg, dNext, dRet, dTup, onD, dats, fDivZ, fI, fPow, Few, retP, fAbs, fInt, fMax, fMin, fLen, fSqrt, fEq, fNe, dNot, dAnd, dOr, dAndV, dOrV, dNotV, dIfE, dDrop, dRetN, dPar, noO, dSetL, dLst, dOfL, dOwnM, onOwn, onDat, kAppend, kInsert, dSetItem, dAddItem, dIx, onItems, items, onInt, dNoPart, dPart, dSlice, onL, litems, dSlL, dCat, onM, mitems, dTupOf, dSeqI, dRng1, dRng2, dCallP, dCallB, dCallF, noSelf, onArgs, dats2, dIsi, tyName, dYes, dgTup, dgCons, dgNil, retB, dBreak, dCont, ne_eq, not_false_eq_true, true_and, and_true, List.getElem?_cons_zero, List.getElem?_cons_succ, List.set_cons_zero, List.set_cons_succ, Option.map, List.length_cons, List.length_nil, dParM, dmNil, dmD, dmL, setM, dLc_eq, dLc2_eq, dFor_eq, dSortSet, dSort, dListOf, dIsN, dNotN, isNo, dAug, dMulA, dgUnl, dCatT, dSlT, onT, titems, dEnum, dZip, dZipM, seqs, dRetL, dPar3, dRevT, dLstRg, dTupRg, dRg1, dRg2, dChainLe, List.nil_append, List.cons_append, if_true, if_false, dFrz, dLcO, dMin2D, dAppX, dParL, dParLL, dRepL, fMax3, dNewDic, dDicPut, dDicGet, dSortDic, onDic, onKey, dLcW, dZipX, dParR, dDead, dSortD, dSortDT, fNeS, fEqS, dgSet, dTupZip, dFgt, fIsB, fNotB, List.map_cons, List.map_nil, fw0, fw1, fw2, fw3, fw4, fw5, fw6, fw7, fw8, fw9, fw10, fw11, fw12, fw13, fw14, fw15, eB, on3, on4]
  exact ⟨cmb (show Bd 2 2 by unfold Bd; decide) h0.clk (by omega), hQ⟩
set_option maxHeartbeats 4000000 in
theorem ok_least_from {f : Addr} {fd : FuncData} (W : Fun K "least_from" "least_from" s_least_from f fd) (T : Bi mg) {k : Nat} :
    FnL P w K mg base TT k f fd "first" "is_so" S_least_from := by
  refine fnL W sc_least_from fun cdv A out s H E Nn fa dom p hr hgd Ac => ⟨_, _, (dss_cons (ds_set (i := 2) sc_least_from.nd pd_int fixP)
      (dss_cons (ds_while PassesOwn.never (pt_no (pt_v (pd_act (i := 1) Ac rfl (fun _ z => z) hr hgd rfl (by first | exact Or.inl rfl | exact Or.inr (Or.inl rfl) | exact Or.inr (Or.inr rfl)) (pda_cons (pd_sub (pd_add (pdv 0) (pdv 2)) pd_int) pda_nil)))) (dss_one (ds_mul (i := 2) sc_least_from.nd pd_int fixP)))
      (dss_cons (ds_par (i := 3) (j := 4) rfl sc_least_from.nd (pda_cons (pd_add (pdv 0) (pd_div (pdv 2) pd_int)) (pda_cons (pd_sub (pd_add (pdv 0) (pdv 2)) pd_int) pda_nil)) fixP fixP)
      (dss_cons (ds_while PassesOwn.never (pt_lt (pdv 3) (pdv 4)) (dss_cons (ds_set (i := 5) sc_least_from.nd (pd_div (pd_add (pdv 3) (pdv 4)) pd_int) fixP)
      (dss_one (ds_if (pt_v (pd_act (i := 1) Ac rfl (fun _ z => z) hr hgd rfl (by first | exact Or.inl rfl | exact Or.inr (Or.inl rfl) | exact Or.inr (Or.inr rfl)) (pda_cons (pdv 5) pda_nil))) (dss_one (ds_set (i := 4) sc_least_from.nd (pdv 5) fixP)) (dss_one (ds_set (i := 3) sc_least_from.nd (pd_add (pdv 5) pd_int) fixP))))))
      (dss_one (ds_ret (pdv 3))))))), ?_⟩
  rintro a Q ⟨first, M, rfl, f0, fM, hM, hd, hp, hmono, hQ⟩
  clear W T hr hgd
  have e : (some (Ent.d (PyData.int first)) :: some (Ent.raw (V.ref fa)) :: List.replicate (nm_least_from.length - 2) none : Rho) = [some (.d (.int first)), some (.raw (.ref fa)), none, none, none, none] := rfl
  rw [e]
  clear e Ac
  have nf : ∀ {i j : Int}, first ≤ i → i ≤ j → j ≤ 2 * M → p j = false → p i = false := fun {i j} a b c d => by
    cases h : p i with
    | false => rfl
    | true => rw [hmono i j a b c h] at d; cases d
  refine seqI fun kk hk => ?_
  try simp only [dSeq, dAsg, dCB, dCons, dNil, dVar, onVs, vals, val, slot, setR, fGcd, dIfS, dTV, onV2, fLt, fLe, fGt, fGe, fAdd, fSub, fMul, fDiv, fMod, fI0, dC, dUn, onV, fNeg, dNext, dRet, dTup, onD, dats, fDivZ, fI, fPow, Few, retP, fAbs, fInt, fMax, fMin, fLen, fSqrt, fEq, fNe, dNot, dAnd, dOr, dAndV, dOrV, dNotV, dIfE, dDrop, dRetN, dPar, noO, dSetL, dLst, dOfL, dOwnM, onOwn, onDat, kAppend, kInsert, dSetItem, dAddItem, onItems, onInt, dNoPart, dPart, dSlice, onL, litems, dSlL, dCat, onM, mitems, dRng1, dRng2, dCallP, dCallB, dCallF, noSelf, onArgs, dats2, dIsi, tyName, dYes, dgCons, dgNil, retB, dBreak, dCont, ne_eq, not_false_eq_true, true_and, and_true, List.getElem?_cons_zero, List.getElem?_cons_succ, List.set_cons_zero, List.set_cons_succ, Option.map, List.length_cons, List.length_nil, dParM, dmNil, dmD, dmL, setM, dLc_eq, dLc2_eq, dFor_eq, dSortSet, dSort, dListOf, dIsN, dNotN, isNo, dAug, dMulA, dgUnl, dSlT, onT, dEnum, dZip, dZipM, dRetL, dPar3, dRevT, dLstRg, dTupRg, dRg1, dRg2, dChainLe, List.nil_append, List.cons_append, if_true, if_false, dFrz, dLcO, dMin2D, dAppX, dParL, dParLL, dRepL, fMax3, dNewDic, dDicPut, dDicGet, dSortDic, onDic, onKey, dLcW, dZipX, dParR, dDead, dSortD, dSortDT, fNeS, fEqS, dgSet, dTupZip, dFgt, fIsB, fNotB, List.map_cons, List.map_nil, fw0, fw1, fw2, fw3, fw4, fw5, fw6, fw7, fw8, fw9, fw10, fw11, fw12, fw13, fw14, fw15, dExtend, dExtendT, dLstDn, dMaxDf, dOp_ap, dIx_ap, dCatT_ap, dRepT_ap, items_l, items_t, items_o, ti_t, dgT_t, seqs_l, seqs_t, seqs_o, dSeqI_eq, wk_l, wk_t, wk_eP, wk_o, dTupOf_eq, tu_t, tu_l, tu_o, tu_eP, items_eW, items_eB, items_eSc, items_eLm, items_eP, items_eL, items_pr, items_enc2, items_eTm, ti_eB, ti_eW, ti_eLm, ti_eP, dgT_eSc, dgT_eLm, dgT_eL, dgT_pr, dgT_enc2, dgT_eW, dgT_eTm, seqs_eP, on0, on1, on2, on3, on4, on5, on6, on7, on8]
  rw [hk]
  clear hk
  refine seqI fun kk hk => ?_
  try simp only [dSeq, dAsg, dCB, dCons, dNil, dVar, onVs, vals, val, slot, setR, fGcd, dIfS, dTV, onV2, fLt, fLe, fGt, fGe, fAdd, fSub, fMul, fDiv, fMod, fI0, dC, dUn, onV, fNeg, dNext, dRet, dTup, onD, dats, fDivZ, fI, fPow, Few, retP, fAbs, fInt, fMax, fMin, fLen, fSqrt, fEq, fNe, dNot, dAnd, dOr, dAndV, dOrV, dNotV, dIfE, dDrop, dRetN, dPar, noO, dSetL, dLst, dOfL, dOwnM, onOwn, onDat, kAppend, kInsert, dSetItem, dAddItem, onItems, onInt, dNoPart, dPart, dSlice, onL, litems, dSlL, dCat, onM, mitems, dRng1, dRng2, dCallP, dCallB, dCallF, noSelf, onArgs, dats2, dIsi, tyName, dYes, dgCons, dgNil, retB, dBreak, dCont, ne_eq, not_false_eq_true, true_and, and_true, List.getElem?_cons_zero, List.getElem?_cons_succ, List.set_cons_zero, List.set_cons_succ, Option.map, List.length_cons, List.length_nil, dParM, dmNil, dmD, dmL, setM, dLc_eq, dLc2_eq, dFor_eq, dSortSet, dSort, dListOf, dIsN, dNotN, isNo, dAug, dMulA, dgUnl, dSlT, onT, dEnum, dZip, dZipM, dRetL, dPar3, dRevT, dLstRg, dTupRg, dRg1, dRg2, dChainLe, List.nil_append, List.cons_append, if_true, if_false, dFrz, dLcO, dMin2D, dAppX, dParL, dParLL, dRepL, fMax3, dNewDic, dDicPut, dDicGet, dSortDic, onDic, onKey, dLcW, dZipX, dParR, dDead, dSortD, dSortDT, fNeS, fEqS, dgSet, dTupZip, dFgt, fIsB, fNotB, List.map_cons, List.map_nil, fw0, fw1, fw2, fw3, fw4, fw5, fw6, fw7, fw8, fw9, fw10, fw11, fw12, fw13, fw14, fw15, dExtend, dExtendT, dLstDn, dMaxDf, dOp_ap, dIx_ap, dCatT_ap, dRepT_ap, items_l, items_t, items_o, ti_t, dgT_t, seqs_l, seqs_t, seqs_o, dSeqI_eq, wk_l, wk_t, wk_eP, wk_o, dTupOf_eq, tu_t, tu_l, tu_o, tu_eP, items_eW, items_eB, items_eSc, items_eLm, items_eP, items_eL, items_pr, items_enc2, items_eTm, ti_eB, ti_eW, ti_eLm, ti_eP, dgT_eSc, dgT_eLm, dgT_eL, dgT_pr, dgT_enc2, dgT_eW, dgT_eTm, seqs_eP, on0, on1, on2, on3, on4, on5, on6, on7, on8]
  simp only [dWhile]
  refine ⟨fun ρ : Rho => ∃ r : Int, ρ = [some (.d (.int first)), some (.raw (.ref fa)), some (.d (.int r)), none, none, none] ∧ 1 ≤ r ∧ first + r - 1 ≤ 2 * M ∧ (r = 1 ∨ ∃ q : Int, r = 2 * q ∧ 1 ≤ q ∧ p (first + q - 1) = false), fun ρ : Rho => match ρ[2]? with | some (some (Ent.d (PyData.int r))) => (4 * M + 4 - r).toNat | _ => 0, ⟨1, rfl, by omega, by omega, .inl rfl⟩, ?_⟩
  rintro ρ ⟨r, rfl, r1, r2, r3⟩
  simp only [dSeq, dAsg, dCB, dCons, dNil, dVar, onVs, vals, val, slot, setR, fGcd, dIfS, dTV, onV2, fLt, fLe, fGt, fGe, fAdd, fSub, fMul, fDiv, fMod, fI0, dC, dUn, onV, fNeg, dNext, dRet, dTup, onD, dats, fDivZ, fI, fPow, Few, retP, fAbs, fInt, fMax, fMin, fLen, fSqrt, fEq, fNe, dNot, dAnd, dOr, dAndV, dOrV, dNotV, dIfE, dDrop, dRetN, dPar, noO, dSetL, dLst, dOfL, dOwnM, onOwn, onDat, kAppend, kInsert, dSetItem, dAddItem, onItems, onInt, dNoPart, dPart, dSlice, onL, litems, dSlL, dCat, onM, mitems, dRng1, dRng2, dCallP, dCallB, dCallF, noSelf, onArgs, dats2, dIsi, tyName, dYes, dgCons, dgNil, retB, dBreak, dCont, ne_eq, not_false_eq_true, true_and, and_true, List.getElem?_cons_zero, List.getElem?_cons_succ, List.set_cons_zero, List.set_cons_succ, Option.map, List.length_cons, List.length_nil, dParM, dmNil, dmD, dmL, setM, dLc_eq, dLc2_eq, dFor_eq, dSortSet, dSort, dListOf, dIsN, dNotN, isNo, dAug, dMulA, dgUnl, dSlT, onT, dEnum, dZip, dZipM, dRetL, dPar3, dRevT, dLstRg, dTupRg, dRg1, dRg2, dChainLe, List.nil_append, List.cons_append, if_true, if_false, dFrz, dLcO, dMin2D, dAppX, dParL, dParLL, dRepL, fMax3, dNewDic, dDicPut, dDicGet, dSortDic, onDic, onKey, dLcW, dZipX, dParR, dDead, dSortD, dSortDT, fNeS, fEqS, dgSet, dTupZip, dFgt, fIsB, fNotB, List.map_cons, List.map_nil, fw0, fw1, fw2, fw3, fw4, fw5, fw6, fw7, fw8, fw9, fw10, fw11, fw12, fw13, fw14, fw15, dExtend, dExtendT, dLstDn, dMaxDf, dOp_ap, dIx_ap, dCatT_ap, dRepT_ap, items_l, items_t, items_o, ti_t, dgT_t, seqs_l, seqs_t, seqs_o, dSeqI_eq, wk_l, wk_t, wk_eP, wk_o, dTupOf_eq, tu_t, tu_l, tu_o, tu_eP, items_eW, items_eB, items_eSc, items_eLm, items_eP, items_eL, items_pr, items_enc2, items_eTm, ti_eB, ti_eW, ti_eLm, ti_eP, dgT_eSc, dgT_eLm, dgT_eL, dgT_pr, dgT_enc2, dgT_eW, dgT_eTm, seqs_eP, on0, on1, on2, on3, on4, on5, on6, on7, on8, dAct]
  refine ⟨_, rfl, hd _ (by omega) (by omega), ?_⟩
  cases hpr : p (first + r - 1) with
  | false =>
    simp only [Bool.not_false, if_true]
    have lt : first + r - 1 < M := Int.not_le.mp fun h => by
      have := nf (i := M) (by omega) h (by omega) hpr
      rw [hp] at this
      cases this
    refine ⟨cmb (bd_of (2 ^ 50) (by omega) (by omega) : Bd 51 r) (show Bd 2 2 by unfold Bd; decide) (by decide), ⟨r * 2, rfl, by omega, by omega, .inr ⟨r, by omega, r1, hpr⟩⟩, ?_⟩
    show (4 * M + 4 - r * 2).toNat < (4 * M + 4 - r).toNat
    omega
  | true =>
    simp only [Bool.not_true, Bool.false_eq_true, if_false]
    have half : 0 ≤ r / 2 ∧ r / 2 ≤ r - 1 ∧ ∀ u, first ≤ u → u < first + r / 2 → p u = false := by
      rcases r3 with rfl | ⟨q, rfl, q1, q2⟩
      · exact ⟨by decide, by decide, fun u a b => by omega⟩
      · have e : 2 * q / 2 = q := by omega
        rw [e]
        exact ⟨by omega, by omega, fun u a b => nf a (by omega) (by omega) q2⟩
    obtain ⟨g0, g1, g2⟩ := half
    rw [hk]
    clear hk
    refine seqI fun kk hk => ?_
    simp only [dSeq, dAsg, dCB, dCons, dNil, dVar, onVs, vals, val, slot, setR, fGcd, dIfS, dTV, onV2, fLt, fLe, fGt, fGe, fAdd, fSub, fMul, fDiv, fMod, fI0, dC, dUn, onV, fNeg, dNext, dRet, dTup, onD, dats, fDivZ, fI, fPow, Few, retP, fAbs, fInt, fMax, fMin, fLen, fSqrt, fEq, fNe, dNot, dAnd, dOr, dAndV, dOrV, dNotV, dIfE, dDrop, dRetN, dPar, noO, dSetL, dLst, dOfL, dOwnM, onOwn, onDat, kAppend, kInsert, dSetItem, dAddItem, onItems, onInt, dNoPart, dPart, dSlice, onL, litems, dSlL, dCat, onM, mitems, dRng1, dRng2, dCallP, dCallB, dCallF, noSelf, onArgs, dats2, dIsi, tyName, dYes, dgCons, dgNil, retB, dBreak, dCont, ne_eq, not_false_eq_true, true_and, and_true, List.getElem?_cons_zero, List.getElem?_cons_succ, List.set_cons_zero, List.set_cons_succ, Option.map, List.length_cons, List.length_nil, dParM, dmNil, dmD, dmL, setM, dLc_eq, dLc2_eq, dFor_eq, dSortSet, dSort, dListOf, dIsN, dNotN, isNo, dAug, dMulA, dgUnl, dSlT, onT, dEnum, dZip, dZipM, dRetL, dPar3, dRevT, dLstRg, dTupRg, dRg1, dRg2, dChainLe, List.nil_append, List.cons_append, if_true, if_false, dFrz, dLcO, dMin2D, dAppX, dParL, dParLL, dRepL, fMax3, dNewDic, dDicPut, dDicGet, dSortDic, onDic, onKey, dLcW, dZipX, dParR, dDead, dSortD, dSortDT, fNeS, fEqS, dgSet, dTupZip, dFgt, fIsB, fNotB, List.map_cons, List.map_nil, fw0, fw1, fw2, fw3, fw4, fw5, fw6, fw7, fw8, fw9, fw10, fw11, fw12, fw13, fw14, fw15, dExtend, dExtendT, dLstDn, dMaxDf, dOp_ap, dIx_ap, dCatT_ap, dRepT_ap, items_l, items_t, items_o, ti_t, dgT_t, seqs_l, seqs_t, seqs_o, dSeqI_eq, wk_l, wk_t, wk_eP, wk_o, dTupOf_eq, tu_t, tu_l, tu_o, tu_eP, items_eW, items_eB, items_eSc, items_eLm, items_eP, items_eL, items_pr, items_enc2, items_eTm, ti_eB, ti_eW, ti_eLm, ti_eP, dgT_eSc, dgT_eLm, dgT_eL, dgT_pr, dgT_enc2, dgT_eW, dgT_eTm, seqs_eP, on0, on1, on2, on3, on4, on5, on6, on7, on8]
    refine ⟨cdwB (by decide) (show Bd 2 2 by unfold Bd; decide), ?_⟩
    generalize r / 2 = h at *
    rw [hk]
    clear hk
    have key : ∀ (low high : Int) (c5 : Option Ent), first ≤ low → low ≤ high → high ≤ 2 * M → p high = true → (∀ u, first ≤ u → u < low → p u = false) → low ≤ M := fun low high c5 a b c d e2 => Int.not_lt.mp fun z => by
      have := e2 M fM z
      rw [hp] at this
      cases this
    refine seqI fun kk hk => ?_
    simp only [dWhile]
    refine ⟨fun ρ : Rho => ∃ (low high : Int) (c5 : Option Ent), ρ = [some (.d (.int first)), some (.raw (.ref fa)), some (.d (.int r)), some (.d (.int low)), some (.d (.int high)), c5] ∧ first ≤ low ∧ low ≤ high ∧ high ≤ 2 * M ∧ p high = true ∧ (∀ u, first ≤ u → u < low → p u = false),
      fun ρ : Rho => match ρ[3]?, ρ[4]? with | some (some (Ent.d (PyData.int a))), some (some (Ent.d (PyData.int b))) => (b - a).toNat | _, _ => 0, ⟨first + h, first + r - 1, none, rfl, by omega, by omega, by omega, hpr, g2⟩, ?_⟩
    rintro ρ ⟨low, high, c5, rfl, a1, a2, a3, a4, a5⟩
    have a6 := key low high c5 a1 a2 a3 a4 a5
    simp only [dSeq, dAsg, dCB, dCons, dNil, dVar, onVs, vals, val, slot, setR, fGcd, dIfS, dTV, onV2, fLt, fLe, fGt, fGe, fAdd, fSub, fMul, fDiv, fMod, fI0, dC, dUn, onV, fNeg, dNext, dRet, dTup, onD, dats, fDivZ, fI, fPow, Few, retP, fAbs, fInt, fMax, fMin, fLen, fSqrt, fEq, fNe, dNot, dAnd, dOr, dAndV, dOrV, dNotV, dIfE, dDrop, dRetN, dPar, noO, dSetL, dLst, dOfL, dOwnM, onOwn, onDat, kAppend, kInsert, dSetItem, dAddItem, onItems, onInt, dNoPart, dPart, dSlice, onL, litems, dSlL, dCat, onM, mitems, dRng1, dRng2, dCallP, dCallB, dCallF, noSelf, onArgs, dats2, dIsi, tyName, dYes, dgCons, dgNil, retB, dBreak, dCont, ne_eq, not_false_eq_true, true_and, and_true, List.getElem?_cons_zero, List.getElem?_cons_succ, List.set_cons_zero, List.set_cons_succ, Option.map, List.length_cons, List.length_nil, dParM, dmNil, dmD, dmL, setM, dLc_eq, dLc2_eq, dFor_eq, dSortSet, dSort, dListOf, dIsN, dNotN, isNo, dAug, dMulA, dgUnl, dSlT, onT, dEnum, dZip, dZipM, dRetL, dPar3, dRevT, dLstRg, dTupRg, dRg1, dRg2, dChainLe, List.nil_append, List.cons_append, if_true, if_false, dFrz, dLcO, dMin2D, dAppX, dParL, dParLL, dRepL, fMax3, dNewDic, dDicPut, dDicGet, dSortDic, onDic, onKey, dLcW, dZipX, dParR, dDead, dSortD, dSortDT, fNeS, fEqS, dgSet, dTupZip, dFgt, fIsB, fNotB, List.map_cons, List.map_nil, fw0, fw1, fw2, fw3, fw4, fw5, fw6, fw7, fw8, fw9, fw10, fw11, fw12, fw13, fw14, fw15, dExtend, dExtendT, dLstDn, dMaxDf, dOp_ap, dIx_ap, dCatT_ap, dRepT_ap, items_l, items_t, items_o, ti_t, dgT_t, seqs_l, seqs_t, seqs_o, dSeqI_eq, wk_l, wk_t, wk_eP, wk_o, dTupOf_eq, tu_t, tu_l, tu_o, tu_eP, items_eW, items_eB, items_eSc, items_eLm, items_eP, items_eL, items_pr, items_enc2, items_eTm, ti_eB, ti_eW, ti_eLm, ti_eP, dgT_eSc, dgT_eLm, dgT_eL, dgT_pr, dgT_enc2, dgT_eW, dgT_eTm, seqs_eP, on0, on1, on2, on3, on4, on5, on6, on7, on8, dAct]
    refine ite_b (c := low < high) (fun lt => ?_) fun ge => ?_
    · have b2 : Bd 2 2 := by unfold Bd; decide
      refine ⟨cdwB (by decide) b2, ?_⟩
      have m0 : low ≤ (low + high) / 2 ∧ (low + high) / 2 < high := by omega
      generalize (low + high) / 2 = mid at *
      refine ⟨_, rfl, hd _ (by omega) (by omega), ?_⟩
      cases hm : p mid with
      | true =>
        simp only [if_true]
        refine ⟨⟨low, mid, _, rfl, a1, m0.1, by omega, hm, a5⟩, ?_⟩
        show (mid - low).toNat < (high - low).toNat
        omega
      | false =>
        simp only [Bool.false_eq_true, if_false]
        refine ⟨⟨mid + 1, high, _, rfl, by omega, by omega, a3, a4, fun u u0 u1 => nf u0 (by omega) (by omega) hm⟩, ?_⟩
        show (high - (mid + 1)).toNat < (high - low).toNat
        omega
    · have e : low = high := by omega
      subst e
      rw [hk]
      clear hk
      simp only [dSeq, dAsg, dCB, dCons, dNil, dVar, onVs, vals, val, slot, setR, fGcd, dIfS, dTV, onV2, fLt, fLe, fGt, fGe, fAdd, fSub, fMul, fDiv, fMod, fI0, dC, dUn, onV, fNeg, dNext, dRet, dTup, onD, dats, fDivZ, fI, fPow, Few, retP, fAbs, fInt, fMax, fMin, fLen, fSqrt, fEq, fNe, dNot, dAnd, dOr, dAndV, dOrV, dNotV, dIfE, dDrop, dRetN, dPar, noO, dSetL, dLst, dOfL, dOwnM, onOwn, onDat, kAppend, kInsert, dSetItem, dAddItem, onItems, onInt, dNoPart, dPart, dSlice, onL, litems, dSlL, dCat, onM, mitems, dRng1, dRng2, dCallP, dCallB, dCallF, noSelf, onArgs, dats2, dIsi, tyName, dYes, dgCons, dgNil, retB, dBreak, dCont, ne_eq, not_false_eq_true, true_and, and_true, List.getElem?_cons_zero, List.getElem?_cons_succ, List.set_cons_zero, List.set_cons_succ, Option.map, List.length_cons, List.length_nil, dParM, dmNil, dmD, dmL, setM, dLc_eq, dLc2_eq, dFor_eq, dSortSet, dSort, dListOf, dIsN, dNotN, isNo, dAug, dMulA, dgUnl, dSlT, onT, dEnum, dZip, dZipM, dRetL, dPar3, dRevT, dLstRg, dTupRg, dRg1, dRg2, dChainLe, List.nil_append, List.cons_append, if_true, if_false, dFrz, dLcO, dMin2D, dAppX, dParL, dParLL, dRepL, fMax3, dNewDic, dDicPut, dDicGet, dSortDic, onDic, onKey, dLcW, dZipX, dParR, dDead, dSortD, dSortDT, fNeS, fEqS, dgSet, dTupZip, dFgt, fIsB, fNotB, List.map_cons, List.map_nil, fw0, fw1, fw2, fw3, fw4, fw5, fw6, fw7, fw8, fw9, fw10, fw11, fw12, fw13, fw14, fw15, dExtend, dExtendT, dLstDn, dMaxDf, dOp_ap, dIx_ap, dCatT_ap, dRepT_ap, items_l, items_t, items_o, ti_t, dgT_t, seqs_l, seqs_t, seqs_o, dSeqI_eq, wk_l, wk_t, wk_eP, wk_o, dTupOf_eq, tu_t, tu_l, tu_o, tu_eP, items_eW, items_eB, items_eSc, items_eLm, items_eP, items_eL, items_pr, items_enc2, items_eTm, ti_eB, ti_eW, ti_eLm, ti_eP, dgT_eSc, dgT_eLm, dgT_eL, dgT_pr, dgT_enc2, dgT_eW, dgT_eTm, seqs_eP, on0, on1, on2, on3, on4, on5, on6, on7, on8]
      exact hQ low a1 a6 a4 a5
set_option maxHeartbeats 4000000 in
theorem ok__with {f : Addr} {fd : FuncData} (W : Fun K "_with" "_with" s__with f fd) (T : Bi mg) :
    FnG P w K mg base CX0 1 f fd ["bounds", "place", "number"] (spP K TT [.d, .d, .d] S__with) := by
  refine fnP W sc__with rfl fun cdv A out s H E Nn hr hgd => ⟨_, _, (dss_one (ds_ret (pd_catT (pd_catT (pd_sliceT (pdv 0) pdo_none (pdo_some (pdv 1))) (pd_tup (pda_cons (pdv 2) pda_nil))) (pd_sliceT (pdv 0) (pdo_some (pd_add (pdv 1) pd_int)) pdo_none)))), ?_⟩
  clear W T hr hgd
  rintro xs Q hl ⟨⟨b, c, w⟩, rfl, _, hQ⟩
  clear hl
  replace hQ : Q (eB (wth w b c)) := hQ
  have e : rhoP nm__with.length [.d, .d, .d] [eB b, .int (plc w), .int c] = [some (.d (eB b)), some (.d (.int (plc w))), some (.d (.int c))] := rfl
  rw [e]
  clear e
  have d0 : DV.cutD [PyData.int b.sp, .int b.near, .int b.wind, .int b.clk, .int b.fall, .int b.way, .int b.sil, .int b.cuts, .int b.deep] (some 1) none = [.int b.near, .int b.wind, .int b.clk, .int b.fall, .int b.way, .int b.sil, .int b.cuts, .int b.deep] := by rw [cut_drop (by decide)]; rfl
  have d1 : DV.cutD [PyData.int b.sp, .int b.near, .int b.wind, .int b.clk, .int b.fall, .int b.way, .int b.sil, .int b.cuts, .int b.deep] (some 2) none = [.int b.wind, .int b.clk, .int b.fall, .int b.way, .int b.sil, .int b.cuts, .int b.deep] := by rw [cut_drop (by decide)]; rfl
  have d2 : DV.cutD [PyData.int b.sp, .int b.near, .int b.wind, .int b.clk, .int b.fall, .int b.way, .int b.sil, .int b.cuts, .int b.deep] none (some 0) = [] := by rw [cut_take (by decide)]; rfl
  have d3 : DV.cutD [PyData.int b.sp, .int b.near, .int b.wind, .int b.clk, .int b.fall, .int b.way, .int b.sil, .int b.cuts, .int b.deep] none (some 1) = [.int b.sp] := by rw [cut_take (by decide)]; rfl
  cases w with
  | false =>
    simp only [dSeq, dAsg, dCB, dCons, dNil, dVar, onVs, vals, val, slot, setR, fGcd, dIfS, dTV, onV2, fLt, fLe, fGt, fGe, fAdd, fSub, fMul, fDiv, fMod, fI0, dC, dUn, onV, fNeg, dNext, dRet, dTup, onD, dats, fDivZ, fI, fPow, Few, retP, fAbs, fInt, fMax, fMin, fLen, fSqrt, fEq, fNe, dNot, dAnd, dOr, dAndV, dOrV, dNotV, dIfE, dDrop, dRetN, dPar, noO, dSetL, dLst, dOfL, dOwnM, onOwn, onDat, kAppend, kInsert, dSetItem, dAddItem, onItems, onInt, dNoPart, dPart, dSlice, onL, litems, dSlL, dCat, onM, mitems, dRng1, dRng2, dCallP, dCallB, dCallF, noSelf, onArgs, dats2, dIsi, tyName, dYes, dgCons, dgNil, retB, dBreak, dCont, ne_eq, not_false_eq_true, true_and, and_true, List.getElem?_cons_zero, List.getElem?_cons_succ, List.set_cons_zero, List.set_cons_succ, Option.map, List.length_cons, List.length_nil, dParM, dmNil, dmD, dmL, setM, dLc_eq, dLc2_eq, dFor_eq, dSortSet, dSort, dListOf, dIsN, dNotN, isNo, dAug, dMulA, dgUnl, dSlT, onT, dEnum, dZip, dZipM, dRetL, dPar3, dRevT, dLstRg, dTupRg, dRg1, dRg2, dChainLe, List.nil_append, List.cons_append, if_true, if_false, dFrz, dLcO, dMin2D, dAppX, dParL, dParLL, dRepL, fMax3, dNewDic, dDicPut, dDicGet, dSortDic, onDic, onKey, dLcW, dZipX, dParR, dDead, dSortD, dSortDT, fNeS, fEqS, dgSet, dTupZip, dFgt, fIsB, fNotB, List.map_cons, List.map_nil, fw0, fw1, fw2, fw3, fw4, fw5, fw6, fw7, fw8, fw9, fw10, fw11, fw12, fw13, fw14, fw15, dExtend, dExtendT, dLstDn, dMaxDf, dOp_ap, dIx_ap, dCatT_ap, dRepT_ap, items_l, items_t, items_o, ti_t, dgT_t, seqs_l, seqs_t, seqs_o, dSeqI_eq, wk_l, wk_t, wk_eP, wk_o, dTupOf_eq, tu_t, tu_l, tu_o, tu_eP, items_eW, items_eB, items_eSc, items_eLm, items_eP, items_eL, items_pr, items_enc2, items_eTm, ti_eB, ti_eW, ti_eLm, ti_eP, dgT_eSc, dgT_eLm, dgT_eL, dgT_pr, dgT_enc2, dgT_eW, dgT_eTm, seqs_eP, on0, on1, on2, on3, on4, on5, on6, on7, on8, plc]
    simp only [show (0 : Int) + 1 = 1 from rfl, d0, d2, List.nil_append, List.cons_append, List.length_cons, List.length_nil]
    exact ⟨by decide, by decide, hQ⟩
  | true =>
    simp only [dSeq, dAsg, dCB, dCons, dNil, dVar, onVs, vals, val, slot, setR, fGcd, dIfS, dTV, onV2, fLt, fLe, fGt, fGe, fAdd, fSub, fMul, fDiv, fMod, fI0, dC, dUn, onV, fNeg, dNext, dRet, dTup, onD, dats, fDivZ, fI, fPow, Few, retP, fAbs, fInt, fMax, fMin, fLen, fSqrt, fEq, fNe, dNot, dAnd, dOr, dAndV, dOrV, dNotV, dIfE, dDrop, dRetN, dPar, noO, dSetL, dLst, dOfL, dOwnM, onOwn, onDat, kAppend, kInsert, dSetItem, dAddItem, onItems, onInt, dNoPart, dPart, dSlice, onL, litems, dSlL, dCat, onM, mitems, dRng1, dRng2, dCallP, dCallB, dCallF, noSelf, onArgs, dats2, dIsi, tyName, dYes, dgCons, dgNil, retB, dBreak, dCont, ne_eq, not_false_eq_true, true_and, and_true, List.getElem?_cons_zero, List.getElem?_cons_succ, List.set_cons_zero, List.set_cons_succ, Option.map, List.length_cons, List.length_nil, dParM, dmNil, dmD, dmL, setM, dLc_eq, dLc2_eq, dFor_eq, dSortSet, dSort, dListOf, dIsN, dNotN, isNo, dAug, dMulA, dgUnl, dSlT, onT, dEnum, dZip, dZipM, dRetL, dPar3, dRevT, dLstRg, dTupRg, dRg1, dRg2, dChainLe, List.nil_append, List.cons_append, if_true, if_false, dFrz, dLcO, dMin2D, dAppX, dParL, dParLL, dRepL, fMax3, dNewDic, dDicPut, dDicGet, dSortDic, onDic, onKey, dLcW, dZipX, dParR, dDead, dSortD, dSortDT, fNeS, fEqS, dgSet, dTupZip, dFgt, fIsB, fNotB, List.map_cons, List.map_nil, fw0, fw1, fw2, fw3, fw4, fw5, fw6, fw7, fw8, fw9, fw10, fw11, fw12, fw13, fw14, fw15, dExtend, dExtendT, dLstDn, dMaxDf, dOp_ap, dIx_ap, dCatT_ap, dRepT_ap, items_l, items_t, items_o, ti_t, dgT_t, seqs_l, seqs_t, seqs_o, dSeqI_eq, wk_l, wk_t, wk_eP, wk_o, dTupOf_eq, tu_t, tu_l, tu_o, tu_eP, items_eW, items_eB, items_eSc, items_eLm, items_eP, items_eL, items_pr, items_enc2, items_eTm, ti_eB, ti_eW, ti_eLm, ti_eP, dgT_eSc, dgT_eLm, dgT_eL, dgT_pr, dgT_enc2, dgT_eW, dgT_eTm, seqs_eP, on0, on1, on2, on3, on4, on5, on6, on7, on8, plc]
    simp only [show (1 : Int) + 1 = 2 from rfl, d1, d3, List.nil_append, List.cons_append, List.length_cons, List.length_nil]
    exact ⟨by decide, by decide, hQ⟩
set_option maxHeartbeats 4000000 in
theorem ok__law_bag {f : Addr} {fd : FuncData} (W : Fun K "_law_bag" "_law_bag" s__law_bag f fd) (T : Bi mg) :
    FnG P w K mg base CX0 1 f fd ["_law_script"] (spF K TT [.ro] S__law_bag) := by
  refine fnF W sc__law_bag rfl rfl fun cdv A out s H E Nn hr hgd => ⟨_, _, (pl_lst (pda_cons pd_int (pda_cons pd_int (pda_cons pd_int (pda_cons (pd_l (pl_lc (own := [("_law_cell", 1)]) rfl sc__law_bag.nd (pdi_seq (pd_l (pl_slice (pdv 0) pdo_none (pdo_some pd_int)))) (blkOk_by (own := [("_law_cell", 1)]) (N := nm__law_bag) (sc := defScope s__law_bag) (by decide +kernel)) (fun _ _ _ _ _ => (pgd_name (i := 1) sc__law_bag.nd)) (fun _ _ _ _ _ => dts_nil) (fun _ _ _ _ _ => (pd_callB call_abs sc_abs rfl T.b_abs (by decide +kernel) (pda_cons (pdv 1) pda_nil))))) pda_nil))))), ?_⟩
  exact fun xs Q hl hS => rd_bag hS
set_option maxHeartbeats 4000000 in
theorem ok__law_take {f : Addr} {fd : FuncData} (W : Fun K "_law_take" "_law_take" s__law_take f fd) (T : Bi mg) :
    FnG P w K mg base CX0 1 f fd ["_law_bag_here", "_law_many"] (spB K TT [.d] S__law_take) := by
  refine fnB W sc__law_take rfl fun cdv A out s H E Nn B hr hgd => ⟨_, _, (dss_cons (ds_if (pt_eq hr.units rfl (pd_ix (pdv 0) pd_int (fun _ _ => rfl)) pd_int) (dss_cons (ds_set (i := 2) sc__law_take.nd (pd_ix (pd_l (pl_cat (pd_l (pl_slice (pd_ix (pdv 0) pd_int (fun _ _ => rfl)) (pdo_some (pd_ix (pdv 0) pd_int (fun _ _ => rfl))) pdo_none)) (pd_l (pl_lst (pda_cons pd_int pda_nil))))) pd_int (fun _ _ => rfl)) (fixB (by decide)))
      (dss_cons (ds_addItem (i := 0) pd_int pd_int (ps_augS (pv 0) pe_int get_list pe_int ip_add set_list))
      (dss_cons (ds_if (pt_ge (pdv 2) (pd_pow pd_int pd_int)) (dss_one (ds_setItem (i := 0) (pdv 2) pd_int (pg_sub (pv 0) pe_int set_list))) dss_nil)
      (dss_cons (ds_set (i := 3) sc__law_take.nd (pd_add (pd_add (pd_mul (pd_ix (pdv 0) pd_int (fun _ _ => rfl)) pd_int) (pd_mod (pd_callTy call_int1 sc_int rfl T.b_int (by decide +kernel) (pda_cons (pdv 2) pda_nil)) pd_int)) (pd_mul pd_int (pd_ix (pdv 0) pd_int (fun _ _ => rfl)))) (fixB (by decide)))
      (dss_one (ds_setItem (i := 0) (pd_mod (pd_callTy call_int1 sc_int rfl T.b_int (by decide +kernel) (pda_cons (pdv 3) pda_nil)) pd_int) pd_int (pg_sub (pv 0) pe_int set_list))))))) dss_nil)
      (dss_cons (ds_if (pt_gt (pd_ix (pdv 0) pd_int (fun _ _ => rfl)) pd_int) (dss_cons (ds_set (i := 4) sc__law_take.nd (pd_mod (pd_callTy call_int1 sc_int rfl T.b_int (by decide +kernel) (pda_cons (pd_ix (pdv 0) pd_int (fun _ _ => rfl)) pda_nil)) (pdv 1)) (fixB (by decide)))
      (dss_cons (ds_setItem (i := 0) (pd_div (pd_callTy call_int1 sc_int rfl T.b_int (by decide +kernel) (pda_cons (pd_ix (pdv 0) pd_int (fun _ _ => rfl)) pda_nil)) (pdv 1)) pd_int (pg_sub (pv 0) pe_int set_list))
      (dss_one (ds_ret (pdv 4))))) dss_nil)
      (dss_cons (ds_set (i := 5) sc__law_take.nd (pd_mod (pd_callTy call_int1 sc_int rfl T.b_int (by decide +kernel) (pda_cons (pd_mul (pd_add (pd_ix (pdv 0) pd_int (fun _ _ => rfl)) pd_int) pd_int) pda_nil)) pd_int) (fixB (by decide)))
      (dss_cons (ds_set (i := 6) sc__law_take.nd (pd_mod (pd_callTy call_int1 sc_int rfl T.b_int (by decide +kernel) (pda_cons (pd_mul (pd_mod (pd_callTy call_int1 sc_int rfl T.b_int (by decide +kernel) (pda_cons (pd_mul (pdv 5) (pdv 5)) pda_nil)) pd_int) pd_int) pda_nil)) pd_int) (fixB (by decide)))
      (dss_one (ds_ret (pd_mod (pd_callTy call_int1 sc_int rfl T.b_int (by decide +kernel) (pda_cons (pd_div (pdv 6) pd_int) pda_nil)) (pdv 1)))))))), ?_⟩
  exact fun bag xs Q hl hS => rd_take hS
set_option maxHeartbeats 4000000 in
theorem ok__law_alike {f : Addr} {fd : FuncData} (W : Fun K "_law_alike" "_law_alike" s__law_alike f fd) (T : Bi mg) :
    FnG P w K mg base CX0 1 f fd ["_law_found", "_law_due"] (spP K TT [.ro, .ro] S__law_alike) := by
  refine fnP W sc__law_alike rfl fun cdv A out s H E Nn hr hgd => ⟨_, _, (dss_one (ds_ret (pd_and (pd_eq hr.units rfl (pdv 0) (pdv 1)) (pdn_one (pd_eqS (pd_callB (call_repr hgd hr.units) sc_repr rfl T.b_repr (by decide +kernel) (pda_cons (pdv 0) pda_nil)) (pd_callB (call_repr hgd hr.units) sc_repr rfl T.b_repr (by decide +kernel) (pda_cons (pdv 1) pda_nil))))))), ?_⟩
  exact fun xs Q hl hS => rd_alike hS
set_option maxHeartbeats 4000000 in
theorem ok__law_reach {f : Addr} {fd : FuncData} (W : Fun K "_law_reach" "_law_reach" s__law_reach f fd) (T : Bi mg) :
    FnG P w K mg base CX0 1 f fd ["_law_bounds_here"] (spP K TT [.d] S__law_reach) := by
  refine fnP W sc__law_reach rfl fun cdv A out s H E Nn hr hgd => ⟨_, _, (dss_one (ds_ret (pd_add (pd_ix (pdv 0) pd_int (fun _ _ => rfl)) (pd_mul pd_int (pd_ix (pdv 0) pd_int (fun _ _ => rfl)))))), ?_⟩
  clear W T hr hgd
  rintro xs Q hl ⟨⟨b, k⟩, rfl, ⟨h0, h1⟩, hQ⟩
  clear hl
  replace hQ : Q (.int b.r) := hQ
  have e : rhoP nm__law_reach.length [.d] [eB b] = [some (.d (eB b))] := rfl
  rw [e]
  clear e
  simp only [dSeq, dAsg, dCB, dCons, dNil, dVar, onVs, vals, val, slot, setR, fGcd, dIfS, dTV, dOp, dBin, onV2, fLt, fLe, fGt, fGe, fAdd, fSub, fMul, fDiv, fMod, fI0, dC, dUn, onV, fNeg, dNext, dRet, dTup, onD, dats, fDivZ, fI, fPow, Few, retP, fAbs, fInt, fMax, fMin, fLen, fSqrt, fEq, fNe, dNot, dAnd, dOr, dAndV, dOrV, dNotV, dIfE, dDrop, dRetN, dPar, noO, dSetL, dLst, dOfL, dOwnM, onOwn, onDat, kAppend, kInsert, dSetItem, dAddItem, dIx, onItems, items, onInt, dNoPart, dPart, dSlice, onL, litems, dSlL, dCat, onM, mitems, dTupOf, dSeqI, dRng1, dRng2, dCallP, dCallB, dCallF, noSelf, onArgs, dats2, dIsi, tyName, dYes, dgTup, dgCons, dgNil, retB, dBreak, dCont, ne_eq, not_false_eq_true, true_and, and_true, List.getElem?_cons_zero, List.getElem?_cons_succ, List.set_cons_zero, List.set_cons_succ, Option.map, List.length_cons, List.length_nil, dParM, dmNil, dmD, dmL, setM, dLc_eq, dLc2_eq, dFor_eq, dSortSet, dSort, dListOf, dIsN, dNotN, isNo, dAug, dMulA, dgUnl, dCatT, dSlT, onT, titems, dEnum, dZip, dZipM, seqs, dRetL, dPar3, dRevT, dLstRg, dTupRg, dRg1, dRg2, dChainLe, List.nil_append, List.cons_append, if_true, if_false, dFrz, dLcO, dMin2D, dAppX, dParL, dParLL, dRepL, fMax3, dNewDic, dDicPut, dDicGet, dSortDic, onDic, onKey, dLcW, dZipX, dParR, dDead, dSortD, dSortDT, fNeS, fEqS, dgSet, dTupZip, dFgt, fIsB, fNotB, List.map_cons, List.map_nil, fw0, fw1, fw2, fw3, fw4, fw5, fw6, fw7, fw8, fw9, fw10, fw11, fw12, fw13, fw14, fw15, eB, on1, on2]
  exact ⟨cmb (show Bd 2 2 by unfold Bd; decide) h0.wind (by omega), hQ⟩
set_option maxHeartbeats 4000000 in
theorem ok__law_lag {f : Addr} {fd : FuncData} (W : Fun K "_law_lag" "_law_lag" s__law_lag f fd) (T : Bi mg) :
    FnG P w K mg base CX0 1 f fd ["_law_bounds_here"] (spP K TT [.d] S__law_lag) := by
  refine fnP W sc__law_lag rfl fun cdv A out s H E Nn hr hgd => ⟨_, _, (dss_one (ds_ret (pd_add (pd_ix (pdv 0) pd_int (fun _ _ => rfl)) (pd_mul pd_int (pd_ix (pdv 0) pd_int (fun _ _ => rfl)))))), ?_⟩
  clear W T hr hgd
  rintro xs Q hl ⟨⟨b, k⟩, rfl, ⟨h0, h1⟩, hQ⟩
  clear hl
  replace hQ : Q (.int b.lag) := hQ
  have e : rhoP nm__law_lag.length [.d] [eB b] = [some (.d (eB b))] := rfl
  rw [e]
  clear e
  simp only [dSeq, dAsg, dCB, dCons, dNil, dVar, onVs, vals, val, slot, setR, fGcd, dIfS, dTV, dOp, dBin, onV2, fLt, fLe, fGt, fGe, fAdd, fSub, fMul, fDiv, fMod, fI0, dC, dUn, onV, fNeg, dNext, dRet, dTup, onD, dats, fDivZ, fI, fPow, Few, retP, fAbs, fInt, fMax, fMin, fLen, fSqrt, fEq, fNe, dNot, dAnd, dOr, dAndV, dOrV, dNotV, dIfE, dDrop, dRetN, dPar, noO, dSetL, dLst, dOfL, dOwnM, onOwn, onDat, kAppend, kInsert, dSetItem, dAddItem, dIx, onItems, items, onInt, dNoPart, dPart, dSlice, onL, litems, dSlL, dCat, onM, mitems, dTupOf, dSeqI, dRng1, dRng2, dCallP, dCallB, dCallF, noSelf, onArgs, dats2, dIsi, tyName, dYes, dgTup, dgCons, dgNil, retB, dBreak, dCont, ne_eq, not_false_eq_true, true_and, and_true, List.getElem?_cons_zero, List.getElem?_cons_succ, List.set_cons_zero, List.set_cons_succ, Option.map, List.length_cons, List.length_nil, dParM, dmNil, dmD, dmL, setM, dLc_eq, dLc2_eq, dFor_eq, dSortSet, dSort, dListOf, dIsN, dNotN, isNo, dAug, dMulA, dgUnl, dCatT, dSlT, onT, titems, dEnum, dZip, dZipM, seqs, dRetL, dPar3, dRevT, dLstRg, dTupRg, dRg1, dRg2, dChainLe, List.nil_append, List.cons_append, if_true, if_false, dFrz, dLcO, dMin2D, dAppX, dParL, dParLL, dRepL, fMax3, dNewDic, dDicPut, dDicGet, dSortDic, onDic, onKey, dLcW, dZipX, dParR, dDead, dSortD, dSortDT, fNeS, fEqS, dgSet, dTupZip, dFgt, fIsB, fNotB, List.map_cons, List.map_nil, fw0, fw1, fw2, fw3, fw4, fw5, fw6, fw7, fw8, fw9, fw10, fw11, fw12, fw13, fw14, fw15, eB, on3, on4]
  exact ⟨cmb (show Bd 2 2 by unfold Bd; decide) h0.clk (by omega), hQ⟩
set_option maxHeartbeats 4000000 in
theorem ok_is_enough {f : Addr} {fd : FuncData} (W : Fun K "is_enough" "is_enough" s_is_enough f fd) (T : Bi mg)
    {f_r_of : Addr} {fd_r_of : FuncData} (G_r_of : FnG P w K mg base CX0 1 f_r_of fd_r_of ["bounds"] (spP K TT [.d] S_r_of)) (g_r_of : mg "r_of" = some (.ref f_r_of)) (k_r_of : PySem.W.keepIn K (.ref f_r_of) = true) (b_r_of : Binds K fd_r_of ["bounds"] [])
    {f_lag_of : Addr} {fd_lag_of : FuncData} (G_lag_of : FnG P w K mg base CX0 1 f_lag_of fd_lag_of ["bounds"] (spP K TT [.d] S_lag_of)) (g_lag_of : mg "lag_of" = some (.ref f_lag_of)) (k_lag_of : PySem.W.keepIn K (.ref f_lag_of) = true) (b_lag_of : Binds K fd_lag_of ["bounds"] []) :
    FnG P w K mg base CX0 2 f fd ["bounds", "ticks"] (spP K TT [.d, .d] S_is_enough) := by
  refine fnP W sc_is_enough rfl fun cdv A out s H E Nn hr hgd => ⟨_, _, (dss_cons (ds_asg (pd_tup (pda_cons (pd_ix (pdv 0) (pd_globI rfl T.c_SPACING) (fun _ _ => rfl)) (pda_cons (pd_callP G_r_of m_r_of (hr.mono (by decide)) hgd rfl g_r_of k_r_of b_r_of (pda_cons (pdv 0) pda_nil)) (pda_cons (pd_callP G_lag_of m_lag_of (hr.mono (by decide)) hgd rfl g_lag_of k_lag_of b_lag_of (pda_cons (pdv 0) pda_nil)) (pda_cons (pd_ix (pdv 0) (pd_globI rfl T.c_WAY) (fun _ _ => rfl)) pda_nil))))) (pgd_tup (n := 4) rfl (pgds_cons (pgd_name (i := 2) sc_is_enough.nd) (pgds_cons (pgd_name (i := 3) sc_is_enough.nd) (pgds_cons (pgd_name (i := 4) sc_is_enough.nd) (pgds_cons (pgd_name (i := 5) sc_is_enough.nd) pgds_nil))))) nofixP)
      (dss_cons (ds_set (i := 6) sc_is_enough.nd (pd_mul (pd_mul (pdv 4) (pdv 4)) (pd_sub (pd_mul (pd_mul pd_int (pdv 5)) (pdv 5)) (pd_mul (pdv 2) (pdv 2)))) fixP)
      (dss_cons (ds_set (i := 7) sc_is_enough.nd (pd_sub (pd_mul (pd_mul (pdv 1) (pdv 1)) (pd_sub (pd_mul (pdv 2) (pdv 2)) (pd_mul (pd_mul pd_int (pdv 3)) (pdv 3)))) (pdv 6)) fixP)
      (dss_one (ds_ret (pd_and (pd_ge (pdv 7) pd_int) (pdn_one (pd_ge (pd_mul (pdv 7) (pdv 7)) (pd_mul (pd_mul (pd_mul (pd_mul (pd_mul pd_int (pdv 3)) (pdv 3)) (pdv 1)) (pdv 1)) (pdv 6)))))))))), ?_⟩
  clear W T hr hgd G_r_of g_r_of k_r_of b_r_of f_r_of fd_r_of G_lag_of g_lag_of k_lag_of b_lag_of f_lag_of fd_lag_of
  rintro xs Q hl ⟨⟨b, t, k⟩, rfl, ⟨h0, h1, h2⟩, hQ⟩
  clear hl
  replace hQ : Q (.bool (decide (enough b t))) := hQ
  have e : rhoP nm_is_enough.length [.d, .d] [eB b, .int t] = [some (.d (eB b)), some (.d (.int t)), none, none, none, none, none, none] := rfl
  rw [e]
  clear e
  have bl := h0.lag
  have br := h0.r
  have b2 : Bd 2 2 := by unfold Bd; decide
  have b8 : Bd 4 8 := by unfold Bd; decide
  have bw2 := b2.mul h0.way
  have bll := bl.mul bl
  have bx := (bw2.mul h0.way).sub (h0.sp.mul h0.sp)
  have bf := bll.mul bx
  have br2 := b2.mul br
  have by' := (h0.sp.mul h0.sp).sub (br2.mul br)
  have btt := h1.mul h1
  have bz := btt.mul by'
  have bL := bz.sub bf
  refine seqI fun kk hk => ?_
  simp only [dSeq, dAsg, dCB, dCons, dNil, dVar, onVs, vals, val, slot, setR, fGcd, dIfS, dTV, dOp, dBin, onV2, fLt, fLe, fGt, fGe, fAdd, fSub, fMul, fDiv, fMod, fI0, dC, dUn, onV, fNeg, dNext, dRet, dTup, onD, dats, fDivZ, fI, fPow, Few, retP, fAbs, fInt, fMax, fMin, fLen, fSqrt, fEq, fNe, dNot, dAnd, dOr, dAndV, dOrV, dNotV, dIfE, dDrop, dRetN, dPar, noO, dSetL, dLst, dOfL, dOwnM, onOwn, onDat, kAppend, kInsert, dSetItem, dAddItem, dIx, onItems, items, onInt, dNoPart, dPart, dSlice, onL, litems, dSlL, dCat, onM, mitems, dTupOf, dSeqI, dRng1, dRng2, dCallP, dCallB, dCallF, noSelf, onArgs, dats2, dIsi, tyName, dYes, dgTup, dgCons, dgNil, retB, dBreak, dCont, ne_eq, not_false_eq_true, true_and, and_true, List.getElem?_cons_zero, List.getElem?_cons_succ, List.set_cons_zero, List.set_cons_succ, Option.map, List.length_cons, List.length_nil, dParM, dmNil, dmD, dmL, setM, dLc_eq, dLc2_eq, dFor_eq, dSortSet, dSort, dListOf, dIsN, dNotN, isNo, dAug, dMulA, dgUnl, dCatT, dSlT, onT, titems, dEnum, dZip, dZipM, seqs, dRetL, dPar3, dRevT, dLstRg, dTupRg, dRg1, dRg2, dChainLe, List.nil_append, List.cons_append, if_true, if_false, dFrz, dLcO, dMin2D, dAppX, dParL, dParLL, dRepL, fMax3, dNewDic, dDicPut, dDicGet, dSortDic, onDic, onKey, dLcW, dZipX, dParR, dDead, dSortD, dSortDT, fNeS, fEqS, dgSet, dTupZip, dFgt, fIsB, fNotB, List.map_cons, List.map_nil, fw0, fw1, fw2, fw3, fw4, fw5, fw6, fw7, fw8, fw9, fw10, fw11, fw12, fw13, fw14, fw15, eB, on0]
  refine u_r_of (b := b) h0 (by omega) (u_lag_of (b := b) h0 (by omega) ?_)
  simp only [dSeq, dAsg, dCB, dCons, dNil, dVar, onVs, vals, val, slot, setR, fGcd, dIfS, dTV, dOp, dBin, onV2, fLt, fLe, fGt, fGe, fAdd, fSub, fMul, fDiv, fMod, fI0, dC, dUn, onV, fNeg, dNext, dRet, dTup, onD, dats, fDivZ, fI, fPow, Few, retP, fAbs, fInt, fMax, fMin, fLen, fSqrt, fEq, fNe, dNot, dAnd, dOr, dAndV, dOrV, dNotV, dIfE, dDrop, dRetN, dPar, noO, dSetL, dLst, dOfL, dOwnM, onOwn, onDat, kAppend, kInsert, dSetItem, dAddItem, dIx, onItems, items, onInt, dNoPart, dPart, dSlice, onL, litems, dSlL, dCat, onM, mitems, dTupOf, dSeqI, dRng1, dRng2, dCallP, dCallB, dCallF, noSelf, onArgs, dats2, dIsi, tyName, dYes, dgTup, dgCons, dgNil, retB, dBreak, dCont, ne_eq, not_false_eq_true, true_and, and_true, List.getElem?_cons_zero, List.getElem?_cons_succ, List.set_cons_zero, List.set_cons_succ, Option.map, List.length_cons, List.length_nil, dParM, dmNil, dmD, dmL, setM, dLc_eq, dLc2_eq, dFor_eq, dSortSet, dSort, dListOf, dIsN, dNotN, isNo, dAug, dMulA, dgUnl, dCatT, dSlT, onT, titems, dEnum, dZip, dZipM, seqs, dRetL, dPar3, dRevT, dLstRg, dTupRg, dRg1, dRg2, dChainLe, List.nil_append, List.cons_append, if_true, if_false, dFrz, dLcO, dMin2D, dAppX, dParL, dParLL, dRepL, fMax3, dNewDic, dDicPut, dDicGet, dSortDic, onDic, onKey, dLcW, dZipX, dParR, dDead, dSortD, dSortDT, fNeS, fEqS, dgSet, dTupZip, dFgt, fIsB, fNotB, List.map_cons, List.map_nil, fw0, fw1, fw2, fw3, fw4, fw5, fw6, fw7, fw8, fw9, fw10, fw11, fw12, fw13, fw14, fw15, on5]
  rw [hk]
  clear hk
  refine seqI fun kk hk => ?_
  simp only [dSeq, dAsg, dCB, dCons, dNil, dVar, onVs, vals, val, slot, setR, fGcd, dIfS, dTV, dOp, dBin, onV2, fLt, fLe, fGt, fGe, fAdd, fSub, fMul, fDiv, fMod, fI0, dC, dUn, onV, fNeg, dNext, dRet, dTup, onD, dats, fDivZ, fI, fPow, Few, retP, fAbs, fInt, fMax, fMin, fLen, fSqrt, fEq, fNe, dNot, dAnd, dOr, dAndV, dOrV, dNotV, dIfE, dDrop, dRetN, dPar, noO, dSetL, dLst, dOfL, dOwnM, onOwn, onDat, kAppend, kInsert, dSetItem, dAddItem, dIx, onItems, items, onInt, dNoPart, dPart, dSlice, onL, litems, dSlL, dCat, onM, mitems, dTupOf, dSeqI, dRng1, dRng2, dCallP, dCallB, dCallF, noSelf, onArgs, dats2, dIsi, tyName, dYes, dgTup, dgCons, dgNil, retB, dBreak, dCont, ne_eq, not_false_eq_true, true_and, and_true, List.getElem?_cons_zero, List.getElem?_cons_succ, List.set_cons_zero, List.set_cons_succ, Option.map, List.length_cons, List.length_nil, dParM, dmNil, dmD, dmL, setM, dLc_eq, dLc2_eq, dFor_eq, dSortSet, dSort, dListOf, dIsN, dNotN, isNo, dAug, dMulA, dgUnl, dCatT, dSlT, onT, titems, dEnum, dZip, dZipM, seqs, dRetL, dPar3, dRevT, dLstRg, dTupRg, dRg1, dRg2, dChainLe, List.nil_append, List.cons_append, if_true, if_false, dFrz, dLcO, dMin2D, dAppX, dParL, dParLL, dRepL, fMax3, dNewDic, dDicPut, dDicGet, dSortDic, onDic, onKey, dLcW, dZipX, dParR, dDead, dSortD, dSortDT, fNeS, fEqS, dgSet, dTupZip, dFgt, fIsB, fNotB, List.map_cons, List.map_nil, fw0, fw1, fw2, fw3, fw4, fw5, fw6, fw7, fw8, fw9, fw10, fw11, fw12, fw13, fw14, fw15]
  refine ⟨cmb bl bl (by omega), cmb b2 h0.way (by omega), cmb bw2 h0.way (by omega), cmb h0.sp h0.sp (by omega), cmb bll bx (by omega), ?_⟩
  rw [hk]
  clear hk
  refine seqI fun kk hk => ?_
  simp only [dSeq, dAsg, dCB, dCons, dNil, dVar, onVs, vals, val, slot, setR, fGcd, dIfS, dTV, dOp, dBin, onV2, fLt, fLe, fGt, fGe, fAdd, fSub, fMul, fDiv, fMod, fI0, dC, dUn, onV, fNeg, dNext, dRet, dTup, onD, dats, fDivZ, fI, fPow, Few, retP, fAbs, fInt, fMax, fMin, fLen, fSqrt, fEq, fNe, dNot, dAnd, dOr, dAndV, dOrV, dNotV, dIfE, dDrop, dRetN, dPar, noO, dSetL, dLst, dOfL, dOwnM, onOwn, onDat, kAppend, kInsert, dSetItem, dAddItem, dIx, onItems, items, onInt, dNoPart, dPart, dSlice, onL, litems, dSlL, dCat, onM, mitems, dTupOf, dSeqI, dRng1, dRng2, dCallP, dCallB, dCallF, noSelf, onArgs, dats2, dIsi, tyName, dYes, dgTup, dgCons, dgNil, retB, dBreak, dCont, ne_eq, not_false_eq_true, true_and, and_true, List.getElem?_cons_zero, List.getElem?_cons_succ, List.set_cons_zero, List.set_cons_succ, Option.map, List.length_cons, List.length_nil, dParM, dmNil, dmD, dmL, setM, dLc_eq, dLc2_eq, dFor_eq, dSortSet, dSort, dListOf, dIsN, dNotN, isNo, dAug, dMulA, dgUnl, dCatT, dSlT, onT, titems, dEnum, dZip, dZipM, seqs, dRetL, dPar3, dRevT, dLstRg, dTupRg, dRg1, dRg2, dChainLe, List.nil_append, List.cons_append, if_true, if_false, dFrz, dLcO, dMin2D, dAppX, dParL, dParLL, dRepL, fMax3, dNewDic, dDicPut, dDicGet, dSortDic, onDic, onKey, dLcW, dZipX, dParR, dDead, dSortD, dSortDT, fNeS, fEqS, dgSet, dTupZip, dFgt, fIsB, fNotB, List.map_cons, List.map_nil, fw0, fw1, fw2, fw3, fw4, fw5, fw6, fw7, fw8, fw9, fw10, fw11, fw12, fw13, fw14, fw15]
  refine ⟨cmb h1 h1 (by omega), cmb h0.sp h0.sp (by omega), cmb b2 br (by omega), cmb br2 br (by omega), cmb btt by' (by omega), ?_⟩
  rw [hk]
  clear hk
  simp only [dSeq, dAsg, dCB, dCons, dNil, dVar, onVs, vals, val, slot, setR, fGcd, dIfS, dTV, dOp, dBin, onV2, fLt, fLe, fGt, fGe, fAdd, fSub, fMul, fDiv, fMod, fI0, dC, dUn, onV, fNeg, dNext, dRet, dTup, onD, dats, fDivZ, fI, fPow, Few, retP, fAbs, fInt, fMax, fMin, fLen, fSqrt, fEq, fNe, dNot, dAnd, dOr, dAndV, dOrV, dNotV, dIfE, dDrop, dRetN, dPar, noO, dSetL, dLst, dOfL, dOwnM, onOwn, onDat, kAppend, kInsert, dSetItem, dAddItem, dIx, onItems, items, onInt, dNoPart, dPart, dSlice, onL, litems, dSlL, dCat, onM, mitems, dTupOf, dSeqI, dRng1, dRng2, dCallP, dCallB, dCallF, noSelf, onArgs, dats2, dIsi, tyName, dYes, dgTup, dgCons, dgNil, retB, dBreak, dCont, ne_eq, not_false_eq_true, true_and, and_true, List.getElem?_cons_zero, List.getElem?_cons_succ, List.set_cons_zero, List.set_cons_succ, Option.map, List.length_cons, List.length_nil, dParM, dmNil, dmD, dmL, setM, dLc_eq, dLc2_eq, dFor_eq, dSortSet, dSort, dListOf, dIsN, dNotN, isNo, dAug, dMulA, dgUnl, dCatT, dSlT, onT, titems, dEnum, dZip, dZipM, seqs, dRetL, dPar3, dRevT, dLstRg, dTupRg, dRg1, dRg2, dChainLe, List.nil_append, List.cons_append, if_true, if_false, dFrz, dLcO, dMin2D, dAppX, dParL, dParLL, dRepL, fMax3, dNewDic, dDicPut, dDicGet, dSortDic, onDic, onKey, dLcW, dZipX, dParR, dDead, dSortD, dSortDT, fNeS, fEqS, dgSet, dTupZip, dFgt, fIsB, fNotB, List.map_cons, List.map_nil, fw0, fw1, fw2, fw3, fw4, fw5, fw6, fw7, fw8, fw9, fw10, fw11, fw12, fw13, fw14, fw15]
  have b81 := b8.mul br
  have b82 := b81.mul br
  have b83 := b82.mul h1
  have b84 := b83.mul h1
  have fin : ∀ x : Bool, x = decide (enough b t) → Q (.bool x) := fun x e => by rw [e]; exact hQ
  rw [show b.lag * b.lag * (2 * b.way * b.way - b.sp * b.sp) = flw b from rfl] at *
  rw [show t * t * (b.sp * b.sp - 2 * b.r * b.r) - flw b = lft b t from rfl] at *
  refine ite_b (c := 0 ≤ lft b t) (fun h => ?_) fun h => fin _ (decide_eq_false fun z => h z.1).symm
  exact ⟨cmb bL bL (by omega), cmb b8 br (by omega), cmb b81 br (by omega), cmb b82 h1 (by omega), cmb b83 h1 (by omega), cmb b84 bf (by omega), fin _ (decide_eq_decide.mpr ⟨fun z => ⟨h, z⟩, fun z => z.2⟩)⟩
set_option maxHeartbeats 4000000 in
theorem ok__law_some {f : Addr} {fd : FuncData} (W : Fun K "_law_some" "_law_some" s__law_some f fd) (T : Bi mg)
    {f__law_take : Addr} {fd__law_take : FuncData} (G__law_take : FnG P w K mg base CX0 1 f__law_take fd__law_take ["_law_bag_here", "_law_many"] (spB K TT [.d] S__law_take)) (g__law_take : mg "_law_take" = some (.ref f__law_take)) (k__law_take : PySem.W.keepIn K (.ref f__law_take) = true) (b__law_take : Binds K fd__law_take ["_law_bag_here", "_law_many"] []) :
    FnG P w K mg base CX0 2 f fd ["_law_bag_here", "_law_things"] (spB K TT [.ro] S__law_some) := by
  refine fnB W sc__law_some rfl fun cdv A out s H E Nn B hr hgd => ⟨_, _, (dss_one (ds_ret (pd_ix (pdv 1) (pd_callBag G__law_take m__law_take (hr.mono (by decide)) hgd rfl g__law_take k__law_take b__law_take (pda_cons (pdv 0) (pda_cons (pd_callB call_len_seq sc_len rfl T.b_len (by decide +kernel) (pda_cons (pdv 1) pda_nil)) pda_nil))) (fun _ _ => rfl)))), ?_⟩
  exact fun bag xs Q hl hS => rd_some_r hS
set_option maxHeartbeats 4000000 in
theorem ok__law_is_enough {f : Addr} {fd : FuncData} (W : Fun K "_law_is_enough" "_law_is_enough" s__law_is_enough f fd) (T : Bi mg)
    {f__law_reach : Addr} {fd__law_reach : FuncData} (G__law_reach : FnG P w K mg base CX0 1 f__law_reach fd__law_reach ["_law_bounds_here"] (spP K TT [.d] S__law_reach)) (g__law_reach : mg "_law_reach" = some (.ref f__law_reach)) (k__law_reach : PySem.W.keepIn K (.ref f__law_reach) = true) (b__law_reach : Binds K fd__law_reach ["_law_bounds_here"] [])
    {f__law_lag : Addr} {fd__law_lag : FuncData} (G__law_lag : FnG P w K mg base CX0 1 f__law_lag fd__law_lag ["_law_bounds_here"] (spP K TT [.d] S__law_lag)) (g__law_lag : mg "_law_lag" = some (.ref f__law_lag)) (k__law_lag : PySem.W.keepIn K (.ref f__law_lag) = true) (b__law_lag : Binds K fd__law_lag ["_law_bounds_here"] []) :
    FnG P w K mg base CX0 2 f fd ["_law_bounds_here", "_law_ticks_here"] (spP K TT [.d, .d] S__law_is_enough) := by
  refine fnP W sc__law_is_enough rfl fun cdv A out s H E Nn hr hgd => ⟨_, _, (dss_cons (ds_asg (pd_tup (pda_cons (pd_ix (pdv 0) pd_int (fun _ _ => rfl)) (pda_cons (pd_callP G__law_reach m__law_reach (hr.mono (by decide)) hgd rfl g__law_reach k__law_reach b__law_reach (pda_cons (pdv 0) pda_nil)) (pda_cons (pd_ix (pdv 0) pd_int (fun _ _ => rfl)) (pda_cons (pd_callP G__law_lag m__law_lag (hr.mono (by decide)) hgd rfl g__law_lag k__law_lag b__law_lag (pda_cons (pdv 0) pda_nil)) pda_nil))))) (pgd_tup (n := 4) rfl (pgds_cons (pgd_name (i := 2) sc__law_is_enough.nd) (pgds_cons (pgd_name (i := 3) sc__law_is_enough.nd) (pgds_cons (pgd_name (i := 4) sc__law_is_enough.nd) (pgds_cons (pgd_name (i := 5) sc__law_is_enough.nd) pgds_nil))))) nofixP)
      (dss_cons (ds_if (pt_lt (pd_mul (pdv 2) (pdv 2)) (pd_mul (pd_mul pd_int (pdv 3)) (pdv 3))) (dss_one (ds_ret pd_bl)) dss_nil)
      (dss_cons (ds_set (i := 6) sc__law_is_enough.nd (pd_mul (pd_mul (pd_add (pd_mul (pdv 2) (pdv 2)) (pd_mul (pd_mul pd_int (pdv 3)) (pdv 3))) (pdv 1)) (pdv 1)) fixP)
      (dss_cons (ds_set (i := 6) sc__law_is_enough.nd (pd_sub (pdv 6) (pd_mul (pd_mul (pdv 5) (pdv 5)) (pd_sub (pd_mul (pd_mul pd_int (pdv 4)) (pdv 4)) (pd_mul (pdv 2) (pdv 2))))) fixP)
      (dss_one (ds_ret (pd_and (pd_ge (pdv 6) pd_int) (pdn_one (pd_ge (pd_mul (pdv 6) (pdv 6)) (pd_mul (pd_mul (pd_mul (pd_mul (pd_mul (pd_mul (pd_mul (pd_mul pd_int (pdv 2)) (pdv 2)) (pdv 3)) (pdv 3)) (pdv 1)) (pdv 1)) (pdv 1)) (pdv 1))))))))))), ?_⟩
  clear W T hr hgd G__law_reach g__law_reach k__law_reach b__law_reach f__law_reach fd__law_reach G__law_lag g__law_lag k__law_lag b__law_lag f__law_lag fd__law_lag
  rintro xs Q hl ⟨⟨b, t, k⟩, rfl, ⟨h0, h1, h2, h3, h4, h5, h6⟩, hQ⟩
  clear hl
  replace hQ : Q (.bool (decide (enough b t))) := hQ
  have e : rhoP nm__law_is_enough.length [.d, .d] [eB b, .int t] = [some (.d (eB b)), some (.d (.int t)), none, none, none, none, none] := rfl
  rw [e]
  clear e
  have bl := h0.lag
  have br := h0.r
  have b2 : Bd 2 2 := by unfold Bd; decide
  have b8 : Bd 4 8 := by unfold Bd; decide
  have bss := h0.sp.mul h0.sp
  have br2 := b2.mul br
  have brr := br2.mul br
  have bx := bss.add brr
  have bxt := bx.mul h1
  have bxtt := bxt.mul h1
  have bll := bl.mul bl
  have bw2 := b2.mul h0.way
  have by' := (bw2.mul h0.way).sub bss
  have bf := bll.mul by'
  have bM := bxtt.sub bf
  have c1 := b8.mul h0.sp
  have c2 := c1.mul h0.sp
  have c3 := c2.mul br
  have c4 := c3.mul br
  have c5 := c4.mul h1
  have c6 := c5.mul h1
  have c7 := c6.mul h1
  rw [decide_eq_decide.mpr (enough_law h3 h4 h5 h6)] at hQ
  refine seqI fun kk hk => ?_
  simp only [dSeq, dAsg, dCB, dCons, dNil, dVar, onVs, vals, val, slot, setR, fGcd, dIfS, dTV, dOp, dBin, onV2, fLt, fLe, fGt, fGe, fAdd, fSub, fMul, fDiv, fMod, fI0, dC, dUn, onV, fNeg, dNext, dRet, dTup, onD, dats, fDivZ, fI, fPow, Few, retP, fAbs, fInt, fMax, fMin, fLen, fSqrt, fEq, fNe, dNot, dAnd, dOr, dAndV, dOrV, dNotV, dIfE, dDrop, dRetN, dPar, noO, dSetL, dLst, dOfL, dOwnM, onOwn, onDat, kAppend, kInsert, dSetItem, dAddItem, dIx, onItems, items, onInt, dNoPart, dPart, dSlice, onL, litems, dSlL, dCat, onM, mitems, dTupOf, dSeqI, dRng1, dRng2, dCallP, dCallB, dCallF, noSelf, onArgs, dats2, dIsi, tyName, dYes, dgTup, dgCons, dgNil, retB, dBreak, dCont, ne_eq, not_false_eq_true, true_and, and_true, List.getElem?_cons_zero, List.getElem?_cons_succ, List.set_cons_zero, List.set_cons_succ, Option.map, List.length_cons, List.length_nil, dParM, dmNil, dmD, dmL, setM, dLc_eq, dLc2_eq, dFor_eq, dSortSet, dSort, dListOf, dIsN, dNotN, isNo, dAug, dMulA, dgUnl, dCatT, dSlT, onT, titems, dEnum, dZip, dZipM, seqs, dRetL, dPar3, dRevT, dLstRg, dTupRg, dRg1, dRg2, dChainLe, List.nil_append, List.cons_append, if_true, if_false, dFrz, dLcO, dMin2D, dAppX, dParL, dParLL, dRepL, fMax3, dNewDic, dDicPut, dDicGet, dSortDic, onDic, onKey, dLcW, dZipX, dParR, dDead, dSortD, dSortDT, fNeS, fEqS, dgSet, dTupZip, dFgt, fIsB, fNotB, List.map_cons, List.map_nil, fw0, fw1, fw2, fw3, fw4, fw5, fw6, fw7, fw8, fw9, fw10, fw11, fw12, fw13, fw14, fw15, eB, on0]
  refine u__law_reach (b := b) h0 (by omega) ?_
  try simp only [dSeq, dAsg, dCB, dCons, dNil, dVar, onVs, vals, val, slot, setR, fGcd, dIfS, dTV, dOp, dBin, onV2, fLt, fLe, fGt, fGe, fAdd, fSub, fMul, fDiv, fMod, fI0, dC, dUn, onV, fNeg, dNext, dRet, dTup, onD, dats, fDivZ, fI, fPow, Few, retP, fAbs, fInt, fMax, fMin, fLen, fSqrt, fEq, fNe, dNot, dAnd, dOr, dAndV, dOrV, dNotV, dIfE, dDrop, dRetN, dPar, noO, dSetL, dLst, dOfL, dOwnM, onOwn, onDat, kAppend, kInsert, dSetItem, dAddItem, dIx, onItems, items, onInt, dNoPart, dPart, dSlice, onL, litems, dSlL, dCat, onM, mitems, dTupOf, dSeqI, dRng1, dRng2, dCallP, dCallB, dCallF, noSelf, onArgs, dats2, dIsi, tyName, dYes, dgTup, dgCons, dgNil, retB, dBreak, dCont, ne_eq, not_false_eq_true, true_and, and_true, List.getElem?_cons_zero, List.getElem?_cons_succ, List.set_cons_zero, List.set_cons_succ, Option.map, List.length_cons, List.length_nil, dParM, dmNil, dmD, dmL, setM, dLc_eq, dLc2_eq, dFor_eq, dSortSet, dSort, dListOf, dIsN, dNotN, isNo, dAug, dMulA, dgUnl, dCatT, dSlT, onT, titems, dEnum, dZip, dZipM, seqs, dRetL, dPar3, dRevT, dLstRg, dTupRg, dRg1, dRg2, dChainLe, List.nil_append, List.cons_append, if_true, if_false, dFrz, dLcO, dMin2D, dAppX, dParL, dParLL, dRepL, fMax3, dNewDic, dDicPut, dDicGet, dSortDic, onDic, onKey, dLcW, dZipX, dParR, dDead, dSortD, dSortDT, fNeS, fEqS, dgSet, dTupZip, dFgt, fIsB, fNotB, List.map_cons, List.map_nil, fw0, fw1, fw2, fw3, fw4, fw5, fw6, fw7, fw8, fw9, fw10, fw11, fw12, fw13, fw14, fw15, on5]
  refine u__law_lag (b := b) h0 (by omega) ?_
  rw [hk]
  clear hk
  refine seqI fun kk hk => ?_
  simp only [dSeq, dAsg, dCB, dCons, dNil, dVar, onVs, vals, val, slot, setR, fGcd, dIfS, dTV, dOp, dBin, onV2, fLt, fLe, fGt, fGe, fAdd, fSub, fMul, fDiv, fMod, fI0, dC, dUn, onV, fNeg, dNext, dRet, dTup, onD, dats, fDivZ, fI, fPow, Few, retP, fAbs, fInt, fMax, fMin, fLen, fSqrt, fEq, fNe, dNot, dAnd, dOr, dAndV, dOrV, dNotV, dIfE, dDrop, dRetN, dPar, noO, dSetL, dLst, dOfL, dOwnM, onOwn, onDat, kAppend, kInsert, dSetItem, dAddItem, dIx, onItems, items, onInt, dNoPart, dPart, dSlice, onL, litems, dSlL, dCat, onM, mitems, dTupOf, dSeqI, dRng1, dRng2, dCallP, dCallB, dCallF, noSelf, onArgs, dats2, dIsi, tyName, dYes, dgTup, dgCons, dgNil, retB, dBreak, dCont, ne_eq, not_false_eq_true, true_and, and_true, List.getElem?_cons_zero, List.getElem?_cons_succ, List.set_cons_zero, List.set_cons_succ, Option.map, List.length_cons, List.length_nil, dParM, dmNil, dmD, dmL, setM, dLc_eq, dLc2_eq, dFor_eq, dSortSet, dSort, dListOf, dIsN, dNotN, isNo, dAug, dMulA, dgUnl, dCatT, dSlT, onT, titems, dEnum, dZip, dZipM, seqs, dRetL, dPar3, dRevT, dLstRg, dTupRg, dRg1, dRg2, dChainLe, List.nil_append, List.cons_append, if_true, if_false, dFrz, dLcO, dMin2D, dAppX, dParL, dParLL, dRepL, fMax3, dNewDic, dDicPut, dDicGet, dSortDic, onDic, onKey, dLcW, dZipX, dParR, dDead, dSortD, dSortDT, fNeS, fEqS, dgSet, dTupZip, dFgt, fIsB, fNotB, List.map_cons, List.map_nil, fw0, fw1, fw2, fw3, fw4, fw5, fw6, fw7, fw8, fw9, fw10, fw11, fw12, fw13, fw14, fw15]
  refine ⟨cmb h0.sp h0.sp (by omega), cmb b2 br (by omega), cmb br2 br (by omega), ?_⟩
  refine ite_b (c := b.sp * b.sp < 2 * b.r * b.r) (fun h => ?_) fun h => ?_
  · rw [decide_eq_false (fun z => absurd z.1 (by omega))] at hQ
    exact hQ
  rw [hk]
  clear hk
  refine seqI fun kk hk => ?_
  simp only [dSeq, dAsg, dCB, dCons, dNil, dVar, onVs, vals, val, slot, setR, fGcd, dIfS, dTV, dOp, dBin, onV2, fLt, fLe, fGt, fGe, fAdd, fSub, fMul, fDiv, fMod, fI0, dC, dUn, onV, fNeg, dNext, dRet, dTup, onD, dats, fDivZ, fI, fPow, Few, retP, fAbs, fInt, fMax, fMin, fLen, fSqrt, fEq, fNe, dNot, dAnd, dOr, dAndV, dOrV, dNotV, dIfE, dDrop, dRetN, dPar, noO, dSetL, dLst, dOfL, dOwnM, onOwn, onDat, kAppend, kInsert, dSetItem, dAddItem, dIx, onItems, items, onInt, dNoPart, dPart, dSlice, onL, litems, dSlL, dCat, onM, mitems, dTupOf, dSeqI, dRng1, dRng2, dCallP, dCallB, dCallF, noSelf, onArgs, dats2, dIsi, tyName, dYes, dgTup, dgCons, dgNil, retB, dBreak, dCont, ne_eq, not_false_eq_true, true_and, and_true, List.getElem?_cons_zero, List.getElem?_cons_succ, List.set_cons_zero, List.set_cons_succ, Option.map, List.length_cons, List.length_nil, dParM, dmNil, dmD, dmL, setM, dLc_eq, dLc2_eq, dFor_eq, dSortSet, dSort, dListOf, dIsN, dNotN, isNo, dAug, dMulA, dgUnl, dCatT, dSlT, onT, titems, dEnum, dZip, dZipM, seqs, dRetL, dPar3, dRevT, dLstRg, dTupRg, dRg1, dRg2, dChainLe, List.nil_append, List.cons_append, if_true, if_false, dFrz, dLcO, dMin2D, dAppX, dParL, dParLL, dRepL, fMax3, dNewDic, dDicPut, dDicGet, dSortDic, onDic, onKey, dLcW, dZipX, dParR, dDead, dSortD, dSortDT, fNeS, fEqS, dgSet, dTupZip, dFgt, fIsB, fNotB, List.map_cons, List.map_nil, fw0, fw1, fw2, fw3, fw4, fw5, fw6, fw7, fw8, fw9, fw10, fw11, fw12, fw13, fw14, fw15]
  refine ⟨cmb h0.sp h0.sp (by omega), cmb b2 br (by omega), cmb br2 br (by omega), cmb bx h1 (by omega), cmb bxt h1 (by omega), ?_⟩
  rw [hk]
  clear hk
  refine seqI fun kk hk => ?_
  simp only [dSeq, dAsg, dCB, dCons, dNil, dVar, onVs, vals, val, slot, setR, fGcd, dIfS, dTV, dOp, dBin, onV2, fLt, fLe, fGt, fGe, fAdd, fSub, fMul, fDiv, fMod, fI0, dC, dUn, onV, fNeg, dNext, dRet, dTup, onD, dats, fDivZ, fI, fPow, Few, retP, fAbs, fInt, fMax, fMin, fLen, fSqrt, fEq, fNe, dNot, dAnd, dOr, dAndV, dOrV, dNotV, dIfE, dDrop, dRetN, dPar, noO, dSetL, dLst, dOfL, dOwnM, onOwn, onDat, kAppend, kInsert, dSetItem, dAddItem, dIx, onItems, items, onInt, dNoPart, dPart, dSlice, onL, litems, dSlL, dCat, onM, mitems, dTupOf, dSeqI, dRng1, dRng2, dCallP, dCallB, dCallF, noSelf, onArgs, dats2, dIsi, tyName, dYes, dgTup, dgCons, dgNil, retB, dBreak, dCont, ne_eq, not_false_eq_true, true_and, and_true, List.getElem?_cons_zero, List.getElem?_cons_succ, List.set_cons_zero, List.set_cons_succ, Option.map, List.length_cons, List.length_nil, dParM, dmNil, dmD, dmL, setM, dLc_eq, dLc2_eq, dFor_eq, dSortSet, dSort, dListOf, dIsN, dNotN, isNo, dAug, dMulA, dgUnl, dCatT, dSlT, onT, titems, dEnum, dZip, dZipM, seqs, dRetL, dPar3, dRevT, dLstRg, dTupRg, dRg1, dRg2, dChainLe, List.nil_append, List.cons_append, if_true, if_false, dFrz, dLcO, dMin2D, dAppX, dParL, dParLL, dRepL, fMax3, dNewDic, dDicPut, dDicGet, dSortDic, onDic, onKey, dLcW, dZipX, dParR, dDead, dSortD, dSortDT, fNeS, fEqS, dgSet, dTupZip, dFgt, fIsB, fNotB, List.map_cons, List.map_nil, fw0, fw1, fw2, fw3, fw4, fw5, fw6, fw7, fw8, fw9, fw10, fw11, fw12, fw13, fw14, fw15]
  refine ⟨cmb bl bl (by omega), cmb b2 h0.way (by omega), cmb bw2 h0.way (by omega), cmb h0.sp h0.sp (by omega), cmb bll by' (by omega), ?_⟩
  rw [hk]
  clear hk
  rw [show b.lag * b.lag * (2 * b.way * b.way - b.sp * b.sp) = flw b from rfl] at *
  simp only [dSeq, dAsg, dCB, dCons, dNil, dVar, onVs, vals, val, slot, setR, fGcd, dIfS, dTV, dOp, dBin, onV2, fLt, fLe, fGt, fGe, fAdd, fSub, fMul, fDiv, fMod, fI0, dC, dUn, onV, fNeg, dNext, dRet, dTup, onD, dats, fDivZ, fI, fPow, Few, retP, fAbs, fInt, fMax, fMin, fLen, fSqrt, fEq, fNe, dNot, dAnd, dOr, dAndV, dOrV, dNotV, dIfE, dDrop, dRetN, dPar, noO, dSetL, dLst, dOfL, dOwnM, onOwn, onDat, kAppend, kInsert, dSetItem, dAddItem, dIx, onItems, items, onInt, dNoPart, dPart, dSlice, onL, litems, dSlL, dCat, onM, mitems, dTupOf, dSeqI, dRng1, dRng2, dCallP, dCallB, dCallF, noSelf, onArgs, dats2, dIsi, tyName, dYes, dgTup, dgCons, dgNil, retB, dBreak, dCont, ne_eq, not_false_eq_true, true_and, and_true, List.getElem?_cons_zero, List.getElem?_cons_succ, List.set_cons_zero, List.set_cons_succ, Option.map, List.length_cons, List.length_nil, dParM, dmNil, dmD, dmL, setM, dLc_eq, dLc2_eq, dFor_eq, dSortSet, dSort, dListOf, dIsN, dNotN, isNo, dAug, dMulA, dgUnl, dCatT, dSlT, onT, titems, dEnum, dZip, dZipM, seqs, dRetL, dPar3, dRevT, dLstRg, dTupRg, dRg1, dRg2, dChainLe, List.nil_append, List.cons_append, if_true, if_false, dFrz, dLcO, dMin2D, dAppX, dParL, dParLL, dRepL, fMax3, dNewDic, dDicPut, dDicGet, dSortDic, onDic, onKey, dLcW, dZipX, dParR, dDead, dSortD, dSortDT, fNeS, fEqS, dgSet, dTupZip, dFgt, fIsB, fNotB, List.map_cons, List.map_nil, fw0, fw1, fw2, fw3, fw4, fw5, fw6, fw7, fw8, fw9, fw10, fw11, fw12, fw13, fw14, fw15]
  have h' : 2 * b.r * b.r ≤ b.sp * b.sp := by omega
  refine ite_b (c := 0 ≤ (b.sp * b.sp + 2 * b.r * b.r) * t * t - flw b) (fun h => ?_) fun h => ?_
  · refine ⟨cmb bM bM (by omega), cmb b8 h0.sp (by omega), cmb c1 h0.sp (by omega), cmb c2 br (by omega), cmb c3 br (by omega), cmb c4 h1 (by omega), cmb c5 h1 (by omega), cmb c6 h1 (by omega), cmb c7 h1 (by omega), ?_⟩
    rw [decide_eq_decide.mpr (show _ ↔ 8 * b.sp * b.sp * b.r * b.r * t * t * t * t ≤ ((b.sp * b.sp + 2 * b.r * b.r) * t * t - flw b) * ((b.sp * b.sp + 2 * b.r * b.r) * t * t - flw b) from ⟨fun z => z.2.2, fun z => ⟨h', h, z⟩⟩)] at hQ
    exact hQ
  · rw [decide_eq_false (fun z => h z.2.1)] at hQ
    exact hQ
set_option maxHeartbeats 4000000 in
theorem ok__law_bounds {f : Addr} {fd : FuncData} (W : Fun K "_law_bounds" "_law_bounds" s__law_bounds f fd) (T : Bi mg)
    {f__law_some : Addr} {fd__law_some : FuncData} (G__law_some : FnG P w K mg base CX0 2 f__law_some fd__law_some ["_law_bag_here", "_law_things"] (spB K TT [.ro] S__law_some)) (g__law_some : mg "_law_some" = some (.ref f__law_some)) (k__law_some : PySem.W.keepIn K (.ref f__law_some) = true) (b__law_some : Binds K fd__law_some ["_law_bag_here", "_law_things"] [])
    {f__law_take : Addr} {fd__law_take : FuncData} (G__law_take : FnG P w K mg base CX0 1 f__law_take fd__law_take ["_law_bag_here", "_law_many"] (spB K TT [.d] S__law_take)) (g__law_take : mg "_law_take" = some (.ref f__law_take)) (k__law_take : PySem.W.keepIn K (.ref f__law_take) = true) (b__law_take : Binds K fd__law_take ["_law_bag_here", "_law_many"] []) :
    FnG P w K mg base CX0 3 f fd ["_law_bag_here"] (spB K TT [] S__law_bounds) := by
  refine fnB W sc__law_bounds rfl fun cdv A out s H E Nn B hr hgd => ⟨_, _, (dss_cons (ds_set (i := 1) sc__law_bounds.nd (pd_callBag G__law_some m__law_some (hr.mono (by decide)) hgd rfl g__law_some k__law_some b__law_some (pda_cons (pdv 0) (pda_cons (pd_l (pl_lst (pda_cons pd_int (pda_cons pd_int (pda_cons pd_int (pda_cons pd_int (pda_cons pd_int (pda_cons pd_int (pda_cons pd_int (pda_cons pd_int (pda_cons pd_int (pda_cons pd_int pda_nil)))))))))))) pda_nil))) (fixB (by decide)))
      (dss_cons (ds_set (i := 2) sc__law_bounds.nd (pd_add pd_int (pd_callBag G__law_take m__law_take (hr.mono (by decide)) hgd rfl g__law_take k__law_take b__law_take (pda_cons (pdv 0) (pda_cons (pd_callB (call_max2 rfl) sc_max rfl T.b_max (by decide +kernel) (pda_cons pd_int (pda_cons (pd_div (pd_mul (pdv 1) pd_int) pd_int) pda_nil))) pda_nil)))) (fixB (by decide)))
      (dss_cons (ds_set (i := 3) sc__law_bounds.nd (pd_ifExp (pt_eq hr.units rfl (pd_callBag G__law_take m__law_take (hr.mono (by decide)) hgd rfl g__law_take k__law_take b__law_take (pda_cons (pdv 0) (pda_cons pd_int pda_nil))) pd_int) (pd_callBag G__law_take m__law_take (hr.mono (by decide)) hgd rfl g__law_take k__law_take b__law_take (pda_cons (pdv 0) (pda_cons (pd_add pd_int (pd_div (pdv 1) pd_int)) pda_nil))) pd_int) (fixB (by decide)))
      (dss_cons (ds_par (i := 4) (j := 5) rfl sc__law_bounds.nd (pda_cons (pd_callBag G__law_some m__law_some (hr.mono (by decide)) hgd rfl g__law_some k__law_some b__law_some (pda_cons (pdv 0) (pda_cons (pd_l (pl_lst (pda_cons pd_int (pda_cons pd_int (pda_cons pd_int (pda_cons pd_int (pda_cons pd_int pda_nil))))))) pda_nil))) (pda_cons (pd_callBag G__law_some m__law_some (hr.mono (by decide)) hgd rfl g__law_some k__law_some b__law_some (pda_cons (pdv 0) (pda_cons (pd_l (pl_lst (pda_cons pd_int (pda_cons pd_int (pda_cons pd_int (pda_cons pd_int (pda_cons pd_int (pda_cons pd_int pda_nil)))))))) pda_nil))) pda_nil)) (fixB (by decide)) (fixB (by decide)))
      (dss_cons (ds_set (i := 6) sc__law_bounds.nd (pd_add (pdv 1) (pd_callBag G__law_some m__law_some (hr.mono (by decide)) hgd rfl g__law_some k__law_some b__law_some (pda_cons (pdv 0) (pda_cons (pd_l (pl_lst (pda_cons pd_int (pda_cons pd_int (pda_cons (pdv 1) (pda_cons (pd_mul pd_int (pdv 1)) (pda_cons (pd_callBag G__law_take m__law_take (hr.mono (by decide)) hgd rfl g__law_take k__law_take b__law_take (pda_cons (pdv 0) (pda_cons (pd_add (pd_mul pd_int (pdv 1)) pd_int) pda_nil))) pda_nil))))))) pda_nil)))) (fixB (by decide)))
      (dss_one (ds_ret (pd_tup (pda_cons (pdv 1) (pda_cons (pdv 2) (pda_cons (pdv 3) (pda_cons (pdv 4) (pda_cons (pdv 5) (pda_cons (pdv 6) (pda_cons (pd_add pd_int (pd_callBag G__law_take m__law_take (hr.mono (by decide)) hgd rfl g__law_take k__law_take b__law_take (pda_cons (pdv 0) (pda_cons pd_int pda_nil)))) (pda_cons (pd_callBag G__law_take m__law_take (hr.mono (by decide)) hgd rfl g__law_take k__law_take b__law_take (pda_cons (pdv 0) (pda_cons pd_int pda_nil))) (pda_cons (pd_add pd_int (pd_callBag G__law_take m__law_take (hr.mono (by decide)) hgd rfl g__law_take k__law_take b__law_take (pda_cons (pdv 0) (pda_cons pd_int pda_nil)))) pda_nil))))))))))))))))), ?_⟩
  clear W T hr hgd G__law_some g__law_some k__law_some b__law_some f__law_some fd__law_some G__law_take g__law_take k__law_take b__law_take f__law_take fd__law_take
  rintro bag xs Q hl ⟨_, m, hb, hm, rfl, _, hQ⟩
  clear hl
  replace hQ : ∀ z bag', (∃ b : Bn, z = eB b ∧ BnOk b ∧ BnV b) → Bag (m + 20) bag' → Q z bag'   := hQ
  have hm : m + 20 < 2 ^ 60 := hm
  have e : (some (.own bag) :: rhoP (nm__law_bounds.length - 1) [] [] : Rho) = [some (.own bag), none, none, none, none, none, none] := rfl
  rw [e]
  clear e
  refine seqI fun kk hk => ?_
  simp only [dSeq, dAsg, dCB, dCons, dNil, dVar, onVs, vals, val, slot, setR, fGcd, dIfS, dTV, dOp, dBin, onV2, fLt, fLe, fGt, fGe, fAdd, fSub, fMul, fDiv, fMod, fI0, dC, dUn, onV, fNeg, dNext, dRet, dTup, onD, dats, fDivZ, fI, fPow, Few, retP, fAbs, fInt, fMax, fMin, fLen, fSqrt, fEq, fNe, dNot, dAnd, dOr, dAndV, dOrV, dNotV, dIfE, dDrop, dRetN, dPar, noO, dSetL, dLst, dOfL, dOwnM, onOwn, onDat, kAppend, kInsert, dSetItem, dAddItem, dIx, onItems, items, onInt, dNoPart, dPart, dSlice, onL, litems, dSlL, dCat, onM, mitems, dTupOf, dSeqI, dRng1, dRng2, dCallP, dCallB, dCallF, noSelf, onArgs, dats2, dIsi, tyName, dYes, dgTup, dgCons, dgNil, retB, dBreak, dCont, ne_eq, not_false_eq_true, true_and, and_true, List.getElem?_cons_zero, List.getElem?_cons_succ, List.set_cons_zero, List.set_cons_succ, Option.map, List.length_cons, List.length_nil, dParM, dmNil, dmD, dmL, setM, dLc_eq, dLc2_eq, dFor_eq, dSortSet, dSort, dListOf, dIsN, dNotN, isNo, dAug, dMulA, dgUnl, dCatT, dSlT, onT, titems, dEnum, dZip, dZipM, seqs, dRetL, dPar3, dRevT, dLstRg, dTupRg, dRg1, dRg2, dChainLe, List.nil_append, List.cons_append, if_true, if_false, dFrz, dLcO, dMin2D, dAppX, dParL, dParLL, dRepL, fMax3, dNewDic, dDicPut, dDicGet, dSortDic, onDic, onKey, dLcW, dZipX, dParR, dDead, dSortD, dSortDT, fNeS, fEqS, dgSet, dTupZip, dFgt, fIsB, fNotB, List.map_cons, List.map_nil, fw0, fw1, fw2, fw3, fw4, fw5, fw6, fw7, fw8, fw9, fw10, fw11, fw12, fw13, fw14, fw15]
  refine u_some hb (by omega) (by decide) (by decide) fun y hy bag1 hb1 => ?_
  obtain ⟨sp, rfl, sp0, sp1⟩ := of_all (lo := 1) (hi := 100) (by decide) y hy
  have hv : sp = 1 ∨ sp = 2 ∨ sp = 3 ∨ sp = 5 ∨ sp = 7 ∨ sp = 10 ∨ sp = 13 ∨ sp = 20 ∨ sp = 60 ∨ sp = 100 := by
    simpa only [List.mem_cons, List.not_mem_nil, or_false, PyData.int.injEq] using hy
  rw [hk]
  clear hk hy
  refine seqI fun kk hk => ?_
  have bs : Bd 7 sp := bd_of 100 (by omega) (by omega)
  have b3 : Bd 2 3 := by unfold Bd; decide
  have b4 : Bd 3 4 := by unfold Bd; decide
  have b5 : Bd 3 5 := by unfold Bd; decide
  have b6 : Bd 3 6 := by unfold Bd; decide
  simp only [dSeq, dAsg, dCB, dCons, dNil, dVar, onVs, vals, val, slot, setR, fGcd, dIfS, dTV, dOp, dBin, onV2, fLt, fLe, fGt, fGe, fAdd, fSub, fMul, fDiv, fMod, fI0, dC, dUn, onV, fNeg, dNext, dRet, dTup, onD, dats, fDivZ, fI, fPow, Few, retP, fAbs, fInt, fMax, fMin, fLen, fSqrt, fEq, fNe, dNot, dAnd, dOr, dAndV, dOrV, dNotV, dIfE, dDrop, dRetN, dPar, noO, dSetL, dLst, dOfL, dOwnM, onOwn, onDat, kAppend, kInsert, dSetItem, dAddItem, dIx, onItems, items, onInt, dNoPart, dPart, dSlice, onL, litems, dSlL, dCat, onM, mitems, dTupOf, dSeqI, dRng1, dRng2, dCallP, dCallB, dCallF, noSelf, onArgs, dats2, dIsi, tyName, dYes, dgTup, dgCons, dgNil, retB, dBreak, dCont, ne_eq, not_false_eq_true, true_and, and_true, List.getElem?_cons_zero, List.getElem?_cons_succ, List.set_cons_zero, List.set_cons_succ, Option.map, List.length_cons, List.length_nil, dParM, dmNil, dmD, dmL, setM, dLc_eq, dLc2_eq, dFor_eq, dSortSet, dSort, dListOf, dIsN, dNotN, isNo, dAug, dMulA, dgUnl, dCatT, dSlT, onT, titems, dEnum, dZip, dZipM, seqs, dRetL, dPar3, dRevT, dLstRg, dTupRg, dRg1, dRg2, dChainLe, List.nil_append, List.cons_append, if_true, if_false, dFrz, dLcO, dMin2D, dAppX, dParL, dParLL, dRepL, fMax3, dNewDic, dDicPut, dDicGet, dSortDic, onDic, onKey, dLcW, dZipX, dParR, dDead, dSortD, dSortDT, fNeS, fEqS, dgSet, dTupZip, dFgt, fIsB, fNotB, List.map_cons, List.map_nil, fw0, fw1, fw2, fw3, fw4, fw5, fw6, fw7, fw8, fw9, fw10, fw11, fw12, fw13, fw14, fw15]
  refine ⟨cmb bs b3, cdwB (by decide) b4, ?_⟩
  have e1 : 1 ≤ (if sp * 3 / 4 > 1 then sp * 3 / 4 else 1) ∧ (if sp * 3 / 4 > 1 then sp * 3 / 4 else 1) ≤ sp := by split <;> omega
  generalize (if sp * 3 / 4 > 1 then sp * 3 / 4 else 1) = q at *
  refine u_take hb1 (by omega) (by omega) (by omega) fun near bag2 n0 n1 hb2 => ?_
  simp only [dSeq, dAsg, dCB, dCons, dNil, dVar, onVs, vals, val, slot, setR, fGcd, dIfS, dTV, dOp, dBin, onV2, fLt, fLe, fGt, fGe, fAdd, fSub, fMul, fDiv, fMod, fI0, dC, dUn, onV, fNeg, dNext, dRet, dTup, onD, dats, fDivZ, fI, fPow, Few, retP, fAbs, fInt, fMax, fMin, fLen, fSqrt, fEq, fNe, dNot, dAnd, dOr, dAndV, dOrV, dNotV, dIfE, dDrop, dRetN, dPar, noO, dSetL, dLst, dOfL, dOwnM, onOwn, onDat, kAppend, kInsert, dSetItem, dAddItem, dIx, onItems, items, onInt, dNoPart, dPart, dSlice, onL, litems, dSlL, dCat, onM, mitems, dTupOf, dSeqI, dRng1, dRng2, dCallP, dCallB, dCallF, noSelf, onArgs, dats2, dIsi, tyName, dYes, dgTup, dgCons, dgNil, retB, dBreak, dCont, ne_eq, not_false_eq_true, true_and, and_true, List.getElem?_cons_zero, List.getElem?_cons_succ, List.set_cons_zero, List.set_cons_succ, Option.map, List.length_cons, List.length_nil, dParM, dmNil, dmD, dmL, setM, dLc_eq, dLc2_eq, dFor_eq, dSortSet, dSort, dListOf, dIsN, dNotN, isNo, dAug, dMulA, dgUnl, dCatT, dSlT, onT, titems, dEnum, dZip, dZipM, seqs, dRetL, dPar3, dRevT, dLstRg, dTupRg, dRg1, dRg2, dChainLe, List.nil_append, List.cons_append, if_true, if_false, dFrz, dLcO, dMin2D, dAppX, dParL, dParLL, dRepL, fMax3, dNewDic, dDicPut, dDicGet, dSortDic, onDic, onKey, dLcW, dZipX, dParR, dDead, dSortD, dSortDT, fNeS, fEqS, dgSet, dTupZip, dFgt, fIsB, fNotB, List.map_cons, List.map_nil, fw0, fw1, fw2, fw3, fw4, fw5, fw6, fw7, fw8, fw9, fw10, fw11, fw12, fw13, fw14, fw15]
  rw [hk]
  clear hk
  refine seqI fun kk hk => ?_
  simp only [dSeq, dAsg, dCB, dCons, dNil, dVar, onVs, vals, val, slot, setR, fGcd, dIfS, dTV, dOp, dBin, onV2, fLt, fLe, fGt, fGe, fAdd, fSub, fMul, fDiv, fMod, fI0, dC, dUn, onV, fNeg, dNext, dRet, dTup, onD, dats, fDivZ, fI, fPow, Few, retP, fAbs, fInt, fMax, fMin, fLen, fSqrt, fEq, fNe, dNot, dAnd, dOr, dAndV, dOrV, dNotV, dIfE, dDrop, dRetN, dPar, noO, dSetL, dLst, dOfL, dOwnM, onOwn, onDat, kAppend, kInsert, dSetItem, dAddItem, dIx, onItems, items, onInt, dNoPart, dPart, dSlice, onL, litems, dSlL, dCat, onM, mitems, dTupOf, dSeqI, dRng1, dRng2, dCallP, dCallB, dCallF, noSelf, onArgs, dats2, dIsi, tyName, dYes, dgTup, dgCons, dgNil, retB, dBreak, dCont, ne_eq, not_false_eq_true, true_and, and_true, List.getElem?_cons_zero, List.getElem?_cons_succ, List.set_cons_zero, List.set_cons_succ, Option.map, List.length_cons, List.length_nil, dParM, dmNil, dmD, dmL, setM, dLc_eq, dLc2_eq, dFor_eq, dSortSet, dSort, dListOf, dIsN, dNotN, isNo, dAug, dMulA, dgUnl, dCatT, dSlT, onT, titems, dEnum, dZip, dZipM, seqs, dRetL, dPar3, dRevT, dLstRg, dTupRg, dRg1, dRg2, dChainLe, List.nil_append, List.cons_append, if_true, if_false, dFrz, dLcO, dMin2D, dAppX, dParL, dParLL, dRepL, fMax3, dNewDic, dDicPut, dDicGet, dSortDic, onDic, onKey, dLcW, dZipX, dParR, dDead, dSortD, dSortDT, fNeS, fEqS, dgSet, dTupZip, dFgt, fIsB, fNotB, List.map_cons, List.map_nil, fw0, fw1, fw2, fw3, fw4, fw5, fw6, fw7, fw8, fw9, fw10, fw11, fw12, fw13, fw14, fw15]
  refine u_take hb2 (by omega) (by omega) (by omega) fun v bag3 v0 v1 hb3 => ?_
  simp only [dSeq, dAsg, dCB, dCons, dNil, dVar, onVs, vals, val, slot, setR, fGcd, dIfS, dTV, dOp, dBin, onV2, fLt, fLe, fGt, fGe, fAdd, fSub, fMul, fDiv, fMod, fI0, dC, dUn, onV, fNeg, dNext, dRet, dTup, onD, dats, fDivZ, fI, fPow, Few, retP, fAbs, fInt, fMax, fMin, fLen, fSqrt, fEq, fNe, dNot, dAnd, dOr, dAndV, dOrV, dNotV, dIfE, dDrop, dRetN, dPar, noO, dSetL, dLst, dOfL, dOwnM, onOwn, onDat, kAppend, kInsert, dSetItem, dAddItem, dIx, onItems, items, onInt, dNoPart, dPart, dSlice, onL, litems, dSlL, dCat, onM, mitems, dTupOf, dSeqI, dRng1, dRng2, dCallP, dCallB, dCallF, noSelf, onArgs, dats2, dIsi, tyName, dYes, dgTup, dgCons, dgNil, retB, dBreak, dCont, ne_eq, not_false_eq_true, true_and, and_true, List.getElem?_cons_zero, List.getElem?_cons_succ, List.set_cons_zero, List.set_cons_succ, Option.map, List.length_cons, List.length_nil, dParM, dmNil, dmD, dmL, setM, dLc_eq, dLc2_eq, dFor_eq, dSortSet, dSort, dListOf, dIsN, dNotN, isNo, dAug, dMulA, dgUnl, dCatT, dSlT, onT, titems, dEnum, dZip, dZipM, seqs, dRetL, dPar3, dRevT, dLstRg, dTupRg, dRg1, dRg2, dChainLe, List.nil_append, List.cons_append, if_true, if_false, dFrz, dLcO, dMin2D, dAppX, dParL, dParLL, dRepL, fMax3, dNewDic, dDicPut, dDicGet, dSortDic, onDic, onKey, dLcW, dZipX, dParR, dDead, dSortD, dSortDT, fNeS, fEqS, dgSet, dTupZip, dFgt, fIsB, fNotB, List.map_cons, List.map_nil, fw0, fw1, fw2, fw3, fw4, fw5, fw6, fw7, fw8, fw9, fw10, fw11, fw12, fw13, fw14, fw15, sh_int, eqv_int]
  have k1 : ∀ (wind : Int) (bag4 : List PyData), 0 ≤ wind → wind ≤ 20 → Bag (m + 6) bag4 → kk [some (Ent.own bag4), some (Ent.d (PyData.int sp)), some (Ent.d (PyData.int (1 + near))), some (Ent.d (PyData.int wind)), none, none, none] := fun wind bag4 w0 w1 hb4 => by
    rw [hk]
    clear hk
    refine seqI fun kk hk => ?_
    simp only [dSeq, dAsg, dCB, dCons, dNil, dVar, onVs, vals, val, slot, setR, fGcd, dIfS, dTV, dOp, dBin, onV2, fLt, fLe, fGt, fGe, fAdd, fSub, fMul, fDiv, fMod, fI0, dC, dUn, onV, fNeg, dNext, dRet, dTup, onD, dats, fDivZ, fI, fPow, Few, retP, fAbs, fInt, fMax, fMin, fLen, fSqrt, fEq, fNe, dNot, dAnd, dOr, dAndV, dOrV, dNotV, dIfE, dDrop, dRetN, dPar, noO, dSetL, dLst, dOfL, dOwnM, onOwn, onDat, kAppend, kInsert, dSetItem, dAddItem, dIx, onItems, items, onInt, dNoPart, dPart, dSlice, onL, litems, dSlL, dCat, onM, mitems, dTupOf, dSeqI, dRng1, dRng2, dCallP, dCallB, dCallF, noSelf, onArgs, dats2, dIsi, tyName, dYes, dgTup, dgCons, dgNil, retB, dBreak, dCont, ne_eq, not_false_eq_true, true_and, and_true, List.getElem?_cons_zero, List.getElem?_cons_succ, List.set_cons_zero, List.set_cons_succ, Option.map, List.length_cons, List.length_nil, dParM, dmNil, dmD, dmL, setM, dLc_eq, dLc2_eq, dFor_eq, dSortSet, dSort, dListOf, dIsN, dNotN, isNo, dAug, dMulA, dgUnl, dCatT, dSlT, onT, titems, dEnum, dZip, dZipM, seqs, dRetL, dPar3, dRevT, dLstRg, dTupRg, dRg1, dRg2, dChainLe, List.nil_append, List.cons_append, if_true, if_false, dFrz, dLcO, dMin2D, dAppX, dParL, dParLL, dRepL, fMax3, dNewDic, dDicPut, dDicGet, dSortDic, onDic, onKey, dLcW, dZipX, dParR, dDead, dSortD, dSortDT, fNeS, fEqS, dgSet, dTupZip, dFgt, fIsB, fNotB, List.map_cons, List.map_nil, fw0, fw1, fw2, fw3, fw4, fw5, fw6, fw7, fw8, fw9, fw10, fw11, fw12, fw13, fw14, fw15]
    refine u_some hb4 (by omega) (by decide) (by decide) fun y hy bag5 hb5 => ?_
    refine u_some hb5 (by omega) (by decide) (by decide) fun y2 hy2 bag6 hb6 => ?_
    obtain ⟨clk, rfl, c0, c1⟩ := of_all (lo := 0) (hi := 5) (by decide) y hy
    obtain ⟨fall, rfl, f0, f1⟩ := of_all (lo := 0) (hi := 20) (by decide) y2 hy2
    rw [hk]
    clear hk hy hy2
    refine seqI fun kk hk => ?_
    simp only [dSeq, dAsg, dCB, dCons, dNil, dVar, onVs, vals, val, slot, setR, fGcd, dIfS, dTV, dOp, dBin, onV2, fLt, fLe, fGt, fGe, fAdd, fSub, fMul, fDiv, fMod, fI0, dC, dUn, onV, fNeg, dNext, dRet, dTup, onD, dats, fDivZ, fI, fPow, Few, retP, fAbs, fInt, fMax, fMin, fLen, fSqrt, fEq, fNe, dNot, dAnd, dOr, dAndV, dOrV, dNotV, dIfE, dDrop, dRetN, dPar, noO, dSetL, dLst, dOfL, dOwnM, onOwn, onDat, kAppend, kInsert, dSetItem, dAddItem, dIx, onItems, items, onInt, dNoPart, dPart, dSlice, onL, litems, dSlL, dCat, onM, mitems, dTupOf, dSeqI, dRng1, dRng2, dCallP, dCallB, dCallF, noSelf, onArgs, dats2, dIsi, tyName, dYes, dgTup, dgCons, dgNil, retB, dBreak, dCont, ne_eq, not_false_eq_true, true_and, and_true, List.getElem?_cons_zero, List.getElem?_cons_succ, List.set_cons_zero, List.set_cons_succ, Option.map, List.length_cons, List.length_nil, dParM, dmNil, dmD, dmL, setM, dLc_eq, dLc2_eq, dFor_eq, dSortSet, dSort, dListOf, dIsN, dNotN, isNo, dAug, dMulA, dgUnl, dCatT, dSlT, onT, titems, dEnum, dZip, dZipM, seqs, dRetL, dPar3, dRevT, dLstRg, dTupRg, dRg1, dRg2, dChainLe, List.nil_append, List.cons_append, if_true, if_false, dFrz, dLcO, dMin2D, dAppX, dParL, dParLL, dRepL, fMax3, dNewDic, dDicPut, dDicGet, dSortDic, onDic, onKey, dLcW, dZipX, dParR, dDead, dSortD, dSortDT, fNeS, fEqS, dgSet, dTupZip, dFgt, fIsB, fNotB, List.map_cons, List.map_nil, fw0, fw1, fw2, fw3, fw4, fw5, fw6, fw7, fw8, fw9, fw10, fw11, fw12, fw13, fw14, fw15]
    refine ⟨cmb b3 bs, cmb b5 bs, u_take hb6 (by omega) (by omega) (by omega) fun v bag7 v0 v1 hb7 => ?_⟩
    refine u_some hb7 (by omega) (by simp) (by simp) fun y hy bag8 hb8 => ?_
    have hw : ∃ w : Int, y = .int w ∧ 0 ≤ w ∧ w ≤ 5 * sp := by
      simp only [List.mem_cons, List.not_mem_nil, or_false] at hy
      rcases hy with rfl | rfl | rfl | rfl | rfl
      all_goals exact ⟨_, rfl, by omega, by omega⟩
    obtain ⟨w, rfl, w2, w3⟩ := hw
    simp only [dSeq, dAsg, dCB, dCons, dNil, dVar, onVs, vals, val, slot, setR, fGcd, dIfS, dTV, dOp, dBin, onV2, fLt, fLe, fGt, fGe, fAdd, fSub, fMul, fDiv, fMod, fI0, dC, dUn, onV, fNeg, dNext, dRet, dTup, onD, dats, fDivZ, fI, fPow, Few, retP, fAbs, fInt, fMax, fMin, fLen, fSqrt, fEq, fNe, dNot, dAnd, dOr, dAndV, dOrV, dNotV, dIfE, dDrop, dRetN, dPar, noO, dSetL, dLst, dOfL, dOwnM, onOwn, onDat, kAppend, kInsert, dSetItem, dAddItem, dIx, onItems, items, onInt, dNoPart, dPart, dSlice, onL, litems, dSlL, dCat, onM, mitems, dTupOf, dSeqI, dRng1, dRng2, dCallP, dCallB, dCallF, noSelf, onArgs, dats2, dIsi, tyName, dYes, dgTup, dgCons, dgNil, retB, dBreak, dCont, ne_eq, not_false_eq_true, true_and, and_true, List.getElem?_cons_zero, List.getElem?_cons_succ, List.set_cons_zero, List.set_cons_succ, Option.map, List.length_cons, List.length_nil, dParM, dmNil, dmD, dmL, setM, dLc_eq, dLc2_eq, dFor_eq, dSortSet, dSort, dListOf, dIsN, dNotN, isNo, dAug, dMulA, dgUnl, dCatT, dSlT, onT, titems, dEnum, dZip, dZipM, seqs, dRetL, dPar3, dRevT, dLstRg, dTupRg, dRg1, dRg2, dChainLe, List.nil_append, List.cons_append, if_true, if_false, dFrz, dLcO, dMin2D, dAppX, dParL, dParLL, dRepL, fMax3, dNewDic, dDicPut, dDicGet, dSortDic, onDic, onKey, dLcW, dZipX, dParR, dDead, dSortD, dSortDT, fNeS, fEqS, dgSet, dTupZip, dFgt, fIsB, fNotB, List.map_cons, List.map_nil, fw0, fw1, fw2, fw3, fw4, fw5, fw6, fw7, fw8, fw9, fw10, fw11, fw12, fw13, fw14, fw15]
    rw [hk]
    clear hk hy
    simp only [dSeq, dAsg, dCB, dCons, dNil, dVar, onVs, vals, val, slot, setR, fGcd, dIfS, dTV, dOp, dBin, onV2, fLt, fLe, fGt, fGe, fAdd, fSub, fMul, fDiv, fMod, fI0, dC, dUn, onV, fNeg, dNext, dRet, dTup, onD, dats, fDivZ, fI, fPow, Few, retP, fAbs, fInt, fMax, fMin, fLen, fSqrt, fEq, fNe, dNot, dAnd, dOr, dAndV, dOrV, dNotV, dIfE, dDrop, dRetN, dPar, noO, dSetL, dLst, dOfL, dOwnM, onOwn, onDat, kAppend, kInsert, dSetItem, dAddItem, dIx, onItems, items, onInt, dNoPart, dPart, dSlice, onL, litems, dSlL, dCat, onM, mitems, dTupOf, dSeqI, dRng1, dRng2, dCallP, dCallB, dCallF, noSelf, onArgs, dats2, dIsi, tyName, dYes, dgTup, dgCons, dgNil, retB, dBreak, dCont, ne_eq, not_false_eq_true, true_and, and_true, List.getElem?_cons_zero, List.getElem?_cons_succ, List.set_cons_zero, List.set_cons_succ, Option.map, List.length_cons, List.length_nil, dParM, dmNil, dmD, dmL, setM, dLc_eq, dLc2_eq, dFor_eq, dSortSet, dSort, dListOf, dIsN, dNotN, isNo, dAug, dMulA, dgUnl, dCatT, dSlT, onT, titems, dEnum, dZip, dZipM, seqs, dRetL, dPar3, dRevT, dLstRg, dTupRg, dRg1, dRg2, dChainLe, List.nil_append, List.cons_append, if_true, if_false, dFrz, dLcO, dMin2D, dAppX, dParL, dParLL, dRepL, fMax3, dNewDic, dDicPut, dDicGet, dSortDic, onDic, onKey, dLcW, dZipX, dParR, dDead, dSortD, dSortDT, fNeS, fEqS, dgSet, dTupZip, dFgt, fIsB, fNotB, List.map_cons, List.map_nil, fw0, fw1, fw2, fw3, fw4, fw5, fw6, fw7, fw8, fw9, fw10, fw11, fw12, fw13, fw14, fw15]
    refine u_take hb8 (by omega) (by omega) (by omega) fun x1 bag9 x10 x11 hb9 => ?_
    try simp only [dSeq, dAsg, dCB, dCons, dNil, dVar, onVs, vals, val, slot, setR, fGcd, dIfS, dTV, dOp, dBin, onV2, fLt, fLe, fGt, fGe, fAdd, fSub, fMul, fDiv, fMod, fI0, dC, dUn, onV, fNeg, dNext, dRet, dTup, onD, dats, fDivZ, fI, fPow, Few, retP, fAbs, fInt, fMax, fMin, fLen, fSqrt, fEq, fNe, dNot, dAnd, dOr, dAndV, dOrV, dNotV, dIfE, dDrop, dRetN, dPar, noO, dSetL, dLst, dOfL, dOwnM, onOwn, onDat, kAppend, kInsert, dSetItem, dAddItem, dIx, onItems, items, onInt, dNoPart, dPart, dSlice, onL, litems, dSlL, dCat, onM, mitems, dTupOf, dSeqI, dRng1, dRng2, dCallP, dCallB, dCallF, noSelf, onArgs, dats2, dIsi, tyName, dYes, dgTup, dgCons, dgNil, retB, dBreak, dCont, ne_eq, not_false_eq_true, true_and, and_true, List.getElem?_cons_zero, List.getElem?_cons_succ, List.set_cons_zero, List.set_cons_succ, Option.map, List.length_cons, List.length_nil, dParM, dmNil, dmD, dmL, setM, dLc_eq, dLc2_eq, dFor_eq, dSortSet, dSort, dListOf, dIsN, dNotN, isNo, dAug, dMulA, dgUnl, dCatT, dSlT, onT, titems, dEnum, dZip, dZipM, seqs, dRetL, dPar3, dRevT, dLstRg, dTupRg, dRg1, dRg2, dChainLe, List.nil_append, List.cons_append, if_true, if_false, dFrz, dLcO, dMin2D, dAppX, dParL, dParLL, dRepL, fMax3, dNewDic, dDicPut, dDicGet, dSortDic, onDic, onKey, dLcW, dZipX, dParR, dDead, dSortD, dSortDT, fNeS, fEqS, dgSet, dTupZip, dFgt, fIsB, fNotB, List.map_cons, List.map_nil, fw0, fw1, fw2, fw3, fw4, fw5, fw6, fw7, fw8, fw9, fw10, fw11, fw12, fw13, fw14, fw15]
    refine u_take hb9 (by omega) (by omega) (by omega) fun x2 bag10 x20 x21 hb10 => ?_
    try simp only [dSeq, dAsg, dCB, dCons, dNil, dVar, onVs, vals, val, slot, setR, fGcd, dIfS, dTV, dOp, dBin, onV2, fLt, fLe, fGt, fGe, fAdd, fSub, fMul, fDiv, fMod, fI0, dC, dUn, onV, fNeg, dNext, dRet, dTup, onD, dats, fDivZ, fI, fPow, Few, retP, fAbs, fInt, fMax, fMin, fLen, fSqrt, fEq, fNe, dNot, dAnd, dOr, dAndV, dOrV, dNotV, dIfE, dDrop, dRetN, dPar, noO, dSetL, dLst, dOfL, dOwnM, onOwn, onDat, kAppend, kInsert, dSetItem, dAddItem, dIx, onItems, items, onInt, dNoPart, dPart, dSlice, onL, litems, dSlL, dCat, onM, mitems, dTupOf, dSeqI, dRng1, dRng2, dCallP, dCallB, dCallF, noSelf, onArgs, dats2, dIsi, tyName, dYes, dgTup, dgCons, dgNil, retB, dBreak, dCont, ne_eq, not_false_eq_true, true_and, and_true, List.getElem?_cons_zero, List.getElem?_cons_succ, List.set_cons_zero, List.set_cons_succ, Option.map, List.length_cons, List.length_nil, dParM, dmNil, dmD, dmL, setM, dLc_eq, dLc2_eq, dFor_eq, dSortSet, dSort, dListOf, dIsN, dNotN, isNo, dAug, dMulA, dgUnl, dCatT, dSlT, onT, titems, dEnum, dZip, dZipM, seqs, dRetL, dPar3, dRevT, dLstRg, dTupRg, dRg1, dRg2, dChainLe, List.nil_append, List.cons_append, if_true, if_false, dFrz, dLcO, dMin2D, dAppX, dParL, dParLL, dRepL, fMax3, dNewDic, dDicPut, dDicGet, dSortDic, onDic, onKey, dLcW, dZipX, dParR, dDead, dSortD, dSortDT, fNeS, fEqS, dgSet, dTupZip, dFgt, fIsB, fNotB, List.map_cons, List.map_nil, fw0, fw1, fw2, fw3, fw4, fw5, fw6, fw7, fw8, fw9, fw10, fw11, fw12, fw13, fw14, fw15]
    refine u_take hb10 (by omega) (by omega) (by omega) fun x3 bag11 x30 x31 hb11 => ?_
    try simp only [dSeq, dAsg, dCB, dCons, dNil, dVar, onVs, vals, val, slot, setR, fGcd, dIfS, dTV, dOp, dBin, onV2, fLt, fLe, fGt, fGe, fAdd, fSub, fMul, fDiv, fMod, fI0, dC, dUn, onV, fNeg, dNext, dRet, dTup, onD, dats, fDivZ, fI, fPow, Few, retP, fAbs, fInt, fMax, fMin, fLen, fSqrt, fEq, fNe, dNot, dAnd, dOr, dAndV, dOrV, dNotV, dIfE, dDrop, dRetN, dPar, noO, dSetL, dLst, dOfL, dOwnM, onOwn, onDat, kAppend, kInsert, dSetItem, dAddItem, dIx, onItems, items, onInt, dNoPart, dPart, dSlice, onL, litems, dSlL, dCat, onM, mitems, dTupOf, dSeqI, dRng1, dRng2, dCallP, dCallB, dCallF, noSelf, onArgs, dats2, dIsi, tyName, dYes, dgTup, dgCons, dgNil, retB, dBreak, dCont, ne_eq, not_false_eq_true, true_and, and_true, List.getElem?_cons_zero, List.getElem?_cons_succ, List.set_cons_zero, List.set_cons_succ, Option.map, List.length_cons, List.length_nil, dParM, dmNil, dmD, dmL, setM, dLc_eq, dLc2_eq, dFor_eq, dSortSet, dSort, dListOf, dIsN, dNotN, isNo, dAug, dMulA, dgUnl, dCatT, dSlT, onT, titems, dEnum, dZip, dZipM, seqs, dRetL, dPar3, dRevT, dLstRg, dTupRg, dRg1, dRg2, dChainLe, List.nil_append, List.cons_append, if_true, if_false, dFrz, dLcO, dMin2D, dAppX, dParL, dParLL, dRepL, fMax3, dNewDic, dDicPut, dDicGet, dSortDic, onDic, onKey, dLcW, dZipX, dParR, dDead, dSortD, dSortDT, fNeS, fEqS, dgSet, dTupZip, dFgt, fIsB, fNotB, List.map_cons, List.map_nil, fw0, fw1, fw2, fw3, fw4, fw5, fw6, fw7, fw8, fw9, fw10, fw11, fw12, fw13, fw14, fw15]
    refine hQ _ _ ⟨⟨sp, 1 + near, wind, clk, fall, sp + w, 1 + x1, x2, 1 + x3⟩, rfl, ?_⟩ (hb11.up (by omega))
    refine ⟨?_, hv, by dsimp only; omega⟩
    constructor
    all_goals dsimp only
    all_goals omega
  refine ite_b (c := v = 0) (fun _ => ?_) fun _ => k1 0 bag3 (by omega) (by omega) (hb3.up (by omega))
  refine ⟨cdwB (by decide) b6, u_take hb3 (by omega) (by omega) (by omega) fun w bag4 w0 w1 hb4 => ?_⟩
  exact k1 w bag4 w0 (by omega) (hb4.up (by omega))
set_option maxHeartbeats 4000000 in
theorem ok__law_ticks {f : Addr} {fd : FuncData} (W : Fun K "_law_ticks" "_law_ticks" s__law_ticks f fd) (T : Bi mg)
    {f__law_lag : Addr} {fd__law_lag : FuncData} (G__law_lag : FnG P w K mg base CX0 1 f__law_lag fd__law_lag ["_law_bounds_here"] (spP K TT [.d] S__law_lag)) (g__law_lag : mg "_law_lag" = some (.ref f__law_lag)) (k__law_lag : PySem.W.keepIn K (.ref f__law_lag) = true) (b__law_lag : Binds K fd__law_lag ["_law_bounds_here"] [])
    {f__law_some : Addr} {fd__law_some : FuncData} (G__law_some : FnG P w K mg base CX0 2 f__law_some fd__law_some ["_law_bag_here", "_law_things"] (spB K TT [.ro] S__law_some)) (g__law_some : mg "_law_some" = some (.ref f__law_some)) (k__law_some : PySem.W.keepIn K (.ref f__law_some) = true) (b__law_some : Binds K fd__law_some ["_law_bag_here", "_law_things"] [])
    {f__law_take : Addr} {fd__law_take : FuncData} (G__law_take : FnG P w K mg base CX0 1 f__law_take fd__law_take ["_law_bag_here", "_law_many"] (spB K TT [.d] S__law_take)) (g__law_take : mg "_law_take" = some (.ref f__law_take)) (k__law_take : PySem.W.keepIn K (.ref f__law_take) = true) (b__law_take : Binds K fd__law_take ["_law_bag_here", "_law_many"] []) :
    FnG P w K mg base CX0 3 f fd ["_law_bag_here", "_law_bounds_here"] (spB K TT [.d] S__law_ticks) := by
  refine fnB W sc__law_ticks rfl fun cdv A out s H E Nn B hr hgd => ⟨_, _, (dss_cons (ds_set (i := 2) sc__law_ticks.nd (pd_callB (call_max2 rfl) sc_max rfl T.b_max (by decide +kernel) (pda_cons pd_int (pda_cons (pd_callP G__law_lag m__law_lag (hr.mono (by decide)) hgd rfl g__law_lag k__law_lag b__law_lag (pda_cons (pdv 1) pda_nil)) pda_nil))) (fixB (by decide)))
      (dss_one (ds_ret (pd_add (pdv 2) (pd_callBag G__law_some m__law_some (hr.mono (by decide)) hgd rfl g__law_some k__law_some b__law_some (pda_cons (pdv 0) (pda_cons (pd_l (pl_lst (pda_cons pd_int (pda_cons pd_int (pda_cons pd_int (pda_cons (pdv 2) (pda_cons (pd_mul pd_int (pdv 2)) (pda_cons (pd_mul pd_int (pdv 2)) (pda_cons (pd_callBag G__law_take m__law_take (hr.mono (by decide)) hgd rfl g__law_take k__law_take b__law_take (pda_cons (pdv 0) (pda_cons pd_int pda_nil))) pda_nil))))))))) pda_nil))))))), ?_⟩
  clear W T hr hgd G__law_lag g__law_lag k__law_lag b__law_lag f__law_lag fd__law_lag G__law_some g__law_some k__law_some b__law_some f__law_some fd__law_some G__law_take g__law_take k__law_take b__law_take f__law_take fd__law_take
  rintro bag xs Q hl ⟨b, m, hb, hm, rfl, h0, hQ⟩
  clear hl
  replace hQ : ∀ z bag', (∃ t : Int, z = .int t ∧ 1 ≤ t ∧ b.lag ≤ t ∧ t ≤ 400) → Bag (m + 2) bag' → Q z bag'   := hQ
  have hm : m + 2 < 2 ^ 60 := hm
  have e : (some (.own bag) :: rhoP (nm__law_ticks.length - 1) [.d] [eB b] : Rho) = [some (.own bag), some (.d (eB b)), none] := rfl
  rw [e]
  clear e
  have lg := h0.lag0
  refine seqI fun kk hk => ?_
  simp only [dSeq, dAsg, dCB, dCons, dNil, dVar, onVs, vals, val, slot, setR, fGcd, dIfS, dTV, dOp, dBin, onV2, fLt, fLe, fGt, fGe, fAdd, fSub, fMul, fDiv, fMod, fI0, dC, dUn, onV, fNeg, dNext, dRet, dTup, onD, dats, fDivZ, fI, fPow, Few, retP, fAbs, fInt, fMax, fMin, fLen, fSqrt, fEq, fNe, dNot, dAnd, dOr, dAndV, dOrV, dNotV, dIfE, dDrop, dRetN, dPar, noO, dSetL, dLst, dOfL, dOwnM, onOwn, onDat, kAppend, kInsert, dSetItem, dAddItem, dIx, onItems, items, onInt, dNoPart, dPart, dSlice, onL, litems, dSlL, dCat, onM, mitems, dTupOf, dSeqI, dRng1, dRng2, dCallP, dCallB, dCallF, noSelf, onArgs, dats2, dIsi, tyName, dYes, dgTup, dgCons, dgNil, retB, dBreak, dCont, ne_eq, not_false_eq_true, true_and, and_true, List.getElem?_cons_zero, List.getElem?_cons_succ, List.set_cons_zero, List.set_cons_succ, Option.map, List.length_cons, List.length_nil, dParM, dmNil, dmD, dmL, setM, dLc_eq, dLc2_eq, dFor_eq, dSortSet, dSort, dListOf, dIsN, dNotN, isNo, dAug, dMulA, dgUnl, dCatT, dSlT, onT, titems, dEnum, dZip, dZipM, seqs, dRetL, dPar3, dRevT, dLstRg, dTupRg, dRg1, dRg2, dChainLe, List.nil_append, List.cons_append, if_true, if_false, dFrz, dLcO, dMin2D, dAppX, dParL, dParLL, dRepL, fMax3, dNewDic, dDicPut, dDicGet, dSortDic, onDic, onKey, dLcW, dZipX, dParR, dDead, dSortD, dSortDT, fNeS, fEqS, dgSet, dTupZip, dFgt, fIsB, fNotB, List.map_cons, List.map_nil, fw0, fw1, fw2, fw3, fw4, fw5, fw6, fw7, fw8, fw9, fw10, fw11, fw12, fw13, fw14, fw15]
  refine u__law_lag h0.bd (by decide) ?_
  simp only [dSeq, dAsg, dCB, dCons, dNil, dVar, onVs, vals, val, slot, setR, fGcd, dIfS, dTV, dOp, dBin, onV2, fLt, fLe, fGt, fGe, fAdd, fSub, fMul, fDiv, fMod, fI0, dC, dUn, onV, fNeg, dNext, dRet, dTup, onD, dats, fDivZ, fI, fPow, Few, retP, fAbs, fInt, fMax, fMin, fLen, fSqrt, fEq, fNe, dNot, dAnd, dOr, dAndV, dOrV, dNotV, dIfE, dDrop, dRetN, dPar, noO, dSetL, dLst, dOfL, dOwnM, onOwn, onDat, kAppend, kInsert, dSetItem, dAddItem, dIx, onItems, items, onInt, dNoPart, dPart, dSlice, onL, litems, dSlL, dCat, onM, mitems, dTupOf, dSeqI, dRng1, dRng2, dCallP, dCallB, dCallF, noSelf, onArgs, dats2, dIsi, tyName, dYes, dgTup, dgCons, dgNil, retB, dBreak, dCont, ne_eq, not_false_eq_true, true_and, and_true, List.getElem?_cons_zero, List.getElem?_cons_succ, List.set_cons_zero, List.set_cons_succ, Option.map, List.length_cons, List.length_nil, dParM, dmNil, dmD, dmL, setM, dLc_eq, dLc2_eq, dFor_eq, dSortSet, dSort, dListOf, dIsN, dNotN, isNo, dAug, dMulA, dgUnl, dCatT, dSlT, onT, titems, dEnum, dZip, dZipM, seqs, dRetL, dPar3, dRevT, dLstRg, dTupRg, dRg1, dRg2, dChainLe, List.nil_append, List.cons_append, if_true, if_false, dFrz, dLcO, dMin2D, dAppX, dParL, dParLL, dRepL, fMax3, dNewDic, dDicPut, dDicGet, dSortDic, onDic, onKey, dLcW, dZipX, dParR, dDead, dSortD, dSortDT, fNeS, fEqS, dgSet, dTupZip, dFgt, fIsB, fNotB, List.map_cons, List.map_nil, fw0, fw1, fw2, fw3, fw4, fw5, fw6, fw7, fw8, fw9, fw10, fw11, fw12, fw13, fw14, fw15]
  have e1 : 1 ≤ (if b.lag > 1 then b.lag else 1) ∧ b.lag ≤ (if b.lag > 1 then b.lag else 1) ∧ (if b.lag > 1 then b.lag else 1) ≤ 30 := by split <;> omega
  generalize (if b.lag > 1 then b.lag else 1) = q at *
  have bq : Bd 5 q := bd_of 30 (by omega) (by omega)
  have b3 : Bd 2 3 := by unfold Bd; decide
  have b10 : Bd 4 10 := by unfold Bd; decide
  rw [hk]
  clear hk
  simp only [dSeq, dAsg, dCB, dCons, dNil, dVar, onVs, vals, val, slot, setR, fGcd, dIfS, dTV, dOp, dBin, onV2, fLt, fLe, fGt, fGe, fAdd, fSub, fMul, fDiv, fMod, fI0, dC, dUn, onV, fNeg, dNext, dRet, dTup, onD, dats, fDivZ, fI, fPow, Few, retP, fAbs, fInt, fMax, fMin, fLen, fSqrt, fEq, fNe, dNot, dAnd, dOr, dAndV, dOrV, dNotV, dIfE, dDrop, dRetN, dPar, noO, dSetL, dLst, dOfL, dOwnM, onOwn, onDat, kAppend, kInsert, dSetItem, dAddItem, dIx, onItems, items, onInt, dNoPart, dPart, dSlice, onL, litems, dSlL, dCat, onM, mitems, dTupOf, dSeqI, dRng1, dRng2, dCallP, dCallB, dCallF, noSelf, onArgs, dats2, dIsi, tyName, dYes, dgTup, dgCons, dgNil, retB, dBreak, dCont, ne_eq, not_false_eq_true, true_and, and_true, List.getElem?_cons_zero, List.getElem?_cons_succ, List.set_cons_zero, List.set_cons_succ, Option.map, List.length_cons, List.length_nil, dParM, dmNil, dmD, dmL, setM, dLc_eq, dLc2_eq, dFor_eq, dSortSet, dSort, dListOf, dIsN, dNotN, isNo, dAug, dMulA, dgUnl, dCatT, dSlT, onT, titems, dEnum, dZip, dZipM, seqs, dRetL, dPar3, dRevT, dLstRg, dTupRg, dRg1, dRg2, dChainLe, List.nil_append, List.cons_append, if_true, if_false, dFrz, dLcO, dMin2D, dAppX, dParL, dParLL, dRepL, fMax3, dNewDic, dDicPut, dDicGet, dSortDic, onDic, onKey, dLcW, dZipX, dParR, dDead, dSortD, dSortDT, fNeS, fEqS, dgSet, dTupZip, dFgt, fIsB, fNotB, List.map_cons, List.map_nil, fw0, fw1, fw2, fw3, fw4, fw5, fw6, fw7, fw8, fw9, fw10, fw11, fw12, fw13, fw14, fw15]
  refine ⟨cmb b3 bq, cmb b10 bq, u_take hb (by omega) (by omega) (by omega) fun v bag1 v0 v1 hb1 => ?_⟩
  refine u_some hb1 (by omega) (by simp) (by simp) fun y hy bag2 hb2 => ?_
  have hw : ∃ w : Int, y = .int w ∧ 0 ≤ w ∧ w ≤ 300 := by
    simp only [List.mem_cons, List.not_mem_nil, or_false] at hy
    rcases hy with rfl | rfl | rfl | rfl | rfl | rfl | rfl
    all_goals exact ⟨_, rfl, by omega, by omega⟩
  obtain ⟨w, rfl, w2, w3⟩ := hw
  simp only [dSeq, dAsg, dCB, dCons, dNil, dVar, onVs, vals, val, slot, setR, fGcd, dIfS, dTV, dOp, dBin, onV2, fLt, fLe, fGt, fGe, fAdd, fSub, fMul, fDiv, fMod, fI0, dC, dUn, onV, fNeg, dNext, dRet, dTup, onD, dats, fDivZ, fI, fPow, Few, retP, fAbs, fInt, fMax, fMin, fLen, fSqrt, fEq, fNe, dNot, dAnd, dOr, dAndV, dOrV, dNotV, dIfE, dDrop, dRetN, dPar, noO, dSetL, dLst, dOfL, dOwnM, onOwn, onDat, kAppend, kInsert, dSetItem, dAddItem, dIx, onItems, items, onInt, dNoPart, dPart, dSlice, onL, litems, dSlL, dCat, onM, mitems, dTupOf, dSeqI, dRng1, dRng2, dCallP, dCallB, dCallF, noSelf, onArgs, dats2, dIsi, tyName, dYes, dgTup, dgCons, dgNil, retB, dBreak, dCont, ne_eq, not_false_eq_true, true_and, and_true, List.getElem?_cons_zero, List.getElem?_cons_succ, List.set_cons_zero, List.set_cons_succ, Option.map, List.length_cons, List.length_nil, dParM, dmNil, dmD, dmL, setM, dLc_eq, dLc2_eq, dFor_eq, dSortSet, dSort, dListOf, dIsN, dNotN, isNo, dAug, dMulA, dgUnl, dCatT, dSlT, onT, titems, dEnum, dZip, dZipM, seqs, dRetL, dPar3, dRevT, dLstRg, dTupRg, dRg1, dRg2, dChainLe, List.nil_append, List.cons_append, if_true, if_false, dFrz, dLcO, dMin2D, dAppX, dParL, dParLL, dRepL, fMax3, dNewDic, dDicPut, dDicGet, dSortDic, onDic, onKey, dLcW, dZipX, dParR, dDead, dSortD, dSortDT, fNeS, fEqS, dgSet, dTupZip, dFgt, fIsB, fNotB, List.map_cons, List.map_nil, fw0, fw1, fw2, fw3, fw4, fw5, fw6, fw7, fw8, fw9, fw10, fw11, fw12, fw13, fw14, fw15]
  exact hQ _ _ ⟨_, rfl, by omega, by omega, by omega⟩ hb2
set_option maxHeartbeats 4000000 in
theorem ok__law_greatest_near {f : Addr} {fd : FuncData} (W : Fun K "_law_greatest_near" "_law_greatest_near" s__law_greatest_near f fd) (T : Bi mg)
    {f__law_is_enough : Addr} {fd__law_is_enough : FuncData} (G__law_is_enough : FnG P w K mg base CX0 2 f__law_is_enough fd__law_is_enough ["_law_bounds_here", "_law_ticks_here"] (spP K TT [.d, .d] S__law_is_enough)) (g__law_is_enough : mg "_law_is_enough" = some (.ref f__law_is_enough)) (k__law_is_enough : PySem.W.keepIn K (.ref f__law_is_enough) = true) (b__law_is_enough : Binds K fd__law_is_enough ["_law_bounds_here", "_law_ticks_here"] []) :
    FnG P w K mg base CX0 3 f fd ["_law_bounds_here", "_law_ticks_here"] (spP K TT [.d, .d] S__law_greatest_near) := by
  refine fnP W sc__law_greatest_near rfl fun cdv A out s H E Nn hr hgd => ⟨_, _, (dss_cons (ds_set (i := 2) sc__law_greatest_near.nd pd_non fixP)
      (dss_cons (ds_for PassesOwn.never rfl (pdi_range2 rfl T.b_range (pda_cons pd_int (pda_cons (pd_add (pd_ix (pdv 0) pd_int (fun _ _ => rfl)) pd_int) pda_nil))) (pgd_name (i := 3) sc__law_greatest_near.nd) (dss_one (ds_if (pt_v (pd_callP G__law_is_enough m__law_is_enough (hr.mono (by decide)) hgd rfl g__law_is_enough k__law_is_enough b__law_is_enough (pda_cons (pd_catT (pd_tup (pda_cons (pd_ix (pdv 0) pd_int (fun _ _ => rfl)) (pda_cons (pdv 3) pda_nil))) (pd_sliceT (pdv 0) (pdo_some pd_int) pdo_none)) (pda_cons (pdv 1) pda_nil)))) (dss_one (ds_set (i := 2) sc__law_greatest_near.nd (pdv 3) fixP)) dss_nil)) nofixP)
      (dss_one (ds_ret (pdv 2))))), ?_⟩
  clear W T hr hgd G__law_is_enough g__law_is_enough k__law_is_enough b__law_is_enough f__law_is_enough fd__law_is_enough
  rintro xs Q hl ⟨⟨b, t⟩, rfl, ⟨h0, h1, h2⟩, hQ⟩
  clear hl
  replace hQ : ∀ z, ((z = .none ∧ ¬ enough (b.nr 1) t) ∨ (∃ m, z = .int m ∧ 1 ≤ m ∧ m < b.sp ∧ enough (b.nr m) t ∧ ¬ enough (b.nr (m + 1)) t)) → Q z   := hQ
  have e : rhoP nm__law_greatest_near.length [.d, .d] [eB b, .int t] = [some (.d (eB b)), some (.d (.int t)), none, none] := rfl
  rw [e]
  clear e
  have s0 := h0.sp0
  have s1 := h0.sp1
  have wn := h0.wind0
  have bt : Bd 60 t := bd_of 1000000 (by omega) (by omega)
  have bb : ∀ x : Int, -2000 ≤ x → x ≤ 2000 → BnB 60 (b.nr x) := fun x x0 x1 => ⟨h0.bd.sp.up (by decide), (bd_of 2000 x0 x1 : Bd 60 x), h0.bd.wind.up (by decide), h0.bd.clk.up (by decide), h0.bd.fall.up (by decide), h0.bd.way.up (by decide)⟩
  have d1 : DV.cutD [PyData.int b.sp, .int b.near, .int b.wind, .int b.clk, .int b.fall, .int b.way, .int b.sil, .int b.cuts, .int b.deep] (some 2) none = [.int b.wind, .int b.clk, .int b.fall, .int b.way, .int b.sil, .int b.cuts, .int b.deep] := by rw [cut_drop (by decide)]; rfl
  refine seqI fun kk hk => ?_
  try simp only [dSeq, dAsg, dCB, dCons, dNil, dVar, onVs, vals, val, slot, setR, fGcd, dIfS, dTV, onV2, fLt, fLe, fGt, fGe, fAdd, fSub, fMul, fDiv, fMod, fI0, dC, dUn, onV, fNeg, dNext, dRet, dTup, onD, dats, fDivZ, fI, fPow, Few, retP, fAbs, fInt, fMax, fMin, fLen, fSqrt, fEq, fNe, dNot, dAnd, dOr, dAndV, dOrV, dNotV, dIfE, dDrop, dRetN, dPar, noO, dSetL, dLst, dOfL, dOwnM, onOwn, onDat, kAppend, kInsert, dSetItem, dAddItem, onItems, onInt, dNoPart, dPart, dSlice, onL, litems, dSlL, dCat, onM, mitems, dRng1, dRng2, dCallP, dCallB, dCallF, noSelf, onArgs, dats2, dIsi, tyName, dYes, dgCons, dgNil, retB, dBreak, dCont, ne_eq, not_false_eq_true, true_and, and_true, List.getElem?_cons_zero, List.getElem?_cons_succ, List.set_cons_zero, List.set_cons_succ, Option.map, List.length_cons, List.length_nil, dParM, dmNil, dmD, dmL, setM, dLc_eq, dLc2_eq, dFor_eq, dSortSet, dSort, dListOf, dIsN, dNotN, isNo, dAug, dMulA, dgUnl, dSlT, onT, dEnum, dZip, dZipM, dRetL, dPar3, dRevT, dLstRg, dTupRg, dRg1, dRg2, dChainLe, List.nil_append, List.cons_append, if_true, if_false, dFrz, dLcO, dMin2D, dAppX, dParL, dParLL, dRepL, fMax3, dNewDic, dDicPut, dDicGet, dSortDic, onDic, onKey, dLcW, dZipX, dParR, dDead, dSortD, dSortDT, fNeS, fEqS, dgSet, dTupZip, dFgt, fIsB, fNotB, List.map_cons, List.map_nil, fw0, fw1, fw2, fw3, fw4, fw5, fw6, fw7, fw8, fw9, fw10, fw11, fw12, fw13, fw14, fw15, dExtend, dExtendT, dLstDn, dMaxDf, dOp_ap, dIx_ap, dCatT_ap, dRepT_ap, items_l, items_t, items_o, ti_t, dgT_t, seqs_l, seqs_t, seqs_o, dSeqI_eq, wk_l, wk_t, wk_eP, wk_o, dTupOf_eq, tu_t, tu_l, tu_o, tu_eP, items_eW, items_eB, items_eSc, items_eLm, items_eP, items_eL, items_pr, items_enc2, items_eTm, ti_eB, ti_eW, ti_eLm, ti_eP, dgT_eSc, dgT_eLm, dgT_eL, dgT_pr, dgT_enc2, dgT_eW, dgT_eTm, seqs_eP, on0, on1, on2, on3, on4, on5, on6, on7, on8]
  rw [hk]
  clear hk
  refine seqI fun kk hk => ?_
  try simp only [dSeq, dAsg, dCB, dCons, dNil, dVar, onVs, vals, val, slot, setR, fGcd, dIfS, dTV, onV2, fLt, fLe, fGt, fGe, fAdd, fSub, fMul, fDiv, fMod, fI0, dC, dUn, onV, fNeg, dNext, dRet, dTup, onD, dats, fDivZ, fI, fPow, Few, retP, fAbs, fInt, fMax, fMin, fLen, fSqrt, fEq, fNe, dNot, dAnd, dOr, dAndV, dOrV, dNotV, dIfE, dDrop, dRetN, dPar, noO, dSetL, dLst, dOfL, dOwnM, onOwn, onDat, kAppend, kInsert, dSetItem, dAddItem, onItems, onInt, dNoPart, dPart, dSlice, onL, litems, dSlL, dCat, onM, mitems, dRng1, dRng2, dCallP, dCallB, dCallF, noSelf, onArgs, dats2, dIsi, tyName, dYes, dgCons, dgNil, retB, dBreak, dCont, ne_eq, not_false_eq_true, true_and, and_true, List.getElem?_cons_zero, List.getElem?_cons_succ, List.set_cons_zero, List.set_cons_succ, Option.map, List.length_cons, List.length_nil, dParM, dmNil, dmD, dmL, setM, dLc_eq, dLc2_eq, dFor_eq, dSortSet, dSort, dListOf, dIsN, dNotN, isNo, dAug, dMulA, dgUnl, dSlT, onT, dEnum, dZip, dZipM, dRetL, dPar3, dRevT, dLstRg, dTupRg, dRg1, dRg2, dChainLe, List.nil_append, List.cons_append, if_true, if_false, dFrz, dLcO, dMin2D, dAppX, dParL, dParLL, dRepL, fMax3, dNewDic, dDicPut, dDicGet, dSortDic, onDic, onKey, dLcW, dZipX, dParR, dDead, dSortD, dSortDT, fNeS, fEqS, dgSet, dTupZip, dFgt, fIsB, fNotB, List.map_cons, List.map_nil, fw0, fw1, fw2, fw3, fw4, fw5, fw6, fw7, fw8, fw9, fw10, fw11, fw12, fw13, fw14, fw15, dExtend, dExtendT, dLstDn, dMaxDf, dOp_ap, dIx_ap, dCatT_ap, dRepT_ap, items_l, items_t, items_o, ti_t, dgT_t, seqs_l, seqs_t, seqs_o, dSeqI_eq, wk_l, wk_t, wk_eP, wk_o, dTupOf_eq, tu_t, tu_l, tu_o, tu_eP, items_eW, items_eB, items_eSc, items_eLm, items_eP, items_eL, items_pr, items_enc2, items_eTm, ti_eB, ti_eW, ti_eLm, ti_eP, dgT_eSc, dgT_eLm, dgT_eL, dgT_pr, dgT_enc2, dgT_eW, dgT_eTm, seqs_eP, on0, on1, on2, on3, on4, on5, on6, on7, on8, eB, on0]
  refine ⟨⟨by decide, by omega, by omega⟩, for_rng (S := Option Int × Option Ent) 1 _ (fun s => [some (Ent.d (eB b)), some (Ent.d (PyData.int t)), some (.d (match s.1 with | some m => .int m | none => .none)), s.2]) (fun i s => match s.1 with | none => ∀ c : Int, 1 ≤ c → c ≤ i → ¬ enough (b.nr c) t | some m => 1 ≤ m ∧ m ≤ i ∧ enough (b.nr m) t ∧ ∀ c : Int, m < c → c ≤ i → ¬ enough (b.nr c) t) (none, none) rfl (fun c a1 a2 => by omega) (fun i s hi hI C hC => ?_) fun s hs => ?_⟩
  · simp only [setR, List.set_cons_succ, List.set_cons_zero, dSeq, dAsg, dCB, dCons, dNil, dVar, onVs, vals, val, slot, setR, fGcd, dIfS, dTV, onV2, fLt, fLe, fGt, fGe, fAdd, fSub, fMul, fDiv, fMod, fI0, dC, dUn, onV, fNeg, dNext, dRet, dTup, onD, dats, fDivZ, fI, fPow, Few, retP, fAbs, fInt, fMax, fMin, fLen, fSqrt, fEq, fNe, dNot, dAnd, dOr, dAndV, dOrV, dNotV, dIfE, dDrop, dRetN, dPar, noO, dSetL, dLst, dOfL, dOwnM, onOwn, onDat, kAppend, kInsert, dSetItem, dAddItem, onItems, onInt, dNoPart, dPart, dSlice, onL, litems, dSlL, dCat, onM, mitems, dRng1, dRng2, dCallP, dCallB, dCallF, noSelf, onArgs, dats2, dIsi, tyName, dYes, dgCons, dgNil, retB, dBreak, dCont, ne_eq, not_false_eq_true, true_and, and_true, List.getElem?_cons_zero, List.getElem?_cons_succ, List.set_cons_zero, List.set_cons_succ, Option.map, List.length_cons, List.length_nil, dParM, dmNil, dmD, dmL, setM, dLc_eq, dLc2_eq, dFor_eq, dSortSet, dSort, dListOf, dIsN, dNotN, isNo, dAug, dMulA, dgUnl, dSlT, onT, dEnum, dZip, dZipM, dRetL, dPar3, dRevT, dLstRg, dTupRg, dRg1, dRg2, dChainLe, List.nil_append, List.cons_append, if_true, if_false, dFrz, dLcO, dMin2D, dAppX, dParL, dParLL, dRepL, fMax3, dNewDic, dDicPut, dDicGet, dSortDic, onDic, onKey, dLcW, dZipX, dParR, dDead, dSortD, dSortDT, fNeS, fEqS, dgSet, dTupZip, dFgt, fIsB, fNotB, List.map_cons, List.map_nil, fw0, fw1, fw2, fw3, fw4, fw5, fw6, fw7, fw8, fw9, fw10, fw11, fw12, fw13, fw14, fw15, dExtend, dExtendT, dLstDn, dMaxDf, dOp_ap, dIx_ap, dCatT_ap, dRepT_ap, items_l, items_t, items_o, ti_t, dgT_t, seqs_l, seqs_t, seqs_o, dSeqI_eq, wk_l, wk_t, wk_eP, wk_o, dTupOf_eq, tu_t, tu_l, tu_o, tu_eP, items_eW, items_eB, items_eSc, items_eLm, items_eP, items_eL, items_pr, items_enc2, items_eTm, ti_eB, ti_eW, ti_eLm, ti_eP, dgT_eSc, dgT_eLm, dgT_eL, dgT_pr, dgT_enc2, dgT_eW, dgT_eTm, seqs_eP, on0, on1, on2, on3, on4, on5, on6, on7, on8]
    simp only [eB, items_t, ti_t, on0]
    simp only [d1, List.nil_append, List.cons_append, List.length_cons, List.length_nil]
    have hi2 : (i : Int) < b.sp := by omega
    refine ⟨by decide, u__law_is_enough (b := b.nr (1 + i)) (bb _ (by omega) (by omega)) bt (by decide) h1 (by show 1 ≤ 1 + (i : Int) + 2 * b.wind; omega) (by show 0 ≤ b.sp; omega) h0.way0 ?_⟩
    refine ite_b (c := enough (b.nr (1 + i)) t) (fun h => hC (some (1 + i), _) ⟨by omega, by omega, h, fun c c0 c1 => by omega⟩) fun h => ?_
    obtain ⟨m, s2⟩ := s
    cases m with
    | none =>
      refine hC (none, _) ?_
      intro c c0 c1
      by_cases e : c = 1 + i
      · rw [e]
        exact h
      · exact hI c c0 (by omega)
    | some m =>
      obtain ⟨m0, m1, m2, m3⟩ := hI
      refine hC (some m, _) ⟨m0, by omega, m2, fun c c0 c1 => ?_⟩
      by_cases e : c = 1 + i
      · rw [e]
        exact h
      · exact m3 c c0 (by omega)
  · show kk _
    rw [hk]
    clear hk
    simp only [dSeq, dAsg, dCB, dCons, dNil, dVar, onVs, vals, val, slot, setR, fGcd, dIfS, dTV, onV2, fLt, fLe, fGt, fGe, fAdd, fSub, fMul, fDiv, fMod, fI0, dC, dUn, onV, fNeg, dNext, dRet, dTup, onD, dats, fDivZ, fI, fPow, Few, retP, fAbs, fInt, fMax, fMin, fLen, fSqrt, fEq, fNe, dNot, dAnd, dOr, dAndV, dOrV, dNotV, dIfE, dDrop, dRetN, dPar, noO, dSetL, dLst, dOfL, dOwnM, onOwn, onDat, kAppend, kInsert, dSetItem, dAddItem, onItems, onInt, dNoPart, dPart, dSlice, onL, litems, dSlL, dCat, onM, mitems, dRng1, dRng2, dCallP, dCallB, dCallF, noSelf, onArgs, dats2, dIsi, tyName, dYes, dgCons, dgNil, retB, dBreak, dCont, ne_eq, not_false_eq_true, true_and, and_true, List.getElem?_cons_zero, List.getElem?_cons_succ, List.set_cons_zero, List.set_cons_succ, Option.map, List.length_cons, List.length_nil, dParM, dmNil, dmD, dmL, setM, dLc_eq, dLc2_eq, dFor_eq, dSortSet, dSort, dListOf, dIsN, dNotN, isNo, dAug, dMulA, dgUnl, dSlT, onT, dEnum, dZip, dZipM, dRetL, dPar3, dRevT, dLstRg, dTupRg, dRg1, dRg2, dChainLe, List.nil_append, List.cons_append, if_true, if_false, dFrz, dLcO, dMin2D, dAppX, dParL, dParLL, dRepL, fMax3, dNewDic, dDicPut, dDicGet, dSortDic, onDic, onKey, dLcW, dZipX, dParR, dDead, dSortD, dSortDT, fNeS, fEqS, dgSet, dTupZip, dFgt, fIsB, fNotB, List.map_cons, List.map_nil, fw0, fw1, fw2, fw3, fw4, fw5, fw6, fw7, fw8, fw9, fw10, fw11, fw12, fw13, fw14, fw15, dExtend, dExtendT, dLstDn, dMaxDf, dOp_ap, dIx_ap, dCatT_ap, dRepT_ap, items_l, items_t, items_o, ti_t, dgT_t, seqs_l, seqs_t, seqs_o, dSeqI_eq, wk_l, wk_t, wk_eP, wk_o, dTupOf_eq, tu_t, tu_l, tu_o, tu_eP, items_eW, items_eB, items_eSc, items_eLm, items_eP, items_eL, items_pr, items_enc2, items_eTm, ti_eB, ti_eW, ti_eLm, ti_eP, dgT_eSc, dgT_eLm, dgT_eL, dgT_pr, dgT_enc2, dgT_eW, dgT_eTm, seqs_eP, on0, on1, on2, on3, on4, on5, on6, on7, on8]
    obtain ⟨m, s2⟩ := s
    have e : ((b.sp + 1 - 1).toNat : Int) = b.sp := by omega
    cases m with
    | none =>
      have hs : ∀ c : Int, 1 ≤ c → c ≤ ((b.sp + 1 - 1).toNat : Int) → ¬ enough (b.nr c) t := hs
      exact hQ _ (.inl ⟨rfl, hs 1 (by decide) (by omega)⟩)
    | some m =>
      obtain ⟨m0, m1, m2, m3⟩ : 1 ≤ m ∧ m ≤ ((b.sp + 1 - 1).toNat : Int) ∧ enough (b.nr m) t ∧ ∀ c : Int, m < c → c ≤ ((b.sp + 1 - 1).toNat : Int) → ¬ enough (b.nr c) t := hs
      have lt : m < b.sp := by
        rcases Int.lt_or_eq_of_le (show m ≤ b.sp by omega) with z | z
        · exact z
        · rw [z] at m2
          exact absurd m2 (near_top h0 h1)
      exact hQ _ (.inr ⟨m, rfl, m0, lt, m2, m3 _ (by omega) (by omega)⟩)
set_option maxHeartbeats 4000000 in
theorem ok__law_least_spacing {f : Addr} {fd : FuncData} (W : Fun K "_law_least_spacing" "_law_least_spacing" s__law_least_spacing f fd) (T : Bi mg)
    {f__law_is_enough : Addr} {fd__law_is_enough : FuncData} (G__law_is_enough : FnG P w K mg base CX0 2 f__law_is_enough fd__law_is_enough ["_law_bounds_here", "_law_ticks_here"] (spP K TT [.d, .d] S__law_is_enough)) (g__law_is_enough : mg "_law_is_enough" = some (.ref f__law_is_enough)) (k__law_is_enough : PySem.W.keepIn K (.ref f__law_is_enough) = true) (b__law_is_enough : Binds K fd__law_is_enough ["_law_bounds_here", "_law_ticks_here"] []) :
    FnG P w K mg base CX0 3 f fd ["_law_bounds_here", "_law_ticks_here"] (spP K TT [.d, .d] S__law_least_spacing) := by
  refine fnP W sc__law_least_spacing rfl fun cdv A out s H E Nn hr hgd => ⟨_, _, (dss_cons (ds_par (i := 2) (j := 3) rfl sc__law_least_spacing.nd (pda_cons pd_int (pda_cons (pd_ix (pdv 0) pd_int (fun _ _ => rfl)) pda_nil)) fixP fixP)
      (dss_cons (ds_if (pt_no (pt_v (pd_callP G__law_is_enough m__law_is_enough (hr.mono (by decide)) hgd rfl g__law_is_enough k__law_is_enough b__law_is_enough (pda_cons (pd_catT (pd_tup (pda_cons (pdv 3) pda_nil)) (pd_sliceT (pdv 0) (pdo_some pd_int) pdo_none)) (pda_cons (pdv 1) pda_nil))))) (dss_one (ds_ret pd_non)) dss_nil)
      (dss_cons (ds_for PassesOwn.never rfl (pdi_range1 rfl T.b_range (pda_cons pd_int pda_nil)) (pgd_name (i := 4) sc__law_least_spacing.nd) (dss_cons (ds_set (i := 5) sc__law_least_spacing.nd (pd_div (pd_add (pdv 2) (pdv 3)) pd_int) fixP)
      (dss_one (ds_if (pt_w (pwd_and (pt_lt (pdv 2) (pdv 3)) (pwd_and1 (pt_v (pd_callP G__law_is_enough m__law_is_enough (hr.mono (by decide)) hgd rfl g__law_is_enough k__law_is_enough b__law_is_enough (pda_cons (pd_catT (pd_tup (pda_cons (pdv 5) pda_nil)) (pd_sliceT (pdv 0) (pdo_some pd_int) pdo_none)) (pda_cons (pdv 1) pda_nil))))))) (dss_one (ds_set (i := 3) sc__law_least_spacing.nd (pdv 5) fixP)) (dss_one (ds_if (pt_lt (pdv 2) (pdv 3)) (dss_one (ds_set (i := 2) sc__law_least_spacing.nd (pd_add (pdv 5) pd_int) fixP)) dss_nil))))) nofixP)
      (dss_one (ds_ret (pdv 2)))))), ?_⟩
  clear W T hr hgd G__law_is_enough g__law_is_enough k__law_is_enough b__law_is_enough f__law_is_enough fd__law_is_enough
  rintro xs Q hl ⟨⟨b, t⟩, rfl, ⟨h0, h1, h2⟩, hQ⟩
  clear hl
  replace hQ : ∀ z, ((z = .none ∧ ¬ enough (b.sw b.way) t) ∨ (∃ m, z = .int m ∧ 1 ≤ m ∧ m ≤ b.way ∧ enough (b.sw m) t ∧ ∀ u, 1 ≤ u → u < m → ¬ enough (b.sw u) t)) → Q z   := hQ
  have e : rhoP nm__law_least_spacing.length [.d, .d] [eB b, .int t] = [some (.d (eB b)), some (.d (.int t)), none, none, none, none] := rfl
  rw [e]
  clear e
  have s0 := h0.sp0
  have w0 := h0.way0
  have w1 := h0.way1
  have r0 := h0.r0.1
  have bt : Bd 60 t := bd_of 1000000 (by omega) (by omega)
  have bb : ∀ x : Int, -2000 ≤ x → x ≤ 2000 → BnB 60 (b.sw x) := fun x x0 x1 => ⟨(bd_of 2000 x0 x1 : Bd 60 x), h0.bd.near.up (by decide), h0.bd.wind.up (by decide), h0.bd.clk.up (by decide), h0.bd.fall.up (by decide), h0.bd.way.up (by decide)⟩
  have d1 : DV.cutD [PyData.int b.sp, .int b.near, .int b.wind, .int b.clk, .int b.fall, .int b.way, .int b.sil, .int b.cuts, .int b.deep] (some 1) none = [.int b.near, .int b.wind, .int b.clk, .int b.fall, .int b.way, .int b.sil, .int b.cuts, .int b.deep] := by rw [cut_drop (by decide)]; rfl
  have en : ∀ (s : Int) {Q : PyData → Prop}, 1 ≤ s → s ≤ b.way → Q (.bool (decide (enough (b.sw s) t))) → S__law_is_enough [.tuple [PyData.int s, .int b.near, .int b.wind, .int b.clk, .int b.fall, .int b.way, .int b.sil, .int b.cuts, .int b.deep], .int t] Q := fun s Q s0 s1 hq =>
    u__law_is_enough (b := b.sw s) (k := 60) (bb _ (by omega) (by omega)) bt (by decide) h1 r0 (by show 0 ≤ s; omega) (by show s ≤ b.way; omega) hq
  refine seqI fun kk hk => ?_
  try simp only [dSeq, dAsg, dCB, dCons, dNil, dVar, onVs, vals, val, slot, setR, fGcd, dIfS, dTV, onV2, fLt, fLe, fGt, fGe, fAdd, fSub, fMul, fDiv, fMod, fI0, dC, dUn, onV, fNeg, dNext, dRet, dTup, onD, dats, fDivZ, fI, fPow, Few, retP, fAbs, fInt, fMax, fMin, fLen, fSqrt, fEq, fNe, dNot, dAnd, dOr, dAndV, dOrV, dNotV, dIfE, dDrop, dRetN, dPar, noO, dSetL, dLst, dOfL, dOwnM, onOwn, onDat, kAppend, kInsert, dSetItem, dAddItem, onItems, onInt, dNoPart, dPart, dSlice, onL, litems, dSlL, dCat, onM, mitems, dRng1, dRng2, dCallP, dCallB, dCallF, noSelf, onArgs, dats2, dIsi, tyName, dYes, dgCons, dgNil, retB, dBreak, dCont, ne_eq, not_false_eq_true, true_and, and_true, List.getElem?_cons_zero, List.getElem?_cons_succ, List.set_cons_zero, List.set_cons_succ, Option.map, List.length_cons, List.length_nil, dParM, dmNil, dmD, dmL, setM, dLc_eq, dLc2_eq, dFor_eq, dSortSet, dSort, dListOf, dIsN, dNotN, isNo, dAug, dMulA, dgUnl, dSlT, onT, dEnum, dZip, dZipM, dRetL, dPar3, dRevT, dLstRg, dTupRg, dRg1, dRg2, dChainLe, List.nil_append, List.cons_append, if_true, if_false, dFrz, dLcO, dMin2D, dAppX, dParL, dParLL, dRepL, fMax3, dNewDic, dDicPut, dDicGet, dSortDic, onDic, onKey, dLcW, dZipX, dParR, dDead, dSortD, dSortDT, fNeS, fEqS, dgSet, dTupZip, dFgt, fIsB, fNotB, List.map_cons, List.map_nil, fw0, fw1, fw2, fw3, fw4, fw5, fw6, fw7, fw8, fw9, fw10, fw11, fw12, fw13, fw14, fw15, dExtend, dExtendT, dLstDn, dMaxDf, dOp_ap, dIx_ap, dCatT_ap, dRepT_ap, items_l, items_t, items_o, ti_t, dgT_t, seqs_l, seqs_t, seqs_o, dSeqI_eq, wk_l, wk_t, wk_eP, wk_o, dTupOf_eq, tu_t, tu_l, tu_o, tu_eP, items_eW, items_eB, items_eSc, items_eLm, items_eP, items_eL, items_pr, items_enc2, items_eTm, ti_eB, ti_eW, ti_eLm, ti_eP, dgT_eSc, dgT_eLm, dgT_eL, dgT_pr, dgT_enc2, dgT_eW, dgT_eTm, seqs_eP, on0, on1, on2, on3, on4, on5, on6, on7, on8, eB, on5]
  rw [hk]
  clear hk
  refine seqI fun kk hk => ?_
  try simp only [dSeq, dAsg, dCB, dCons, dNil, dVar, onVs, vals, val, slot, setR, fGcd, dIfS, dTV, onV2, fLt, fLe, fGt, fGe, fAdd, fSub, fMul, fDiv, fMod, fI0, dC, dUn, onV, fNeg, dNext, dRet, dTup, onD, dats, fDivZ, fI, fPow, Few, retP, fAbs, fInt, fMax, fMin, fLen, fSqrt, fEq, fNe, dNot, dAnd, dOr, dAndV, dOrV, dNotV, dIfE, dDrop, dRetN, dPar, noO, dSetL, dLst, dOfL, dOwnM, onOwn, onDat, kAppend, kInsert, dSetItem, dAddItem, onItems, onInt, dNoPart, dPart, dSlice, onL, litems, dSlL, dCat, onM, mitems, dRng1, dRng2, dCallP, dCallB, dCallF, noSelf, onArgs, dats2, dIsi, tyName, dYes, dgCons, dgNil, retB, dBreak, dCont, ne_eq, not_false_eq_true, true_and, and_true, List.getElem?_cons_zero, List.getElem?_cons_succ, List.set_cons_zero, List.set_cons_succ, Option.map, List.length_cons, List.length_nil, dParM, dmNil, dmD, dmL, setM, dLc_eq, dLc2_eq, dFor_eq, dSortSet, dSort, dListOf, dIsN, dNotN, isNo, dAug, dMulA, dgUnl, dSlT, onT, dEnum, dZip, dZipM, dRetL, dPar3, dRevT, dLstRg, dTupRg, dRg1, dRg2, dChainLe, List.nil_append, List.cons_append, if_true, if_false, dFrz, dLcO, dMin2D, dAppX, dParL, dParLL, dRepL, fMax3, dNewDic, dDicPut, dDicGet, dSortDic, onDic, onKey, dLcW, dZipX, dParR, dDead, dSortD, dSortDT, fNeS, fEqS, dgSet, dTupZip, dFgt, fIsB, fNotB, List.map_cons, List.map_nil, fw0, fw1, fw2, fw3, fw4, fw5, fw6, fw7, fw8, fw9, fw10, fw11, fw12, fw13, fw14, fw15, dExtend, dExtendT, dLstDn, dMaxDf, dOp_ap, dIx_ap, dCatT_ap, dRepT_ap, items_l, items_t, items_o, ti_t, dgT_t, seqs_l, seqs_t, seqs_o, dSeqI_eq, wk_l, wk_t, wk_eP, wk_o, dTupOf_eq, tu_t, tu_l, tu_o, tu_eP, items_eW, items_eB, items_eSc, items_eLm, items_eP, items_eL, items_pr, items_enc2, items_eTm, ti_eB, ti_eW, ti_eLm, ti_eP, dgT_eSc, dgT_eLm, dgT_eL, dgT_pr, dgT_enc2, dgT_eW, dgT_eTm, seqs_eP, on0, on1, on2, on3, on4, on5, on6, on7, on8]
  simp only [d1, List.nil_append, List.cons_append, List.length_cons, List.length_nil]
  refine ⟨by decide, en _ (by omega) (by omega) ?_⟩
  refine ite_nb (fun h => hQ _ (.inl ⟨rfl, h⟩)) fun hw => ?_
  rw [hk]
  clear hk
  refine seqI fun kk hk => ?_
  try simp only [dSeq, dAsg, dCB, dCons, dNil, dVar, onVs, vals, val, slot, setR, fGcd, dIfS, dTV, onV2, fLt, fLe, fGt, fGe, fAdd, fSub, fMul, fDiv, fMod, fI0, dC, dUn, onV, fNeg, dNext, dRet, dTup, onD, dats, fDivZ, fI, fPow, Few, retP, fAbs, fInt, fMax, fMin, fLen, fSqrt, fEq, fNe, dNot, dAnd, dOr, dAndV, dOrV, dNotV, dIfE, dDrop, dRetN, dPar, noO, dSetL, dLst, dOfL, dOwnM, onOwn, onDat, kAppend, kInsert, dSetItem, dAddItem, onItems, onInt, dNoPart, dPart, dSlice, onL, litems, dSlL, dCat, onM, mitems, dRng1, dRng2, dCallP, dCallB, dCallF, noSelf, onArgs, dats2, dIsi, tyName, dYes, dgCons, dgNil, retB, dBreak, dCont, ne_eq, not_false_eq_true, true_and, and_true, List.getElem?_cons_zero, List.getElem?_cons_succ, List.set_cons_zero, List.set_cons_succ, Option.map, List.length_cons, List.length_nil, dParM, dmNil, dmD, dmL, setM, dLc_eq, dLc2_eq, dFor_eq, dSortSet, dSort, dListOf, dIsN, dNotN, isNo, dAug, dMulA, dgUnl, dSlT, onT, dEnum, dZip, dZipM, dRetL, dPar3, dRevT, dLstRg, dTupRg, dRg1, dRg2, dChainLe, List.nil_append, List.cons_append, if_true, if_false, dFrz, dLcO, dMin2D, dAppX, dParL, dParLL, dRepL, fMax3, dNewDic, dDicPut, dDicGet, dSortDic, onDic, onKey, dLcW, dZipX, dParR, dDead, dSortD, dSortDT, fNeS, fEqS, dgSet, dTupZip, dFgt, fIsB, fNotB, List.map_cons, List.map_nil, fw0, fw1, fw2, fw3, fw4, fw5, fw6, fw7, fw8, fw9, fw10, fw11, fw12, fw13, fw14, fw15, dExtend, dExtendT, dLstDn, dMaxDf, dOp_ap, dIx_ap, dCatT_ap, dRepT_ap, items_l, items_t, items_o, ti_t, dgT_t, seqs_l, seqs_t, seqs_o, dSeqI_eq, wk_l, wk_t, wk_eP, wk_o, dTupOf_eq, tu_t, tu_l, tu_o, tu_eP, items_eW, items_eB, items_eSc, items_eLm, items_eP, items_eL, items_pr, items_enc2, items_eTm, ti_eB, ti_eW, ti_eLm, ti_eP, dgT_eSc, dgT_eLm, dgT_eL, dgT_pr, dgT_enc2, dgT_eW, dgT_eTm, seqs_eP, on0, on1, on2, on3, on4, on5, on6, on7, on8]
  refine ⟨⟨by decide, by decide⟩, for_rng (S := Int × Int × Option Ent × Option Ent) 0 _ (fun s => [some (Ent.d (eB b)), some (Ent.d (PyData.int t)), some (.d (.int s.1)), some (.d (.int s.2.1)), s.2.2.1, s.2.2.2]) (fun i s => 1 ≤ s.1 ∧ s.1 ≤ s.2.1 ∧ s.2.1 ≤ b.way ∧ enough (b.sw s.2.1) t ∧ (∀ u, 1 ≤ u → u < s.1 → ¬ enough (b.sw u) t) ∧ s.2.1 - s.1 < 2 ^ (40 - i)) (1, b.way, none, none) rfl ⟨Int.le_refl 1, by show 1 ≤ b.way; omega, by show b.way ≤ b.way; omega, hw, fun u a1 a2 => by omega, by show b.way - 1 < 2 ^ (40 - 0); omega⟩ (fun i s hi hI C hC => ?_) fun s hs => ?_⟩
  · obtain ⟨low, high, s1, s2⟩ := s
    obtain ⟨a1, a2, a3, a4, a5, a6⟩ := hI
    dsimp only at a1 a2 a3 a4 a5 a6
    have hi40 : i < 40 := hi
    have e2 : (2 : Int) ^ (40 - i) = 2 * 2 ^ (40 - (i + 1)) := by
      rw [show 40 - i = (40 - (i + 1)) + 1 by omega, Int.pow_succ]; omega
    rw [e2] at a6
    generalize hp : (2 : Int) ^ (40 - (i + 1)) = pw at *
    have ndiv : (low + high) / 2 * 2 ≤ low + high ∧ low + high < (low + high) / 2 * 2 + 2 := by omega
    simp only [setR, List.set_cons_succ, List.set_cons_zero]
    have b2 : Bd 2 2 := by unfold Bd; decide
    refine seqI fun kk3 hk3 => ?_
    try simp only [dSeq, dAsg, dCB, dCons, dNil, dVar, onVs, vals, val, slot, setR, fGcd, dIfS, dTV, onV2, fLt, fLe, fGt, fGe, fAdd, fSub, fMul, fDiv, fMod, fI0, dC, dUn, onV, fNeg, dNext, dRet, dTup, onD, dats, fDivZ, fI, fPow, Few, retP, fAbs, fInt, fMax, fMin, fLen, fSqrt, fEq, fNe, dNot, dAnd, dOr, dAndV, dOrV, dNotV, dIfE, dDrop, dRetN, dPar, noO, dSetL, dLst, dOfL, dOwnM, onOwn, onDat, kAppend, kInsert, dSetItem, dAddItem, onItems, onInt, dNoPart, dPart, dSlice, onL, litems, dSlL, dCat, onM, mitems, dRng1, dRng2, dCallP, dCallB, dCallF, noSelf, onArgs, dats2, dIsi, tyName, dYes, dgCons, dgNil, retB, dBreak, dCont, ne_eq, not_false_eq_true, true_and, and_true, List.getElem?_cons_zero, List.getElem?_cons_succ, List.set_cons_zero, List.set_cons_succ, Option.map, List.length_cons, List.length_nil, dParM, dmNil, dmD, dmL, setM, dLc_eq, dLc2_eq, dFor_eq, dSortSet, dSort, dListOf, dIsN, dNotN, isNo, dAug, dMulA, dgUnl, dSlT, onT, dEnum, dZip, dZipM, dRetL, dPar3, dRevT, dLstRg, dTupRg, dRg1, dRg2, dChainLe, List.nil_append, List.cons_append, if_true, if_false, dFrz, dLcO, dMin2D, dAppX, dParL, dParLL, dRepL, fMax3, dNewDic, dDicPut, dDicGet, dSortDic, onDic, onKey, dLcW, dZipX, dParR, dDead, dSortD, dSortDT, fNeS, fEqS, dgSet, dTupZip, dFgt, fIsB, fNotB, List.map_cons, List.map_nil, fw0, fw1, fw2, fw3, fw4, fw5, fw6, fw7, fw8, fw9, fw10, fw11, fw12, fw13, fw14, fw15, dExtend, dExtendT, dLstDn, dMaxDf, dOp_ap, dIx_ap, dCatT_ap, dRepT_ap, items_l, items_t, items_o, ti_t, dgT_t, seqs_l, seqs_t, seqs_o, dSeqI_eq, wk_l, wk_t, wk_eP, wk_o, dTupOf_eq, tu_t, tu_l, tu_o, tu_eP, items_eW, items_eB, items_eSc, items_eLm, items_eP, items_eL, items_pr, items_enc2, items_eTm, ti_eB, ti_eW, ti_eLm, ti_eP, dgT_eSc, dgT_eLm, dgT_eL, dgT_pr, dgT_enc2, dgT_eW, dgT_eTm, seqs_eP, on0, on1, on2, on3, on4, on5, on6, on7, on8]
    refine ⟨cdwB (by decide) b2, ?_⟩
    rw [hk3]
    clear hk3
    generalize (low + high) / 2 = mid at *
    simp only [dSeq, dAsg, dCB, dCons, dNil, dVar, onVs, vals, val, slot, setR, fGcd, dIfS, dTV, onV2, fLt, fLe, fGt, fGe, fAdd, fSub, fMul, fDiv, fMod, fI0, dC, dUn, onV, fNeg, dNext, dRet, dTup, onD, dats, fDivZ, fI, fPow, Few, retP, fAbs, fInt, fMax, fMin, fLen, fSqrt, fEq, fNe, dNot, dAnd, dOr, dAndV, dOrV, dNotV, dIfE, dDrop, dRetN, dPar, noO, dSetL, dLst, dOfL, dOwnM, onOwn, onDat, kAppend, kInsert, dSetItem, dAddItem, onItems, onInt, dNoPart, dPart, dSlice, onL, litems, dSlL, dCat, onM, mitems, dRng1, dRng2, dCallP, dCallB, dCallF, noSelf, onArgs, dats2, dIsi, tyName, dYes, dgCons, dgNil, retB, dBreak, dCont, ne_eq, not_false_eq_true, true_and, and_true, List.getElem?_cons_zero, List.getElem?_cons_succ, List.set_cons_zero, List.set_cons_succ, Option.map, List.length_cons, List.length_nil, dParM, dmNil, dmD, dmL, setM, dLc_eq, dLc2_eq, dFor_eq, dSortSet, dSort, dListOf, dIsN, dNotN, isNo, dAug, dMulA, dgUnl, dSlT, onT, dEnum, dZip, dZipM, dRetL, dPar3, dRevT, dLstRg, dTupRg, dRg1, dRg2, dChainLe, List.nil_append, List.cons_append, if_true, if_false, dFrz, dLcO, dMin2D, dAppX, dParL, dParLL, dRepL, fMax3, dNewDic, dDicPut, dDicGet, dSortDic, onDic, onKey, dLcW, dZipX, dParR, dDead, dSortD, dSortDT, fNeS, fEqS, dgSet, dTupZip, dFgt, fIsB, fNotB, List.map_cons, List.map_nil, fw0, fw1, fw2, fw3, fw4, fw5, fw6, fw7, fw8, fw9, fw10, fw11, fw12, fw13, fw14, fw15, dExtend, dExtendT, dLstDn, dMaxDf, dOp_ap, dIx_ap, dCatT_ap, dRepT_ap, items_l, items_t, items_o, ti_t, dgT_t, seqs_l, seqs_t, seqs_o, dSeqI_eq, wk_l, wk_t, wk_eP, wk_o, dTupOf_eq, tu_t, tu_l, tu_o, tu_eP, items_eW, items_eB, items_eSc, items_eLm, items_eP, items_eL, items_pr, items_enc2, items_eTm, ti_eB, ti_eW, ti_eLm, ti_eP, dgT_eSc, dgT_eLm, dgT_eL, dgT_pr, dgT_enc2, dgT_eW, dgT_eTm, seqs_eP, on0, on1, on2, on3, on4, on5, on6, on7, on8, eB]
    simp only [d1, List.nil_append, List.cons_append, List.length_cons, List.length_nil]
    refine ite_b (c := low < high) (fun hlt => ?_) fun hge => ?_
    · refine ⟨by decide, en _ (by omega) (by omega) ?_⟩
      refine ite_b (c := enough (b.sw mid) t) (fun hm => ?_) fun hm => ?_
      · exact hC (low, mid, _, _) ⟨a1, by show low ≤ mid; omega, by show mid ≤ _; omega, hm, a5, by show mid - low < pw; omega⟩
      · refine ite_t hlt ?_
        refine hC (mid + 1, high, _, _) ⟨by show 1 ≤ mid + 1; omega, by show mid + 1 ≤ high; omega, a3, a4, fun u u0 u1 hu => ?_, by show high - (mid + 1) < pw; omega⟩
        exact hm (sw_mono (by omega) (by have : u < mid + 1 := u1; omega) hu)
    · simp only [Bool.false_eq_true, if_false]
      refine ite_f hge ?_
      exact hC (low, high, _, _) ⟨a1, a2, a3, a4, a5, by show high - low < pw; have : 0 < pw := (by rw [← hp]; exact Int.pow_pos (by decide)); omega⟩
  · show kk _
    rw [hk]
    obtain ⟨a1, a2, a3, a4, a5, a6⟩ := hs
    simp only [dSeq, dAsg, dCB, dCons, dNil, dVar, onVs, vals, val, slot, setR, fGcd, dIfS, dTV, onV2, fLt, fLe, fGt, fGe, fAdd, fSub, fMul, fDiv, fMod, fI0, dC, dUn, onV, fNeg, dNext, dRet, dTup, onD, dats, fDivZ, fI, fPow, Few, retP, fAbs, fInt, fMax, fMin, fLen, fSqrt, fEq, fNe, dNot, dAnd, dOr, dAndV, dOrV, dNotV, dIfE, dDrop, dRetN, dPar, noO, dSetL, dLst, dOfL, dOwnM, onOwn, onDat, kAppend, kInsert, dSetItem, dAddItem, onItems, onInt, dNoPart, dPart, dSlice, onL, litems, dSlL, dCat, onM, mitems, dRng1, dRng2, dCallP, dCallB, dCallF, noSelf, onArgs, dats2, dIsi, tyName, dYes, dgCons, dgNil, retB, dBreak, dCont, ne_eq, not_false_eq_true, true_and, and_true, List.getElem?_cons_zero, List.getElem?_cons_succ, List.set_cons_zero, List.set_cons_succ, Option.map, List.length_cons, List.length_nil, dParM, dmNil, dmD, dmL, setM, dLc_eq, dLc2_eq, dFor_eq, dSortSet, dSort, dListOf, dIsN, dNotN, isNo, dAug, dMulA, dgUnl, dSlT, onT, dEnum, dZip, dZipM, dRetL, dPar3, dRevT, dLstRg, dTupRg, dRg1, dRg2, dChainLe, List.nil_append, List.cons_append, if_true, if_false, dFrz, dLcO, dMin2D, dAppX, dParL, dParLL, dRepL, fMax3, dNewDic, dDicPut, dDicGet, dSortDic, onDic, onKey, dLcW, dZipX, dParR, dDead, dSortD, dSortDT, fNeS, fEqS, dgSet, dTupZip, dFgt, fIsB, fNotB, List.map_cons, List.map_nil, fw0, fw1, fw2, fw3, fw4, fw5, fw6, fw7, fw8, fw9, fw10, fw11, fw12, fw13, fw14, fw15, dExtend, dExtendT, dLstDn, dMaxDf, dOp_ap, dIx_ap, dCatT_ap, dRepT_ap, items_l, items_t, items_o, ti_t, dgT_t, seqs_l, seqs_t, seqs_o, dSeqI_eq, wk_l, wk_t, wk_eP, wk_o, dTupOf_eq, tu_t, tu_l, tu_o, tu_eP, items_eW, items_eB, items_eSc, items_eLm, items_eP, items_eL, items_pr, items_enc2, items_eTm, ti_eB, ti_eW, ti_eLm, ti_eP, dgT_eSc, dgT_eLm, dgT_eL, dgT_pr, dgT_enc2, dgT_eW, dgT_eTm, seqs_eP, on0, on1, on2, on3, on4, on5, on6, on7, on8]
    have e : s.2.1 = s.1 := by
      have : s.2.1 - s.1 < 2 ^ (40 - 40) := a6
      rw [show (2 : Int) ^ (40 - 40) = 1 from rfl] at this
      omega
    rw [e] at a3 a4
    exact hQ _ (.inr ⟨_, rfl, a1, a3, a4, a5⟩)
set_option maxHeartbeats 4000000 in
theorem ok_greatest_near {f : Addr} {fd : FuncData} (W : Fun K "greatest_near" "greatest_near" s_greatest_near f fd) (T : Bi mg)
    {f_least_from : Addr} {fd_least_from : FuncData} (G_least_from : ∀ {k : Nat}, FnL P w K mg base TT k f_least_from fd_least_from "first" "is_so" S_least_from) (g_least_from : mg "least_from" = some (.ref f_least_from)) (k_least_from : PySem.W.keepIn K (.ref f_least_from) = true) (b_least_from : Binds K fd_least_from ["first", "is_so"] [])
    {f_is_enough : Addr} {fd_is_enough : FuncData} (G_is_enough : FnG P w K mg base CX0 2 f_is_enough fd_is_enough ["bounds", "ticks"] (spP K TT [.d, .d] S_is_enough)) (g_is_enough : mg "is_enough" = some (.ref f_is_enough)) (k_is_enough : PySem.W.keepIn K (.ref f_is_enough) = true) (b_is_enough : Binds K fd_is_enough ["bounds", "ticks"] [])
    {f__with : Addr} {fd__with : FuncData} (G__with : FnG P w K mg base CX0 1 f__with fd__with ["bounds", "place", "number"] (spP K TT [.d, .d, .d] S__with)) (g__with : mg "_with" = some (.ref f__with)) (k__with : PySem.W.keepIn K (.ref f__with) = true) (b__with : Binds K fd__with ["bounds", "place", "number"] [])
    {cc pc : Addr} (hfc : fd.code = .ref cc) (TB : LamX.TabB base mg cc pc) (hmT : (pc, ("greatest_near" : Str) ++ ".<locals>." ++ "<lambda>") ∈ TT) (hu : ∀ p ∈ TT, p.1 = pc → p.2 = ("greatest_near" : Str) ++ ".<locals>." ++ "<lambda>") :
    FnG P w K mg base CX0 5 f fd ["bounds", "ticks"] (spP K TT [.d, .d] S_greatest_near) := by
  refine fnPC W sc_greatest_near rfl fun cdv hcd A out s H E Nn hr hgd => ⟨_, _, (dss_cons (ds_set (i := 2) sc_greatest_near.nd (pd_callL (k := 2) (Nl := ["near", "ticks", "bounds"]) (fr := ["ticks", "bounds"]) (js := [1, 0]) (y := "near") G_least_from m_least_from (hr.mono (by decide)) hgd rfl g_least_from k_least_from b_least_from pd_int TB (hcd.symm.trans hfc) hmT hu (fun q f c' cl A out s3 H3 E N hr hgd => ⟨_, (pd_not (pd_callP G_is_enough m_is_enough (hr.mono (by decide)) hgd rfl g_is_enough k_is_enough b_is_enough (pda_cons (pd_callP G__with m__with (hr.mono (by decide)) hgd rfl g__with k__with b__with (pda_cons (pdv 2) (pda_cons (pd_globI rfl T.c_NEAR) (pda_cons (pdv 0) pda_nil)))) (pda_cons (pdv 1) pda_nil))))⟩) (by decide +kernel) (by show NdefX.ndefB (defScope s_greatest_near) _ _ = true; decide +kernel) rfl) fixP)
      (dss_one (ds_ret (pd_ifExp (pt_eq hr.units rfl (pdv 2) pd_int) pd_non (pd_sub (pdv 2) pd_int))))), ?_⟩
  clear W T hr hgd G_least_from g_least_from k_least_from b_least_from f_least_from fd_least_from G_is_enough g_is_enough k_is_enough b_is_enough f_is_enough fd_is_enough G__with g__with k__with b__with f__with fd__with
  rintro xs Q hl ⟨⟨b, t⟩, rfl, ⟨h0, h1, h2⟩, hQ⟩
  clear hl
  replace hQ : ∀ z, ((z = .none ∧ ¬ enough (b.nr 1) t) ∨ (∃ m, z = .int m ∧ 1 ≤ m ∧ m < b.sp ∧ enough (b.nr m) t ∧ ¬ enough (b.nr (m + 1)) t)) → Q z   := hQ
  have e : rhoP nm_greatest_near.length [.d, .d] [eB b, .int t] = [some (.d (eB b)), some (.d (.int t)), none] := rfl
  rw [e]
  clear e
  have s0 := h0.sp0
  have s1 := h0.sp1
  have fl := flw_nn (b := b) (by omega) h0.way0
  have bt : Bd 60 t := bd_of 1000000 (by omega) (by omega)
  have bb : ∀ x : Int, -2000 ≤ x → x ≤ 2000 → BnB 60 (b.nr x) := fun x x0 x1 => ⟨h0.bd.sp.up (by decide), (bd_of 2000 x0 x1 : Bd 60 x), h0.bd.wind.up (by decide), h0.bd.clk.up (by decide), h0.bd.fall.up (by decide), h0.bd.way.up (by decide)⟩
  refine seqI fun kk hk => ?_
  simp only [dAsg, dCallL_eq]
  generalize hcl : CL _ _ S_least_from _ = cl
  simp only [dSeq, dAsg, dCB, dCons, dNil, dVar, onVs, vals, val, slot, setR, fGcd, dIfS, dTV, onV2, fLt, fLe, fGt, fGe, fAdd, fSub, fMul, fDiv, fMod, fI0, dC, dUn, onV, fNeg, dNext, dRet, dTup, onD, dats, fDivZ, fI, fPow, Few, retP, fAbs, fInt, fMax, fMin, fLen, fSqrt, fEq, fNe, dNot, dAnd, dOr, dAndV, dOrV, dNotV, dIfE, dDrop, dRetN, dPar, noO, dSetL, dLst, dOfL, dOwnM, onOwn, onDat, kAppend, kInsert, dSetItem, dAddItem, onItems, onInt, dNoPart, dPart, dSlice, onL, litems, dSlL, dCat, onM, mitems, dRng1, dRng2, dCallP, dCallB, dCallF, noSelf, onArgs, dats2, dIsi, tyName, dYes, dgCons, dgNil, retB, dBreak, dCont, ne_eq, not_false_eq_true, true_and, and_true, List.getElem?_cons_zero, List.getElem?_cons_succ, List.set_cons_zero, List.set_cons_succ, Option.map, List.length_cons, List.length_nil, dParM, dmNil, dmD, dmL, setM, dLc_eq, dLc2_eq, dFor_eq, dSortSet, dSort, dListOf, dIsN, dNotN, isNo, dAug, dMulA, dgUnl, dSlT, onT, dEnum, dZip, dZipM, dRetL, dPar3, dRevT, dLstRg, dTupRg, dRg1, dRg2, dChainLe, List.nil_append, List.cons_append, if_true, if_false, dFrz, dLcO, dMin2D, dAppX, dParL, dParLL, dRepL, fMax3, dNewDic, dDicPut, dDicGet, dSortDic, onDic, onKey, dLcW, dZipX, dParR, dDead, dSortD, dSortDT, fNeS, fEqS, dgSet, dTupZip, dFgt, fIsB, fNotB, List.map_cons, List.map_nil, fw0, fw1, fw2, fw3, fw4, fw5, fw6, fw7, fw8, fw9, fw10, fw11, fw12, fw13, fw14, fw15, dExtend, dExtendT, dLstDn, dMaxDf, dOp_ap, dIx_ap, dCatT_ap, dRepT_ap, items_l, items_t, items_o, ti_t, dgT_t, seqs_l, seqs_t, seqs_o, dSeqI_eq, wk_l, wk_t, wk_eP, wk_o, dTupOf_eq, tu_t, tu_l, tu_o, tu_eP, items_eW, items_eB, items_eSc, items_eLm, items_eP, items_eL, items_pr, items_enc2, items_eTm, ti_eB, ti_eW, ti_eLm, ti_eP, dgT_eSc, dgT_eLm, dgT_eL, dgT_pr, dgT_enc2, dgT_eW, dgT_eTm, seqs_eP, on0, on1, on2, on3, on4, on5, on6, on7, on8]
  subst hcl
  refine CL_of [.int t, eB b] (fun i => 1 ≤ i ∧ i ≤ 1000) (fun i => !decide (enough (b.nr i) t)) rfl (fun i hi => ?_) ?_
  · have e : ∀ n : Nat, n = 3 → rhoP n (.d :: List.replicate [PyData.int t, eB b].length .d) [.int i, .int t, eB b] = [some (.d (.int i)), some (.d (.int t)), some (.d (eB b))] := fun n hn => by subst hn; rfl
    rw [e]
    rotate_left
    · rfl
    simp only [dSeq, dAsg, dCB, dCons, dNil, dVar, onVs, vals, val, slot, setR, fGcd, dIfS, dTV, onV2, fLt, fLe, fGt, fGe, fAdd, fSub, fMul, fDiv, fMod, fI0, dC, dUn, onV, fNeg, dNext, dRet, dTup, onD, dats, fDivZ, fI, fPow, Few, retP, fAbs, fInt, fMax, fMin, fLen, fSqrt, fEq, fNe, dNot, dAnd, dOr, dAndV, dOrV, dNotV, dIfE, dDrop, dRetN, dPar, noO, dSetL, dLst, dOfL, dOwnM, onOwn, onDat, kAppend, kInsert, dSetItem, dAddItem, onItems, onInt, dNoPart, dPart, dSlice, onL, litems, dSlL, dCat, onM, mitems, dRng1, dRng2, dCallP, dCallB, dCallF, noSelf, onArgs, dats2, dIsi, tyName, dYes, dgCons, dgNil, retB, dBreak, dCont, ne_eq, not_false_eq_true, true_and, and_true, List.getElem?_cons_zero, List.getElem?_cons_succ, List.set_cons_zero, List.set_cons_succ, Option.map, List.length_cons, List.length_nil, dParM, dmNil, dmD, dmL, setM, dLc_eq, dLc2_eq, dFor_eq, dSortSet, dSort, dListOf, dIsN, dNotN, isNo, dAug, dMulA, dgUnl, dSlT, onT, dEnum, dZip, dZipM, dRetL, dPar3, dRevT, dLstRg, dTupRg, dRg1, dRg2, dChainLe, List.nil_append, List.cons_append, if_true, if_false, dFrz, dLcO, dMin2D, dAppX, dParL, dParLL, dRepL, fMax3, dNewDic, dDicPut, dDicGet, dSortDic, onDic, onKey, dLcW, dZipX, dParR, dDead, dSortD, dSortDT, fNeS, fEqS, dgSet, dTupZip, dFgt, fIsB, fNotB, List.map_cons, List.map_nil, fw0, fw1, fw2, fw3, fw4, fw5, fw6, fw7, fw8, fw9, fw10, fw11, fw12, fw13, fw14, fw15, dExtend, dExtendT, dLstDn, dMaxDf, dOp_ap, dIx_ap, dCatT_ap, dRepT_ap, items_l, items_t, items_o, ti_t, dgT_t, seqs_l, seqs_t, seqs_o, dSeqI_eq, wk_l, wk_t, wk_eP, wk_o, dTupOf_eq, tu_t, tu_l, tu_o, tu_eP, items_eW, items_eB, items_eSc, items_eLm, items_eP, items_eL, items_pr, items_enc2, items_eTm, ti_eB, ti_eW, ti_eLm, ti_eP, dgT_eSc, dgT_eLm, dgT_eL, dgT_pr, dgT_enc2, dgT_eW, dgT_eTm, seqs_eP, on0, on1, on2, on3, on4, on5, on6, on7, on8]
    refine u__with (w := true) (u_is_enough (b := b.nr i) (bb i (by omega) (by omega)) bt (by decide) ?_)
    rfl
  refine ⟨1, b.sp, rfl, by decide, s0, by omega, fun i a1 a2 => ⟨a1, by omega⟩, by simp only [decide_eq_false (near_top h0 h1), Bool.not_false], fun i j a1 a2 a3 a4 => ?_, fun m m0 m1 m2 m3 => ?_⟩
  · simp only [Bool.not_eq_true', decide_eq_false_iff_not] at a4 ⊢
    exact fun z => a4 (near_anti h0.wind0 fl (by omega) a2 z)
  · simp only [Bool.not_eq_true', decide_eq_false_iff_not] at m2
    have m3 : ∀ u, 1 ≤ u → u < m → enough (b.nr u) t := fun u u0 u1 => by
      have := m3 u u0 u1
      simpa only [Bool.not_eq_false', decide_eq_true_eq] using this
    rw [hk]
    clear hk
    simp only [dSeq, dAsg, dCB, dCons, dNil, dVar, onVs, vals, val, slot, setR, fGcd, dIfS, dTV, onV2, fLt, fLe, fGt, fGe, fAdd, fSub, fMul, fDiv, fMod, fI0, dC, dUn, onV, fNeg, dNext, dRet, dTup, onD, dats, fDivZ, fI, fPow, Few, retP, fAbs, fInt, fMax, fMin, fLen, fSqrt, fEq, fNe, dNot, dAnd, dOr, dAndV, dOrV, dNotV, dIfE, dDrop, dRetN, dPar, noO, dSetL, dLst, dOfL, dOwnM, onOwn, onDat, kAppend, kInsert, dSetItem, dAddItem, onItems, onInt, dNoPart, dPart, dSlice, onL, litems, dSlL, dCat, onM, mitems, dRng1, dRng2, dCallP, dCallB, dCallF, noSelf, onArgs, dats2, dIsi, tyName, dYes, dgCons, dgNil, retB, dBreak, dCont, ne_eq, not_false_eq_true, true_and, and_true, List.getElem?_cons_zero, List.getElem?_cons_succ, List.set_cons_zero, List.set_cons_succ, Option.map, List.length_cons, List.length_nil, dParM, dmNil, dmD, dmL, setM, dLc_eq, dLc2_eq, dFor_eq, dSortSet, dSort, dListOf, dIsN, dNotN, isNo, dAug, dMulA, dgUnl, dSlT, onT, dEnum, dZip, dZipM, dRetL, dPar3, dRevT, dLstRg, dTupRg, dRg1, dRg2, dChainLe, List.nil_append, List.cons_append, if_true, if_false, dFrz, dLcO, dMin2D, dAppX, dParL, dParLL, dRepL, fMax3, dNewDic, dDicPut, dDicGet, dSortDic, onDic, onKey, dLcW, dZipX, dParR, dDead, dSortD, dSortDT, fNeS, fEqS, dgSet, dTupZip, dFgt, fIsB, fNotB, List.map_cons, List.map_nil, fw0, fw1, fw2, fw3, fw4, fw5, fw6, fw7, fw8, fw9, fw10, fw11, fw12, fw13, fw14, fw15, dExtend, dExtendT, dLstDn, dMaxDf, dOp_ap, dIx_ap, dCatT_ap, dRepT_ap, items_l, items_t, items_o, ti_t, dgT_t, seqs_l, seqs_t, seqs_o, dSeqI_eq, wk_l, wk_t, wk_eP, wk_o, dTupOf_eq, tu_t, tu_l, tu_o, tu_eP, items_eW, items_eB, items_eSc, items_eLm, items_eP, items_eL, items_pr, items_enc2, items_eTm, ti_eB, ti_eW, ti_eLm, ti_eP, dgT_eSc, dgT_eLm, dgT_eL, dgT_pr, dgT_enc2, dgT_eW, dgT_eTm, seqs_eP, on0, on1, on2, on3, on4, on5, on6, on7, on8, sh_int, eqv_int]
    refine ite_b (c := m = 1) (fun e => hQ _ (.inl ⟨rfl, by rw [e] at m2; exact m2⟩)) fun e => ?_
    have lt : m - 1 < b.sp := by omega
    exact hQ _ (.inr ⟨m - 1, rfl, by omega, lt, m3 _ (by omega) (by omega), by rw [show m - 1 + 1 = m by omega]; exact m2⟩)
set_option maxHeartbeats 4000000 in
theorem ok_least_spacing {f : Addr} {fd : FuncData} (W : Fun K "least_spacing" "least_spacing" s_least_spacing f fd) (T : Bi mg)
    {f_least_from : Addr} {fd_least_from : FuncData} (G_least_from : ∀ {k : Nat}, FnL P w K mg base TT k f_least_from fd_least_from "first" "is_so" S_least_from) (g_least_from : mg "least_from" = some (.ref f_least_from)) (k_least_from : PySem.W.keepIn K (.ref f_least_from) = true) (b_least_from : Binds K fd_least_from ["first", "is_so"] [])
    {f_is_enough : Addr} {fd_is_enough : FuncData} (G_is_enough : FnG P w K mg base CX0 2 f_is_enough fd_is_enough ["bounds", "ticks"] (spP K TT [.d, .d] S_is_enough)) (g_is_enough : mg "is_enough" = some (.ref f_is_enough)) (k_is_enough : PySem.W.keepIn K (.ref f_is_enough) = true) (b_is_enough : Binds K fd_is_enough ["bounds", "ticks"] [])
    {f__with : Addr} {fd__with : FuncData} (G__with : FnG P w K mg base CX0 1 f__with fd__with ["bounds", "place", "number"] (spP K TT [.d, .d, .d] S__with)) (g__with : mg "_with" = some (.ref f__with)) (k__with : PySem.W.keepIn K (.ref f__with) = true) (b__with : Binds K fd__with ["bounds", "place", "number"] [])
    {cc pc : Addr} (hfc : fd.code = .ref cc) (TB : LamX.TabB base mg cc pc) (hmT : (pc, ("least_spacing" : Str) ++ ".<locals>." ++ "<lambda>") ∈ TT) (hu : ∀ p ∈ TT, p.1 = pc → p.2 = ("least_spacing" : Str) ++ ".<locals>." ++ "<lambda>") :
    FnG P w K mg base CX0 5 f fd ["bounds", "ticks"] (spP K TT [.d, .d] S_least_spacing) := by
  refine fnPC W sc_least_spacing rfl fun cdv hcd A out s H E Nn hr hgd => ⟨_, _, (dss_cons (ds_set (i := 2) sc_least_spacing.nd (pd_ix (pdv 0) (pd_globI rfl T.c_WAY) (fun _ _ => rfl)) fixP)
      (dss_cons (ds_if (pt_no (pt_v (pd_callP G_is_enough m_is_enough (hr.mono (by decide)) hgd rfl g_is_enough k_is_enough b_is_enough (pda_cons (pd_callP G__with m__with (hr.mono (by decide)) hgd rfl g__with k__with b__with (pda_cons (pdv 0) (pda_cons (pd_globI rfl T.c_SPACING) (pda_cons (pdv 2) pda_nil)))) (pda_cons (pdv 1) pda_nil))))) (dss_one (ds_ret pd_non)) dss_nil)
      (dss_one (ds_ret (pd_callL (k := 2) (Nl := ["spacing", "ticks", "bounds", "way"]) (fr := ["ticks", "bounds", "way"]) (js := [1, 0, 2]) (y := "spacing") G_least_from m_least_from (hr.mono (by decide)) hgd rfl g_least_from k_least_from b_least_from pd_int TB (hcd.symm.trans hfc) hmT hu (fun q f c' cl A out s3 H3 E N hr hgd => ⟨_, (pd_callP G_is_enough m_is_enough (hr.mono (by decide)) hgd rfl g_is_enough k_is_enough b_is_enough (pda_cons (pd_callP G__with m__with (hr.mono (by decide)) hgd rfl g__with k__with b__with (pda_cons (pdv 2) (pda_cons (pd_globI rfl T.c_SPACING) (pda_cons (pd_callB (call_min2 rfl) sc_min rfl T.b_min (by decide +kernel) (pda_cons (pdv 0) (pda_cons (pdv 3) pda_nil))) pda_nil)))) (pda_cons (pdv 1) pda_nil)))⟩) (by decide +kernel) (by show NdefX.ndefB (defScope s_least_spacing) _ _ = true; decide +kernel) rfl))))), ?_⟩
  clear W T hr hgd G_least_from g_least_from k_least_from b_least_from f_least_from fd_least_from G_is_enough g_is_enough k_is_enough b_is_enough f_is_enough fd_is_enough G__with g__with k__with b__with f__with fd__with
  rintro xs Q hl ⟨⟨b, t⟩, rfl, ⟨h0, h1, h2⟩, hQ⟩
  clear hl
  replace hQ : ∀ z, ((z = .none ∧ ¬ enough (b.sw b.way) t) ∨ (∃ m, z = .int m ∧ 1 ≤ m ∧ m ≤ b.way ∧ enough (b.sw m) t ∧ ∀ u, 1 ≤ u → u < m → ¬ enough (b.sw u) t)) → Q z   := hQ
  have e : rhoP nm_least_spacing.length [.d, .d] [eB b, .int t] = [some (.d (eB b)), some (.d (.int t)), none] := rfl
  rw [e]
  clear e
  have s0 := h0.sp0
  have w0 := h0.way0
  have w1 := h0.way1
  have bt : Bd 60 t := bd_of 1000000 (by omega) (by omega)
  have bb : ∀ x : Int, -2000 ≤ x → x ≤ 2000 → BnB 60 (b.sw x) := fun x x0 x1 => ⟨(bd_of 2000 x0 x1 : Bd 60 x), h0.bd.near.up (by decide), h0.bd.wind.up (by decide), h0.bd.clk.up (by decide), h0.bd.fall.up (by decide), h0.bd.way.up (by decide)⟩
  refine seqI fun kk hk => ?_
  try simp only [dSeq, dAsg, dCB, dCons, dNil, dVar, onVs, vals, val, slot, setR, fGcd, dIfS, dTV, onV2, fLt, fLe, fGt, fGe, fAdd, fSub, fMul, fDiv, fMod, fI0, dC, dUn, onV, fNeg, dNext, dRet, dTup, onD, dats, fDivZ, fI, fPow, Few, retP, fAbs, fInt, fMax, fMin, fLen, fSqrt, fEq, fNe, dNot, dAnd, dOr, dAndV, dOrV, dNotV, dIfE, dDrop, dRetN, dPar, noO, dSetL, dLst, dOfL, dOwnM, onOwn, onDat, kAppend, kInsert, dSetItem, dAddItem, onItems, onInt, dNoPart, dPart, dSlice, onL, litems, dSlL, dCat, onM, mitems, dRng1, dRng2, dCallP, dCallB, dCallF, noSelf, onArgs, dats2, dIsi, tyName, dYes, dgCons, dgNil, retB, dBreak, dCont, ne_eq, not_false_eq_true, true_and, and_true, List.getElem?_cons_zero, List.getElem?_cons_succ, List.set_cons_zero, List.set_cons_succ, Option.map, List.length_cons, List.length_nil, dParM, dmNil, dmD, dmL, setM, dLc_eq, dLc2_eq, dFor_eq, dSortSet, dSort, dListOf, dIsN, dNotN, isNo, dAug, dMulA, dgUnl, dSlT, onT, dEnum, dZip, dZipM, dRetL, dPar3, dRevT, dLstRg, dTupRg, dRg1, dRg2, dChainLe, List.nil_append, List.cons_append, if_true, if_false, dFrz, dLcO, dMin2D, dAppX, dParL, dParLL, dRepL, fMax3, dNewDic, dDicPut, dDicGet, dSortDic, onDic, onKey, dLcW, dZipX, dParR, dDead, dSortD, dSortDT, fNeS, fEqS, dgSet, dTupZip, dFgt, fIsB, fNotB, List.map_cons, List.map_nil, fw0, fw1, fw2, fw3, fw4, fw5, fw6, fw7, fw8, fw9, fw10, fw11, fw12, fw13, fw14, fw15, dExtend, dExtendT, dLstDn, dMaxDf, dOp_ap, dIx_ap, dCatT_ap, dRepT_ap, items_l, items_t, items_o, ti_t, dgT_t, seqs_l, seqs_t, seqs_o, dSeqI_eq, wk_l, wk_t, wk_eP, wk_o, dTupOf_eq, tu_t, tu_l, tu_o, tu_eP, items_eW, items_eB, items_eSc, items_eLm, items_eP, items_eL, items_pr, items_enc2, items_eTm, ti_eB, ti_eW, ti_eLm, ti_eP, dgT_eSc, dgT_eLm, dgT_eL, dgT_pr, dgT_enc2, dgT_eW, dgT_eTm, seqs_eP, on0, on1, on2, on3, on4, on5, on6, on7, on8, eB, on5]
  rw [hk]
  clear hk
  refine seqI fun kk hk => ?_
  try simp only [dSeq, dAsg, dCB, dCons, dNil, dVar, onVs, vals, val, slot, setR, fGcd, dIfS, dTV, onV2, fLt, fLe, fGt, fGe, fAdd, fSub, fMul, fDiv, fMod, fI0, dC, dUn, onV, fNeg, dNext, dRet, dTup, onD, dats, fDivZ, fI, fPow, Few, retP, fAbs, fInt, fMax, fMin, fLen, fSqrt, fEq, fNe, dNot, dAnd, dOr, dAndV, dOrV, dNotV, dIfE, dDrop, dRetN, dPar, noO, dSetL, dLst, dOfL, dOwnM, onOwn, onDat, kAppend, kInsert, dSetItem, dAddItem, onItems, onInt, dNoPart, dPart, dSlice, onL, litems, dSlL, dCat, onM, mitems, dRng1, dRng2, dCallP, dCallB, dCallF, noSelf, onArgs, dats2, dIsi, tyName, dYes, dgCons, dgNil, retB, dBreak, dCont, ne_eq, not_false_eq_true, true_and, and_true, List.getElem?_cons_zero, List.getElem?_cons_succ, List.set_cons_zero, List.set_cons_succ, Option.map, List.length_cons, List.length_nil, dParM, dmNil, dmD, dmL, setM, dLc_eq, dLc2_eq, dFor_eq, dSortSet, dSort, dListOf, dIsN, dNotN, isNo, dAug, dMulA, dgUnl, dSlT, onT, dEnum, dZip, dZipM, dRetL, dPar3, dRevT, dLstRg, dTupRg, dRg1, dRg2, dChainLe, List.nil_append, List.cons_append, if_true, if_false, dFrz, dLcO, dMin2D, dAppX, dParL, dParLL, dRepL, fMax3, dNewDic, dDicPut, dDicGet, dSortDic, onDic, onKey, dLcW, dZipX, dParR, dDead, dSortD, dSortDT, fNeS, fEqS, dgSet, dTupZip, dFgt, fIsB, fNotB, List.map_cons, List.map_nil, fw0, fw1, fw2, fw3, fw4, fw5, fw6, fw7, fw8, fw9, fw10, fw11, fw12, fw13, fw14, fw15, dExtend, dExtendT, dLstDn, dMaxDf, dOp_ap, dIx_ap, dCatT_ap, dRepT_ap, items_l, items_t, items_o, ti_t, dgT_t, seqs_l, seqs_t, seqs_o, dSeqI_eq, wk_l, wk_t, wk_eP, wk_o, dTupOf_eq, tu_t, tu_l, tu_o, tu_eP, items_eW, items_eB, items_eSc, items_eLm, items_eP, items_eL, items_pr, items_enc2, items_eTm, ti_eB, ti_eW, ti_eLm, ti_eP, dgT_eSc, dgT_eLm, dgT_eL, dgT_pr, dgT_enc2, dgT_eW, dgT_eTm, seqs_eP, on0, on1, on2, on3, on4, on5, on6, on7, on8]
  rw [show PyData.tuple [PyData.int b.sp, PyData.int b.near, PyData.int b.wind, PyData.int b.clk, PyData.int b.fall, PyData.int b.way, PyData.int b.sil, PyData.int b.cuts, PyData.int b.deep] = eB b from rfl]
  refine u__with (w := false) (u_is_enough (b := b.sw b.way) (bb _ (by omega) (by omega)) bt (by decide) ?_)
  simp only [dSeq, dAsg, dCB, dCons, dNil, dVar, onVs, vals, val, slot, setR, fGcd, dIfS, dTV, onV2, fLt, fLe, fGt, fGe, fAdd, fSub, fMul, fDiv, fMod, fI0, dC, dUn, onV, fNeg, dNext, dRet, dTup, onD, dats, fDivZ, fI, fPow, Few, retP, fAbs, fInt, fMax, fMin, fLen, fSqrt, fEq, fNe, dNot, dAnd, dOr, dAndV, dOrV, dNotV, dIfE, dDrop, dRetN, dPar, noO, dSetL, dLst, dOfL, dOwnM, onOwn, onDat, kAppend, kInsert, dSetItem, dAddItem, onItems, onInt, dNoPart, dPart, dSlice, onL, litems, dSlL, dCat, onM, mitems, dRng1, dRng2, dCallP, dCallB, dCallF, noSelf, onArgs, dats2, dIsi, tyName, dYes, dgCons, dgNil, retB, dBreak, dCont, ne_eq, not_false_eq_true, true_and, and_true, List.getElem?_cons_zero, List.getElem?_cons_succ, List.set_cons_zero, List.set_cons_succ, Option.map, List.length_cons, List.length_nil, dParM, dmNil, dmD, dmL, setM, dLc_eq, dLc2_eq, dFor_eq, dSortSet, dSort, dListOf, dIsN, dNotN, isNo, dAug, dMulA, dgUnl, dSlT, onT, dEnum, dZip, dZipM, dRetL, dPar3, dRevT, dLstRg, dTupRg, dRg1, dRg2, dChainLe, List.nil_append, List.cons_append, if_true, if_false, dFrz, dLcO, dMin2D, dAppX, dParL, dParLL, dRepL, fMax3, dNewDic, dDicPut, dDicGet, dSortDic, onDic, onKey, dLcW, dZipX, dParR, dDead, dSortD, dSortDT, fNeS, fEqS, dgSet, dTupZip, dFgt, fIsB, fNotB, List.map_cons, List.map_nil, fw0, fw1, fw2, fw3, fw4, fw5, fw6, fw7, fw8, fw9, fw10, fw11, fw12, fw13, fw14, fw15, dExtend, dExtendT, dLstDn, dMaxDf, dOp_ap, dIx_ap, dCatT_ap, dRepT_ap, items_l, items_t, items_o, ti_t, dgT_t, seqs_l, seqs_t, seqs_o, dSeqI_eq, wk_l, wk_t, wk_eP, wk_o, dTupOf_eq, tu_t, tu_l, tu_o, tu_eP, items_eW, items_eB, items_eSc, items_eLm, items_eP, items_eL, items_pr, items_enc2, items_eTm, ti_eB, ti_eW, ti_eLm, ti_eP, dgT_eSc, dgT_eLm, dgT_eL, dgT_pr, dgT_enc2, dgT_eW, dgT_eTm, seqs_eP, on0, on1, on2, on3, on4, on5, on6, on7, on8]
  refine ite_nb (fun h => hQ _ (.inl ⟨rfl, h⟩)) fun hw => ?_
  rw [hk]
  clear hk
  simp only [dRet, dCallL_eq]
  generalize hcl : CL _ _ S_least_from _ = cl
  simp only [dSeq, dAsg, dCB, dCons, dNil, dVar, onVs, vals, val, slot, setR, fGcd, dIfS, dTV, onV2, fLt, fLe, fGt, fGe, fAdd, fSub, fMul, fDiv, fMod, fI0, dC, dUn, onV, fNeg, dNext, dRet, dTup, onD, dats, fDivZ, fI, fPow, Few, retP, fAbs, fInt, fMax, fMin, fLen, fSqrt, fEq, fNe, dNot, dAnd, dOr, dAndV, dOrV, dNotV, dIfE, dDrop, dRetN, dPar, noO, dSetL, dLst, dOfL, dOwnM, onOwn, onDat, kAppend, kInsert, dSetItem, dAddItem, onItems, onInt, dNoPart, dPart, dSlice, onL, litems, dSlL, dCat, onM, mitems, dRng1, dRng2, dCallP, dCallB, dCallF, noSelf, onArgs, dats2, dIsi, tyName, dYes, dgCons, dgNil, retB, dBreak, dCont, ne_eq, not_false_eq_true, true_and, and_true, List.getElem?_cons_zero, List.getElem?_cons_succ, List.set_cons_zero, List.set_cons_succ, Option.map, List.length_cons, List.length_nil, dParM, dmNil, dmD, dmL, setM, dLc_eq, dLc2_eq, dFor_eq, dSortSet, dSort, dListOf, dIsN, dNotN, isNo, dAug, dMulA, dgUnl, dSlT, onT, dEnum, dZip, dZipM, dRetL, dPar3, dRevT, dLstRg, dTupRg, dRg1, dRg2, dChainLe, List.nil_append, List.cons_append, if_true, if_false, dFrz, dLcO, dMin2D, dAppX, dParL, dParLL, dRepL, fMax3, dNewDic, dDicPut, dDicGet, dSortDic, onDic, onKey, dLcW, dZipX, dParR, dDead, dSortD, dSortDT, fNeS, fEqS, dgSet, dTupZip, dFgt, fIsB, fNotB, List.map_cons, List.map_nil, fw0, fw1, fw2, fw3, fw4, fw5, fw6, fw7, fw8, fw9, fw10, fw11, fw12, fw13, fw14, fw15, dExtend, dExtendT, dLstDn, dMaxDf, dOp_ap, dIx_ap, dCatT_ap, dRepT_ap, items_l, items_t, items_o, ti_t, dgT_t, seqs_l, seqs_t, seqs_o, dSeqI_eq, wk_l, wk_t, wk_eP, wk_o, dTupOf_eq, tu_t, tu_l, tu_o, tu_eP, items_eW, items_eB, items_eSc, items_eLm, items_eP, items_eL, items_pr, items_enc2, items_eTm, ti_eB, ti_eW, ti_eLm, ti_eP, dgT_eSc, dgT_eLm, dgT_eL, dgT_pr, dgT_enc2, dgT_eW, dgT_eTm, seqs_eP, on0, on1, on2, on3, on4, on5, on6, on7, on8]
  subst hcl
  have mn : ∀ i : Int, 1 ≤ i → 1 ≤ (if b.way < i then b.way else i) ∧ (if b.way < i then b.way else i) ≤ b.way := fun i hi => by split <;> omega
  refine CL_of [.int t, eB b, .int b.way] (fun i => 1 ≤ i ∧ i ≤ 10000) (fun i => decide (enough (b.sw (if b.way < i then b.way else i)) t)) rfl (fun i hi => ?_) ?_
  · have e : ∀ n : Nat, n = 4 → rhoP n (.d :: List.replicate [PyData.int t, eB b, .int b.way].length .d) [.int i, .int t, eB b, .int b.way] = [some (.d (.int i)), some (.d (.int t)), some (.d (eB b)), some (.d (.int b.way))] := fun n hn => by subst hn; rfl
    rw [e]
    rotate_left
    · rfl
    simp only [dSeq, dAsg, dCB, dCons, dNil, dVar, onVs, vals, val, slot, setR, fGcd, dIfS, dTV, onV2, fLt, fLe, fGt, fGe, fAdd, fSub, fMul, fDiv, fMod, fI0, dC, dUn, onV, fNeg, dNext, dRet, dTup, onD, dats, fDivZ, fI, fPow, Few, retP, fAbs, fInt, fMax, fMin, fLen, fSqrt, fEq, fNe, dNot, dAnd, dOr, dAndV, dOrV, dNotV, dIfE, dDrop, dRetN, dPar, noO, dSetL, dLst, dOfL, dOwnM, onOwn, onDat, kAppend, kInsert, dSetItem, dAddItem, onItems, onInt, dNoPart, dPart, dSlice, onL, litems, dSlL, dCat, onM, mitems, dRng1, dRng2, dCallP, dCallB, dCallF, noSelf, onArgs, dats2, dIsi, tyName, dYes, dgCons, dgNil, retB, dBreak, dCont, ne_eq, not_false_eq_true, true_and, and_true, List.getElem?_cons_zero, List.getElem?_cons_succ, List.set_cons_zero, List.set_cons_succ, Option.map, List.length_cons, List.length_nil, dParM, dmNil, dmD, dmL, setM, dLc_eq, dLc2_eq, dFor_eq, dSortSet, dSort, dListOf, dIsN, dNotN, isNo, dAug, dMulA, dgUnl, dSlT, onT, dEnum, dZip, dZipM, dRetL, dPar3, dRevT, dLstRg, dTupRg, dRg1, dRg2, dChainLe, List.nil_append, List.cons_append, if_true, if_false, dFrz, dLcO, dMin2D, dAppX, dParL, dParLL, dRepL, fMax3, dNewDic, dDicPut, dDicGet, dSortDic, onDic, onKey, dLcW, dZipX, dParR, dDead, dSortD, dSortDT, fNeS, fEqS, dgSet, dTupZip, dFgt, fIsB, fNotB, List.map_cons, List.map_nil, fw0, fw1, fw2, fw3, fw4, fw5, fw6, fw7, fw8, fw9, fw10, fw11, fw12, fw13, fw14, fw15, dExtend, dExtendT, dLstDn, dMaxDf, dOp_ap, dIx_ap, dCatT_ap, dRepT_ap, items_l, items_t, items_o, ti_t, dgT_t, seqs_l, seqs_t, seqs_o, dSeqI_eq, wk_l, wk_t, wk_eP, wk_o, dTupOf_eq, tu_t, tu_l, tu_o, tu_eP, items_eW, items_eB, items_eSc, items_eLm, items_eP, items_eL, items_pr, items_enc2, items_eTm, ti_eB, ti_eW, ti_eLm, ti_eP, dgT_eSc, dgT_eLm, dgT_eL, dgT_pr, dgT_enc2, dgT_eW, dgT_eTm, seqs_eP, on0, on1, on2, on3, on4, on5, on6, on7, on8]
    have := mn i hi.1
    refine u__with (w := false) (u_is_enough (b := b.sw (if b.way < i then b.way else i)) (bb _ (by omega) (by omega)) bt (by decide) ?_)
    rfl
  refine ⟨1, b.way, rfl, by decide, by omega, by omega, fun i a1 a2 => ⟨a1, by omega⟩, ?_, fun i j a1 a2 a3 a4 => ?_, fun m m0 m1 m2 m3 => ?_⟩
  · show decide (enough (b.sw (if b.way < b.way then b.way else b.way)) t) = true
    rw [if_neg (Int.lt_irrefl _)]
    exact decide_eq_true hw
  · have := mn i a1
    simp only [decide_eq_true_eq] at a4 ⊢
    refine sw_mono (by omega) ?_ a4
    split <;> split <;> omega
  · have m2 : decide (enough (b.sw (if b.way < m then b.way else m)) t) = true := m2
    rw [if_neg (show ¬ b.way < m by omega), decide_eq_true_eq] at m2
    refine hQ _ (.inr ⟨m, rfl, m0, m1, m2, fun u u0 u1 => ?_⟩)
    have : decide (enough (b.sw (if b.way < u then b.way else u)) t) = false := m3 u u0 u1
    rw [if_neg (show ¬ b.way < u by omega), decide_eq_false_iff_not] at this
    exact this
set_option maxHeartbeats 4000000 in
theorem ok_law {f : Addr} {fd : FuncData} (W : Fun K "law" "law" s_law f fd) (T : Bi mg)
    {f__law_bag : Addr} {fd__law_bag : FuncData} (G__law_bag : FnG P w K mg base CX0 1 f__law_bag fd__law_bag ["_law_script"] (spF K TT [.ro] S__law_bag)) (g__law_bag : mg "_law_bag" = some (.ref f__law_bag)) (k__law_bag : PySem.W.keepIn K (.ref f__law_bag) = true) (b__law_bag : Binds K fd__law_bag ["_law_script"] [])
    {f__law_bounds : Addr} {fd__law_bounds : FuncData} (G__law_bounds : FnG P w K mg base CX0 3 f__law_bounds fd__law_bounds ["_law_bag_here"] (spB K TT [] S__law_bounds)) (g__law_bounds : mg "_law_bounds" = some (.ref f__law_bounds)) (k__law_bounds : PySem.W.keepIn K (.ref f__law_bounds) = true) (b__law_bounds : Binds K fd__law_bounds ["_law_bag_here"] [])
    {f__law_ticks : Addr} {fd__law_ticks : FuncData} (G__law_ticks : FnG P w K mg base CX0 3 f__law_ticks fd__law_ticks ["_law_bag_here", "_law_bounds_here"] (spB K TT [.d] S__law_ticks)) (g__law_ticks : mg "_law_ticks" = some (.ref f__law_ticks)) (k__law_ticks : PySem.W.keepIn K (.ref f__law_ticks) = true) (b__law_ticks : Binds K fd__law_ticks ["_law_bag_here", "_law_bounds_here"] [])
    {f__law_greatest_near : Addr} {fd__law_greatest_near : FuncData} (G__law_greatest_near : FnG P w K mg base CX0 3 f__law_greatest_near fd__law_greatest_near ["_law_bounds_here", "_law_ticks_here"] (spP K TT [.d, .d] S__law_greatest_near)) (g__law_greatest_near : mg "_law_greatest_near" = some (.ref f__law_greatest_near)) (k__law_greatest_near : PySem.W.keepIn K (.ref f__law_greatest_near) = true) (b__law_greatest_near : Binds K fd__law_greatest_near ["_law_bounds_here", "_law_ticks_here"] [])
    {f__law_least_spacing : Addr} {fd__law_least_spacing : FuncData} (G__law_least_spacing : FnG P w K mg base CX0 3 f__law_least_spacing fd__law_least_spacing ["_law_bounds_here", "_law_ticks_here"] (spP K TT [.d, .d] S__law_least_spacing)) (g__law_least_spacing : mg "_law_least_spacing" = some (.ref f__law_least_spacing)) (k__law_least_spacing : PySem.W.keepIn K (.ref f__law_least_spacing) = true) (b__law_least_spacing : Binds K fd__law_least_spacing ["_law_bounds_here", "_law_ticks_here"] [])
    {f__law_alike : Addr} {fd__law_alike : FuncData} (G__law_alike : FnG P w K mg base CX0 1 f__law_alike fd__law_alike ["_law_found", "_law_due"] (spP K TT [.ro, .ro] S__law_alike)) (g__law_alike : mg "_law_alike" = some (.ref f__law_alike)) (k__law_alike : PySem.W.keepIn K (.ref f__law_alike) = true) (b__law_alike : Binds K fd__law_alike ["_law_found", "_law_due"] [])
    {f_is_enough : Addr} {fd_is_enough : FuncData} (G_is_enough : FnG P w K mg base CX0 2 f_is_enough fd_is_enough ["bounds", "ticks"] (spP K TT [.d, .d] S_is_enough)) (g_is_enough : mg "is_enough" = some (.ref f_is_enough)) (k_is_enough : PySem.W.keepIn K (.ref f_is_enough) = true) (b_is_enough : Binds K fd_is_enough ["bounds", "ticks"] [])
    {f_greatest_near : Addr} {fd_greatest_near : FuncData} (G_greatest_near : FnG P w K mg base CX0 5 f_greatest_near fd_greatest_near ["bounds", "ticks"] (spP K TT [.d, .d] S_greatest_near)) (g_greatest_near : mg "greatest_near" = some (.ref f_greatest_near)) (k_greatest_near : PySem.W.keepIn K (.ref f_greatest_near) = true) (b_greatest_near : Binds K fd_greatest_near ["bounds", "ticks"] [])
    {f_least_spacing : Addr} {fd_least_spacing : FuncData} (G_least_spacing : FnG P w K mg base CX0 5 f_least_spacing fd_least_spacing ["bounds", "ticks"] (spP K TT [.d, .d] S_least_spacing)) (g_least_spacing : mg "least_spacing" = some (.ref f_least_spacing)) (k_least_spacing : PySem.W.keepIn K (.ref f_least_spacing) = true) (b_least_spacing : Binds K fd_least_spacing ["bounds", "ticks"] []) :
    FnG P w K mg base CX0 6 f fd ["_law_script"] (spP K TT [.ro] S_law) := by
  refine fnP W sc_law rfl fun cdv A out s H E Nn hr hgd => ⟨_, _, (dss_cons (ds_setL (i := 1) sc_law.nd (pl_callF G__law_bag m__law_bag (hr.mono (by decide)) hgd rfl g__law_bag k__law_bag b__law_bag (pda_cons (pdv 0) pda_nil)) fixP)
      (dss_cons (ds_for PassesOwn.never rfl (pdi_range1 rfl T.b_range (pda_cons pd_int pda_nil)) (pgd_name (i := 2) sc_law.nd) (dss_cons (ds_set (i := 3) sc_law.nd (pd_callBag G__law_bounds m__law_bounds (hr.mono (by decide)) hgd rfl g__law_bounds k__law_bounds b__law_bounds (pda_cons (pdv 1) pda_nil)) fixP)
      (dss_cons (ds_set (i := 4) sc_law.nd (pd_callBag G__law_ticks m__law_ticks (hr.mono (by decide)) hgd rfl g__law_ticks k__law_ticks b__law_ticks (pda_cons (pdv 1) (pda_cons (pdv 3) pda_nil))) fixP)
      (dss_cons (ds_par (i := 5) (j := 6) rfl sc_law.nd (pda_cons (pd_callP G__law_greatest_near m__law_greatest_near (hr.mono (by decide)) hgd rfl g__law_greatest_near k__law_greatest_near b__law_greatest_near (pda_cons (pdv 3) (pda_cons (pdv 4) pda_nil))) (pda_cons (pd_callP G__law_least_spacing m__law_least_spacing (hr.mono (by decide)) hgd rfl g__law_least_spacing k__law_least_spacing b__law_least_spacing (pda_cons (pdv 3) (pda_cons (pdv 4) pda_nil))) pda_nil)) fixP fixP)
      (dss_cons (ds_if (pt_no (pt_v (pd_callP G__law_alike m__law_alike (hr.mono (by decide)) hgd rfl g__law_alike k__law_alike b__law_alike (pda_cons (pd_l (pl_lst (pda_cons (pd_callP G_greatest_near m_greatest_near (hr.mono (by decide)) hgd rfl g_greatest_near k_greatest_near b_greatest_near (pda_cons (pdv 3) (pda_cons (pdv 4) pda_nil))) (pda_cons (pd_callP G_least_spacing m_least_spacing (hr.mono (by decide)) hgd rfl g_least_spacing k_least_spacing b_least_spacing (pda_cons (pdv 3) (pda_cons (pdv 4) pda_nil))) pda_nil)))) (pda_cons (pd_l (pl_lst (pda_cons (pdv 5) (pda_cons (pdv 6) pda_nil)))) pda_nil))))) (dss_one (ds_ret pd_bl)) dss_nil)
      (dss_cons (ds_if (pt_notN (pdv 5)) (dss_cons (ds_fgt (i := 8) (ds_setLc (i := 7) (own := [("_law_one", 8)]) rfl sc_law.nd (pdi_seq (pd_tup (pda_cons (pdv 5) (pda_cons (pd_add (pdv 5) pd_int) pda_nil)))) (blkOk_by (own := [("_law_one", 8)]) (N := nm_law) (sc := defScope s_law) (by decide +kernel)) (fun _ _ _ _ _ => (pgd_name (i := 8) sc_law.nd)) (fun _ _ _ _ _ => dts_nil) (fun _ _ _ _ _ => (pd_callP G_is_enough m_is_enough (hr.mono (by decide)) hgd rfl g_is_enough k_is_enough b_is_enough (pda_cons (pd_catT (pd_tup (pda_cons (pd_ix (pdv 3) pd_int (fun _ _ => rfl)) (pda_cons (pdv 8) pda_nil))) (pd_sliceT (pdv 3) (pdo_some pd_int) pdo_none)) (pda_cons (pdv 4) pda_nil)))) fixP) fixP)
      (dss_one (ds_if (pt_no (pt_v (pd_callP G__law_alike m__law_alike (hr.mono (by decide)) hgd rfl g__law_alike k__law_alike b__law_alike (pda_cons (pdv 7) (pda_cons (pd_l (pl_lst (pda_cons pd_bl (pda_cons pd_bl pda_nil)))) pda_nil))))) (dss_one (ds_ret pd_bl)) dss_nil))) dss_nil)
      (dss_one (ds_if (pt_w (pwd_and (pt_notN (pdv 6)) (pwd_and1 (pt_gt (pdv 6) pd_int)))) (dss_cons (ds_fgt (i := 8) (ds_setLc (i := 7) (own := [("_law_one", 8)]) rfl sc_law.nd (pdi_seq (pd_tup (pda_cons (pd_sub (pdv 6) pd_int) (pda_cons (pdv 6) (pda_cons (pd_ix (pdv 3) pd_int (fun _ _ => rfl)) pda_nil))))) (blkOk_by (own := [("_law_one", 8)]) (N := nm_law) (sc := defScope s_law) (by decide +kernel)) (fun _ _ _ _ _ => (pgd_name (i := 8) sc_law.nd)) (fun _ _ _ _ _ => dts_nil) (fun _ _ _ _ _ => (pd_callP G_is_enough m_is_enough (hr.mono (by decide)) hgd rfl g_is_enough k_is_enough b_is_enough (pda_cons (pd_catT (pd_tup (pda_cons (pdv 8) pda_nil)) (pd_sliceT (pdv 3) (pdo_some pd_int) pdo_none)) (pda_cons (pdv 4) pda_nil)))) fixP) fixP)
      (dss_one (ds_if (pt_no (pt_v (pd_callP G__law_alike m__law_alike (hr.mono (by decide)) hgd rfl g__law_alike k__law_alike b__law_alike (pda_cons (pdv 7) (pda_cons (pd_l (pl_lst (pda_cons pd_bl (pda_cons pd_bl (pda_cons pd_bl pda_nil))))) pda_nil))))) (dss_one (ds_ret pd_bl)) dss_nil))) dss_nil))))))) nofixP)
      (dss_one (ds_ret pd_bl)))), ?_⟩
  clear W T hr hgd
  rintro xs Q hl ⟨ns, rfl, hQ⟩
  clear hl
  have e : rhoP nm_law.length [.ro] [.list (ns.map .int)] = [some (.ro (.list (ns.map .int))), none, none, none, none, none, none, none, none] := rfl
  rw [e]
  clear e
  refine seqI fun kk hk => ?_
  simp only [dSeq, dAsg, dCB, dCons, dNil, dVar, onVs, vals, val, slot, setR, fGcd, dIfS, dTV, onV2, fLt, fLe, fGt, fGe, fAdd, fSub, fMul, fDiv, fMod, fI0, dC, dUn, onV, fNeg, dNext, dRet, dTup, onD, dats, fDivZ, fI, fPow, Few, retP, fAbs, fInt, fMax, fMin, fLen, fSqrt, fEq, fNe, dNot, dAnd, dOr, dAndV, dOrV, dNotV, dIfE, dDrop, dRetN, dPar, noO, dSetL, dLst, dOfL, dOwnM, onOwn, onDat, kAppend, kInsert, dSetItem, dAddItem, onItems, onInt, dNoPart, dPart, dSlice, onL, litems, dSlL, dCat, onM, mitems, dRng1, dRng2, dCallP, dCallB, dCallF, noSelf, onArgs, dats2, dIsi, tyName, dYes, dgCons, dgNil, retB, dBreak, dCont, ne_eq, not_false_eq_true, true_and, and_true, List.getElem?_cons_zero, List.getElem?_cons_succ, List.set_cons_zero, List.set_cons_succ, Option.map, List.length_cons, List.length_nil, dParM, dmNil, dmD, dmL, setM, dLc_eq, dLc2_eq, dFor_eq, dSortSet, dSort, dListOf, dIsN, dNotN, isNo, dAug, dMulA, dgUnl, dSlT, onT, dEnum, dZip, dZipM, dRetL, dPar3, dRevT, dLstRg, dTupRg, dRg1, dRg2, dChainLe, List.nil_append, List.cons_append, if_true, if_false, dFrz, dLcO, dMin2D, dAppX, dParL, dParLL, dRepL, fMax3, dNewDic, dDicPut, dDicGet, dSortDic, onDic, onKey, dLcW, dZipX, dParR, dDead, dSortD, dSortDT, fNeS, fEqS, dgSet, dTupZip, dFgt, fIsB, fNotB, List.map_cons, List.map_nil, fw0, fw1, fw2, fw3, fw4, fw5, fw6, fw7, fw8, fw9, fw10, fw11, fw12, fw13, fw14, fw15, dExtend, dExtendT, dLstDn, dMaxDf, dOp_ap, dIx_ap, dCatT_ap, dRepT_ap, items_l, items_t, items_o, ti_t, dgT_t, seqs_l, seqs_t, seqs_o, dSeqI_eq, wk_l, wk_t, wk_eP, wk_o, dTupOf_eq, tu_t, tu_l, tu_o, tu_eP, items_eW, items_eB, items_eSc, items_eLm, items_eP, items_eL, items_pr, items_enc2, items_eTm, ti_eB, ti_eW, ti_eLm, ti_eP, dgT_eSc, dgT_eLm, dgT_eL, dgT_pr, dgT_enc2, dgT_eW, dgT_eTm, seqs_eP, on0, on1, on2, on3, on4, on5, on6, on7, on8]
  refine ⟨ns, rfl, fun bag hb => ?_⟩
  rw [hk]
  refine seqI fun k2 hk2 => ?_
  simp only [dSeq, dAsg, dCB, dCons, dNil, dVar, onVs, vals, val, slot, setR, fGcd, dIfS, dTV, onV2, fLt, fLe, fGt, fGe, fAdd, fSub, fMul, fDiv, fMod, fI0, dC, dUn, onV, fNeg, dNext, dRet, dTup, onD, dats, fDivZ, fI, fPow, Few, retP, fAbs, fInt, fMax, fMin, fLen, fSqrt, fEq, fNe, dNot, dAnd, dOr, dAndV, dOrV, dNotV, dIfE, dDrop, dRetN, dPar, noO, dSetL, dLst, dOfL, dOwnM, onOwn, onDat, kAppend, kInsert, dSetItem, dAddItem, onItems, onInt, dNoPart, dPart, dSlice, onL, litems, dSlL, dCat, onM, mitems, dRng1, dRng2, dCallP, dCallB, dCallF, noSelf, onArgs, dats2, dIsi, tyName, dYes, dgCons, dgNil, retB, dBreak, dCont, ne_eq, not_false_eq_true, true_and, and_true, List.getElem?_cons_zero, List.getElem?_cons_succ, List.set_cons_zero, List.set_cons_succ, Option.map, List.length_cons, List.length_nil, dParM, dmNil, dmD, dmL, setM, dLc_eq, dLc2_eq, dFor_eq, dSortSet, dSort, dListOf, dIsN, dNotN, isNo, dAug, dMulA, dgUnl, dSlT, onT, dEnum, dZip, dZipM, dRetL, dPar3, dRevT, dLstRg, dTupRg, dRg1, dRg2, dChainLe, List.nil_append, List.cons_append, if_true, if_false, dFrz, dLcO, dMin2D, dAppX, dParL, dParLL, dRepL, fMax3, dNewDic, dDicPut, dDicGet, dSortDic, onDic, onKey, dLcW, dZipX, dParR, dDead, dSortD, dSortDT, fNeS, fEqS, dgSet, dTupZip, dFgt, fIsB, fNotB, List.map_cons, List.map_nil, fw0, fw1, fw2, fw3, fw4, fw5, fw6, fw7, fw8, fw9, fw10, fw11, fw12, fw13, fw14, fw15, dExtend, dExtendT, dLstDn, dMaxDf, dOp_ap, dIx_ap, dCatT_ap, dRepT_ap, items_l, items_t, items_o, ti_t, dgT_t, seqs_l, seqs_t, seqs_o, dSeqI_eq, wk_l, wk_t, wk_eP, wk_o, dTupOf_eq, tu_t, tu_l, tu_o, tu_eP, items_eW, items_eB, items_eSc, items_eLm, items_eP, items_eL, items_pr, items_enc2, items_eTm, ti_eB, ti_eW, ti_eLm, ti_eP, dgT_eSc, dgT_eLm, dgT_eL, dgT_pr, dgT_enc2, dgT_eW, dgT_eTm, seqs_eP, on0, on1, on2, on3, on4, on5, on6, on7, on8]
  refine ⟨⟨by decide, by decide⟩, for_rng (S := List PyData × (Nat → Option Ent)) 0 _ (fun z => [some (.ro (.list (ns.map .int))), some (.own z.1), z.2 0, z.2 1, z.2 2, z.2 3, z.2 4, z.2 5, z.2 6]) (fun i z => Bag (100 * i) z.1) (bag, fun _ => none) rfl hb (fun i z hi hI C hC => ?_) fun z hz => ?_⟩
  · have hC' : ∀ (b : List PyData) (a0 a1 a2 a3 a4 a5 a6 : Option Ent), Bag (100 * i + 100) b → C [some (.ro (.list (ns.map .int))), some (.own b), a0, a1, a2, a3, a4, a5, a6] := fun b a0 a1 a2 a3 a4 a5 a6 h => hC (b, fun n => ([a0, a1, a2, a3, a4, a5, a6] : List (Option Ent)).getD n none) (by rw [Nat.mul_succ]; exact h)
    clear hC
    have hi2 : i ≤ 1000 := by
      have : i < Int.toNat _ := hi
      exact Nat.le_trans (Nat.le_of_lt this) (by decide)
    simp only [setR, List.set_cons_succ, List.set_cons_zero]
    refine seqI fun kk3 hk3 => ?_
    try simp only [dSeq, dAsg, dCB, dCons, dNil, dVar, onVs, vals, val, slot, setR, fGcd, dIfS, dTV, onV2, fLt, fLe, fGt, fGe, fAdd, fSub, fMul, fDiv, fMod, fI0, dC, dUn, onV, fNeg, dNext, dRet, dTup, onD, dats, fDivZ, fI, fPow, Few, retP, fAbs, fInt, fMax, fMin, fLen, fSqrt, fEq, fNe, dNot, dAnd, dOr, dAndV, dOrV, dNotV, dIfE, dDrop, dRetN, dPar, noO, dSetL, dLst, dOfL, dOwnM, onOwn, onDat, kAppend, kInsert, dSetItem, dAddItem, onItems, onInt, dNoPart, dPart, dSlice, onL, litems, dSlL, dCat, onM, mitems, dRng1, dRng2, dCallP, dCallB, dCallF, noSelf, onArgs, dats2, dIsi, tyName, dYes, dgCons, dgNil, retB, dBreak, dCont, ne_eq, not_false_eq_true, true_and, and_true, List.getElem?_cons_zero, List.getElem?_cons_succ, List.set_cons_zero, List.set_cons_succ, Option.map, List.length_cons, List.length_nil, dParM, dmNil, dmD, dmL, setM, dLc_eq, dLc2_eq, dFor_eq, dSortSet, dSort, dListOf, dIsN, dNotN, isNo, dAug, dMulA, dgUnl, dSlT, onT, dEnum, dZip, dZipM, dRetL, dPar3, dRevT, dLstRg, dTupRg, dRg1, dRg2, dChainLe, List.nil_append, List.cons_append, if_true, if_false, dFrz, dLcO, dMin2D, dAppX, dParL, dParLL, dRepL, fMax3, dNewDic, dDicPut, dDicGet, dSortDic, onDic, onKey, dLcW, dZipX, dParR, dDead, dSortD, dSortDT, fNeS, fEqS, dgSet, dTupZip, dFgt, fIsB, fNotB, List.map_cons, List.map_nil, fw0, fw1, fw2, fw3, fw4, fw5, fw6, fw7, fw8, fw9, fw10, fw11, fw12, fw13, fw14, fw15, dExtend, dExtendT, dLstDn, dMaxDf, dOp_ap, dIx_ap, dCatT_ap, dRepT_ap, items_l, items_t, items_o, ti_t, dgT_t, seqs_l, seqs_t, seqs_o, dSeqI_eq, wk_l, wk_t, wk_eP, wk_o, dTupOf_eq, tu_t, tu_l, tu_o, tu_eP, items_eW, items_eB, items_eSc, items_eLm, items_eP, items_eL, items_pr, items_enc2, items_eTm, ti_eB, ti_eW, ti_eLm, ti_eP, dgT_eSc, dgT_eLm, dgT_eL, dgT_pr, dgT_enc2, dgT_eW, dgT_eTm, seqs_eP, on0, on1, on2, on3, on4, on5, on6, on7, on8]
    refine u__law_bounds hI (by omega) fun y bag1 hy hb1 => ?_
    obtain ⟨b, rfl, ok, bv⟩ := hy
    have lg := ok.lag0
    have s0 := ok.sp0
    have s1 := ok.sp1
    have w0 := ok.way0
    have w1 := ok.way1
    rw [hk3]
    clear hk3
    refine seqI fun kk3 hk3 => ?_
    try simp only [dSeq, dAsg, dCB, dCons, dNil, dVar, onVs, vals, val, slot, setR, fGcd, dIfS, dTV, onV2, fLt, fLe, fGt, fGe, fAdd, fSub, fMul, fDiv, fMod, fI0, dC, dUn, onV, fNeg, dNext, dRet, dTup, onD, dats, fDivZ, fI, fPow, Few, retP, fAbs, fInt, fMax, fMin, fLen, fSqrt, fEq, fNe, dNot, dAnd, dOr, dAndV, dOrV, dNotV, dIfE, dDrop, dRetN, dPar, noO, dSetL, dLst, dOfL, dOwnM, onOwn, onDat, kAppend, kInsert, dSetItem, dAddItem, onItems, onInt, dNoPart, dPart, dSlice, onL, litems, dSlL, dCat, onM, mitems, dRng1, dRng2, dCallP, dCallB, dCallF, noSelf, onArgs, dats2, dIsi, tyName, dYes, dgCons, dgNil, retB, dBreak, dCont, ne_eq, not_false_eq_true, true_and, and_true, List.getElem?_cons_zero, List.getElem?_cons_succ, List.set_cons_zero, List.set_cons_succ, Option.map, List.length_cons, List.length_nil, dParM, dmNil, dmD, dmL, setM, dLc_eq, dLc2_eq, dFor_eq, dSortSet, dSort, dListOf, dIsN, dNotN, isNo, dAug, dMulA, dgUnl, dSlT, onT, dEnum, dZip, dZipM, dRetL, dPar3, dRevT, dLstRg, dTupRg, dRg1, dRg2, dChainLe, List.nil_append, List.cons_append, if_true, if_false, dFrz, dLcO, dMin2D, dAppX, dParL, dParLL, dRepL, fMax3, dNewDic, dDicPut, dDicGet, dSortDic, onDic, onKey, dLcW, dZipX, dParR, dDead, dSortD, dSortDT, fNeS, fEqS, dgSet, dTupZip, dFgt, fIsB, fNotB, List.map_cons, List.map_nil, fw0, fw1, fw2, fw3, fw4, fw5, fw6, fw7, fw8, fw9, fw10, fw11, fw12, fw13, fw14, fw15, dExtend, dExtendT, dLstDn, dMaxDf, dOp_ap, dIx_ap, dCatT_ap, dRepT_ap, items_l, items_t, items_o, ti_t, dgT_t, seqs_l, seqs_t, seqs_o, dSeqI_eq, wk_l, wk_t, wk_eP, wk_o, dTupOf_eq, tu_t, tu_l, tu_o, tu_eP, items_eW, items_eB, items_eSc, items_eLm, items_eP, items_eL, items_pr, items_enc2, items_eTm, ti_eB, ti_eW, ti_eLm, ti_eP, dgT_eSc, dgT_eLm, dgT_eL, dgT_pr, dgT_enc2, dgT_eW, dgT_eTm, seqs_eP, on0, on1, on2, on3, on4, on5, on6, on7, on8]
    refine u__law_ticks hb1 (by omega) ok fun y bag2 hy hb2 => ?_
    obtain ⟨t, rfl, t0, t1, t2⟩ := hy
    rw [hk3]
    clear hk3
    refine seqI fun kk3 hk3 => ?_
    try simp only [dSeq, dAsg, dCB, dCons, dNil, dVar, onVs, vals, val, slot, setR, fGcd, dIfS, dTV, onV2, fLt, fLe, fGt, fGe, fAdd, fSub, fMul, fDiv, fMod, fI0, dC, dUn, onV, fNeg, dNext, dRet, dTup, onD, dats, fDivZ, fI, fPow, Few, retP, fAbs, fInt, fMax, fMin, fLen, fSqrt, fEq, fNe, dNot, dAnd, dOr, dAndV, dOrV, dNotV, dIfE, dDrop, dRetN, dPar, noO, dSetL, dLst, dOfL, dOwnM, onOwn, onDat, kAppend, kInsert, dSetItem, dAddItem, onItems, onInt, dNoPart, dPart, dSlice, onL, litems, dSlL, dCat, onM, mitems, dRng1, dRng2, dCallP, dCallB, dCallF, noSelf, onArgs, dats2, dIsi, tyName, dYes, dgCons, dgNil, retB, dBreak, dCont, ne_eq, not_false_eq_true, true_and, and_true, List.getElem?_cons_zero, List.getElem?_cons_succ, List.set_cons_zero, List.set_cons_succ, Option.map, List.length_cons, List.length_nil, dParM, dmNil, dmD, dmL, setM, dLc_eq, dLc2_eq, dFor_eq, dSortSet, dSort, dListOf, dIsN, dNotN, isNo, dAug, dMulA, dgUnl, dSlT, onT, dEnum, dZip, dZipM, dRetL, dPar3, dRevT, dLstRg, dTupRg, dRg1, dRg2, dChainLe, List.nil_append, List.cons_append, if_true, if_false, dFrz, dLcO, dMin2D, dAppX, dParL, dParLL, dRepL, fMax3, dNewDic, dDicPut, dDicGet, dSortDic, onDic, onKey, dLcW, dZipX, dParR, dDead, dSortD, dSortDT, fNeS, fEqS, dgSet, dTupZip, dFgt, fIsB, fNotB, List.map_cons, List.map_nil, fw0, fw1, fw2, fw3, fw4, fw5, fw6, fw7, fw8, fw9, fw10, fw11, fw12, fw13, fw14, fw15, dExtend, dExtendT, dLstDn, dMaxDf, dOp_ap, dIx_ap, dCatT_ap, dRepT_ap, items_l, items_t, items_o, ti_t, dgT_t, seqs_l, seqs_t, seqs_o, dSeqI_eq, wk_l, wk_t, wk_eP, wk_o, dTupOf_eq, tu_t, tu_l, tu_o, tu_eP, items_eW, items_eB, items_eSc, items_eLm, items_eP, items_eL, items_pr, items_enc2, items_eTm, ti_eB, ti_eW, ti_eLm, ti_eP, dgT_eSc, dgT_eLm, dgT_eL, dgT_pr, dgT_enc2, dgT_eW, dgT_eTm, seqs_eP, on0, on1, on2, on3, on4, on5, on6, on7, on8]
    refine u__law_greatest_near ok t0 (by omega) fun g hg => u__law_least_spacing ok t0 (by omega) fun s hs => ?_
    rw [hk3]
    clear hk3
    refine seqI fun kk3 hk3 => ?_
    try simp only [dSeq, dAsg, dCB, dCons, dNil, dVar, onVs, vals, val, slot, setR, fGcd, dIfS, dTV, onV2, fLt, fLe, fGt, fGe, fAdd, fSub, fMul, fDiv, fMod, fI0, dC, dUn, onV, fNeg, dNext, dRet, dTup, onD, dats, fDivZ, fI, fPow, Few, retP, fAbs, fInt, fMax, fMin, fLen, fSqrt, fEq, fNe, dNot, dAnd, dOr, dAndV, dOrV, dNotV, dIfE, dDrop, dRetN, dPar, noO, dSetL, dLst, dOfL, dOwnM, onOwn, onDat, kAppend, kInsert, dSetItem, dAddItem, onItems, onInt, dNoPart, dPart, dSlice, onL, litems, dSlL, dCat, onM, mitems, dRng1, dRng2, dCallP, dCallB, dCallF, noSelf, onArgs, dats2, dIsi, tyName, dYes, dgCons, dgNil, retB, dBreak, dCont, ne_eq, not_false_eq_true, true_and, and_true, List.getElem?_cons_zero, List.getElem?_cons_succ, List.set_cons_zero, List.set_cons_succ, Option.map, List.length_cons, List.length_nil, dParM, dmNil, dmD, dmL, setM, dLc_eq, dLc2_eq, dFor_eq, dSortSet, dSort, dListOf, dIsN, dNotN, isNo, dAug, dMulA, dgUnl, dSlT, onT, dEnum, dZip, dZipM, dRetL, dPar3, dRevT, dLstRg, dTupRg, dRg1, dRg2, dChainLe, List.nil_append, List.cons_append, if_true, if_false, dFrz, dLcO, dMin2D, dAppX, dParL, dParLL, dRepL, fMax3, dNewDic, dDicPut, dDicGet, dSortDic, onDic, onKey, dLcW, dZipX, dParR, dDead, dSortD, dSortDT, fNeS, fEqS, dgSet, dTupZip, dFgt, fIsB, fNotB, List.map_cons, List.map_nil, fw0, fw1, fw2, fw3, fw4, fw5, fw6, fw7, fw8, fw9, fw10, fw11, fw12, fw13, fw14, fw15, dExtend, dExtendT, dLstDn, dMaxDf, dOp_ap, dIx_ap, dCatT_ap, dRepT_ap, items_l, items_t, items_o, ti_t, dgT_t, seqs_l, seqs_t, seqs_o, dSeqI_eq, wk_l, wk_t, wk_eP, wk_o, dTupOf_eq, tu_t, tu_l, tu_o, tu_eP, items_eW, items_eB, items_eSc, items_eLm, items_eP, items_eL, items_pr, items_enc2, items_eTm, ti_eB, ti_eW, ti_eLm, ti_eP, dgT_eSc, dgT_eLm, dgT_eL, dgT_pr, dgT_enc2, dgT_eW, dgT_eTm, seqs_eP, on0, on1, on2, on3, on4, on5, on6, on7, on8]
    have fl := flw_nn (b := b) (by omega) w0
    have ug : ∀ {m n : Int}, 1 ≤ m → 1 ≤ n → enough (b.nr m) t → ¬ enough (b.nr (n + 1)) t → m ≤ n := fun {m n} m0 n0 h1 h2 => Int.not_lt.mp fun z => h2 (near_anti ok.wind0 fl (by omega) (by omega) h1)
    have fg : Fn 0 1001 g := by
      rcases hg with ⟨rfl, _⟩ | ⟨m, rfl, m0, m1, m2, m3⟩
      · exact Fn.none.up (Nat.zero_le _) (by decide)
      · exact Fn.int (bd_of 1000000 (by omega) (by omega) (k := 20))
    have fs : Fn 0 1001 s := by
      rcases hs with ⟨rfl, _⟩ | ⟨m, rfl, m0, m1, m2, m3⟩
      · exact Fn.none.up (Nat.zero_le _) (by decide)
      · exact Fn.int (bd_of 1000000 (by omega) (by omega) (k := 20))
    refine u_greatest_near ok t0 (by omega) fun g2 hg2 => ?_
    have eg : g2 = g := by
      rcases hg with ⟨rfl, a⟩ | ⟨m, rfl, m0, m1, m2, m3⟩
      · rcases hg2 with ⟨rfl, _⟩ | ⟨n, rfl, n0, n1, n2, n3⟩
        · rfl
        · exact absurd (near_anti ok.wind0 fl (by decide) n0 n2) a
      · rcases hg2 with ⟨rfl, a⟩ | ⟨n, rfl, n0, n1, n2, n3⟩
        · exact absurd (near_anti ok.wind0 fl (by decide) m0 m2) a
        · have := ug m0 n0 m2 n3
          have := ug n0 m0 n2 m3
          rw [show m = n by omega]
    subst eg
    refine u_least_spacing ok t0 (by omega) fun s2 hs2 => ?_
    have es : s2 = s := by
      rcases hs with ⟨rfl, a⟩ | ⟨m, rfl, m0, m1, m2, m3⟩
      · rcases hs2 with ⟨rfl, _⟩ | ⟨n, rfl, n0, n1, n2, n3⟩
        · rfl
        · exact absurd (sw_mono (by omega) n1 n2) a
      · rcases hs2 with ⟨rfl, a⟩ | ⟨n, rfl, n0, n1, n2, n3⟩
        · exact absurd (sw_mono (by omega) m1 m2) a
        · rcases Int.lt_trichotomy m n with h | h | h
          · exact absurd m2 (n3 m m0 h)
          · rw [h]
          · exact absurd n2 (m3 n n0 h)
    subst es
    clear hg2 hs2 ug
    refine u_alike (Fn.fine (Fn.list (n := 2) (all2 fg fs) (by simp))) ?_
    simp only [dSeq, dAsg, dCB, dCons, dNil, dVar, onVs, vals, val, slot, setR, fGcd, dIfS, dTV, onV2, fLt, fLe, fGt, fGe, fAdd, fSub, fMul, fDiv, fMod, fI0, dC, dUn, onV, fNeg, dNext, dRet, dTup, onD, dats, fDivZ, fI, fPow, Few, retP, fAbs, fInt, fMax, fMin, fLen, fSqrt, fEq, fNe, dNot, dAnd, dOr, dAndV, dOrV, dNotV, dIfE, dDrop, dRetN, dPar, noO, dSetL, dLst, dOfL, dOwnM, onOwn, onDat, kAppend, kInsert, dSetItem, dAddItem, onItems, onInt, dNoPart, dPart, dSlice, onL, litems, dSlL, dCat, onM, mitems, dRng1, dRng2, dCallP, dCallB, dCallF, noSelf, onArgs, dats2, dIsi, tyName, dYes, dgCons, dgNil, retB, dBreak, dCont, ne_eq, not_false_eq_true, true_and, and_true, List.getElem?_cons_zero, List.getElem?_cons_succ, List.set_cons_zero, List.set_cons_succ, Option.map, List.length_cons, List.length_nil, dParM, dmNil, dmD, dmL, setM, dLc_eq, dLc2_eq, dFor_eq, dSortSet, dSort, dListOf, dIsN, dNotN, isNo, dAug, dMulA, dgUnl, dSlT, onT, dEnum, dZip, dZipM, dRetL, dPar3, dRevT, dLstRg, dTupRg, dRg1, dRg2, dChainLe, List.nil_append, List.cons_append, if_true, if_false, dFrz, dLcO, dMin2D, dAppX, dParL, dParLL, dRepL, fMax3, dNewDic, dDicPut, dDicGet, dSortDic, onDic, onKey, dLcW, dZipX, dParR, dDead, dSortD, dSortDT, fNeS, fEqS, dgSet, dTupZip, dFgt, fIsB, fNotB, List.map_cons, List.map_nil, fw0, fw1, fw2, fw3, fw4, fw5, fw6, fw7, fw8, fw9, fw10, fw11, fw12, fw13, fw14, fw15, dExtend, dExtendT, dLstDn, dMaxDf, dOp_ap, dIx_ap, dCatT_ap, dRepT_ap, items_l, items_t, items_o, ti_t, dgT_t, seqs_l, seqs_t, seqs_o, dSeqI_eq, wk_l, wk_t, wk_eP, wk_o, dTupOf_eq, tu_t, tu_l, tu_o, tu_eP, items_eW, items_eB, items_eSc, items_eLm, items_eP, items_eL, items_pr, items_enc2, items_eTm, ti_eB, ti_eW, ti_eLm, ti_eP, dgT_eSc, dgT_eLm, dgT_eL, dgT_pr, dgT_enc2, dgT_eW, dgT_eTm, seqs_eP, on0, on1, on2, on3, on4, on5, on6, on7, on8, Bool.not_true, Bool.false_eq_true]
    have bb : ∀ x : Int, -2000 ≤ x → x ≤ 2000 → BnB 60 (b.nr x) ∧ BnB 60 (b.sw x) := fun x x0 x1 => ⟨⟨ok.bd.sp.up (by decide), (bd_of 2000 x0 x1 : Bd 60 x), ok.bd.wind.up (by decide), ok.bd.clk.up (by decide), ok.bd.fall.up (by decide), ok.bd.way.up (by decide)⟩,
      ⟨(bd_of 2000 x0 x1 : Bd 60 x), ok.bd.near.up (by decide), ok.bd.wind.up (by decide), ok.bd.clk.up (by decide), ok.bd.fall.up (by decide), ok.bd.way.up (by decide)⟩⟩
    have bt : Bd 60 t := bd_of 1000000 (by omega) (by omega)
    have d1 : DV.cutD [PyData.int b.sp, .int b.near, .int b.wind, .int b.clk, .int b.fall, .int b.way, .int b.sil, .int b.cuts, .int b.deep] (some 1) none = [.int b.near, .int b.wind, .int b.clk, .int b.fall, .int b.way, .int b.sil, .int b.cuts, .int b.deep] := by rw [cut_drop (by decide)]; rfl
    have d2 : DV.cutD [PyData.int b.sp, .int b.near, .int b.wind, .int b.clk, .int b.fall, .int b.way, .int b.sil, .int b.cuts, .int b.deep] (some 2) none = [.int b.wind, .int b.clk, .int b.fall, .int b.way, .int b.sil, .int b.cuts, .int b.deep] := by rw [cut_drop (by decide)]; rfl
    rw [hk3]
    clear hk3
    refine seqI fun k4 hk4 => ?_
    have fin : ∀ c7 c8 : Option Ent, k4 [some (Ent.ro (PyData.list (List.map PyData.int ns))), some (Ent.own bag2), some (Ent.d (PyData.int (0 + ↑i))), some (Ent.d (eB b)), some (Ent.d (PyData.int t)), some (Ent.d g2), some (Ent.d s2), c7, c8] := by
      intro c7 c8
      rw [hk4]
      clear hk4
      have hb3 := hb2.up (show _ ≤ 100 * i + 100 by omega)
      rcases hs with ⟨rfl, _⟩ | ⟨m, rfl, m0, m1, m2, m3⟩
      · simp only [dSeq, dAsg, dCB, dCons, dNil, dVar, onVs, vals, val, slot, setR, fGcd, dIfS, dTV, onV2, fLt, fLe, fGt, fGe, fAdd, fSub, fMul, fDiv, fMod, fI0, dC, dUn, onV, fNeg, dNext, dRet, dTup, onD, dats, fDivZ, fI, fPow, Few, retP, fAbs, fInt, fMax, fMin, fLen, fSqrt, fEq, fNe, dNot, dAnd, dOr, dAndV, dOrV, dNotV, dIfE, dDrop, dRetN, dPar, noO, dSetL, dLst, dOfL, dOwnM, onOwn, onDat, kAppend, kInsert, dSetItem, dAddItem, onItems, onInt, dNoPart, dPart, dSlice, onL, litems, dSlL, dCat, onM, mitems, dRng1, dRng2, dCallP, dCallB, dCallF, noSelf, onArgs, dats2, dIsi, tyName, dYes, dgCons, dgNil, retB, dBreak, dCont, ne_eq, not_false_eq_true, true_and, and_true, List.getElem?_cons_zero, List.getElem?_cons_succ, List.set_cons_zero, List.set_cons_succ, Option.map, List.length_cons, List.length_nil, dParM, dmNil, dmD, dmL, setM, dLc_eq, dLc2_eq, dFor_eq, dSortSet, dSort, dListOf, dIsN, dNotN, isNo, dAug, dMulA, dgUnl, dSlT, onT, dEnum, dZip, dZipM, dRetL, dPar3, dRevT, dLstRg, dTupRg, dRg1, dRg2, dChainLe, List.nil_append, List.cons_append, if_true, if_false, dFrz, dLcO, dMin2D, dAppX, dParL, dParLL, dRepL, fMax3, dNewDic, dDicPut, dDicGet, dSortDic, onDic, onKey, dLcW, dZipX, dParR, dDead, dSortD, dSortDT, fNeS, fEqS, dgSet, dTupZip, dFgt, fIsB, fNotB, List.map_cons, List.map_nil, fw0, fw1, fw2, fw3, fw4, fw5, fw6, fw7, fw8, fw9, fw10, fw11, fw12, fw13, fw14, fw15, dExtend, dExtendT, dLstDn, dMaxDf, dOp_ap, dIx_ap, dCatT_ap, dRepT_ap, items_l, items_t, items_o, ti_t, dgT_t, seqs_l, seqs_t, seqs_o, dSeqI_eq, wk_l, wk_t, wk_eP, wk_o, dTupOf_eq, tu_t, tu_l, tu_o, tu_eP, items_eW, items_eB, items_eSc, items_eLm, items_eP, items_eL, items_pr, items_enc2, items_eTm, ti_eB, ti_eW, ti_eLm, ti_eP, dgT_eSc, dgT_eLm, dgT_eL, dgT_pr, dgT_enc2, dgT_eW, dgT_eTm, seqs_eP, on0, on1, on2, on3, on4, on5, on6, on7, on8, Bool.not_true, Bool.false_eq_true]
        exact hC' _ _ _ _ _ _ _ _ hb3
      simp only [dSeq, dAsg, dCB, dCons, dNil, dVar, onVs, vals, val, slot, setR, fGcd, dIfS, dTV, onV2, fLt, fLe, fGt, fGe, fAdd, fSub, fMul, fDiv, fMod, fI0, dC, dUn, onV, fNeg, dNext, dRet, dTup, onD, dats, fDivZ, fI, fPow, Few, retP, fAbs, fInt, fMax, fMin, fLen, fSqrt, fEq, fNe, dNot, dAnd, dOr, dAndV, dOrV, dNotV, dIfE, dDrop, dRetN, dPar, noO, dSetL, dLst, dOfL, dOwnM, onOwn, onDat, kAppend, kInsert, dSetItem, dAddItem, onItems, onInt, dNoPart, dPart, dSlice, onL, litems, dSlL, dCat, onM, mitems, dRng1, dRng2, dCallP, dCallB, dCallF, noSelf, onArgs, dats2, dIsi, tyName, dYes, dgCons, dgNil, retB, dBreak, dCont, ne_eq, not_false_eq_true, true_and, and_true, List.getElem?_cons_zero, List.getElem?_cons_succ, List.set_cons_zero, List.set_cons_succ, Option.map, List.length_cons, List.length_nil, dParM, dmNil, dmD, dmL, setM, dLc_eq, dLc2_eq, dFor_eq, dSortSet, dSort, dListOf, dIsN, dNotN, isNo, dAug, dMulA, dgUnl, dSlT, onT, dEnum, dZip, dZipM, dRetL, dPar3, dRevT, dLstRg, dTupRg, dRg1, dRg2, dChainLe, List.nil_append, List.cons_append, if_true, if_false, dFrz, dLcO, dMin2D, dAppX, dParL, dParLL, dRepL, fMax3, dNewDic, dDicPut, dDicGet, dSortDic, onDic, onKey, dLcW, dZipX, dParR, dDead, dSortD, dSortDT, fNeS, fEqS, dgSet, dTupZip, dFgt, fIsB, fNotB, List.map_cons, List.map_nil, fw0, fw1, fw2, fw3, fw4, fw5, fw6, fw7, fw8, fw9, fw10, fw11, fw12, fw13, fw14, fw15, dExtend, dExtendT, dLstDn, dMaxDf, dOp_ap, dIx_ap, dCatT_ap, dRepT_ap, items_l, items_t, items_o, ti_t, dgT_t, seqs_l, seqs_t, seqs_o, dSeqI_eq, wk_l, wk_t, wk_eP, wk_o, dTupOf_eq, tu_t, tu_l, tu_o, tu_eP, items_eW, items_eB, items_eSc, items_eLm, items_eP, items_eL, items_pr, items_enc2, items_eTm, ti_eB, ti_eW, ti_eLm, ti_eP, dgT_eSc, dgT_eLm, dgT_eL, dgT_pr, dgT_enc2, dgT_eW, dgT_eTm, seqs_eP, on0, on1, on2, on3, on4, on5, on6, on7, on8, Bool.not_false]
      refine ite_b (c := 1 < m) (fun h => ?_) fun _ => hC' _ _ _ _ _ _ _ _ hb3
      simp only [eB, items_t, on5]
      refine lc_map [m - 1, m, b.way] .int (fun x => .bool (decide (enough (b.sw x) t))) (hv1 rfl) (by simp) (fun j x hx C1 C2 n hn hc => ?_) ?_
      · have hx : x = m - 1 ∨ x = m ∨ x = b.way := by
          have := List.mem_of_getElem? hx
          simpa only [List.mem_cons, List.not_mem_nil, or_false] using this
        have hx2 : 0 ≤ x ∧ x ≤ b.way := by omega
        simp only [dSeq, dAsg, dCB, dCons, dNil, dVar, onVs, vals, val, slot, setR, fGcd, dIfS, dTV, onV2, fLt, fLe, fGt, fGe, fAdd, fSub, fMul, fDiv, fMod, fI0, dC, dUn, onV, fNeg, dNext, dRet, dTup, onD, dats, fDivZ, fI, fPow, Few, retP, fAbs, fInt, fMax, fMin, fLen, fSqrt, fEq, fNe, dNot, dAnd, dOr, dAndV, dOrV, dNotV, dIfE, dDrop, dRetN, dPar, noO, dSetL, dLst, dOfL, dOwnM, onOwn, onDat, kAppend, kInsert, dSetItem, dAddItem, onItems, onInt, dNoPart, dPart, dSlice, onL, litems, dSlL, dCat, onM, mitems, dRng1, dRng2, dCallP, dCallB, dCallF, noSelf, onArgs, dats2, dIsi, tyName, dYes, dgCons, dgNil, retB, dBreak, dCont, ne_eq, not_false_eq_true, true_and, and_true, List.getElem?_cons_zero, List.getElem?_cons_succ, List.set_cons_zero, List.set_cons_succ, Option.map, List.length_cons, List.length_nil, dParM, dmNil, dmD, dmL, setM, dLc_eq, dLc2_eq, dFor_eq, dSortSet, dSort, dListOf, dIsN, dNotN, isNo, dAug, dMulA, dgUnl, dSlT, onT, dEnum, dZip, dZipM, dRetL, dPar3, dRevT, dLstRg, dTupRg, dRg1, dRg2, dChainLe, List.nil_append, List.cons_append, if_true, if_false, dFrz, dLcO, dMin2D, dAppX, dParL, dParLL, dRepL, fMax3, dNewDic, dDicPut, dDicGet, dSortDic, onDic, onKey, dLcW, dZipX, dParR, dDead, dSortD, dSortDT, fNeS, fEqS, dgSet, dTupZip, dFgt, fIsB, fNotB, List.map_cons, List.map_nil, fw0, fw1, fw2, fw3, fw4, fw5, fw6, fw7, fw8, fw9, fw10, fw11, fw12, fw13, fw14, fw15, dExtend, dExtendT, dLstDn, dMaxDf, dOp_ap, dIx_ap, dCatT_ap, dRepT_ap, items_l, items_t, items_o, ti_t, dgT_t, seqs_l, seqs_t, seqs_o, dSeqI_eq, wk_l, wk_t, wk_eP, wk_o, dTupOf_eq, tu_t, tu_l, tu_o, tu_eP, items_eW, items_eB, items_eSc, items_eLm, items_eP, items_eL, items_pr, items_enc2, items_eTm, ti_eB, ti_eW, ti_eLm, ti_eP, dgT_eSc, dgT_eLm, dgT_eL, dgT_pr, dgT_enc2, dgT_eW, dgT_eTm, seqs_eP, on0, on1, on2, on3, on4, on5, on6, on7, on8]
        simp only [d1, List.nil_append, List.cons_append, List.length_cons, List.length_nil]
        refine ⟨by decide, u_is_enough (b := b.sw x) (bb x (by omega) (by omega)).2 bt (by decide) ?_⟩
        simp only [dSeq, dAsg, dCB, dCons, dNil, dVar, onVs, vals, val, slot, setR, fGcd, dIfS, dTV, onV2, fLt, fLe, fGt, fGe, fAdd, fSub, fMul, fDiv, fMod, fI0, dC, dUn, onV, fNeg, dNext, dRet, dTup, onD, dats, fDivZ, fI, fPow, Few, retP, fAbs, fInt, fMax, fMin, fLen, fSqrt, fEq, fNe, dNot, dAnd, dOr, dAndV, dOrV, dNotV, dIfE, dDrop, dRetN, dPar, noO, dSetL, dLst, dOfL, dOwnM, onOwn, onDat, kAppend, kInsert, dSetItem, dAddItem, onItems, onInt, dNoPart, dPart, dSlice, onL, litems, dSlL, dCat, onM, mitems, dRng1, dRng2, dCallP, dCallB, dCallF, noSelf, onArgs, dats2, dIsi, tyName, dYes, dgCons, dgNil, retB, dBreak, dCont, ne_eq, not_false_eq_true, true_and, and_true, List.getElem?_cons_zero, List.getElem?_cons_succ, List.set_cons_zero, List.set_cons_succ, Option.map, List.length_cons, List.length_nil, dParM, dmNil, dmD, dmL, setM, dLc_eq, dLc2_eq, dFor_eq, dSortSet, dSort, dListOf, dIsN, dNotN, isNo, dAug, dMulA, dgUnl, dSlT, onT, dEnum, dZip, dZipM, dRetL, dPar3, dRevT, dLstRg, dTupRg, dRg1, dRg2, dChainLe, List.nil_append, List.cons_append, if_true, if_false, dFrz, dLcO, dMin2D, dAppX, dParL, dParLL, dRepL, fMax3, dNewDic, dDicPut, dDicGet, dSortDic, onDic, onKey, dLcW, dZipX, dParR, dDead, dSortD, dSortDT, fNeS, fEqS, dgSet, dTupZip, dFgt, fIsB, fNotB, List.map_cons, List.map_nil, fw0, fw1, fw2, fw3, fw4, fw5, fw6, fw7, fw8, fw9, fw10, fw11, fw12, fw13, fw14, fw15, dExtend, dExtendT, dLstDn, dMaxDf, dOp_ap, dIx_ap, dCatT_ap, dRepT_ap, items_l, items_t, items_o, ti_t, dgT_t, seqs_l, seqs_t, seqs_o, dSeqI_eq, wk_l, wk_t, wk_eP, wk_o, dTupOf_eq, tu_t, tu_l, tu_o, tu_eP, items_eW, items_eB, items_eSc, items_eLm, items_eP, items_eL, items_pr, items_enc2, items_eTm, ti_eB, ti_eW, ti_eLm, ti_eP, dgT_eSc, dgT_eLm, dgT_eL, dgT_pr, dgT_enc2, dgT_eW, dgT_eTm, seqs_eP, on0, on1, on2, on3, on4, on5, on6, on7, on8, wipeR]
        exact ⟨hn, hc⟩
      · simp only [List.map_cons, List.map_nil]
        rw [decide_eq_true m2, decide_eq_false (m3 _ (by omega) (by omega)), decide_eq_true (sw_mono (by omega) m1 m2)]
        simp only [dSeq, dAsg, dCB, dCons, dNil, dVar, onVs, vals, val, slot, setR, fGcd, dIfS, dTV, onV2, fLt, fLe, fGt, fGe, fAdd, fSub, fMul, fDiv, fMod, fI0, dC, dUn, onV, fNeg, dNext, dRet, dTup, onD, dats, fDivZ, fI, fPow, Few, retP, fAbs, fInt, fMax, fMin, fLen, fSqrt, fEq, fNe, dNot, dAnd, dOr, dAndV, dOrV, dNotV, dIfE, dDrop, dRetN, dPar, noO, dSetL, dLst, dOfL, dOwnM, onOwn, onDat, kAppend, kInsert, dSetItem, dAddItem, onItems, onInt, dNoPart, dPart, dSlice, onL, litems, dSlL, dCat, onM, mitems, dRng1, dRng2, dCallP, dCallB, dCallF, noSelf, onArgs, dats2, dIsi, tyName, dYes, dgCons, dgNil, retB, dBreak, dCont, ne_eq, not_false_eq_true, true_and, and_true, List.getElem?_cons_zero, List.getElem?_cons_succ, List.set_cons_zero, List.set_cons_succ, Option.map, List.length_cons, List.length_nil, dParM, dmNil, dmD, dmL, setM, dLc_eq, dLc2_eq, dFor_eq, dSortSet, dSort, dListOf, dIsN, dNotN, isNo, dAug, dMulA, dgUnl, dSlT, onT, dEnum, dZip, dZipM, dRetL, dPar3, dRevT, dLstRg, dTupRg, dRg1, dRg2, dChainLe, List.nil_append, List.cons_append, if_true, if_false, dFrz, dLcO, dMin2D, dAppX, dParL, dParLL, dRepL, fMax3, dNewDic, dDicPut, dDicGet, dSortDic, onDic, onKey, dLcW, dZipX, dParR, dDead, dSortD, dSortDT, fNeS, fEqS, dgSet, dTupZip, dFgt, fIsB, fNotB, List.map_cons, List.map_nil, fw0, fw1, fw2, fw3, fw4, fw5, fw6, fw7, fw8, fw9, fw10, fw11, fw12, fw13, fw14, fw15, dExtend, dExtendT, dLstDn, dMaxDf, dOp_ap, dIx_ap, dCatT_ap, dRepT_ap, items_l, items_t, items_o, ti_t, dgT_t, seqs_l, seqs_t, seqs_o, dSeqI_eq, wk_l, wk_t, wk_eP, wk_o, dTupOf_eq, tu_t, tu_l, tu_o, tu_eP, items_eW, items_eB, items_eSc, items_eLm, items_eP, items_eL, items_pr, items_enc2, items_eTm, ti_eB, ti_eW, ti_eLm, ti_eP, dgT_eSc, dgT_eLm, dgT_eL, dgT_pr, dgT_enc2, dgT_eW, dgT_eTm, seqs_eP, on0, on1, on2, on3, on4, on5, on6, on7, on8, wipeR]
        refine u_alike (Fn.fine (Fn.list (n := 3) (all3 Fn.bool Fn.bool Fn.bool) (by simp))) ?_
        simp only [dSeq, dAsg, dCB, dCons, dNil, dVar, onVs, vals, val, slot, setR, fGcd, dIfS, dTV, onV2, fLt, fLe, fGt, fGe, fAdd, fSub, fMul, fDiv, fMod, fI0, dC, dUn, onV, fNeg, dNext, dRet, dTup, onD, dats, fDivZ, fI, fPow, Few, retP, fAbs, fInt, fMax, fMin, fLen, fSqrt, fEq, fNe, dNot, dAnd, dOr, dAndV, dOrV, dNotV, dIfE, dDrop, dRetN, dPar, noO, dSetL, dLst, dOfL, dOwnM, onOwn, onDat, kAppend, kInsert, dSetItem, dAddItem, onItems, onInt, dNoPart, dPart, dSlice, onL, litems, dSlL, dCat, onM, mitems, dRng1, dRng2, dCallP, dCallB, dCallF, noSelf, onArgs, dats2, dIsi, tyName, dYes, dgCons, dgNil, retB, dBreak, dCont, ne_eq, not_false_eq_true, true_and, and_true, List.getElem?_cons_zero, List.getElem?_cons_succ, List.set_cons_zero, List.set_cons_succ, Option.map, List.length_cons, List.length_nil, dParM, dmNil, dmD, dmL, setM, dLc_eq, dLc2_eq, dFor_eq, dSortSet, dSort, dListOf, dIsN, dNotN, isNo, dAug, dMulA, dgUnl, dSlT, onT, dEnum, dZip, dZipM, dRetL, dPar3, dRevT, dLstRg, dTupRg, dRg1, dRg2, dChainLe, List.nil_append, List.cons_append, if_true, if_false, dFrz, dLcO, dMin2D, dAppX, dParL, dParLL, dRepL, fMax3, dNewDic, dDicPut, dDicGet, dSortDic, onDic, onKey, dLcW, dZipX, dParR, dDead, dSortD, dSortDT, fNeS, fEqS, dgSet, dTupZip, dFgt, fIsB, fNotB, List.map_cons, List.map_nil, fw0, fw1, fw2, fw3, fw4, fw5, fw6, fw7, fw8, fw9, fw10, fw11, fw12, fw13, fw14, fw15, dExtend, dExtendT, dLstDn, dMaxDf, dOp_ap, dIx_ap, dCatT_ap, dRepT_ap, items_l, items_t, items_o, ti_t, dgT_t, seqs_l, seqs_t, seqs_o, dSeqI_eq, wk_l, wk_t, wk_eP, wk_o, dTupOf_eq, tu_t, tu_l, tu_o, tu_eP, items_eW, items_eB, items_eSc, items_eLm, items_eP, items_eL, items_pr, items_enc2, items_eTm, ti_eB, ti_eW, ti_eLm, ti_eP, dgT_eSc, dgT_eLm, dgT_eL, dgT_pr, dgT_enc2, dgT_eW, dgT_eTm, seqs_eP, on0, on1, on2, on3, on4, on5, on6, on7, on8, Bool.not_true, Bool.false_eq_true]
        exact hC' _ _ _ _ _ _ _ _ hb3
    clear hk4
    rcases hg with ⟨rfl, _⟩ | ⟨m, rfl, m0, m1, m2, m3⟩
    · simp only [dSeq, dAsg, dCB, dCons, dNil, dVar, onVs, vals, val, slot, setR, fGcd, dIfS, dTV, onV2, fLt, fLe, fGt, fGe, fAdd, fSub, fMul, fDiv, fMod, fI0, dC, dUn, onV, fNeg, dNext, dRet, dTup, onD, dats, fDivZ, fI, fPow, Few, retP, fAbs, fInt, fMax, fMin, fLen, fSqrt, fEq, fNe, dNot, dAnd, dOr, dAndV, dOrV, dNotV, dIfE, dDrop, dRetN, dPar, noO, dSetL, dLst, dOfL, dOwnM, onOwn, onDat, kAppend, kInsert, dSetItem, dAddItem, onItems, onInt, dNoPart, dPart, dSlice, onL, litems, dSlL, dCat, onM, mitems, dRng1, dRng2, dCallP, dCallB, dCallF, noSelf, onArgs, dats2, dIsi, tyName, dYes, dgCons, dgNil, retB, dBreak, dCont, ne_eq, not_false_eq_true, true_and, and_true, List.getElem?_cons_zero, List.getElem?_cons_succ, List.set_cons_zero, List.set_cons_succ, Option.map, List.length_cons, List.length_nil, dParM, dmNil, dmD, dmL, setM, dLc_eq, dLc2_eq, dFor_eq, dSortSet, dSort, dListOf, dIsN, dNotN, isNo, dAug, dMulA, dgUnl, dSlT, onT, dEnum, dZip, dZipM, dRetL, dPar3, dRevT, dLstRg, dTupRg, dRg1, dRg2, dChainLe, List.nil_append, List.cons_append, if_true, if_false, dFrz, dLcO, dMin2D, dAppX, dParL, dParLL, dRepL, fMax3, dNewDic, dDicPut, dDicGet, dSortDic, onDic, onKey, dLcW, dZipX, dParR, dDead, dSortD, dSortDT, fNeS, fEqS, dgSet, dTupZip, dFgt, fIsB, fNotB, List.map_cons, List.map_nil, fw0, fw1, fw2, fw3, fw4, fw5, fw6, fw7, fw8, fw9, fw10, fw11, fw12, fw13, fw14, fw15, dExtend, dExtendT, dLstDn, dMaxDf, dOp_ap, dIx_ap, dCatT_ap, dRepT_ap, items_l, items_t, items_o, ti_t, dgT_t, seqs_l, seqs_t, seqs_o, dSeqI_eq, wk_l, wk_t, wk_eP, wk_o, dTupOf_eq, tu_t, tu_l, tu_o, tu_eP, items_eW, items_eB, items_eSc, items_eLm, items_eP, items_eL, items_pr, items_enc2, items_eTm, ti_eB, ti_eW, ti_eLm, ti_eP, dgT_eSc, dgT_eLm, dgT_eL, dgT_pr, dgT_enc2, dgT_eW, dgT_eTm, seqs_eP, on0, on1, on2, on3, on4, on5, on6, on7, on8, Bool.not_true, Bool.false_eq_true]
      exact fin _ _
    simp only [dSeq, dAsg, dCB, dCons, dNil, dVar, onVs, vals, val, slot, setR, fGcd, dIfS, dTV, onV2, fLt, fLe, fGt, fGe, fAdd, fSub, fMul, fDiv, fMod, fI0, dC, dUn, onV, fNeg, dNext, dRet, dTup, onD, dats, fDivZ, fI, fPow, Few, retP, fAbs, fInt, fMax, fMin, fLen, fSqrt, fEq, fNe, dNot, dAnd, dOr, dAndV, dOrV, dNotV, dIfE, dDrop, dRetN, dPar, noO, dSetL, dLst, dOfL, dOwnM, onOwn, onDat, kAppend, kInsert, dSetItem, dAddItem, onItems, onInt, dNoPart, dPart, dSlice, onL, litems, dSlL, dCat, onM, mitems, dRng1, dRng2, dCallP, dCallB, dCallF, noSelf, onArgs, dats2, dIsi, tyName, dYes, dgCons, dgNil, retB, dBreak, dCont, ne_eq, not_false_eq_true, true_and, and_true, List.getElem?_cons_zero, List.getElem?_cons_succ, List.set_cons_zero, List.set_cons_succ, Option.map, List.length_cons, List.length_nil, dParM, dmNil, dmD, dmL, setM, dLc_eq, dLc2_eq, dFor_eq, dSortSet, dSort, dListOf, dIsN, dNotN, isNo, dAug, dMulA, dgUnl, dSlT, onT, dEnum, dZip, dZipM, dRetL, dPar3, dRevT, dLstRg, dTupRg, dRg1, dRg2, dChainLe, List.nil_append, List.cons_append, if_true, if_false, dFrz, dLcO, dMin2D, dAppX, dParL, dParLL, dRepL, fMax3, dNewDic, dDicPut, dDicGet, dSortDic, onDic, onKey, dLcW, dZipX, dParR, dDead, dSortD, dSortDT, fNeS, fEqS, dgSet, dTupZip, dFgt, fIsB, fNotB, List.map_cons, List.map_nil, fw0, fw1, fw2, fw3, fw4, fw5, fw6, fw7, fw8, fw9, fw10, fw11, fw12, fw13, fw14, fw15, dExtend, dExtendT, dLstDn, dMaxDf, dOp_ap, dIx_ap, dCatT_ap, dRepT_ap, items_l, items_t, items_o, ti_t, dgT_t, seqs_l, seqs_t, seqs_o, dSeqI_eq, wk_l, wk_t, wk_eP, wk_o, dTupOf_eq, tu_t, tu_l, tu_o, tu_eP, items_eW, items_eB, items_eSc, items_eLm, items_eP, items_eL, items_pr, items_enc2, items_eTm, ti_eB, ti_eW, ti_eLm, ti_eP, dgT_eSc, dgT_eLm, dgT_eL, dgT_pr, dgT_enc2, dgT_eW, dgT_eTm, seqs_eP, on0, on1, on2, on3, on4, on5, on6, on7, on8, Bool.not_false]
    refine lc_map [m, m + 1] .int (fun x => .bool (decide (enough (b.nr x) t))) (hv1 rfl) (by simp) (fun j x hx C1 C2 n hn hc => ?_) ?_
    · have hx : x = m ∨ x = m + 1 := by
        have := List.mem_of_getElem? hx
        simpa only [List.mem_cons, List.not_mem_nil, or_false] using this
      simp only [dSeq, dAsg, dCB, dCons, dNil, dVar, onVs, vals, val, slot, setR, fGcd, dIfS, dTV, onV2, fLt, fLe, fGt, fGe, fAdd, fSub, fMul, fDiv, fMod, fI0, dC, dUn, onV, fNeg, dNext, dRet, dTup, onD, dats, fDivZ, fI, fPow, Few, retP, fAbs, fInt, fMax, fMin, fLen, fSqrt, fEq, fNe, dNot, dAnd, dOr, dAndV, dOrV, dNotV, dIfE, dDrop, dRetN, dPar, noO, dSetL, dLst, dOfL, dOwnM, onOwn, onDat, kAppend, kInsert, dSetItem, dAddItem, onItems, onInt, dNoPart, dPart, dSlice, onL, litems, dSlL, dCat, onM, mitems, dRng1, dRng2, dCallP, dCallB, dCallF, noSelf, onArgs, dats2, dIsi, tyName, dYes, dgCons, dgNil, retB, dBreak, dCont, ne_eq, not_false_eq_true, true_and, and_true, List.getElem?_cons_zero, List.getElem?_cons_succ, List.set_cons_zero, List.set_cons_succ, Option.map, List.length_cons, List.length_nil, dParM, dmNil, dmD, dmL, setM, dLc_eq, dLc2_eq, dFor_eq, dSortSet, dSort, dListOf, dIsN, dNotN, isNo, dAug, dMulA, dgUnl, dSlT, onT, dEnum, dZip, dZipM, dRetL, dPar3, dRevT, dLstRg, dTupRg, dRg1, dRg2, dChainLe, List.nil_append, List.cons_append, if_true, if_false, dFrz, dLcO, dMin2D, dAppX, dParL, dParLL, dRepL, fMax3, dNewDic, dDicPut, dDicGet, dSortDic, onDic, onKey, dLcW, dZipX, dParR, dDead, dSortD, dSortDT, fNeS, fEqS, dgSet, dTupZip, dFgt, fIsB, fNotB, List.map_cons, List.map_nil, fw0, fw1, fw2, fw3, fw4, fw5, fw6, fw7, fw8, fw9, fw10, fw11, fw12, fw13, fw14, fw15, dExtend, dExtendT, dLstDn, dMaxDf, dOp_ap, dIx_ap, dCatT_ap, dRepT_ap, items_l, items_t, items_o, ti_t, dgT_t, seqs_l, seqs_t, seqs_o, dSeqI_eq, wk_l, wk_t, wk_eP, wk_o, dTupOf_eq, tu_t, tu_l, tu_o, tu_eP, items_eW, items_eB, items_eSc, items_eLm, items_eP, items_eL, items_pr, items_enc2, items_eTm, ti_eB, ti_eW, ti_eLm, ti_eP, dgT_eSc, dgT_eLm, dgT_eL, dgT_pr, dgT_enc2, dgT_eW, dgT_eTm, seqs_eP, on0, on1, on2, on3, on4, on5, on6, on7, on8, eB]
      simp only [d2, List.nil_append, List.cons_append, List.length_cons, List.length_nil]
      refine ⟨by decide, u_is_enough (b := b.nr x) (bb x (by omega) (by omega)).1 bt (by decide) ?_⟩
      simp only [dSeq, dAsg, dCB, dCons, dNil, dVar, onVs, vals, val, slot, setR, fGcd, dIfS, dTV, onV2, fLt, fLe, fGt, fGe, fAdd, fSub, fMul, fDiv, fMod, fI0, dC, dUn, onV, fNeg, dNext, dRet, dTup, onD, dats, fDivZ, fI, fPow, Few, retP, fAbs, fInt, fMax, fMin, fLen, fSqrt, fEq, fNe, dNot, dAnd, dOr, dAndV, dOrV, dNotV, dIfE, dDrop, dRetN, dPar, noO, dSetL, dLst, dOfL, dOwnM, onOwn, onDat, kAppend, kInsert, dSetItem, dAddItem, onItems, onInt, dNoPart, dPart, dSlice, onL, litems, dSlL, dCat, onM, mitems, dRng1, dRng2, dCallP, dCallB, dCallF, noSelf, onArgs, dats2, dIsi, tyName, dYes, dgCons, dgNil, retB, dBreak, dCont, ne_eq, not_false_eq_true, true_and, and_true, List.getElem?_cons_zero, List.getElem?_cons_succ, List.set_cons_zero, List.set_cons_succ, Option.map, List.length_cons, List.length_nil, dParM, dmNil, dmD, dmL, setM, dLc_eq, dLc2_eq, dFor_eq, dSortSet, dSort, dListOf, dIsN, dNotN, isNo, dAug, dMulA, dgUnl, dSlT, onT, dEnum, dZip, dZipM, dRetL, dPar3, dRevT, dLstRg, dTupRg, dRg1, dRg2, dChainLe, List.nil_append, List.cons_append, if_true, if_false, dFrz, dLcO, dMin2D, dAppX, dParL, dParLL, dRepL, fMax3, dNewDic, dDicPut, dDicGet, dSortDic, onDic, onKey, dLcW, dZipX, dParR, dDead, dSortD, dSortDT, fNeS, fEqS, dgSet, dTupZip, dFgt, fIsB, fNotB, List.map_cons, List.map_nil, fw0, fw1, fw2, fw3, fw4, fw5, fw6, fw7, fw8, fw9, fw10, fw11, fw12, fw13, fw14, fw15, dExtend, dExtendT, dLstDn, dMaxDf, dOp_ap, dIx_ap, dCatT_ap, dRepT_ap, items_l, items_t, items_o, ti_t, dgT_t, seqs_l, seqs_t, seqs_o, dSeqI_eq, wk_l, wk_t, wk_eP, wk_o, dTupOf_eq, tu_t, tu_l, tu_o, tu_eP, items_eW, items_eB, items_eSc, items_eLm, items_eP, items_eL, items_pr, items_enc2, items_eTm, ti_eB, ti_eW, ti_eLm, ti_eP, dgT_eSc, dgT_eLm, dgT_eL, dgT_pr, dgT_enc2, dgT_eW, dgT_eTm, seqs_eP, on0, on1, on2, on3, on4, on5, on6, on7, on8, wipeR]
      exact ⟨hn, hc⟩
    · simp only [List.map_cons, List.map_nil]
      rw [decide_eq_true m2, decide_eq_false m3]
      simp only [dSeq, dAsg, dCB, dCons, dNil, dVar, onVs, vals, val, slot, setR, fGcd, dIfS, dTV, onV2, fLt, fLe, fGt, fGe, fAdd, fSub, fMul, fDiv, fMod, fI0, dC, dUn, onV, fNeg, dNext, dRet, dTup, onD, dats, fDivZ, fI, fPow, Few, retP, fAbs, fInt, fMax, fMin, fLen, fSqrt, fEq, fNe, dNot, dAnd, dOr, dAndV, dOrV, dNotV, dIfE, dDrop, dRetN, dPar, noO, dSetL, dLst, dOfL, dOwnM, onOwn, onDat, kAppend, kInsert, dSetItem, dAddItem, onItems, onInt, dNoPart, dPart, dSlice, onL, litems, dSlL, dCat, onM, mitems, dRng1, dRng2, dCallP, dCallB, dCallF, noSelf, onArgs, dats2, dIsi, tyName, dYes, dgCons, dgNil, retB, dBreak, dCont, ne_eq, not_false_eq_true, true_and, and_true, List.getElem?_cons_zero, List.getElem?_cons_succ, List.set_cons_zero, List.set_cons_succ, Option.map, List.length_cons, List.length_nil, dParM, dmNil, dmD, dmL, setM, dLc_eq, dLc2_eq, dFor_eq, dSortSet, dSort, dListOf, dIsN, dNotN, isNo, dAug, dMulA, dgUnl, dSlT, onT, dEnum, dZip, dZipM, dRetL, dPar3, dRevT, dLstRg, dTupRg, dRg1, dRg2, dChainLe, List.nil_append, List.cons_append, if_true, if_false, dFrz, dLcO, dMin2D, dAppX, dParL, dParLL, dRepL, fMax3, dNewDic, dDicPut, dDicGet, dSortDic, onDic, onKey, dLcW, dZipX, dParR, dDead, dSortD, dSortDT, fNeS, fEqS, dgSet, dTupZip, dFgt, fIsB, fNotB, List.map_cons, List.map_nil, fw0, fw1, fw2, fw3, fw4, fw5, fw6, fw7, fw8, fw9, fw10, fw11, fw12, fw13, fw14, fw15, dExtend, dExtendT, dLstDn, dMaxDf, dOp_ap, dIx_ap, dCatT_ap, dRepT_ap, items_l, items_t, items_o, ti_t, dgT_t, seqs_l, seqs_t, seqs_o, dSeqI_eq, wk_l, wk_t, wk_eP, wk_o, dTupOf_eq, tu_t, tu_l, tu_o, tu_eP, items_eW, items_eB, items_eSc, items_eLm, items_eP, items_eL, items_pr, items_enc2, items_eTm, ti_eB, ti_eW, ti_eLm, ti_eP, dgT_eSc, dgT_eLm, dgT_eL, dgT_pr, dgT_enc2, dgT_eW, dgT_eTm, seqs_eP, on0, on1, on2, on3, on4, on5, on6, on7, on8, wipeR]
      refine u_alike (Fn.fine (Fn.list (n := 2) (all2 Fn.bool Fn.bool) (by simp))) ?_
      simp only [dSeq, dAsg, dCB, dCons, dNil, dVar, onVs, vals, val, slot, setR, fGcd, dIfS, dTV, onV2, fLt, fLe, fGt, fGe, fAdd, fSub, fMul, fDiv, fMod, fI0, dC, dUn, onV, fNeg, dNext, dRet, dTup, onD, dats, fDivZ, fI, fPow, Few, retP, fAbs, fInt, fMax, fMin, fLen, fSqrt, fEq, fNe, dNot, dAnd, dOr, dAndV, dOrV, dNotV, dIfE, dDrop, dRetN, dPar, noO, dSetL, dLst, dOfL, dOwnM, onOwn, onDat, kAppend, kInsert, dSetItem, dAddItem, onItems, onInt, dNoPart, dPart, dSlice, onL, litems, dSlL, dCat, onM, mitems, dRng1, dRng2, dCallP, dCallB, dCallF, noSelf, onArgs, dats2, dIsi, tyName, dYes, dgCons, dgNil, retB, dBreak, dCont, ne_eq, not_false_eq_true, true_and, and_true, List.getElem?_cons_zero, List.getElem?_cons_succ, List.set_cons_zero, List.set_cons_succ, Option.map, List.length_cons, List.length_nil, dParM, dmNil, dmD, dmL, setM, dLc_eq, dLc2_eq, dFor_eq, dSortSet, dSort, dListOf, dIsN, dNotN, isNo, dAug, dMulA, dgUnl, dSlT, onT, dEnum, dZip, dZipM, dRetL, dPar3, dRevT, dLstRg, dTupRg, dRg1, dRg2, dChainLe, List.nil_append, List.cons_append, if_true, if_false, dFrz, dLcO, dMin2D, dAppX, dParL, dParLL, dRepL, fMax3, dNewDic, dDicPut, dDicGet, dSortDic, onDic, onKey, dLcW, dZipX, dParR, dDead, dSortD, dSortDT, fNeS, fEqS, dgSet, dTupZip, dFgt, fIsB, fNotB, List.map_cons, List.map_nil, fw0, fw1, fw2, fw3, fw4, fw5, fw6, fw7, fw8, fw9, fw10, fw11, fw12, fw13, fw14, fw15, dExtend, dExtendT, dLstDn, dMaxDf, dOp_ap, dIx_ap, dCatT_ap, dRepT_ap, items_l, items_t, items_o, ti_t, dgT_t, seqs_l, seqs_t, seqs_o, dSeqI_eq, wk_l, wk_t, wk_eP, wk_o, dTupOf_eq, tu_t, tu_l, tu_o, tu_eP, items_eW, items_eB, items_eSc, items_eLm, items_eP, items_eL, items_pr, items_enc2, items_eTm, ti_eB, ti_eW, ti_eLm, ti_eP, dgT_eSc, dgT_eLm, dgT_eL, dgT_pr, dgT_enc2, dgT_eW, dgT_eTm, seqs_eP, on0, on1, on2, on3, on4, on5, on6, on7, on8, Bool.not_true, Bool.false_eq_true]
      exact fin _ _
  · rw [hk2]
    simp only [dSeq, dAsg, dCB, dCons, dNil, dVar, onVs, vals, val, slot, setR, fGcd, dIfS, dTV, onV2, fLt, fLe, fGt, fGe, fAdd, fSub, fMul, fDiv, fMod, fI0, dC, dUn, onV, fNeg, dNext, dRet, dTup, onD, dats, fDivZ, fI, fPow, Few, retP, fAbs, fInt, fMax, fMin, fLen, fSqrt, fEq, fNe, dNot, dAnd, dOr, dAndV, dOrV, dNotV, dIfE, dDrop, dRetN, dPar, noO, dSetL, dLst, dOfL, dOwnM, onOwn, onDat, kAppend, kInsert, dSetItem, dAddItem, onItems, onInt, dNoPart, dPart, dSlice, onL, litems, dSlL, dCat, onM, mitems, dRng1, dRng2, dCallP, dCallB, dCallF, noSelf, onArgs, dats2, dIsi, tyName, dYes, dgCons, dgNil, retB, dBreak, dCont, ne_eq, not_false_eq_true, true_and, and_true, List.getElem?_cons_zero, List.getElem?_cons_succ, List.set_cons_zero, List.set_cons_succ, Option.map, List.length_cons, List.length_nil, dParM, dmNil, dmD, dmL, setM, dLc_eq, dLc2_eq, dFor_eq, dSortSet, dSort, dListOf, dIsN, dNotN, isNo, dAug, dMulA, dgUnl, dSlT, onT, dEnum, dZip, dZipM, dRetL, dPar3, dRevT, dLstRg, dTupRg, dRg1, dRg2, dChainLe, List.nil_append, List.cons_append, if_true, if_false, dFrz, dLcO, dMin2D, dAppX, dParL, dParLL, dRepL, fMax3, dNewDic, dDicPut, dDicGet, dSortDic, onDic, onKey, dLcW, dZipX, dParR, dDead, dSortD, dSortDT, fNeS, fEqS, dgSet, dTupZip, dFgt, fIsB, fNotB, List.map_cons, List.map_nil, fw0, fw1, fw2, fw3, fw4, fw5, fw6, fw7, fw8, fw9, fw10, fw11, fw12, fw13, fw14, fw15, dExtend, dExtendT, dLstDn, dMaxDf, dOp_ap, dIx_ap, dCatT_ap, dRepT_ap, items_l, items_t, items_o, ti_t, dgT_t, seqs_l, seqs_t, seqs_o, dSeqI_eq, wk_l, wk_t, wk_eP, wk_o, dTupOf_eq, tu_t, tu_l, tu_o, tu_eP, items_eW, items_eB, items_eSc, items_eLm, items_eP, items_eL, items_pr, items_enc2, items_eTm, ti_eB, ti_eW, ti_eLm, ti_eP, dgT_eSc, dgT_eLm, dgT_eL, dgT_pr, dgT_enc2, dgT_eW, dgT_eTm, seqs_eP, on0, on1, on2, on3, on4, on5, on6, on7, on8]
    exact hQ
end
set_option maxHeartbeats 8000000 in
theorem all_mk {l : PySem.W.OpenLaw} {w : World} {K : PySem.W.Frag} {h : Heap} {mg : Str → Option Value} {fa : Addr} (X : K.In h) (G : h.Ns mainGlobals mg) (hfa : mg "law" = some (.ref fa))
    {od1 an1 : Option Addr} {sl1 : Array (Option Value)} {oc1 kV1 dc1 pm1 cd1 ct1 : Value} {f1 : Addr}
    (a1 : PySem.W.nsIn K mainGlobals "r_of" = some (some (.ref f1))) (l1 : K.lookup f1 = some ⟨oc1, od1, .func (PySem.W.fnOf "r_of" "r_of" (defArgs s_r_of) (defBody s_r_of) (defScope s_r_of) .none kV1 dc1 pm1 an1 cd1 ct1), sl1⟩) (c1 : PySem.W.codeIn K cd1 "r_of" = true) (k1 : PySem.W.keepIn K (.ref f1) = true)
    {od2 an2 : Option Addr} {sl2 : Array (Option Value)} {oc2 kV2 dc2 pm2 cd2 ct2 : Value} {f2 : Addr}
    (a2 : PySem.W.nsIn K mainGlobals "lag_of" = some (some (.ref f2))) (l2 : K.lookup f2 = some ⟨oc2, od2, .func (PySem.W.fnOf "lag_of" "lag_of" (defArgs s_lag_of) (defBody s_lag_of) (defScope s_lag_of) .none kV2 dc2 pm2 an2 cd2 ct2), sl2⟩) (c2 : PySem.W.codeIn K cd2 "lag_of" = true) (k2 : PySem.W.keepIn K (.ref f2) = true)
    {od3 an3 : Option Addr} {sl3 : Array (Option Value)} {oc3 kV3 dc3 pm3 cd3 ct3 : Value} {f3 : Addr}
    (a3 : PySem.W.nsIn K mainGlobals "least_from" = some (some (.ref f3))) (l3 : K.lookup f3 = some ⟨oc3, od3, .func (PySem.W.fnOf "least_from" "least_from" (defArgs s_least_from) (defBody s_least_from) (defScope s_least_from) .none kV3 dc3 pm3 an3 cd3 ct3), sl3⟩) (c3 : PySem.W.codeIn K cd3 "least_from" = true) (k3 : PySem.W.keepIn K (.ref f3) = true)
    {od4 an4 : Option Addr} {sl4 : Array (Option Value)} {oc4 kV4 dc4 pm4 cd4 ct4 : Value} {f4 : Addr}
    (a4 : PySem.W.nsIn K mainGlobals "_with" = some (some (.ref f4))) (l4 : K.lookup f4 = some ⟨oc4, od4, .func (PySem.W.fnOf "_with" "_with" (defArgs s__with) (defBody s__with) (defScope s__with) .none kV4 dc4 pm4 an4 cd4 ct4), sl4⟩) (c4 : PySem.W.codeIn K cd4 "_with" = true) (k4 : PySem.W.keepIn K (.ref f4) = true)
    {od5 an5 : Option Addr} {sl5 : Array (Option Value)} {oc5 kV5 dc5 pm5 cd5 ct5 : Value} {f5 : Addr}
    (a5 : PySem.W.nsIn K mainGlobals "is_enough" = some (some (.ref f5))) (l5 : K.lookup f5 = some ⟨oc5, od5, .func (PySem.W.fnOf "is_enough" "is_enough" (defArgs s_is_enough) (defBody s_is_enough) (defScope s_is_enough) .none kV5 dc5 pm5 an5 cd5 ct5), sl5⟩) (c5 : PySem.W.codeIn K cd5 "is_enough" = true) (k5 : PySem.W.keepIn K (.ref f5) = true)
    {od6 an6 : Option Addr} {sl6 : Array (Option Value)} {oc6 kV6 dc6 pm6 ct6 : Value} {f6 : Addr}
    {cc6 pc6 : Addr} {to6 : Value} {tO6 : Option Addr} {tv6 : Array Value} {ts6 : Array (Option Value)}
    (a6 : PySem.W.nsIn K mainGlobals "greatest_near" = some (some (.ref f6))) (l6 : K.lookup f6 = some ⟨oc6, od6, .func (PySem.W.fnOf "greatest_near" "greatest_near" (defArgs s_greatest_near) (defBody s_greatest_near) (defScope s_greatest_near) .none kV6 dc6 pm6 an6 (.ref cc6) ct6), sl6⟩) (c6 : PySem.W.codeIn K (.ref cc6) "greatest_near" = true) (k6 : PySem.W.keepIn K (.ref f6) = true)
    (ta6 : K.lookup cc6 = some ⟨to6, tO6, .fields tv6, ts6⟩) (tb6 : (tv6[11]? : Option Value) = some (.ref pc6)) (tc6 : PySem.W.codeHdIn K cc6 pc6 = true) (td6 : K.lookup pc6 = none)
    {od7 an7 : Option Addr} {sl7 : Array (Option Value)} {oc7 kV7 dc7 pm7 ct7 : Value} {f7 : Addr}
    {cc7 pc7 : Addr} {to7 : Value} {tO7 : Option Addr} {tv7 : Array Value} {ts7 : Array (Option Value)}
    (a7 : PySem.W.nsIn K mainGlobals "least_spacing" = some (some (.ref f7))) (l7 : K.lookup f7 = some ⟨oc7, od7, .func (PySem.W.fnOf "least_spacing" "least_spacing" (defArgs s_least_spacing) (defBody s_least_spacing) (defScope s_least_spacing) .none kV7 dc7 pm7 an7 (.ref cc7) ct7), sl7⟩) (c7 : PySem.W.codeIn K (.ref cc7) "least_spacing" = true) (k7 : PySem.W.keepIn K (.ref f7) = true)
    (ta7 : K.lookup cc7 = some ⟨to7, tO7, .fields tv7, ts7⟩) (tb7 : (tv7[11]? : Option Value) = some (.ref pc7)) (tc7 : PySem.W.codeHdIn K cc7 pc7 = true) (td7 : K.lookup pc7 = none)
    {od8 an8 : Option Addr} {sl8 : Array (Option Value)} {oc8 kV8 dc8 pm8 cd8 ct8 : Value} {f8 : Addr}
    (a8 : PySem.W.nsIn K mainGlobals "_law_bag" = some (some (.ref f8))) (l8 : K.lookup f8 = some ⟨oc8, od8, .func (PySem.W.fnOf "_law_bag" "_law_bag" (defArgs s__law_bag) (defBody s__law_bag) (defScope s__law_bag) .none kV8 dc8 pm8 an8 cd8 ct8), sl8⟩) (c8 : PySem.W.codeIn K cd8 "_law_bag" = true) (k8 : PySem.W.keepIn K (.ref f8) = true)
    {od9 an9 : Option Addr} {sl9 : Array (Option Value)} {oc9 kV9 dc9 pm9 cd9 ct9 : Value} {f9 : Addr}
    (a9 : PySem.W.nsIn K mainGlobals "_law_take" = some (some (.ref f9))) (l9 : K.lookup f9 = some ⟨oc9, od9, .func (PySem.W.fnOf "_law_take" "_law_take" (defArgs s__law_take) (defBody s__law_take) (defScope s__law_take) .none kV9 dc9 pm9 an9 cd9 ct9), sl9⟩) (c9 : PySem.W.codeIn K cd9 "_law_take" = true) (k9 : PySem.W.keepIn K (.ref f9) = true)
    {od10 an10 : Option Addr} {sl10 : Array (Option Value)} {oc10 kV10 dc10 pm10 cd10 ct10 : Value} {f10 : Addr}
    (a10 : PySem.W.nsIn K mainGlobals "_law_some" = some (some (.ref f10))) (l10 : K.lookup f10 = some ⟨oc10, od10, .func (PySem.W.fnOf "_law_some" "_law_some" (defArgs s__law_some) (defBody s__law_some) (defScope s__law_some) .none kV10 dc10 pm10 an10 cd10 ct10), sl10⟩) (c10 : PySem.W.codeIn K cd10 "_law_some" = true) (k10 : PySem.W.keepIn K (.ref f10) = true)
    {od11 an11 : Option Addr} {sl11 : Array (Option Value)} {oc11 kV11 dc11 pm11 cd11 ct11 : Value} {f11 : Addr}
    (a11 : PySem.W.nsIn K mainGlobals "_law_alike" = some (some (.ref f11))) (l11 : K.lookup f11 = some ⟨oc11, od11, .func (PySem.W.fnOf "_law_alike" "_law_alike" (defArgs s__law_alike) (defBody s__law_alike) (defScope s__law_alike) .none kV11 dc11 pm11 an11 cd11 ct11), sl11⟩) (c11 : PySem.W.codeIn K cd11 "_law_alike" = true) (k11 : PySem.W.keepIn K (.ref f11) = true)
    {od12 an12 : Option Addr} {sl12 : Array (Option Value)} {oc12 kV12 dc12 pm12 cd12 ct12 : Value} {f12 : Addr}
    (a12 : PySem.W.nsIn K mainGlobals "_law_reach" = some (some (.ref f12))) (l12 : K.lookup f12 = some ⟨oc12, od12, .func (PySem.W.fnOf "_law_reach" "_law_reach" (defArgs s__law_reach) (defBody s__law_reach) (defScope s__law_reach) .none kV12 dc12 pm12 an12 cd12 ct12), sl12⟩) (c12 : PySem.W.codeIn K cd12 "_law_reach" = true) (k12 : PySem.W.keepIn K (.ref f12) = true)
    {od13 an13 : Option Addr} {sl13 : Array (Option Value)} {oc13 kV13 dc13 pm13 cd13 ct13 : Value} {f13 : Addr}
    (a13 : PySem.W.nsIn K mainGlobals "_law_lag" = some (some (.ref f13))) (l13 : K.lookup f13 = some ⟨oc13, od13, .func (PySem.W.fnOf "_law_lag" "_law_lag" (defArgs s__law_lag) (defBody s__law_lag) (defScope s__law_lag) .none kV13 dc13 pm13 an13 cd13 ct13), sl13⟩) (c13 : PySem.W.codeIn K cd13 "_law_lag" = true) (k13 : PySem.W.keepIn K (.ref f13) = true)
    {od14 an14 : Option Addr} {sl14 : Array (Option Value)} {oc14 kV14 dc14 pm14 cd14 ct14 : Value} {f14 : Addr}
    (a14 : PySem.W.nsIn K mainGlobals "_law_is_enough" = some (some (.ref f14))) (l14 : K.lookup f14 = some ⟨oc14, od14, .func (PySem.W.fnOf "_law_is_enough" "_law_is_enough" (defArgs s__law_is_enough) (defBody s__law_is_enough) (defScope s__law_is_enough) .none kV14 dc14 pm14 an14 cd14 ct14), sl14⟩) (c14 : PySem.W.codeIn K cd14 "_law_is_enough" = true) (k14 : PySem.W.keepIn K (.ref f14) = true)
    {od15 an15 : Option Addr} {sl15 : Array (Option Value)} {oc15 kV15 dc15 pm15 cd15 ct15 : Value} {f15 : Addr}
    (a15 : PySem.W.nsIn K mainGlobals "_law_bounds" = some (some (.ref f15))) (l15 : K.lookup f15 = some ⟨oc15, od15, .func (PySem.W.fnOf "_law_bounds" "_law_bounds" (defArgs s__law_bounds) (defBody s__law_bounds) (defScope s__law_bounds) .none kV15 dc15 pm15 an15 cd15 ct15), sl15⟩) (c15 : PySem.W.codeIn K cd15 "_law_bounds" = true) (k15 : PySem.W.keepIn K (.ref f15) = true)
    {od16 an16 : Option Addr} {sl16 : Array (Option Value)} {oc16 kV16 dc16 pm16 cd16 ct16 : Value} {f16 : Addr}
    (a16 : PySem.W.nsIn K mainGlobals "_law_ticks" = some (some (.ref f16))) (l16 : K.lookup f16 = some ⟨oc16, od16, .func (PySem.W.fnOf "_law_ticks" "_law_ticks" (defArgs s__law_ticks) (defBody s__law_ticks) (defScope s__law_ticks) .none kV16 dc16 pm16 an16 cd16 ct16), sl16⟩) (c16 : PySem.W.codeIn K cd16 "_law_ticks" = true) (k16 : PySem.W.keepIn K (.ref f16) = true)
    {od17 an17 : Option Addr} {sl17 : Array (Option Value)} {oc17 kV17 dc17 pm17 cd17 ct17 : Value} {f17 : Addr}
    (a17 : PySem.W.nsIn K mainGlobals "_law_greatest_near" = some (some (.ref f17))) (l17 : K.lookup f17 = some ⟨oc17, od17, .func (PySem.W.fnOf "_law_greatest_near" "_law_greatest_near" (defArgs s__law_greatest_near) (defBody s__law_greatest_near) (defScope s__law_greatest_near) .none kV17 dc17 pm17 an17 cd17 ct17), sl17⟩) (c17 : PySem.W.codeIn K cd17 "_law_greatest_near" = true) (k17 : PySem.W.keepIn K (.ref f17) = true)
    {od18 an18 : Option Addr} {sl18 : Array (Option Value)} {oc18 kV18 dc18 pm18 cd18 ct18 : Value} {f18 : Addr}
    (a18 : PySem.W.nsIn K mainGlobals "_law_least_spacing" = some (some (.ref f18))) (l18 : K.lookup f18 = some ⟨oc18, od18, .func (PySem.W.fnOf "_law_least_spacing" "_law_least_spacing" (defArgs s__law_least_spacing) (defBody s__law_least_spacing) (defScope s__law_least_spacing) .none kV18 dc18 pm18 an18 cd18 ct18), sl18⟩) (c18 : PySem.W.codeIn K cd18 "_law_least_spacing" = true) (k18 : PySem.W.keepIn K (.ref f18) = true)
    {od19 an19 : Option Addr} {sl19 : Array (Option Value)} {oc19 kV19 dc19 pm19 cd19 ct19 : Value} {f19 : Addr}
    (a19 : PySem.W.nsIn K mainGlobals "law" = some (some (.ref f19))) (l19 : K.lookup f19 = some ⟨oc19, od19, .func (PySem.W.fnOf "law" "law" (defArgs s_law) (defBody s_law) (defScope s_law) .none kV19 dc19 pm19 an19 cd19 ct19), sl19⟩) (c19 : PySem.W.codeIn K cd19 "law" = true) (k19 : PySem.W.keepIn K (.ref f19) = true)
    (te6_7 : pc6 ≠ pc7)
    (z_min : PySem.W.nsIn K mainGlobals "min" = some none)
    (z_abs : PySem.W.nsIn K mainGlobals "abs" = some none)
    (z_int : PySem.W.nsIn K mainGlobals "int" = some none)
    (z_len : PySem.W.nsIn K mainGlobals "len" = some none)
    (z_repr : PySem.W.nsIn K mainGlobals "repr" = some none)
    (z_max : PySem.W.nsIn K mainGlobals "max" = some none)
    (z_range : PySem.W.nsIn K mainGlobals "range" = some none)
    {tk_SPACING : Tok} (v_SPACING : PySem.W.nsIn K mainGlobals "SPACING" = some (some (.int 0 tk_SPACING)))
    {tk_WAY : Tok} (v_WAY : PySem.W.nsIn K mainGlobals "WAY" = some (some (.int 5 tk_WAY)))
    {tk_NEAR : Tok} (v_NEAR : PySem.W.nsIn K mainGlobals "NEAR" = some (some (.int 1 tk_NEAR))) :
    ∃ fd : FuncData, (∀ r ∈ ([(cc6, pc6), (cc7, pc7)] : List (Addr × Addr)), K.lookup r.2 = none) ∧ (∀ r ∈ ([(cc6, pc6), (cc7, pc7)] : List (Addr × Addr)), PySem.W.CodeHd h r.1 r.2) ∧ (∀ (s : Shared) (v : Value), BindsTo s fd ⟨[v], []⟩ [("_law_script", v)]) ∧ ∀ base : Heap, K.In base → base.Ns mainGlobals mg → (∀ r ∈ ([(cc6, pc6), (cc7, pc7)] : List (Addr × Addr)), LamX.TabB base mg r.1 r.2) → FnG l.prog w K mg base CX0 6 fa fd ["_law_script"] (spP K [(pc6, ("greatest_near" : Str) ++ ".<locals>." ++ "<lambda>"), (pc7, ("least_spacing" : Str) ++ ".<locals>." ++ "<lambda>")] [.ro] S_law) := by
  have e := hfa.symm.trans (PySem.W.mg_of X G a19)
  cases e
  have T : Bi mg := ⟨PySem.W.mg_none_of X G z_min, PySem.W.mg_none_of X G z_abs, PySem.W.mg_none_of X G z_int, PySem.W.mg_none_of X G z_len, PySem.W.mg_none_of X G z_repr, PySem.W.mg_none_of X G z_max, PySem.W.mg_none_of X G z_range, ⟨_, PySem.W.mg_of X G v_SPACING⟩, ⟨_, PySem.W.mg_of X G v_WAY⟩, ⟨_, PySem.W.mg_of X G v_NEAR⟩⟩
  have F1 := fun_mk (st := s_r_of) l1 c1 k1
  have b1 := F1.binds (ps := ["bounds"]) fun _ _ _ _ _ _ us hl => match us, hl with | [_], _ => rfl
  have F2 := fun_mk (st := s_lag_of) l2 c2 k2
  have b2 := F2.binds (ps := ["bounds"]) fun _ _ _ _ _ _ us hl => match us, hl with | [_], _ => rfl
  have F3 := fun_mk (st := s_least_from) l3 c3 k3
  have b3 := F3.binds (ps := ["first", "is_so"]) fun _ _ _ _ _ _ us hl => match us, hl with | [_, _], _ => rfl
  have F4 := fun_mk (st := s__with) l4 c4 k4
  have b4 := F4.binds (ps := ["bounds", "place", "number"]) fun _ _ _ _ _ _ us hl => match us, hl with | [_, _, _], _ => rfl
  have F5 := fun_mk (st := s_is_enough) l5 c5 k5
  have b5 := F5.binds (ps := ["bounds", "ticks"]) fun _ _ _ _ _ _ us hl => match us, hl with | [_, _], _ => rfl
  have F6 := fun_mk (st := s_greatest_near) l6 c6 k6
  have b6 := F6.binds (ps := ["bounds", "ticks"]) fun _ _ _ _ _ _ us hl => match us, hl with | [_, _], _ => rfl
  have F7 := fun_mk (st := s_least_spacing) l7 c7 k7
  have b7 := F7.binds (ps := ["bounds", "ticks"]) fun _ _ _ _ _ _ us hl => match us, hl with | [_, _], _ => rfl
  have F8 := fun_mk (st := s__law_bag) l8 c8 k8
  have b8 := F8.binds (ps := ["_law_script"]) fun _ _ _ _ _ _ us hl => match us, hl with | [_], _ => rfl
  have F9 := fun_mk (st := s__law_take) l9 c9 k9
  have b9 := F9.binds (ps := ["_law_bag_here", "_law_many"]) fun _ _ _ _ _ _ us hl => match us, hl with | [_, _], _ => rfl
  have F10 := fun_mk (st := s__law_some) l10 c10 k10
  have b10 := F10.binds (ps := ["_law_bag_here", "_law_things"]) fun _ _ _ _ _ _ us hl => match us, hl with | [_, _], _ => rfl
  have F11 := fun_mk (st := s__law_alike) l11 c11 k11
  have b11 := F11.binds (ps := ["_law_found", "_law_due"]) fun _ _ _ _ _ _ us hl => match us, hl with | [_, _], _ => rfl
  have F12 := fun_mk (st := s__law_reach) l12 c12 k12
  have b12 := F12.binds (ps := ["_law_bounds_here"]) fun _ _ _ _ _ _ us hl => match us, hl with | [_], _ => rfl
  have F13 := fun_mk (st := s__law_lag) l13 c13 k13
  have b13 := F13.binds (ps := ["_law_bounds_here"]) fun _ _ _ _ _ _ us hl => match us, hl with | [_], _ => rfl
  have F14 := fun_mk (st := s__law_is_enough) l14 c14 k14
  have b14 := F14.binds (ps := ["_law_bounds_here", "_law_ticks_here"]) fun _ _ _ _ _ _ us hl => match us, hl with | [_, _], _ => rfl
  have F15 := fun_mk (st := s__law_bounds) l15 c15 k15
  have b15 := F15.binds (ps := ["_law_bag_here"]) fun _ _ _ _ _ _ us hl => match us, hl with | [_], _ => rfl
  have F16 := fun_mk (st := s__law_ticks) l16 c16 k16
  have b16 := F16.binds (ps := ["_law_bag_here", "_law_bounds_here"]) fun _ _ _ _ _ _ us hl => match us, hl with | [_, _], _ => rfl
  have F17 := fun_mk (st := s__law_greatest_near) l17 c17 k17
  have b17 := F17.binds (ps := ["_law_bounds_here", "_law_ticks_here"]) fun _ _ _ _ _ _ us hl => match us, hl with | [_, _], _ => rfl
  have F18 := fun_mk (st := s__law_least_spacing) l18 c18 k18
  have b18 := F18.binds (ps := ["_law_bounds_here", "_law_ticks_here"]) fun _ _ _ _ _ _ us hl => match us, hl with | [_, _], _ => rfl
  have F19 := fun_mk (st := s_law) l19 c19 k19
  have b19 := F19.binds (ps := ["_law_script"]) fun _ _ _ _ _ _ us hl => match us, hl with | [_], _ => rfl
  refine ⟨PySem.W.fnOf "law" "law" (defArgs s_law) (defBody s_law) (defScope s_law) .none kV19 dc19 pm19 an19 cd19 ct19, (List.forall_mem_cons.mpr ⟨td6, (List.forall_mem_cons.mpr ⟨td7, (fun _ z => nomatch z)⟩)⟩), (List.forall_mem_cons.mpr ⟨PySem.W.codeHd_of_K X tc6, (List.forall_mem_cons.mpr ⟨PySem.W.codeHd_of_K X tc7, (fun _ z => nomatch z)⟩)⟩), fun s v => .of_eq rfl, fun base _ _ TBs => ?_⟩
  have G1 := ok_r_of (P := l.prog) (w := w) (base := base) (TT := [(pc6, ("greatest_near" : Str) ++ ".<locals>." ++ "<lambda>"), (pc7, ("least_spacing" : Str) ++ ".<locals>." ++ "<lambda>")]) F1 T 
  have G2 := ok_lag_of (P := l.prog) (w := w) (base := base) (TT := [(pc6, ("greatest_near" : Str) ++ ".<locals>." ++ "<lambda>"), (pc7, ("least_spacing" : Str) ++ ".<locals>." ++ "<lambda>")]) F2 T 
  have G4 := ok__with (P := l.prog) (w := w) (base := base) (TT := [(pc6, ("greatest_near" : Str) ++ ".<locals>." ++ "<lambda>"), (pc7, ("least_spacing" : Str) ++ ".<locals>." ++ "<lambda>")]) F4 T 
  have G8 := ok__law_bag (P := l.prog) (w := w) (base := base) (TT := [(pc6, ("greatest_near" : Str) ++ ".<locals>." ++ "<lambda>"), (pc7, ("least_spacing" : Str) ++ ".<locals>." ++ "<lambda>")]) F8 T 
  have G9 := ok__law_take (P := l.prog) (w := w) (base := base) (TT := [(pc6, ("greatest_near" : Str) ++ ".<locals>." ++ "<lambda>"), (pc7, ("least_spacing" : Str) ++ ".<locals>." ++ "<lambda>")]) F9 T 
  have G11 := ok__law_alike (P := l.prog) (w := w) (base := base) (TT := [(pc6, ("greatest_near" : Str) ++ ".<locals>." ++ "<lambda>"), (pc7, ("least_spacing" : Str) ++ ".<locals>." ++ "<lambda>")]) F11 T 
  have G12 := ok__law_reach (P := l.prog) (w := w) (base := base) (TT := [(pc6, ("greatest_near" : Str) ++ ".<locals>." ++ "<lambda>"), (pc7, ("least_spacing" : Str) ++ ".<locals>." ++ "<lambda>")]) F12 T 
  have G13 := ok__law_lag (P := l.prog) (w := w) (base := base) (TT := [(pc6, ("greatest_near" : Str) ++ ".<locals>." ++ "<lambda>"), (pc7, ("least_spacing" : Str) ++ ".<locals>." ++ "<lambda>")]) F13 T 
  have G5 := ok_is_enough (P := l.prog) (w := w) (base := base) (TT := [(pc6, ("greatest_near" : Str) ++ ".<locals>." ++ "<lambda>"), (pc7, ("least_spacing" : Str) ++ ".<locals>." ++ "<lambda>")]) F5 T G1 (PySem.W.mg_of X G a1) k1 b1 G2 (PySem.W.mg_of X G a2) k2 b2
  have G10 := ok__law_some (P := l.prog) (w := w) (base := base) (TT := [(pc6, ("greatest_near" : Str) ++ ".<locals>." ++ "<lambda>"), (pc7, ("least_spacing" : Str) ++ ".<locals>." ++ "<lambda>")]) F10 T G9 (PySem.W.mg_of X G a9) k9 b9
  have G14 := ok__law_is_enough (P := l.prog) (w := w) (base := base) (TT := [(pc6, ("greatest_near" : Str) ++ ".<locals>." ++ "<lambda>"), (pc7, ("least_spacing" : Str) ++ ".<locals>." ++ "<lambda>")]) F14 T G12 (PySem.W.mg_of X G a12) k12 b12 G13 (PySem.W.mg_of X G a13) k13 b13
  have G15 := ok__law_bounds (P := l.prog) (w := w) (base := base) (TT := [(pc6, ("greatest_near" : Str) ++ ".<locals>." ++ "<lambda>"), (pc7, ("least_spacing" : Str) ++ ".<locals>." ++ "<lambda>")]) F15 T G10 (PySem.W.mg_of X G a10) k10 b10 G9 (PySem.W.mg_of X G a9) k9 b9
  have G16 := ok__law_ticks (P := l.prog) (w := w) (base := base) (TT := [(pc6, ("greatest_near" : Str) ++ ".<locals>." ++ "<lambda>"), (pc7, ("least_spacing" : Str) ++ ".<locals>." ++ "<lambda>")]) F16 T G13 (PySem.W.mg_of X G a13) k13 b13 G10 (PySem.W.mg_of X G a10) k10 b10 G9 (PySem.W.mg_of X G a9) k9 b9
  have G17 := ok__law_greatest_near (P := l.prog) (w := w) (base := base) (TT := [(pc6, ("greatest_near" : Str) ++ ".<locals>." ++ "<lambda>"), (pc7, ("least_spacing" : Str) ++ ".<locals>." ++ "<lambda>")]) F17 T G14 (PySem.W.mg_of X G a14) k14 b14
  have G18 := ok__law_least_spacing (P := l.prog) (w := w) (base := base) (TT := [(pc6, ("greatest_near" : Str) ++ ".<locals>." ++ "<lambda>"), (pc7, ("least_spacing" : Str) ++ ".<locals>." ++ "<lambda>")]) F18 T G14 (PySem.W.mg_of X G a14) k14 b14
  have G6 := ok_greatest_near (P := l.prog) (w := w) (base := base) (TT := [(pc6, ("greatest_near" : Str) ++ ".<locals>." ++ "<lambda>"), (pc7, ("least_spacing" : Str) ++ ".<locals>." ++ "<lambda>")]) F6 T (fun {k} => ok_least_from (P := l.prog) (w := w) (base := base) (TT := [(pc6, ("greatest_near" : Str) ++ ".<locals>." ++ "<lambda>"), (pc7, ("least_spacing" : Str) ++ ".<locals>." ++ "<lambda>")]) F3 T) (PySem.W.mg_of X G a3) k3 b3 G5 (PySem.W.mg_of X G a5) k5 b5 G4 (PySem.W.mg_of X G a4) k4 b4 rfl (TBs _ (.head _)) (.head _) (List.forall_mem_cons.mpr ⟨fun _ => rfl, (List.forall_mem_cons.mpr ⟨fun z => absurd z (Ne.symm te6_7), (fun _ z => nomatch z)⟩)⟩)
  have G7 := ok_least_spacing (P := l.prog) (w := w) (base := base) (TT := [(pc6, ("greatest_near" : Str) ++ ".<locals>." ++ "<lambda>"), (pc7, ("least_spacing" : Str) ++ ".<locals>." ++ "<lambda>")]) F7 T (fun {k} => ok_least_from (P := l.prog) (w := w) (base := base) (TT := [(pc6, ("greatest_near" : Str) ++ ".<locals>." ++ "<lambda>"), (pc7, ("least_spacing" : Str) ++ ".<locals>." ++ "<lambda>")]) F3 T) (PySem.W.mg_of X G a3) k3 b3 G5 (PySem.W.mg_of X G a5) k5 b5 G4 (PySem.W.mg_of X G a4) k4 b4 rfl (TBs _ (.tail _ (.head _))) (.tail _ (.head _)) (List.forall_mem_cons.mpr ⟨fun z => absurd z te6_7, (List.forall_mem_cons.mpr ⟨fun _ => rfl, (fun _ z => nomatch z)⟩)⟩)
  exact ok_law F19 T G8 (PySem.W.mg_of X G a8) k8 b8 G15 (PySem.W.mg_of X G a15) k15 b15 G16 (PySem.W.mg_of X G a16) k16 b16 G17 (PySem.W.mg_of X G a17) k17 b17 G18 (PySem.W.mg_of X G a18) k18 b18 G11 (PySem.W.mg_of X G a11) k11 b11 G5 (PySem.W.mg_of X G a5) k5 b5 G6 (PySem.W.mg_of X G a6) k6 b6 G7 (PySem.W.mg_of X G a7) k7 b7
theorem walk {l : PySem.W.OpenLaw} {q : Program} {loose : List Str} {XP : (Str → Option Value) → Heap → Prop} {YP : World → Heap → Prop} {d : DefRec} {K : Params → PySem.W.Frag} {cc6 pc6 cc7 pc7 : Addr} (hn : l.most = some 63) (hdf : d.params.defaults = [])
    (hY : ∀ (w : World) (h : Heap), YP w h → (K w.params).In h)
    (F : ∀ (w : World) (mg : Str → Option Value) (fa : Addr) (h : Heap), (K w.params).In h → h.Ns mainGlobals mg → mg d.name = some (.ref fa) →
      ∃ fd : FuncData, (∀ r ∈ ([(cc6, pc6), (cc7, pc7)] : List (Addr × Addr)), (K w.params).lookup r.2 = none) ∧ (∀ r ∈ ([(cc6, pc6), (cc7, pc7)] : List (Addr × Addr)), PySem.W.CodeHd h r.1 r.2) ∧ (∀ (s : Shared) (u : Value), BindsTo s fd ⟨[u], []⟩ [("_law_script", u)]) ∧ ∀ base : Heap, (K w.params).In base → base.Ns mainGlobals mg → (∀ r ∈ ([(cc6, pc6), (cc7, pc7)] : List (Addr × Addr)), LamX.TabB base mg r.1 r.2) → FnG l.prog w (K w.params) mg base CX0 6 fa fd ["_law_script"] (spP (K w.params) [(pc6, ("greatest_near" : Str) ++ ".<locals>." ++ "<lambda>"), (pc7, ("least_spacing" : Str) ++ ".<locals>." ++ "<lambda>")] [.ro] S_law))
    (hT : ∀ (w : World) (h : Heap), YP w h → ∀ r ∈ ([(cc6, pc6), (cc7, pc7)] : List (Addr × Addr)), h.get? r.2 = some (PySem.W.tabObj #[])) :
    PySem.W.WalkO q loose XP YP l.row.toRowW d [] (fun f vs => PySem.call f vs) :=
  walk_goesT (cs := [(cc6, pc6), (cc7, pc7)]) (n := 63) (k := 6) (x := "_law_script") (sp := fun K => spP K [(pc6, ("greatest_near" : Str) ++ ".<locals>." ++ "<lambda>"), (pc7, ("least_spacing" : Str) ++ ".<locals>." ++ "<lambda>")] [.ro] S_law) hn (by decide) hdf ⟨rfl, by decide, by decide⟩ hY hT F fun K H a ns hH hl hS => law_args (tabs_nil (List.forall_mem_cons.mpr ⟨hH _ (.head _), (List.forall_mem_cons.mpr ⟨hH _ (.tail _ (.head _)), (fun _ z => nomatch z)⟩)⟩)) hl hS m_law law_spec
end K41
open PySem PySem.W PyProof.Rows
set_option maxRecDepth 100000 in
set_option maxHeartbeats 0 in
theorem PySem.Challenge.cw_lampsaloft_k41_greatest_near_and_least_s_holds : PySem.Challenge.rw_lampsaloft_k41_greatest_near_and_least_s.Holds := by
  w_on; o_law; k_head; (case hw => w_witness2)
  k_fill
  refine' K41.walk (l := PySem.Challenge.rw_lampsaloft_k41_greatest_near_and_least_s) rfl rfl (fun w h Y => PySem.W.km_in_of Y) ?F ?hT
  case F =>
    intro w mg fa h KX G hmg
    refine' K41.all_mk KX G hmg ?a1 ?l1 ?c1 ?k1 ?a2 ?l2 ?c2 ?k2 ?a3 ?l3 ?c3 ?k3 ?a4 ?l4 ?c4 ?k4 ?a5 ?l5 ?c5 ?k5 ?a6 ?l6 ?c6 ?k6 ?ta6 ?tb6 ?tc6 ?td6 ?a7 ?l7 ?c7 ?k7 ?ta7 ?tb7 ?tc7 ?td7 ?a8 ?l8 ?c8 ?k8 ?a9 ?l9 ?c9 ?k9 ?a10 ?l10 ?c10 ?k10 ?a11 ?l11 ?c11 ?k11 ?a12 ?l12 ?c12 ?k12 ?a13 ?l13 ?c13 ?k13 ?a14 ?l14 ?c14 ?k14 ?a15 ?l15 ?c15 ?k15 ?a16 ?l16 ?c16 ?k16 ?a17 ?l17 ?c17 ?k17 ?a18 ?l18 ?c18 ?k18 ?a19 ?l19 ?c19 ?k19 ?te6_7 ?z_min ?z_abs ?z_int ?z_len ?z_repr ?z_max ?z_range ?v_SPACING ?v_WAY ?v_NEAR
    (case a1 => k_is)
    (case l1 => k_is)
    (case c1 => k_is)
    (case k1 => k_is)
    (case a2 => k_is)
    (case l2 => k_is)
    (case c2 => k_is)
    (case k2 => k_is)
    (case a3 => k_is)
    (case l3 => k_is)
    (case c3 => k_is)
    (case k3 => k_is)
    (case a4 => k_is)
    (case l4 => k_is)
    (case c4 => k_is)
    (case k4 => k_is)
    (case a5 => k_is)
    (case l5 => k_is)
    (case c5 => k_is)
    (case k5 => k_is)
    (case a6 => k_is)
    (case l6 => k_is)
    (case c6 => k_is)
    (case k6 => k_is)
    (case ta6 => k_is)
    (case tb6 => rfl)
    (case tc6 => kernel_rfl)
    (case td6 => kernel_rfl)
    (case a7 => k_is)
    (case l7 => k_is)
    (case c7 => k_is)
    (case k7 => k_is)
    (case ta7 => k_is)
    (case tb7 => rfl)
    (case tc7 => kernel_rfl)
    (case td7 => kernel_rfl)
    (case a8 => k_is)
    (case l8 => k_is)
    (case c8 => k_is)
    (case k8 => k_is)
    (case a9 => k_is)
    (case l9 => k_is)
    (case c9 => k_is)
    (case k9 => k_is)
    (case a10 => k_is)
    (case l10 => k_is)
    (case c10 => k_is)
    (case k10 => k_is)
    (case a11 => k_is)
    (case l11 => k_is)
    (case c11 => k_is)
    (case k11 => k_is)
    (case a12 => k_is)
    (case l12 => k_is)
    (case c12 => k_is)
    (case k12 => k_is)
    (case a13 => k_is)
    (case l13 => k_is)
    (case c13 => k_is)
    (case k13 => k_is)
    (case a14 => k_is)
    (case l14 => k_is)
    (case c14 => k_is)
    (case k14 => k_is)
    (case a15 => k_is)
    (case l15 => k_is)
    (case c15 => k_is)
    (case k15 => k_is)
    (case a16 => k_is)
    (case l16 => k_is)
    (case c16 => k_is)
    (case k16 => k_is)
    (case a17 => k_is)
    (case l17 => k_is)
    (case c17 => k_is)
    (case k17 => k_is)
    (case a18 => k_is)
    (case l18 => k_is)
    (case c18 => k_is)
    (case k18 => k_is)
    (case a19 => k_is)
    (case l19 => k_is)
    (case c19 => k_is)
    (case k19 => k_is)
    (case te6_7 => decide)
    (case z_min => k_is)
    (case z_abs => k_is)
    (case z_int => k_is)
    (case z_len => k_is)
    (case z_repr => k_is)
    (case z_max => k_is)
    (case z_range => k_is)
    (case v_SPACING => k_is)
    (case v_WAY => k_is)
    (case v_NEAR => k_is)
  case hT =>
    intro w h Y
    exact (List.forall_mem_cons.mpr ⟨PySem.W.km_tabs_of Y _ (by k_mem), (List.forall_mem_cons.mpr ⟨PySem.W.km_tabs_of Y _ (by k_mem), (fun _ z => nomatch z)⟩)⟩)
