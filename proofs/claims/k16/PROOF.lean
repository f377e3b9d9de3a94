import PyProof.Rows.All
import Wide.All
import OpenK.AllK
import Wide.FinOn
import HandS.ForMost
import HandS.Wide
import HandS.Gcd
import HandS.Walk
import HandS.TupAny
import HandS.TupMul
import HandS.IsInst
import HandS.More
import KE.KMathG
import Flt.RightSqrt
import PyProof.StrLawsRepr
import HandS.Deep
import HandS.Zip
import HandS.Style
import PyProof.EnumMake
import KE.GoesMore
import HandS.SortRule
import HandS.TupSets
import HandS.SortInts
import PyProof.Rows.SortShell
import PyProof.SumAny
import KE.SortData
import KE.DataMinMax
import HandS.SortKw
import PyProof.StrBlock2
import HandS.Conv
import KE.KDictZip
import PyProof.CollectWalk
import HandS.NoneIn
import PySem.Challenge.RW_lampsaloft_k16_whole_never_fewer_rows
set_option Elab.async false
set_option linter.all false
set_option maxRecDepth 100000
namespace DV
open PySem PySem.Spec PyProof.Rows L2
/-! ## values as data, away from what may be changed -/
def LkL (K : PySem.W.Frag) (N : Addr → Prop) (H : Hp) (a : Addr) (xs : List V) : Prop := H a = some (.lst xs) ∧ ¬ N a
def LkT (K : PySem.W.Frag) (N : Addr → Prop) (H : Hp) (a : Addr) (xs : List V) : Prop := (Rd H a (.tup xs) ∧ ¬ N a) ∨ SqT K (fun _ => none) a xs
theorem sql_none {K : PySem.W.Frag} {H : Hp} {a : Addr} {xs : List V} (h : SqL K (fun _ => none) a xs) : SqL K H a xs := by
  rcases h with (h | ⟨o, h⟩) | h
  · cases h
  · cases h
  · exact .inr h
theorem sqt_none {K : PySem.W.Frag} {H : Hp} {a : Addr} {xs : List V} (h : SqT K (fun _ => none) a xs) : SqT K H a xs := by
  rcases h with (h | ⟨o, h⟩) | h
  · cases h
  · cases h
  · exact .inr h
theorem LkL.sq {K : PySem.W.Frag} {N : Addr → Prop} {H : Hp} {a : Addr} {xs : List V} (h : LkL K N H a xs) : SqL K H a xs := .of h.1
theorem LkT.sq {K : PySem.W.Frag} {N : Addr → Prop} {H : Hp} {a : Addr} {xs : List V} (h : LkT K N H a xs) : SqT K H a xs := by
  rcases h with ⟨h, _⟩ | h
  · exact .inl h
  · exact sqt_none h
/-- from one heap to the next: all but N stands; N grows by new ones alone -/
structure Go (N N' : Addr → Prop) (H H' : Hp) : Prop where
  st : ∀ a o, ¬ N a → H a = some o → H' a = some o
  nw : ∀ a, N' a → N a ∨ H a = none
theorem Rd.go {N N' : Addr → Prop} {H H' : Hp} (g : Go N N' H H') {a : Addr} {u : HO} (h : Rd H a u) (n : ¬ N a) : Rd H' a u ∧ ¬ N' a := by
  refine ⟨?_, fun z => ?_⟩
  · rcases h with h | ⟨o, h⟩
    · exact .inl (g.st _ _ n h)
    · exact .inr ⟨o, g.st _ _ n h⟩
  · rcases g.nw a z with z | z
    · exact n z
    · rcases h with h | ⟨o, h⟩
      · rw [z] at h; cases h
      · rw [z] at h; cases h
theorem LkL.go {K : PySem.W.Frag} {N N' : Addr → Prop} {H H' : Hp} (g : Go N N' H H') {a : Addr} {xs : List V} (h : LkL K N H a xs) : LkL K N' H' a xs := by
  refine ⟨g.st _ _ h.2 h.1, fun z => ?_⟩
  rcases g.nw a z with z | z
  · exact h.2 z
  · have := h.1; rw [z] at this; cases this
theorem LkT.go {K : PySem.W.Frag} {N N' : Addr → Prop} {H H' : Hp} (g : Go N N' H H') {a : Addr} {xs : List V} (h : LkT K N H a xs) : LkT K N' H' a xs := by
  rcases h with ⟨h, n⟩ | h
  · exact .inl (Rd.go g h n)
  · exact .inr h
mutual
def Im (K : PySem.W.Frag) (N : Addr → Prop) (H : Hp) : PyData → V → Prop
  | .none, v => v = .non
  | .bool b, v => v = .bl b
  | .int i, v => v = .int i
  | .str x, v => v = .str x
  | .list ds, v => ∃ a xs, v = .ref a ∧ LkL K N H a xs ∧ ImAll K N H ds xs
  | .tuple ds, v => ∃ a xs, v = .ref a ∧ LkT K N H a xs ∧ ImAll K N H ds xs
  | .dict _, _ => False
def ImAll (K : PySem.W.Frag) (N : Addr → Prop) (H : Hp) : List PyData → List V → Prop
  | [], vs => vs = []
  | d :: ds, vs => ∃ x xs, vs = x :: xs ∧ Im K N H d x ∧ ImAll K N H ds xs
end
section
variable {K : PySem.W.Frag} {N N' : Addr → Prop} {H H' : Hp}
mutual
theorem Im.go (g : Go N N' H H') : ∀ {d : PyData} {v : V}, Im K N H d v → Im K N' H' d v
  | .none, _, h => by simpa only [Im] using h
  | .bool _, _, h => by simpa only [Im] using h
  | .int _, _, h => by simpa only [Im] using h
  | .str _, _, h => by simpa only [Im] using h
  | .list _, _, h => by
    simp only [Im] at h ⊢
    obtain ⟨a, xs, e, l, t⟩ := h
    exact ⟨a, xs, e, l.go g, ImAll.go g t⟩
  | .tuple _, _, h => by
    simp only [Im] at h ⊢
    obtain ⟨a, xs, e, l, t⟩ := h
    exact ⟨a, xs, e, l.go g, ImAll.go g t⟩
  | .dict _, _, h => by simp only [Im] at h
theorem ImAll.go (g : Go N N' H H') : ∀ {ds : List PyData} {vs : List V}, ImAll K N H ds vs → ImAll K N' H' ds vs
  | [], _, h => by simpa only [ImAll] using h
  | _ :: _, _, h => by
    simp only [ImAll] at h ⊢
    obtain ⟨x, xs, e, l, t⟩ := h
    exact ⟨x, xs, e, Im.go g l, ImAll.go g t⟩
end
mutual
theorem Im.dp : ∀ {d : PyData} {v : V}, Im K N H d v → Dp K H v d
  | .none, _, h => by simp only [Im] at h; subst h; exact .non
  | .bool _, _, h => by simp only [Im] at h; subst h; exact .bl _
  | .int _, _, h => by simp only [Im] at h; subst h; exact .int _
  | .str _, _, h => by simp only [Im] at h; subst h; exact .str _
  | .list _, _, h => by
    simp only [Im] at h
    obtain ⟨a, xs, rfl, l, t⟩ := h
    exact .lst l.sq (ImAll.dp t)
  | .tuple _, _, h => by
    simp only [Im] at h
    obtain ⟨a, xs, rfl, l, t⟩ := h
    exact .tup l.sq (ImAll.dp t)
  | .dict _, _, h => by simp only [Im] at h
theorem ImAll.dp : ∀ {ds : List PyData} {vs : List V}, ImAll K N H ds vs → DpAll K H vs ds
  | [], _, h => by simp only [ImAll] at h; subst h; exact .nil
  | _ :: _, _, h => by
    simp only [ImAll] at h
    obtain ⟨x, xs, rfl, l, t⟩ := h
    exact .cons (Im.dp l) (ImAll.dp t)
end
theorem ImAll.length : ∀ {ds : List PyData} {vs : List V}, ImAll K N H ds vs → vs.length = ds.length
  | [], _, h => by simp only [ImAll] at h; subst h; rfl
  | _ :: _, _, h => by
    simp only [ImAll] at h
    obtain ⟨x, xs, rfl, l, t⟩ := h
    simp [ImAll.length t]
theorem ImAll.get : ∀ {ds : List PyData} {vs : List V} {i : Nat} {d : PyData}, ImAll K N H ds vs → ds[i]? = some d → ∃ v, vs[i]? = some v ∧ Im K N H d v
  | [], _, _, _, _, e => by simp at e
  | d :: ds, _, 0, _, h, e => by
    simp only [ImAll] at h
    obtain ⟨x, xs, rfl, l, t⟩ := h
    simp at e; subst e
    exact ⟨x, rfl, l⟩
  | d :: ds, _, i + 1, _, h, e => by
    simp only [ImAll] at h
    obtain ⟨x, xs, rfl, l, t⟩ := h
    obtain ⟨v, e1, l1⟩ := ImAll.get (i := i) t (by simpa using e)
    exact ⟨v, by simpa using e1, l1⟩
theorem ImAll.getV : ∀ {ds : List PyData} {vs : List V} {i : Nat} {v : V}, ImAll K N H ds vs → vs[i]? = some v → ∃ d, ds[i]? = some d ∧ Im K N H d v
  | [], _, _, _, h, e => by simp only [ImAll] at h; subst h; simp at e
  | d :: ds, _, 0, _, h, e => by
    simp only [ImAll] at h
    obtain ⟨x, xs, rfl, l, t⟩ := h
    simp at e; subst e
    exact ⟨d, rfl, l⟩
  | d :: ds, _, i + 1, _, h, e => by
    simp only [ImAll] at h
    obtain ⟨x, xs, rfl, l, t⟩ := h
    obtain ⟨v, e1, l1⟩ := ImAll.getV (i := i) t (by simpa using e)
    exact ⟨v, by simpa using e1, l1⟩
theorem ImAll.append : ∀ {ds es : List PyData} {vs us : List V}, ImAll K N H ds vs → ImAll K N H es us → ImAll K N H (ds ++ es) (vs ++ us)
  | [], _, _, _, h, k => by simp only [ImAll] at h; subst h; exact k
  | d :: ds, es, _, us, h, k => by
    simp only [ImAll] at h
    obtain ⟨x, xs, rfl, l, t⟩ := h
    show ImAll K N H (d :: (ds ++ es)) (x :: (xs ++ us))
    simp only [ImAll]
    exact ⟨x, _, rfl, l, ImAll.append t k⟩
theorem ImAll.cons {d : PyData} {ds : List PyData} {v : V} {vs : List V} (h : Im K N H d v) (k : ImAll K N H ds vs) : ImAll K N H (d :: ds) (v :: vs) := by
  simp only [ImAll]; exact ⟨v, vs, rfl, h, k⟩
theorem ImAll.nil : ImAll K N H [] [] := by simp only [ImAll]
theorem ImAll.take : ∀ {ds : List PyData} {vs : List V} (n : Nat), ImAll K N H ds vs → ImAll K N H (ds.take n) (vs.take n)
  | _, _, 0, _ => by simp only [List.take_zero]; exact .nil
  | [], _, n + 1, h => by simp only [ImAll] at h; subst h; exact .nil
  | d :: ds, _, n + 1, h => by
    simp only [ImAll] at h
    obtain ⟨x, xs, rfl, l, t⟩ := h
    exact ImAll.cons l (ImAll.take n t)
theorem ImAll.drop : ∀ {ds : List PyData} {vs : List V} (n : Nat), ImAll K N H ds vs → ImAll K N H (ds.drop n) (vs.drop n)
  | _, _, 0, h => h
  | [], _, n + 1, h => by simp only [ImAll] at h; subst h; exact .nil
  | d :: ds, _, n + 1, h => by
    simp only [ImAll] at h
    obtain ⟨x, xs, rfl, l, t⟩ := h
    exact ImAll.drop n t
theorem ImAll.set : ∀ {ds : List PyData} {vs : List V} {d : PyData} {v : V} (i : Nat), ImAll K N H ds vs → Im K N H d v → ImAll K N H (ds.set i d) (vs.set i v)
  | [], _, _, _, _, h, _ => by simp only [ImAll] at h; subst h; exact .nil
  | d :: ds, _, _, _, 0, h, k => by
    simp only [ImAll] at h
    obtain ⟨x, xs, rfl, l, t⟩ := h
    exact ImAll.cons k t
  | d :: ds, _, _, _, i + 1, h, k => by
    simp only [ImAll] at h
    obtain ⟨x, xs, rfl, l, t⟩ := h
    exact ImAll.cons l (ImAll.set i t k)
theorem Im.int {i : Int} : Im K N H (.int i) (.int i) := by simp only [Im]
theorem Im.bool {b : Bool} : Im K N H (.bool b) (.bl b) := by simp only [Im]
theorem Im.none : Im K N H .none .non := by simp only [Im]
theorem Im.str {x : Str} : Im K N H (.str x) (.str x) := by simp only [Im]
theorem Im.int_iff {i : Int} {v : V} : Im K N H (.int i) v ↔ v = .int i := by simp only [Im]
theorem Im.bool_iff {b : Bool} {v : V} : Im K N H (.bool b) v ↔ v = .bl b := by simp only [Im]
theorem ImAll.ints : ∀ ns : List Int, ImAll K N H (ns.map .int) (ns.map .int)
  | [] => .nil
  | n :: ns => .cons .int (ImAll.ints ns)
end
/-! ## the state of a def's body -/
/-- K the written part; H0 the heap at its start; N what callers may change; L what is lent to this body -/
structure Fm where
  K : PySem.W.Frag
  H0 : Hp
  N : Addr → Prop
  L : Addr → Prop
  fix : Nat → Prop
inductive Ent
  | d (x : PyData)
  | own (xs : List PyData)
  | ro (x : PyData)
  | raw (v : V)
abbrev Rho := List (Option Ent)
inductive R
  | d (x : PyData)
  | o (i : Nat)
  | raw (v : V)
inductive Pin
  | val (v : V) (r : R)
  | acc (a : Addr) (xs : List PyData)
def accs : List Pin → List Addr
  | [] => []
  | .acc a _ :: ps => a :: accs ps
  | .val _ _ :: ps => accs ps
theorem mem_accs {a : Addr} : ∀ {ps : List Pin}, a ∈ accs ps ↔ ∃ xs, Pin.acc a xs ∈ ps
  | [] => by simp [accs]
  | .acc b ys :: ps => by
    simp only [accs, List.mem_cons, mem_accs (ps := ps)]
    constructor
    · rintro (rfl | ⟨xs, h⟩)
      · exact ⟨ys, .inl rfl⟩
      · exact ⟨xs, .inr h⟩
    · rintro ⟨xs, h | h⟩
      · cases h; exact .inl rfl
      · exact .inr ⟨xs, h⟩
  | .val v r :: ps => by
    simp only [accs, mem_accs (ps := ps), List.mem_cons]
    constructor
    · rintro ⟨xs, h⟩; exact ⟨xs, .inr h⟩
    · rintro ⟨xs, h | h⟩
      · cases h
      · exact ⟨xs, h⟩
def OwnAt (ρ : Rho) (σ : L2.St) (i : Nat) (a : Addr) : Prop := (∃ xs, ρ[i]? = some (some (.own xs))) ∧ σ[i]? = some (some (.ref a))
/-- what may be changed while this body runs -/
def Av (F : Fm) (pins : List Pin) (ρ : Rho) (σ : L2.St) : Addr → Prop := fun a => F.N a ∨ (∃ i, OwnAt ρ σ i a) ∨ a ∈ accs pins
/-- a list that callers may change, but nobody while this body runs -/
def LkR (F : Fm) (a : Addr) (us : List V) : Prop := (Rd F.H0 a (.lst us) ∧ ¬ F.L a) ∨ SqL F.K (fun _ => none) a us
def RoOk (F : Fm) (A : Addr → Prop) (H : Hp) (x : PyData) (v : V) : Prop := Im F.K A H x v ∨ ∃ a us xs, v = .ref a ∧ x = .list xs ∧ LkR F a us ∧ ImAll F.K A H xs us
def EntOk (F : Fm) (A : Addr → Prop) (H : Hp) : Ent → V → Prop
  | .d x, v => Im F.K A H x v
  | .own xs, v => ∃ a vs, v = .ref a ∧ H a = some (.lst vs) ∧ ImAll F.K A H xs vs ∧ (F.L a ∨ F.H0 a = none)
  | .ro x, v => RoOk F A H x v
  | .raw u, v => v = u
/-- a slot's data -/
def slot (ρ : Rho) (i : Nat) : Option PyData :=
  match ρ[i]? with
  | some (some (.d x)) => some x
  | some (some (.own xs)) => some (.list xs)
  | some (some (.ro x)) => some x
  | _ => none
def val (ρ : Rho) : R → Option PyData
  | .d x => some x
  | .o i => slot ρ i
  | .raw _ => none
def ROk (F : Fm) (A : Addr → Prop) (ρ : Rho) (σ : L2.St) (H : Hp) : R → V → Prop
  | .d x, v => Im F.K A H x v
  | .o i, v => σ[i]? = some (some v) ∧ ∃ x, slot ρ i = some x
  | .raw u, v => v = u
def PinOk (F : Fm) (A : Addr → Prop) (ρ : Rho) (σ : L2.St) (H : Hp) : Pin → Prop
  | .val v r => ROk F A ρ σ H r v
  | .acc a xs => ∃ vs, H a = some (.lst vs) ∧ ImAll F.K A H xs vs ∧ F.H0 a = none ∧ (¬ ∃ i, OwnAt ρ σ i a)
structure Ok (F : Fm) (pins : List Pin) (ρ : Rho) (σ : L2.St) (H : Hp) : Prop where
  len : σ.length = ρ.length
  ent : ∀ (i : Nat) (e : Ent), ρ[i]? = some (some e) → ∃ v, σ[i]? = some (some v) ∧ EntOk F (Av F pins ρ σ) H e v
  own : ∀ (i j : Nat) (a : Addr), OwnAt ρ σ i a → OwnAt ρ σ j a → i = j
  pin : ∀ p ∈ pins, PinOk F (Av F pins ρ σ) ρ σ H p
  acs : (accs pins).Nodup
  fr : ∀ a o, ¬ F.L a → F.H0 a = some o → H a = some o
  nh : ∀ a, F.N a → ∃ o, H a = some o
  ln : ∀ a, F.L a → F.N a
  h0 : ∀ a, F.N a → ∃ o, F.H0 a = some o
  lf : ∀ (i : Nat) (a : Addr), OwnAt ρ σ i a → F.L a → F.fix i
section
variable {F : Fm} {pins : List Pin} {ρ : Rho} {σ : L2.St} {H H' : Hp}
theorem Ok.ownL (O : Ok F pins ρ σ H) {i : Nat} {a : Addr} (h : OwnAt ρ σ i a) : ∃ vs, H a = some (.lst vs) ∧ (F.L a ∨ F.H0 a = none) := by
  obtain ⟨⟨xs, h1⟩, h2⟩ := h
  obtain ⟨v, h3, h4⟩ := O.ent i _ h1
  rw [h2] at h3
  cases h3
  obtain ⟨b, vs, e, h5, _, h6⟩ := h4
  cases e
  exact ⟨vs, h5, h6⟩
theorem Ok.avH (O : Ok F pins ρ σ H) {a : Addr} (h : Av F pins ρ σ a) : ∃ o, H a = some o := by
  rcases h with h | ⟨i, h⟩ | h
  · exact O.nh a h
  · obtain ⟨vs, h, _⟩ := O.ownL h; exact ⟨_, h⟩
  · obtain ⟨xs, h⟩ := mem_accs.mp h
    obtain ⟨vs, h, _⟩ := O.pin _ h
    exact ⟨_, h⟩
theorem RoOk.go {A A' : Addr → Prop} (g : Go A A' H H') {x : PyData} {v : V} (h : RoOk F A H x v) : RoOk F A' H' x v := by
  rcases h with h | ⟨a, us, xs, e, e2, l, t⟩
  · exact .inl (h.go g)
  · exact .inr ⟨a, us, xs, e, e2, l, t.go g⟩
/-- a change of the heap that Av does not feel -/
theorem Ok.heap (O : Ok F pins ρ σ H) (g : ∀ a o, H a = some o → H' a = some o) : Ok F pins ρ σ H' := by
  have G : Go (Av F pins ρ σ) (Av F pins ρ σ) H H' := ⟨fun a o _ h => g a o h, fun a h => .inl h⟩
  refine ⟨O.len, fun i e h => ?_, O.own, fun p hp => ?_, O.acs, fun a o n h => g _ _ (O.fr a o n h), fun a h => ?_, O.ln, O.h0, O.lf⟩
  · obtain ⟨v, h1, h2⟩ := O.ent i e h
    refine ⟨v, h1, ?_⟩
    cases e with
    | d x => exact Im.go G h2
    | own xs =>
      obtain ⟨a, vs, e, h5, h6, h7⟩ := h2
      exact ⟨a, vs, e, g _ _ h5, h6.go G, h7⟩
    | ro x => exact RoOk.go G h2
    | raw u => exact h2
  · have h := O.pin p hp
    cases p with
    | val v r =>
      cases r with
      | d x => exact Im.go G h
      | o i => exact h
      | raw u => exact h
    | acc a xs =>
      obtain ⟨vs, h1, h2, h3⟩ := h
      exact ⟨vs, g _ _ h1, h2.go G, h3⟩
  · obtain ⟨o, h⟩ := O.nh a h
    exact ⟨o, g _ _ h⟩
theorem grow_new {p : Addr} {o : HO} (h : H p = none) : ∀ a u, H a = some u → upd H p o a = some u := fun a u e => by
  rw [upd_ne (ne_of_none e h)]; exact e
theorem Ok.new (O : Ok F pins ρ σ H) {p : Addr} {o : HO} (h : H p = none) : Ok F pins ρ σ (upd H p o) := O.heap (grow_new h)
/-- a value is kept in mind -/
theorem Ok.push (O : Ok F pins ρ σ H) {v : V} {r : R} (h : ROk F (Av F pins ρ σ) ρ σ H r v) : Ok F (.val v r :: pins) ρ σ H := by
  have e : Av F (.val v r :: pins) ρ σ = Av F pins ρ σ := rfl
  refine ⟨O.len, by rw [e]; exact O.ent, O.own, fun p hp => ?_, O.acs, O.fr, O.nh, O.ln, O.h0, O.lf⟩
  rw [e]
  rcases List.mem_cons.mp hp with rfl | hp
  · exact h
  · exact O.pin p hp
theorem Ok.popV {v : V} {r : R} (O : Ok F (.val v r :: pins) ρ σ H) : Ok F pins ρ σ H ∧ ROk F (Av F pins ρ σ) ρ σ H r v := by
  have e : Av F (.val v r :: pins) ρ σ = Av F pins ρ σ := rfl
  refine ⟨⟨O.len, by have := O.ent; rw [e] at this; exact this, O.own, fun p hp => ?_, O.acs, O.fr, O.nh, O.ln, O.h0, O.lf⟩, ?_⟩
  · have := O.pin p (List.mem_cons_of_mem _ hp)
    rw [e] at this; exact this
  · have := O.pin _ (List.mem_cons_self ..)
    rw [e] at this; exact this
theorem ROk.go {A A' : Addr → Prop} (g : Go A A' H H') {r : R} {v : V} (h : ROk F A ρ σ H r v) : ROk F A' ρ σ H' r v := by
  cases r with
  | d x => exact Im.go g h
  | o i => exact h
  | raw u => exact h
/-- a new list, kept in mind: nobody else knows it -/
theorem Ok.pushL (O : Ok F pins ρ σ H) {p : Addr} {xs : List PyData} {vs : List V} (hp : H p = none) (h : ImAll F.K (Av F pins ρ σ) H xs vs) : Ok F (.acc p xs :: pins) ρ σ (upd H p (.lst vs)) := by
  have G : Go (Av F pins ρ σ) (Av F (.acc p xs :: pins) ρ σ) H (upd H p (.lst vs)) := by
    refine ⟨fun a o _ h => grow_new hp a o h, fun a h => ?_⟩
    rcases h with h | h | h
    · exact .inl (.inl h)
    · exact .inl (.inr (.inl h))
    · rcases List.mem_cons.mp (show a ∈ p :: accs pins from h) with rfl | h
      · exact .inr hp
      · exact .inl (.inr (.inr h))
  have nAv : ¬ Av F pins ρ σ p := fun h => by obtain ⟨o, h⟩ := O.avH h; rw [hp] at h; cases h
  have g := grow_new (o := .lst vs) hp
  refine ⟨O.len, fun i e h => ?_, O.own, fun q hq => ?_, ?_, fun a o n h => g _ _ (O.fr a o n h), fun a h => ?_, O.ln, O.h0, O.lf⟩
  · obtain ⟨v, h1, h2⟩ := O.ent i e h
    refine ⟨v, h1, ?_⟩
    cases e with
    | d x => exact Im.go G h2
    | own ys =>
      obtain ⟨a, us, e, h5, h6, h7⟩ := h2
      exact ⟨a, us, e, g _ _ h5, h6.go G, h7⟩
    | ro x => exact RoOk.go G h2
    | raw u => exact h2
  · rcases List.mem_cons.mp hq with rfl | hq
    · refine ⟨vs, upd_same, h.go G, ?_, fun ⟨i, z⟩ => nAv (.inr (.inl ⟨i, z⟩))⟩
      cases e : F.H0 p with
      | none => rfl
      | some o =>
        by_cases hl : F.L p
        · exact absurd (.inl (O.ln p hl)) nAv
        · rw [O.fr p o hl e] at hp; cases hp
    · have h := O.pin q hq
      cases q with
      | val v r => exact ROk.go G h
      | acc a ys =>
        obtain ⟨us, h1, h2, h3⟩ := h
        exact ⟨us, g _ _ h1, h2.go G, h3⟩
  · show (p :: accs pins).Nodup
    refine List.nodup_cons.mpr ⟨fun h => nAv (.inr (.inr h)), O.acs⟩
  · obtain ⟨o, h⟩ := O.nh a h
    exact ⟨o, g _ _ h⟩
/-- it is data from now on -/
theorem Ok.popL {p : Addr} {xs : List PyData} (O : Ok F (.acc p xs :: pins) ρ σ H) : Ok F pins ρ σ H ∧ Im F.K (Av F pins ρ σ) H (.list xs) (.ref p) := by
  have G : Go (Av F (.acc p xs :: pins) ρ σ) (Av F pins ρ σ) H H := by
    refine ⟨fun a o _ h => h, fun a h => .inl ?_⟩
    rcases h with h | h | h
    · exact .inl h
    · exact .inr (.inl h)
    · exact .inr (.inr (List.mem_cons_of_mem _ h))
  obtain ⟨vs, h1, h2, h3, h4⟩ := O.pin _ (List.mem_cons_self ..)
  have hnd := List.nodup_cons.mp (show (p :: accs pins).Nodup from O.acs)
  refine ⟨⟨O.len, fun i e h => ?_, O.own, fun q hq => ?_, hnd.2, O.fr, O.nh, O.ln, O.h0, O.lf⟩, ?_⟩
  · obtain ⟨v, h1, h2⟩ := O.ent i e h
    refine ⟨v, h1, ?_⟩
    cases e with
    | d x => exact Im.go G h2
    | own ys =>
      obtain ⟨a, us, e, h5, h6, h7⟩ := h2
      exact ⟨a, us, e, h5, h6.go G, h7⟩
    | ro x => exact RoOk.go G h2
    | raw u => exact h2
  · have h := O.pin q (List.mem_cons_of_mem _ hq)
    cases q with
    | val v r => exact ROk.go G h
    | acc a ys =>
      obtain ⟨us, h1, h2, h3⟩ := h
      exact ⟨us, h1, h2.go G, h3⟩
  · simp only [Im]
    refine ⟨p, vs, rfl, ⟨h1, ?_⟩, h2.go G⟩
    rintro (h | h | h)
    · obtain ⟨o, h⟩ := O.h0 p h
      rw [h3] at h; cases h
    · exact h4 h
    · exact hnd.1 h
end
end DV
namespace DV
open PySem PySem.Spec PyProof.Rows L2
section
variable {F : Fm} {pins : List Pin} {ρ : Rho} {σ : L2.St} {H H' : Hp}
theorem EntOk.go {A A' : Addr → Prop} (g : Go A A' H H') {e : Ent} {v : V} (h : EntOk F A H e v) (hown : ∀ a vs, v = .ref a → H a = some (.lst vs) → (∃ xs, e = .own xs) → H' a = some (.lst vs)) : EntOk F A' H' e v := by
  cases e with
  | d x => exact Im.go g h
  | own ys =>
    obtain ⟨a, us, e, h5, h6, h7⟩ := h
    exact ⟨a, us, e, hown a us e h5 ⟨_, rfl⟩, h6.go g, h7⟩
  | ro x => exact RoOk.go g h
  | raw u => exact h
theorem setOwn_iff {i : Nat} {a : Addr} {xs : List PyData} (h : OwnAt ρ σ i a) (j : Nat) (b : Addr) : OwnAt (ρ.set i (some (.own xs))) σ j b ↔ OwnAt ρ σ j b := by
  obtain ⟨⟨ys, h1⟩, h2⟩ := h
  have hi : i < ρ.length := by
    rcases Nat.lt_or_ge i ρ.length with z | z
    · exact z
    · rw [List.getElem?_eq_none z] at h1; cases h1
  by_cases e : i = j
  · subst e
    constructor
    · rintro ⟨_, h3⟩; exact ⟨⟨ys, h1⟩, h3⟩
    · rintro ⟨_, h3⟩; exact ⟨⟨xs, by simp [hi]⟩, h3⟩
  · unfold OwnAt
    rw [List.getElem?_set_ne e]
theorem Ok.setOwn (O : Ok F pins ρ σ H) {i : Nat} {a : Addr} {xs : List PyData} {vs : List V} (h : OwnAt ρ σ i a) (hx : ImAll F.K (Av F pins ρ σ) H xs vs) :
    Ok F pins (ρ.set i (some (.own xs))) σ (upd H a (.lst vs)) := by
  have oe := setOwn_iff (xs := xs) h
  have ae : Av F pins (ρ.set i (some (.own xs))) σ = Av F pins ρ σ := by
    funext b
    unfold Av
    simp only [oe]
  have aa : Av F pins ρ σ a := .inr (.inl ⟨i, h⟩)
  have G : Go (Av F pins ρ σ) (Av F pins ρ σ) H (upd H a (.lst vs)) := ⟨fun b o n e => by
    have hb : b ≠ a := fun z => n (by rw [z]; exact aa)
    rw [upd_ne hb]; exact e, fun b z => .inl z⟩
  obtain ⟨vs0, hH, hl⟩ := O.ownL h
  obtain ⟨⟨ys, h1⟩, h2⟩ := id h
  have hi : i < ρ.length := by
    rcases Nat.lt_or_ge i ρ.length with z | z
    · exact z
    · rw [List.getElem?_eq_none z] at h1; cases h1
  refine ⟨by rw [List.length_set]; exact O.len, fun j e hj => ?_, fun j k b z1 z2 => O.own j k b ((oe j b).mp z1) ((oe k b).mp z2), fun p hp => ?_, O.acs, fun b o n e => ?_, fun b z => ?_, O.ln, O.h0, fun j b z => O.lf j b ((oe j b).mp z)⟩
  · rw [ae]
    by_cases e2 : i = j
    · subst e2
      rw [List.getElem?_set_self hi] at hj
      cases hj
      exact ⟨.ref a, h2, a, vs, rfl, upd_same, hx.go G, hl⟩
    · rw [List.getElem?_set_ne e2] at hj
      obtain ⟨v, h3, h4⟩ := O.ent j e hj
      refine ⟨v, h3, EntOk.go G h4 fun b us ev hb ⟨zs, ex⟩ => ?_⟩
      subst ev ex
      rw [upd_ne (fun z => e2 (O.own i j a h (by subst z; exact ⟨⟨zs, hj⟩, h3⟩)))]
      exact hb
  · rw [ae]
    have hq := O.pin p hp
    cases p with
    | val v r =>
      cases r with
      | d x => exact Im.go G hq
      | o j =>
        refine ⟨hq.1, ?_⟩
        by_cases e2 : i = j
        · subst e2
          exact ⟨.list xs, by unfold slot; rw [List.getElem?_set_self hi]⟩
        · obtain ⟨x, hx2⟩ := hq.2
          refine ⟨x, ?_⟩
          unfold slot at hx2 ⊢
          rw [List.getElem?_set_ne e2]
          exact hx2
      | raw u => exact hq
    | acc b ys =>
      obtain ⟨us, h3, h4, h5, h6⟩ := hq
      refine ⟨us, ?_, h4.go G, h5, fun ⟨j, z⟩ => h6 ⟨j, (oe j b).mp z⟩⟩
      rw [upd_ne (fun z => h6 (by subst z; exact ⟨i, h⟩))]
      exact h3
  · rw [upd_ne (fun z => ?_)]
    · exact O.fr b o n e
    · subst z
      rcases hl with hl | hl
      · exact n hl
      · rw [hl] at e; cases e
  · by_cases e : b = a
    · subst e; exact ⟨_, upd_same⟩
    · rw [upd_ne e]; exact O.nh b z
theorem Ok.setAcc {a : Addr} {xs ys : List PyData} {vs : List V} (O : Ok F (.acc a xs :: pins) ρ σ H) (hx : ImAll F.K (Av F (.acc a xs :: pins) ρ σ) H ys vs) :
    Ok F (.acc a ys :: pins) ρ σ (upd H a (.lst vs)) := by
  have ae : Av F (.acc a ys :: pins) ρ σ = Av F (.acc a xs :: pins) ρ σ := rfl
  have aa : Av F (.acc a xs :: pins) ρ σ a := .inr (.inr (List.mem_cons_self ..))
  have G : Go (Av F (.acc a xs :: pins) ρ σ) (Av F (.acc a xs :: pins) ρ σ) H (upd H a (.lst vs)) := ⟨fun b o n e => by
    have hb : b ≠ a := fun z => n (by rw [z]; exact aa)
    rw [upd_ne hb]; exact e, fun b z => .inl z⟩
  obtain ⟨vs0, hH, hi0, h00, hno⟩ := O.pin _ (List.mem_cons_self ..)
  have hnd := List.nodup_cons.mp (show (a :: accs pins).Nodup from O.acs)
  refine ⟨O.len, fun j e hj => ?_, O.own, fun p hp => ?_, O.acs, fun b o n e => ?_, fun b z => ?_, O.ln, O.h0, O.lf⟩
  · rw [ae]
    obtain ⟨v, h3, h4⟩ := O.ent j e hj
    refine ⟨v, h3, EntOk.go G h4 fun b us ev hb ⟨zs, ex⟩ => ?_⟩
    subst ev ex
    rw [upd_ne (fun z => hno (by subst z; exact ⟨j, ⟨zs, hj⟩, h3⟩))]
    exact hb
  · rw [ae]
    rcases List.mem_cons.mp hp with rfl | hp1
    · exact ⟨vs, upd_same, hx.go G, h00, hno⟩
    · have hq := O.pin p (List.mem_cons_of_mem _ hp1)
      cases p with
      | val v r => exact ROk.go G hq
      | acc b zs =>
        obtain ⟨us, h3, h4, h5⟩ := hq
        refine ⟨us, ?_, h4.go G, h5⟩
        rw [upd_ne (fun z => hnd.1 (by subst z; exact mem_accs.mpr ⟨zs, hp1⟩))]
        exact h3
  · rw [upd_ne (fun z => ?_)]
    · exact O.fr b o n e
    · subst z; rw [h00] at e; cases e
  · by_cases e : b = a
    · subst e; exact ⟨_, upd_same⟩
    · rw [upd_ne e]; exact O.nh b z
/-- no value in mind stands for the i-th slot -/
def Fr (pins : List Pin) (i : Nat) : Prop := ∀ v j, Pin.val v (.o j) ∈ pins → j ≠ i
def SPn (F : Fm) (pins : List Pin) : Prop := ∀ v j, Pin.val v (.o j) ∈ pins → F.fix j
theorem SPn.fr (h : SPn F pins) {i : Nat} (hi : ¬ F.fix i) : Fr pins i := fun v j hp e => hi (e ▸ h v j hp)
theorem SPn.cons (h : SPn F pins) {v : V} {x : PyData} : SPn F (.val v (.d x) :: pins) := fun u j hp => by
  rcases List.mem_cons.mp hp with z | z
  · cases z
  · exact h u j z
theorem slot_ne {i j : Nat} {e : Option Ent} (h : j ≠ i) : slot (ρ.set i e) j = slot ρ j := by
  unfold slot; rw [List.getElem?_set_ne (fun z => h z.symm)]
theorem getset {α : Type} {l : List α} {i j : Nat} {x y : α} (h : (l.set i x)[j]? = some y) : (j = i ∧ y = x ∧ i < l.length) ∨ (j ≠ i ∧ l[j]? = some y) := by
  by_cases e : i = j
  · subst e
    by_cases hl : i < l.length
    · rw [List.getElem?_set_self hl] at h; cases h; exact .inl ⟨rfl, rfl, hl⟩
    · rw [List.getElem?_eq_none (by rw [List.length_set]; omega)] at h; cases h
  · rw [List.getElem?_set_ne e] at h
    exact .inr ⟨fun z => e z.symm, h⟩
theorem own_put {i j : Nat} {b : Addr} {e : Option Ent} {u : Option V} (he : ∀ xs, e ≠ some (.own xs)) (h : OwnAt (ρ.set i e) (σ.set i u) j b) : j ≠ i ∧ OwnAt ρ σ j b := by
  obtain ⟨⟨xs, h1⟩, h2⟩ := h
  rcases getset h1 with ⟨_, q, _⟩ | ⟨ne, q⟩
  · exact absurd q.symm (he xs)
  · rw [List.getElem?_set_ne (fun z => ne z.symm)] at h2
    exact ⟨ne, ⟨xs, q⟩, h2⟩
/-- a name takes a value that is no list of its own -/
theorem Ok.put (O : Ok F pins ρ σ H) {i : Nat} {e : Option Ent} {u : Option V} (hi : Fr pins i) (he : ∀ xs, e ≠ some (.own xs)) (hv : ∀ f, e = some f → ∃ v, u = some v ∧ EntOk F (Av F pins ρ σ) H f v) :
    Ok F pins (ρ.set i e) (σ.set i u) H := by
  have G : Go (Av F pins ρ σ) (Av F pins (ρ.set i e) (σ.set i u)) H H := by
    refine ⟨fun _ _ _ h => h, fun a h => .inl ?_⟩
    rcases h with h | ⟨j, h⟩ | h
    · exact .inl h
    · exact .inr (.inl ⟨j, (own_put he h).2⟩)
    · exact .inr (.inr h)
  refine ⟨by rw [List.length_set, List.length_set]; exact O.len, fun j f hj => ?_, fun j k b z1 z2 => O.own j k b (own_put he z1).2 (own_put he z2).2, fun p hp => ?_, O.acs, O.fr, O.nh, O.ln, O.h0, fun j b z => O.lf j b (own_put he z).2⟩
  · rcases getset hj with ⟨rfl, q, hl⟩ | ⟨ne, q⟩
    · obtain ⟨v, hu, ho⟩ := hv f q.symm
      subst hu
      exact ⟨v, by rw [List.getElem?_set_self (by rw [O.len]; exact hl)], EntOk.go G ho fun _ _ _ z _ => z⟩
    · obtain ⟨v, h3, h4⟩ := O.ent j f q
      exact ⟨v, by rw [List.getElem?_set_ne (fun z => ne z.symm)]; exact h3, EntOk.go G h4 fun _ _ _ z _ => z⟩
  · have hq := O.pin p hp
    cases p with
    | val v r =>
      cases r with
      | d x => exact Im.go G hq
      | o j =>
        have ne := hi v j hp
        obtain ⟨h1, x, h2⟩ := hq
        exact ⟨by rw [List.getElem?_set_ne (fun z => ne z.symm)]; exact h1, x, by rw [slot_ne ne]; exact h2⟩
      | raw u => exact hq
    | acc b ys =>
      obtain ⟨us, h3, h4, h5, h6⟩ := hq
      exact ⟨us, h3, h4.go G, h5, fun ⟨j, z⟩ => h6 ⟨j, (own_put he z).2⟩⟩
/-- a name takes a new list of its own -/
theorem Ok.putL {p : Addr} {xs : List PyData} (O : Ok F (.acc p xs :: pins) ρ σ H) {i : Nat} (hi : Fr pins i) :
    Ok F pins (ρ.set i (some (.own xs))) (σ.set i (some (.ref p))) H := by
  obtain ⟨vs, hH, hx, h00, hno⟩ := O.pin _ (List.mem_cons_self ..)
  have hnd := List.nodup_cons.mp (show (p :: accs pins).Nodup from O.acs)
  have ow : ∀ j b, OwnAt (ρ.set i (some (.own xs))) (σ.set i (some (.ref p))) j b → (j = i ∧ b = p) ∨ (j ≠ i ∧ OwnAt ρ σ j b) := fun j b h => by
    obtain ⟨⟨ys, h1⟩, h2⟩ := h
    rcases getset h1 with ⟨rfl, q, hl⟩ | ⟨ne, q⟩
    · rw [List.getElem?_set_self (by rw [O.len]; exact hl)] at h2
      cases h2; exact .inl ⟨rfl, rfl⟩
    · rw [List.getElem?_set_ne (fun z => ne z.symm)] at h2
      exact .inr ⟨ne, ⟨ys, q⟩, h2⟩
  have G : Go (Av F (.acc p xs :: pins) ρ σ) (Av F pins (ρ.set i (some (.own xs))) (σ.set i (some (.ref p)))) H H := by
    refine ⟨fun _ _ _ h => h, fun a h => .inl ?_⟩
    rcases h with h | ⟨j, h⟩ | h
    · exact .inl h
    · rcases ow j a h with ⟨_, rfl⟩ | ⟨_, h⟩
      · exact .inr (.inr (List.mem_cons_self ..))
      · exact .inr (.inl ⟨j, h⟩)
    · exact .inr (.inr (List.mem_cons_of_mem _ h))
  refine ⟨by rw [List.length_set, List.length_set]; exact O.len, fun j f hj => ?_, fun j k b z1 z2 => ?_, fun q hq => ?_, hnd.2, O.fr, O.nh, O.ln, O.h0, fun j b z hL => ?_⟩
  · rcases getset hj with ⟨rfl, q, hl⟩ | ⟨ne, q⟩
    · cases q
      exact ⟨.ref p, by rw [List.getElem?_set_self (by rw [O.len]; exact hl)], p, vs, rfl, hH, hx.go G, .inr h00⟩
    · obtain ⟨v, h3, h4⟩ := O.ent j f q
      exact ⟨v, by rw [List.getElem?_set_ne (fun z => ne z.symm)]; exact h3, EntOk.go G h4 fun _ _ _ z _ => z⟩
  · rcases ow j b z1 with ⟨e1, e2⟩ | ⟨n1, y1⟩
    · rcases ow k b z2 with ⟨e3, _⟩ | ⟨n2, y2⟩
      · rw [e1, e3]
      · rw [e2] at y2; exact absurd ⟨k, y2⟩ hno
    · rcases ow k b z2 with ⟨e3, e4⟩ | ⟨n2, y2⟩
      · rw [e4] at y1; exact absurd ⟨j, y1⟩ hno
      · exact O.own j k b y1 y2
  · have h := O.pin q (List.mem_cons_of_mem _ hq)
    cases q with
    | val v r =>
      cases r with
      | d x => exact Im.go G h
      | o j =>
        have ne := hi v j hq
        obtain ⟨h1, x, h2⟩ := h
        exact ⟨by rw [List.getElem?_set_ne (fun z => ne z.symm)]; exact h1, x, by rw [slot_ne ne]; exact h2⟩
      | raw u => exact h
    | acc b ys =>
      obtain ⟨us, h3, h4, h5, h6⟩ := h
      refine ⟨us, h3, h4.go G, h5, fun ⟨j, z⟩ => ?_⟩
      rcases ow j b z with ⟨_, rfl⟩ | ⟨_, z⟩
      · exact hnd.1 (mem_accs.mpr ⟨ys, hq⟩)
      · exact h6 ⟨j, z⟩
  · rcases ow j b z with ⟨_, rfl⟩ | ⟨_, z⟩
    · obtain ⟨o, h⟩ := O.h0 b (O.ln b hL)
      rw [h00] at h; cases h
    · exact O.lf j b z hL
/-- a list of one's own is data from now on -/
theorem Ok.frz (O : Ok F pins ρ σ H) {i : Nat} {xs : List PyData} (h : ρ[i]? = some (some (.own xs))) (hf : ¬ F.fix i) : Ok F pins (ρ.set i (some (.d (.list xs)))) σ H := by
  obtain ⟨v, hσ, a, vs, rfl, hH, hx, hl⟩ := O.ent i _ h
  have hil : i < ρ.length := by
    rcases Nat.lt_or_ge i ρ.length with z | z
    · exact z
    · rw [List.getElem?_eq_none z] at h; cases h
  have hown : OwnAt ρ σ i a := ⟨⟨xs, h⟩, hσ⟩
  have ow : ∀ j b, OwnAt (ρ.set i (some (.d (.list xs)))) σ j b → j ≠ i ∧ OwnAt ρ σ j b := fun j b h => by
    obtain ⟨⟨ys, h1⟩, h2⟩ := h
    rcases getset h1 with ⟨_, q, _⟩ | ⟨ne, q⟩
    · cases q
    · exact ⟨ne, ⟨ys, q⟩, h2⟩
  have G : Go (Av F pins ρ σ) (Av F pins (ρ.set i (some (.d (.list xs)))) σ) H H := by
    refine ⟨fun _ _ _ h => h, fun a h => .inl ?_⟩
    rcases h with h | ⟨j, h⟩ | h
    · exact .inl h
    · exact .inr (.inl ⟨j, (ow j a h).2⟩)
    · exact .inr (.inr h)
  have h0a : F.H0 a = none := by
    rcases hl with hl | hl
    · exact absurd (O.lf i a hown hl) hf
    · exact hl
  have nav : ¬ Av F pins (ρ.set i (some (.d (.list xs)))) σ a := by
    rintro (z | ⟨j, z⟩ | z)
    · obtain ⟨o, e⟩ := O.h0 a z
      rw [h0a] at e; cases e
    · exact (ow j a z).1 (O.own j i a (ow j a z).2 hown)
    · obtain ⟨ys, hp⟩ := mem_accs.mp z
      obtain ⟨_, _, _, _, hno⟩ := O.pin _ hp
      exact hno ⟨i, hown⟩
  have im : Im F.K (Av F pins (ρ.set i (some (.d (.list xs)))) σ) H (.list xs) (.ref a) := by
    simp only [Im]
    exact ⟨a, vs, rfl, ⟨hH, nav⟩, hx.go G⟩
  refine ⟨by rw [List.length_set]; exact O.len, fun j f hj => ?_, fun j k b z1 z2 => O.own j k b (ow j b z1).2 (ow k b z2).2, fun p hp => ?_, O.acs, O.fr, O.nh, O.ln, O.h0, fun j b z => O.lf j b (ow j b z).2⟩
  · rcases getset hj with ⟨rfl, q, hl⟩ | ⟨ne, q⟩
    · cases q
      exact ⟨.ref a, hσ, im⟩
    · obtain ⟨v, h3, h4⟩ := O.ent j f q
      exact ⟨v, h3, EntOk.go G h4 fun _ _ _ z _ => z⟩
  · have hq := O.pin p hp
    cases p with
    | val v r =>
      cases r with
      | d x => exact Im.go G hq
      | o j =>
        obtain ⟨h1, x, h2⟩ := hq
        refine ⟨h1, ?_⟩
        by_cases e : j = i
        · subst e
          exact ⟨.list xs, by unfold slot; rw [List.getElem?_set_self hil]⟩
        · exact ⟨x, by rw [slot_ne e]; exact h2⟩
      | raw u => exact hq
    | acc b ys =>
      obtain ⟨us, h3, h4, h5, h6⟩ := hq
      exact ⟨us, h3, h4.go G, h5, fun ⟨j, z⟩ => h6 ⟨j, (ow j b z).2⟩⟩
/-- slots forgotten -/
theorem Ok.clr (O : Ok F pins ρ σ H) {i : Nat} (hi : Fr pins i) : Ok F pins (ρ.set i none) (σ.set i none) H := O.put hi (fun _ z => nomatch z) fun _ z => nomatch z
theorem Ok.unclr {i : Nat} (O : Ok F pins ρ (σ.set i none) H) (hi : ρ[i]? = some none) : Ok F pins ρ σ H := by
  have hs : ∀ j v, (σ.set i none)[j]? = some (some v) → σ[j]? = some (some v) := fun j v h => by
    rcases getset h with ⟨_, q, _⟩ | ⟨_, q⟩
    · cases q
    · exact q
  have hs' : ∀ j v, j ≠ i → σ[j]? = some (some v) → (σ.set i none)[j]? = some (some v) := fun j v ne h => by rw [List.getElem?_set_ne (fun z => ne z.symm)]; exact h
  have ne : ∀ j e, ρ[j]? = some (some e) → j ≠ i := fun j e h z => by subst z; rw [hi] at h; cases h
  have ow : ∀ j b, OwnAt ρ σ j b ↔ OwnAt ρ (σ.set i none) j b := fun j b =>
    ⟨fun ⟨⟨xs, h1⟩, h2⟩ => ⟨⟨xs, h1⟩, hs' j _ (ne j _ h1) h2⟩, fun ⟨h1, h2⟩ => ⟨h1, hs j _ h2⟩⟩
  have ae : Av F pins ρ σ = Av F pins ρ (σ.set i none) := by
    funext b; unfold Av; simp only [ow]
  refine ⟨by have := O.len; rw [List.length_set] at this; exact this, fun j e h => ?_, fun j k b z1 z2 => O.own j k b ((ow j b).mp z1) ((ow k b).mp z2), fun p hp => ?_, O.acs, O.fr, O.nh, O.ln, O.h0, fun j b z => O.lf j b ((ow j b).mp z)⟩
  · obtain ⟨v, h1, h2⟩ := O.ent j e h
    exact ⟨v, hs j v h1, by rw [ae]; exact h2⟩
  · have hq := O.pin p hp
    cases p with
    | val v r =>
      cases r with
      | d x => rw [ae]; exact hq
      | o j => exact ⟨hs j v hq.1, hq.2⟩
      | raw u => exact hq
    | acc b ys =>
      obtain ⟨us, h3, h4, h5, h6⟩ := hq
      exact ⟨us, h3, by rw [ae]; exact h4, h5, fun ⟨j, z⟩ => h6 ⟨j, (ow j b).mp z⟩⟩
def wipeR (ρ : Rho) : List Nat → Rho
  | [] => ρ
  | i :: r => (wipeR ρ r).set i none
theorem Ok.wipe (O : Ok F pins ρ σ H) : ∀ {vs : List Nat}, (∀ i ∈ vs, Fr pins i) → Ok F pins (wipeR ρ vs) (wipe σ vs) H
  | [], _ => O
  | i :: r, h => by
    have := Ok.wipe O (vs := r) fun j hj => h j (List.mem_cons_of_mem _ hj)
    exact this.clr (h i (List.mem_cons_self ..))
theorem wipeR_len : ∀ vs : List Nat, (wipeR ρ vs).length = ρ.length
  | [] => rfl
  | i :: r => by show ((wipeR ρ r).set i none).length = _; rw [List.length_set]; exact wipeR_len r
theorem wipeR_none : ∀ {vs : List Nat} {i : Nat}, i ∈ vs → i < ρ.length → (wipeR ρ vs)[i]? = some none
  | j :: r, i, h, hl => by
    show ((wipeR ρ r).set j none)[i]? = some none
    by_cases e : j = i
    · subst e
      rw [List.getElem?_set_self (by rw [wipeR_len]; exact hl)]
    · rw [List.getElem?_set_ne e]
      rcases List.mem_cons.mp h with z | z
      · exact absurd z.symm e
      · exact wipeR_none z hl
theorem Ok.unwipe : ∀ {vs : List Nat} {σ : L2.St}, Ok F pins ρ (L2.wipe σ vs) H → (∀ i ∈ vs, ρ[i]? = some none ∨ ρ[i]? = none) → Ok F pins ρ σ H
  | [], _, O, _ => O
  | i :: r, σ, O, h => by
    have O' : Ok F pins ρ ((L2.wipe σ r).set i none) H := O
    rcases h i (List.mem_cons_self ..) with z | z
    · exact Ok.unwipe (O'.unclr z) fun j hj => h j (List.mem_cons_of_mem _ hj)
    · have hl : ρ.length ≤ i := List.getElem?_eq_none_iff.mp z
      have hw : (L2.wipe σ r).length = ρ.length := by have := O'.len; rw [List.length_set] at this; exact this
      rw [List.set_eq_of_length_le (by omega)] at O'
      exact Ok.unwipe O' fun j hj => h j (List.mem_cons_of_mem _ hj)
end
end DV
namespace DV
open PySem PySem.Spec PyProof.Rows L2
abbrev TDE := Rho → (R → Rho → Prop) → Prop
abbrev TDL := Rho → (List PyData → Rho → Prop) → Prop
abbrev TDA := Rho → (List R → Rho → Prop) → Prop
abbrev TDT := Rho → (Bool → Rho → Prop) → Prop
abbrev TDG := V → R → Rho → (Rho → Prop) → Prop
structure DEnds where
  nx : Rho → Prop
  rt : R → Rho → Prop
  bk : Rho → Prop := fun _ => False
  ct : Rho → Prop := fun _ => False
  rl : List PyData → Rho → Prop := fun _ _ => False
abbrev TDS := DEnds → Rho → Prop
/-- what a reading tells of data -/
structure DE (F : Fm) (te : TE) (td : TDE) : Prop where
  run : ∀ (pins : List Pin) (ρ : Rho) (σ : L2.St) (H : Hp) (Q : VK), Ok F pins ρ σ H →
    td ρ (fun r ρ' => ∀ v H', Ok F pins ρ' σ H' → ROk F (Av F pins ρ' σ) ρ' σ H' r v → Q v H') → te σ H Q
  mono : ∀ ρ Q Q', (∀ r ρ', Q r ρ' → Q' r ρ') → td ρ Q → td ρ Q'
structure DL (F : Fm) (te : TE) (td : TDL) : Prop where
  run : ∀ (pins : List Pin) (ρ : Rho) (σ : L2.St) (H : Hp) (Q : VK), Ok F pins ρ σ H →
    td ρ (fun xs ρ' => ∀ p H', Ok F (.acc p xs :: pins) ρ' σ H' → Q (.ref p) H') → te σ H Q
  mono : ∀ ρ Q Q', (∀ r ρ', Q r ρ' → Q' r ρ') → td ρ Q → td ρ Q'
structure DT (F : Fm) (tt : TT) (td : TDT) : Prop where
  run : ∀ (pins : List Pin) (ρ : Rho) (σ : L2.St) (H : Hp) (Q : Bool → Hp → Prop), Ok F pins ρ σ H →
    td ρ (fun b ρ' => ∀ H', Ok F pins ρ' σ H' → Q b H') → tt σ H Q
  mono : ∀ ρ Q Q', (∀ r ρ', Q r ρ' → Q' r ρ') → td ρ Q → td ρ Q'
def ROks (F : Fm) (A : Addr → Prop) (ρ : Rho) (σ : L2.St) (H : Hp) : List R → List V → Prop
  | [], vs => vs = []
  | r :: rs, vs => ∃ v us, vs = v :: us ∧ ROk F A ρ σ H r v ∧ ROks F A ρ σ H rs us
structure DA (F : Fm) (ta : TA) (td : TDA) : Prop where
  run : ∀ (pins : List Pin) (ρ : Rho) (σ : L2.St) (H : Hp) (Q : List V → Hp → Prop), Ok F pins ρ σ H →
    td ρ (fun rs ρ' => ∀ vs H', Ok F pins ρ' σ H' → ROks F (Av F pins ρ' σ) ρ' σ H' rs vs → Q vs H') → ta σ H Q
  mono : ∀ ρ Q Q', (∀ r ρ', Q r ρ' → Q' r ρ') → td ρ Q → td ρ Q'
structure PD (X : Cx) (F : Fm) (e : Expr) (te : TE) (td : TDE) : Prop where
  pe : PE X e te
  de : DE F te td
structure PDL (X : Cx) (F : Fm) (e : Expr) (te : TE) (td : TDL) : Prop where
  pe : PE X e te
  dl : DL F te td
structure PDT (X : Cx) (F : Fm) (e : Expr) (tt : TT) (td : TDT) : Prop where
  pt : PT X e tt
  dt : DT F tt td
structure PDW (X : Cx) (F : Fm) (e : Expr) (tt : TT) (td : TDT) : Prop where
  pw : PW X e tt
  dt : DT F tt td
structure PDA (X : Cx) (F : Fm) (es : List Expr) (ta : TA) (td : TDA) : Prop where
  pa : PA X es ta
  da : DA F ta td
section
variable {F : Fm} {pins : List Pin} {ρ : Rho} {σ : L2.St} {H H' : Hp}
theorem LkR.sq (O : Ok F pins ρ σ H) {a : Addr} {us : List V} (h : LkR F a us) : SqL F.K H a us := by
  rcases h with ⟨h | ⟨o, h⟩, n⟩ | h
  · exact .inl (.inl (O.fr _ _ n h))
  · exact .inl (.inr ⟨o, O.fr _ _ n h⟩)
  · exact sql_none h
theorem slot_dp (O : Ok F pins ρ σ H) {i : Nat} {v : V} {x : PyData} (h1 : σ[i]? = some (some v)) (h2 : slot ρ i = some x) : Dp F.K H v x := by
  unfold slot at h2
  cases e : ρ[i]? with
  | none => rw [e] at h2; cases h2
  | some f =>
    rw [e] at h2
    cases f with
    | none => cases h2
    | some f =>
      obtain ⟨u, h3, h4⟩ := O.ent i f e
      rw [h1] at h3; cases h3
      cases f with
      | d y => cases h2; exact Im.dp h4
      | own ys =>
        cases h2
        obtain ⟨a, vs, rfl, h5, h6, _⟩ := h4
        exact .lst (.of h5) h6.dp
      | ro y =>
        cases h2
        rcases h4 with h4 | ⟨a, us, xs, rfl, rfl, l, t⟩
        · exact Im.dp h4
        · exact .lst (l.sq O) t.dp
      | raw u => cases h2
theorem val_dp (O : Ok F pins ρ σ H) {A : Addr → Prop} {r : R} {v : V} {x : PyData} (h : ROk F A ρ σ H r v) (h2 : val ρ r = some x) : Dp F.K H v x := by
  cases r with
  | d y => cases h2; exact Im.dp h
  | o i => exact slot_dp O h.1 h2
  | raw u => cases h2
def vals (ρ : Rho) : List R → Option (List PyData)
  | [] => some []
  | r :: rs => match val ρ r, vals ρ rs with
    | some x, some xs => some (x :: xs)
    | _, _ => none
theorem vals_dp (O : Ok F pins ρ σ H) {A : Addr → Prop} : ∀ {rs : List R} {vs : List V} {xs : List PyData}, ROks F A ρ σ H rs vs → vals ρ rs = some xs → DpAll F.K H vs xs
  | [], _, _, h, e => by
    simp only [ROks] at h; simp only [vals] at e; subst h; cases e; exact .nil
  | r :: rs, _, _, h, e => by
    simp only [ROks] at h
    obtain ⟨v, us, rfl, h1, h2⟩ := h
    simp only [vals] at e
    cases e1 : val ρ r with
    | none => rw [e1] at e; cases e
    | some x =>
      cases e2 : vals ρ rs with
      | none => rw [e1, e2] at e; cases e
      | some xs =>
        rw [e1, e2] at e; cases e
        exact .cons (val_dp O h1 e1) (vals_dp O h2 e2)
end
/-- a value without a heap -/
def Sc (z : PyData) (v : V) : Prop := ∀ K N H, Im K N H z v
theorem Sc.int {i : Int} : Sc (.int i) (.int i) := fun _ _ _ => Im.int
theorem Sc.bool {b : Bool} : Sc (.bool b) (.bl b) := fun _ _ _ => Im.bool
theorem Sc.str {x : Str} : Sc (.str x) (.str x) := fun _ _ _ => Im.str
theorem Sc.none : Sc .none .non := fun _ _ _ => Im.none
theorem ROk.sc {F : Fm} {A : Addr → Prop} {ρ : Rho} {σ : L2.St} {H : Hp} {z : PyData} {v : V} (h : Sc z v) : ROk F A ρ σ H (.d z) v := h _ _ _
section
variable {X : Cx} {F : Fm} {a b c e : Expr} {es : List Expr} {ta tb tc te : TE} {da db dc de : TDE} {pos : Pos}
/-! ### names and constants -/
def dVar (i : Nat) : TDE := fun ρ Q => match ρ[i]? with
  | some (some (.d x)) => Q (.d x) ρ
  | some (some (.own _)) => Q (.o i) ρ
  | some (some (.ro _)) => Q (.o i) ρ
  | some (some (.raw v)) => Q (.raw v) ρ
  | _ => False
theorem de_var (i : Nat) : DE F (tVar i) (dVar i) := by
  constructor
  · intro pins ρ σ H Q O h
    unfold dVar at h
    cases e : ρ[i]? with
    | none => rw [e] at h; exact h.elim
    | some f =>
      rw [e] at h
      cases f with
      | none => exact h.elim
      | some f =>
        obtain ⟨v, h1, h2⟩ := O.ent i f e
        refine ⟨v, h1, ?_⟩
        cases f with
        | d x => exact h v H O h2
        | own xs => exact h v H O ⟨h1, .list xs, by unfold slot; rw [e]⟩
        | ro x => exact h v H O ⟨h1, x, by unfold slot; rw [e]⟩
        | raw u => exact h v H O h2
  · intro ρ Q Q' hq h
    unfold dVar at h ⊢
    split at h <;> first | exact hq _ _ h | exact h
theorem pdv (i : Nat) {x : Str} (hN : X.N[i]? = some x := by rfl) (hv : Vis X.env.scope x := by first | exact Or.inl rfl | exact Or.inr (Or.inl rfl) | exact Or.inr (Or.inr rfl)) (hd : (x == ("__debug__" : Str)) = false := by decide)
    (hcd : (x == ("__classdict__" : Str)) = false := by decide) : PD X F (.Name x pos) (tVar i) (dVar i) := ⟨pe_var hN hv hd hcd, de_var i⟩
def dC (z : PyData) : TDE := fun ρ Q => Q (.d z) ρ
theorem de_c {v : V} {z : PyData} (h : Sc z v) : DE F (tC v) (dC z) := ⟨fun pins ρ σ H Q O h2 => h2 v H O (h _ _ _), fun _ _ _ hq h => hq _ _ h⟩
theorem pd_int {i : Int} {j} : PD X F (.Constant (.int i) j pos) (tC (.int i)) (dC (.int i)) := ⟨pe_int, de_c .int⟩
theorem pd_bl {i : Bool} {j} : PD X F (.Constant (.bool i) j pos) (tC (.bl i)) (dC (.bool i)) := ⟨pe_bl, de_c .bool⟩
theorem pd_str {i : Str} {j} : PD X F (.Constant (.str i) j pos) (tC (.str i)) (dC (.str i)) := ⟨pe_str, de_c .str⟩
theorem pd_non {j} : PD X F (.Constant .none j pos) (tC .non) (dC .none) := ⟨pe_non, de_c .none⟩
/-! ### operators on values -/
abbrev F2 := PyData → PyData → (PyData → Prop) → Prop
/-- the operator's reading from data, the answer without a heap -/
structure SO (K : PySem.W.Frag) (r : R2) (f : F2) : Prop where
  run : ∀ (H : Hp) (x y : V) (dx dy : PyData) (Q : VK), Dp K H x dx → Dp K H y dy → f dx dy (fun z => ∀ v, Sc z v → Q v H) → r x y H Q
  mono : ∀ x y Q Q', (∀ z, Q z → Q' z) → f x y Q → f x y Q'
def onV2 (ρ : Rho) (r s : R) (f : PyData → PyData → Prop) : Prop := match val ρ r, val ρ s with
  | some x, some y => f x y
  | _, _ => False
theorem onV2_of {ρ : Rho} {r s : R} {f : PyData → PyData → Prop} (h : onV2 ρ r s f) : ∃ x y, val ρ r = some x ∧ val ρ s = some y ∧ f x y := by
  unfold onV2 at h
  split at h
  · exact ⟨_, _, by assumption, by assumption, h⟩
  · exact h.elim
theorem onV2_mono {ρ : Rho} {r s : R} {f g : PyData → PyData → Prop} (h : onV2 ρ r s f) (k : ∀ x y, f x y → g x y) : onV2 ρ r s g := by
  unfold onV2 at h ⊢
  split at h
  · exact k _ _ h
  · exact h.elim
def onV (ρ : Rho) (r : R) (f : PyData → Prop) : Prop := match val ρ r with
  | some x => f x
  | _ => False
theorem onV_of {ρ : Rho} {r : R} {f : PyData → Prop} (h : onV ρ r f) : ∃ x, val ρ r = some x ∧ f x := by
  unfold onV at h
  split at h
  · exact ⟨_, by assumption, h⟩
  · exact h.elim
theorem onV_mono {ρ : Rho} {r : R} {f g : PyData → Prop} (h : onV ρ r f) (k : ∀ x, f x → g x) : onV ρ r g := by
  unfold onV at h ⊢
  split at h
  · exact k _ h
  · exact h.elim
def onVs (ρ : Rho) (rs : List R) (f : List PyData → Prop) : Prop := match vals ρ rs with
  | some xs => f xs
  | _ => False
theorem onVs_of {ρ : Rho} {rs : List R} {f : List PyData → Prop} (h : onVs ρ rs f) : ∃ xs, vals ρ rs = some xs ∧ f xs := by
  unfold onVs at h
  split at h
  · exact ⟨_, by assumption, h⟩
  · exact h.elim
theorem onVs_mono {ρ : Rho} {rs : List R} {f g : List PyData → Prop} (h : onVs ρ rs f) (k : ∀ xs, f xs → g xs) : onVs ρ rs g := by
  unfold onVs at h ⊢
  split at h
  · exact k _ h
  · exact h.elim
def dBin (ta tb : TDE) (k : R → R → Rho → (R → Rho → Prop) → Prop) : TDE := fun ρ Q => ta ρ fun r ρ1 => tb ρ1 fun s ρ2 => k r s ρ2 Q
/-- two operands, one behind the other -/
theorem de_bin {t : V → V → Hp → VK → Prop} {k : R → R → Rho → (R → Rho → Prop) → Prop} (ha : DE F ta da) (hb : DE F tb db)
    (hk : ∀ pins ρ σ H x y r s (Q : VK), Ok F pins ρ σ H → ROk F (Av F pins ρ σ) ρ σ H r x → ROk F (Av F pins ρ σ) ρ σ H s y → k r s ρ (fun z ρ' => ∀ v H', Ok F pins ρ' σ H' → ROk F (Av F pins ρ' σ) ρ' σ H' z v → Q v H') → t x y H Q)
    (hm : ∀ r s ρ Q Q', (∀ r ρ', Q r ρ' → Q' r ρ') → k r s ρ Q → k r s ρ Q') :
    DE F (fun σ H Q => ta σ H fun x H1 => tb σ H1 fun y H2 => t x y H2 Q) (dBin da db k) := by
  constructor
  · intro pins ρ σ H Q O h
    refine ha.run pins ρ σ H _ O (ha.mono _ _ _ (fun r ρ1 h1 x H1 O1 R1 => ?_) h)
    refine hb.run (.val x r :: pins) ρ1 σ H1 _ (O1.push R1) (hb.mono _ _ _ (fun s ρ2 h2 y H2 O2 R2 => ?_) h1)
    obtain ⟨O3, R3⟩ := O2.popV
    exact hk pins ρ2 σ H2 x y r s Q O3 R3 R2 h2
  · intro ρ Q Q' hq h
    exact ha.mono _ _ _ (fun r ρ1 h1 => hb.mono _ _ _ (fun s ρ2 h2 => hm r s ρ2 Q Q' hq h2) h1) h
def dOp (f : F2) (ta tb : TDE) : TDE := dBin ta tb fun r s ρ Q => onV2 ρ r s fun x y => f x y fun z => Q (.d z) ρ
theorem de_op {r : R2} {f : F2} (hf : SO F.K r f) (ha : DE F ta da) (hb : DE F tb db) : DE F (tOp r ta tb) (dOp f da db) := by
  refine de_bin ha hb (fun pins ρ σ H x y r s Q O R1 R2 h => ?_) fun r s ρ Q Q' hq h => onV2_mono h fun x y h => hf.mono _ _ _ _ (fun z => hq _ _) h
  obtain ⟨dx, dy, e1, e2, h⟩ := onV2_of h
  exact hf.run H x y dx dy Q (val_dp O R1 e1) (val_dp O R2 e2) (hf.mono _ _ _ _ (fun z q v hv => q v H O (hv _ _ _)) h)
theorem pd_op {op : Operator} {r : R2} {f : F2} (ho : OpR X (binaryOp op) r) (hf : SO F.K r f) (ha : PD X F a ta da) (hb : PD X F b tb db) : PD X F (.BinOp a op b pos) (tOp r ta tb) (dOp f da db) := ⟨pe_op ho ha.pe hb.pe, de_op hf ha.de hb.de⟩
theorem pd_cmp {op : CmpOp} {r : R2} {f : F2} (ho : OpR X (compareOp op) r) (hm : behindInMarks op b = false) (hf : SO F.K r f) (ha : PD X F a ta da) (hb : PD X F b tb db) : PD X F (.Compare a [op] [b] pos) (tOp r ta tb) (dOp f da db) := ⟨pe_cmpR ho ha.pe hb.pe hm, de_op hf ha.de hb.de⟩
/-- of two whole numbers -/
def fI (C : Int → Int → Prop) (g : Int → Int → PyData) : F2
  | .int i, .int j, Q => C i j ∧ Q (g i j)
  | _, _, _ => False
theorem so_I {K : PySem.W.Frag} {C : Int → Int → Prop} {g : Int → Int → PyData} {g' : Int → Int → V} (h : ∀ i j, Sc (g i j) (g' i j)) : SO K (rI C g') (fI C g) := by
  constructor
  · intro H x y dx dy Q h1 h2 q
    cases dx <;> cases dy <;> first | exact q.elim | skip
    cases h1; cases h2
    exact ⟨_, _, rfl, rfl, q.1, q.2 _ (h _ _)⟩
  · intro x y Q Q' hq q
    cases x <;> cases y <;> first | exact q.elim | skip
    exact ⟨q.1, hq _ q.2⟩
def fI0 (g : Int → Int → PyData) : F2
  | .int i, .int j, Q => Q (g i j)
  | _, _, _ => False
theorem so_I0 {K : PySem.W.Frag} {g : Int → Int → PyData} {g' : Int → Int → V} (h : ∀ i j, Sc (g i j) (g' i j)) : SO K (rI0 g') (fI0 g) := by
  constructor
  · intro H x y dx dy Q h1 h2 q
    cases dx <;> cases dy <;> first | exact q.elim | skip
    cases h1; cases h2
    exact ⟨_, _, rfl, rfl, q _ (h _ _)⟩
  · intro x y Q Q' hq q
    cases x <;> cases y <;> first | exact q.elim | skip
    exact hq _ q
abbrev fAdd : F2 := fI0 fun i j => .int (i + j)
abbrev fSub : F2 := fI0 fun i j => .int (i - j)
abbrev fMul : F2 := fI CMulW fun i j => .int (i * j)
abbrev fDiv : F2 := fI CDivW fun i j => .int (i / j)
abbrev fMod : F2 := fI (fun _ j => 0 < j) fun i j => .int (i % j)
abbrev fLt : F2 := fI0 fun i j => .bool (decide (i < j))
abbrev fLe : F2 := fI0 fun i j => .bool (decide (i ≤ j))
abbrev fGt : F2 := fI0 fun i j => .bool (decide (j < i))
abbrev fGe : F2 := fI0 fun i j => .bool (decide (j ≤ i))
theorem pd_add (ha : PD X F a ta da) (hb : PD X F b tb db) : PD X F (.BinOp a .Add b pos) (tOp (rI0 fun i j => .int (i + j)) ta tb) (dOp fAdd da db) := pd_op op_add (so_I0 fun _ _ => .int) ha hb
theorem pd_sub (ha : PD X F a ta da) (hb : PD X F b tb db) : PD X F (.BinOp a .Sub b pos) (tOp (rI0 fun i j => .int (i - j)) ta tb) (dOp fSub da db) := pd_op op_sub (so_I0 fun _ _ => .int) ha hb
theorem pd_mul (ha : PD X F a ta da) (hb : PD X F b tb db) : PD X F (.BinOp a .Mult b pos) (tOp (rI CMulW fun i j => .int (i * j)) ta tb) (dOp fMul da db) := pd_op op_mulW (so_I fun _ _ => .int) ha hb
theorem pd_div (ha : PD X F a ta da) (hb : PD X F b tb db) : PD X F (.BinOp a .FloorDiv b pos) (tOp (rI CDivW fun i j => .int (i / j)) ta tb) (dOp fDiv da db) := pd_op op_fdivW (so_I fun _ _ => .int) ha hb
/-- by any divisor but 0 -/
def CDivZ (_ j : Int) : Prop := j ≠ 0 ∧ j.natAbs.log2 < 9000
theorem op_fdivZ : OpR X (binaryOp .FloorDiv) (rI CDivZ fun i j => .int (i.fdiv j)) := opI fun i j _ _ _ _ _ hc q => floordiv_int hc.1 q (.inl (PyProof.noPylong_of_log2 hc.2))
abbrev fDivZ : F2 := fI CDivZ fun i j => .int (i.fdiv j)
theorem pd_divZ (ha : PD X F a ta da) (hb : PD X F b tb db) : PD X F (.BinOp a .FloorDiv b pos) (tOp (rI CDivZ fun i j => .int (i.fdiv j)) ta tb) (dOp fDivZ da db) := pd_op op_fdivZ (so_I fun _ _ => .int) ha hb
theorem pd_mod (ha : PD X F a ta da) (hb : PD X F b tb db) : PD X F (.BinOp a .Mod b pos) (tOp (rI (fun _ j => 0 < j) fun i j => .int (i % j)) ta tb) (dOp fMod da db) := pd_op op_mod (so_I fun _ _ => .int) ha hb
theorem pd_lt (ha : PD X F a ta da) (hb : PD X F b tb db) : PD X F (.Compare a [.Lt] [b] pos) (tOp (rI0 fun i j => .bl (decide (i < j))) ta tb) (dOp fLt da db) := pd_cmp op_lt (nomark _) (so_I0 fun _ _ => .bool) ha hb
theorem pd_le (ha : PD X F a ta da) (hb : PD X F b tb db) : PD X F (.Compare a [.LtE] [b] pos) (tOp (rI0 fun i j => .bl (decide (i ≤ j))) ta tb) (dOp fLe da db) := pd_cmp op_le (nomark _) (so_I0 fun _ _ => .bool) ha hb
theorem pd_gt (ha : PD X F a ta da) (hb : PD X F b tb db) : PD X F (.Compare a [.Gt] [b] pos) (tOp (rI0 fun i j => .bl (decide (j < i))) ta tb) (dOp fGt da db) := pd_cmp op_gt (nomark _) (so_I0 fun _ _ => .bool) ha hb
theorem pd_ge (ha : PD X F a ta da) (hb : PD X F b tb db) : PD X F (.Compare a [.GtE] [b] pos) (tOp (rI0 fun i j => .bl (decide (j ≤ i))) ta tb) (dOp fGe da db) := pd_cmp op_ge (nomark _) (so_I0 fun _ _ => .bool) ha hb
/-- == of any data -/
def fEq : F2 := fun x y Q => SeqAt.shaped x = true ∧ SeqAt.shaped y = true ∧ Q (.bool (PyData.eqv x y))
def fNe : F2 := fun x y Q => SeqAt.shaped x = true ∧ SeqAt.shaped y = true ∧ Q (.bool (!PyData.eqv x y))
theorem so_Eq {K : PySem.W.Frag} : SO K (rEqD K) fEq := ⟨fun H x y dx dy Q h1 h2 q => ⟨dx, dy, h1, h2, q.1, q.2.1, q.2.2 _ .bool⟩, fun _ _ _ _ hq q => ⟨q.1, q.2.1, hq _ q.2.2⟩⟩
theorem so_Ne {K : PySem.W.Frag} : SO K (rNeD K) fNe := ⟨fun H x y dx dy Q h1 h2 q => ⟨dx, dy, h1, h2, q.1, q.2.1, q.2.2 _ .bool⟩, fun _ _ _ _ hq q => ⟨q.1, q.2.1, hq _ q.2.2⟩⟩
theorem pd_eq (hu : X.A.units + 64 < cLine) (hK : X.K = F.K := by rfl) (ha : PD X F a ta da) (hb : PD X F b tb db) : PD X F (.Compare a [.Eq] [b] pos) (tOp (rEqD F.K) ta tb) (dOp fEq da db) := by
  have h := pd_cmp (X := X) (F := F) (pos := pos) (op_eqD hu) (nomark _) (by rw [hK]; exact so_Eq) ha hb
  rw [hK] at h; exact h
theorem pd_ne (hu : X.A.units + 64 < cLine) (hK : X.K = F.K := by rfl) (ha : PD X F a ta da) (hb : PD X F b tb db) : PD X F (.Compare a [.NotEq] [b] pos) (tOp (rNeD F.K) ta tb) (dOp fNe da db) := by
  have h := pd_cmp (X := X) (F := F) (pos := pos) (op_neD hu) (nomark _) (by rw [hK]; exact so_Ne) ha hb
  rw [hK] at h; exact h
/-- == of two texts -/
def fEqS : F2
  | .str x, .str y, Q => Q (.bool (decide (x = y)))
  | _, _, _ => False
theorem so_EqS {K : PySem.W.Frag} : SO K rEq fEqS := by
  constructor
  · intro H x y dx dy Q h1 h2 q
    cases dx <;> cases dy <;> first | exact q.elim | skip
    cases h1; cases h2
    refine ⟨rfl, q _ ?_⟩
    rw [dec_str, ← Bool.beq_eq_decide_eq]
    exact .bool
  · intro x y Q Q' hq q
    cases x <;> cases y <;> first | exact q.elim | skip
    exact hq _ q
theorem pd_eqS (ha : PD X F a ta da) (hb : PD X F b tb db) : PD X F (.Compare a [.Eq] [b] pos) (tOp rEq ta tb) (dOp fEqS da db) := pd_cmp op_eq (nomark _) so_EqS ha hb
def dUn (f : PyData → (PyData → Prop) → Prop) (ta : TDE) : TDE := fun ρ Q => ta ρ fun r ρ1 => onV ρ1 r fun x => f x fun z => Q (.d z) ρ1
def fNeg : PyData → (PyData → Prop) → Prop
  | .int i, Q => Q (.int (-i))
  | _, _ => False
theorem pd_neg (ha : PD X F a ta da) : PD X F (.UnaryOp .USub a pos) (tUn (rU fun i => .int (-i)) ta) (dUn fNeg da) := by
  refine ⟨pe_un un_neg ha.pe, ?_, ?_⟩
  · intro pins ρ σ H Q O h
    refine ha.de.run pins ρ σ H _ O (ha.de.mono _ _ _ (fun r ρ1 h1 x H1 O1 R1 => ?_) h)
    obtain ⟨dx, e, h2⟩ := onV_of h1
    have d := val_dp O1 R1 e
    cases dx <;> first | exact h2.elim | skip
    cases d
    exact ⟨_, rfl, h2 _ _ O1 (.sc .int)⟩
  · intro ρ Q Q' hq h
    refine ha.de.mono _ _ _ (fun r ρ1 h1 => onV_mono h1 fun x h2 => ?_) h
    cases x <;> first | exact h2.elim | skip
    exact hq _ _ h2
end
end DV
namespace DV
open PySem PySem.Spec PyProof.Rows L2
section
variable {X : Cx} {F : Fm} {a b c e : Expr} {es : List Expr} {ta tb tc te : TE} {da db dc de : TDE} {pos : Pos} {t : TA} {d : TDA}
/-! ### arguments -/
def dNil : TDA := fun ρ Q => Q [] ρ
def dCons (te : TDE) (t : TDA) : TDA := fun ρ Q => te ρ fun r ρ1 => t ρ1 fun rs ρ2 => Q (r :: rs) ρ2
theorem da_nil : DA F tNil dNil := ⟨fun pins ρ σ H Q O h => h [] H O (by simp only [ROks]), fun _ _ _ hq h => hq _ _ h⟩
theorem da_cons (h1 : DE F te de) (h2 : DA F t d) : DA F (tCons te t) (dCons de d) := by
  constructor
  · intro pins ρ σ H Q O h
    refine h1.run pins ρ σ H _ O (h1.mono _ _ _ (fun r ρ1 h3 x H1 O1 R1 => ?_) h)
    refine h2.run (.val x r :: pins) ρ1 σ H1 _ (O1.push R1) (h2.mono _ _ _ (fun rs ρ2 h4 vs H2 O2 R2 => ?_) h3)
    obtain ⟨O3, R3⟩ := O2.popV
    refine h4 _ H2 O3 ?_
    simp only [ROks]
    exact ⟨x, vs, rfl, R3, R2⟩
  · intro ρ Q Q' hq h
    exact h1.mono _ _ _ (fun r ρ1 h3 => h2.mono _ _ _ (fun rs ρ2 h4 => hq _ _ h4) h3) h
theorem pda_nil : PDA X F [] tNil dNil := ⟨pa_nil, da_nil⟩
theorem pda_cons (h1 : PD X F e te de) (h2 : PDA X F es t d) (hs : starEach (e :: es) X.env = (false, eval e X.env) :: starEach es X.env := by rfl) : PDA X F (e :: es) (tCons te t) (dCons de d) := ⟨pa_cons h1.pe h2.pa hs, da_cons h1.de h2.da⟩
/-- all of them data that nobody changes -/
def dats : List R → Option (List PyData)
  | [] => some []
  | .d x :: rs => (dats rs).map (x :: ·)
  | _ :: _ => none
theorem dats_im {A : Addr → Prop} {ρ : Rho} {σ : L2.St} {H : Hp} : ∀ {rs : List R} {vs : List V} {xs : List PyData}, ROks F A ρ σ H rs vs → dats rs = some xs → ImAll F.K A H xs vs
  | [], _, _, h, e => by simp only [ROks] at h; simp only [dats] at e; subst h; cases e; exact .nil
  | .d x :: rs, _, _, h, e => by
    simp only [ROks] at h
    obtain ⟨v, us, rfl, h1, h2⟩ := h
    simp only [dats] at e
    cases e1 : dats rs with
    | none => rw [e1] at e; cases e
    | some xs => rw [e1] at e; cases e; exact .cons h1 (dats_im h2 e1)
  | .o _ :: _, _, _, _, e => by cases e
  | .raw _ :: _, _, _, _, e => by cases e
def onD (rs : List R) (f : List PyData → Prop) : Prop := match dats rs with
  | some xs => f xs
  | _ => False
theorem onD_of {rs : List R} {f : List PyData → Prop} (h : onD rs f) : ∃ xs, dats rs = some xs ∧ f xs := by
  unfold onD at h
  split at h
  · exact ⟨_, by assumption, h⟩
  · exact h.elim
theorem onD_mono {rs : List R} {f g : List PyData → Prop} (h : onD rs f) (k : ∀ xs, f xs → g xs) : onD rs g := by
  unfold onD at h ⊢
  split at h
  · exact k _ h
  · exact h.elim
/-! ### displays -/
def Few (n : Nat) : Prop := n ≤ sizeLine
def dTup (t : TDA) : TDE := fun ρ Q => t ρ fun rs ρ1 => onD rs fun xs => Few xs.length ∧ Q (.d (.tuple xs)) ρ1
theorem newTup {pins : List Pin} {ρ : Rho} {σ : L2.St} {H : Hp} (O : Ok F pins ρ σ H) {p : Addr} {xs : List PyData} {vs : List V} (hp : H p = none) (h : ImAll F.K (Av F pins ρ σ) H xs vs) :
    Ok F pins ρ σ (upd H p (.tup vs)) ∧ Im F.K (Av F pins ρ σ) (upd H p (.tup vs)) (.tuple xs) (.ref p) := by
  have g := grow_new (o := .tup vs) hp
  refine ⟨O.new hp, ?_⟩
  simp only [Im]
  refine ⟨p, vs, rfl, .inl ⟨.inl upd_same, fun z => ?_⟩, h.go ⟨fun a o _ e => g a o e, fun a z => .inl z⟩⟩
  obtain ⟨o, e⟩ := O.avH z
  rw [hp] at e; cases e
theorem pd_tup {x1} (h : PDA X F es t d) : PD X F (.Tuple es x1 pos) (tTup t) (dTup d) := by
  refine ⟨pe_tup h.pa, ?_, ?_⟩
  · intro pins ρ σ H Q O hq
    refine h.da.run pins ρ σ H _ O (h.da.mono _ _ _ (fun rs ρ1 h1 vs H1 O1 R1 => ?_) hq)
    obtain ⟨xs, e, hl, h2⟩ := onD_of h1
    have im := dats_im R1 e
    refine ⟨by rw [im.length]; exact hl, fun p hp => ?_⟩
    obtain ⟨O2, i2⟩ := newTup O1 hp im
    exact h2 _ _ O2 i2
  · intro ρ Q Q' hq hh
    exact h.da.mono _ _ _ (fun rs ρ1 h1 => onD_mono h1 fun xs h2 => ⟨h2.1, hq _ _ h2.2⟩) hh
def dLst (t : TDA) : TDL := fun ρ Q => t ρ fun rs ρ1 => onD rs fun xs => Few xs.length ∧ Q xs ρ1
theorem pl_lst (h : PDA X F es t d) : PDL X F (.List es pos) (tLst t) (dLst d) := by
  refine ⟨pe_lst h.pa, ?_, ?_⟩
  · intro pins ρ σ H Q O hq
    refine h.da.run pins ρ σ H _ O (h.da.mono _ _ _ (fun rs ρ1 h1 vs H1 O1 R1 => ?_) hq)
    obtain ⟨xs, e, hl, h2⟩ := onD_of h1
    have im := dats_im R1 e
    refine ⟨by rw [im.length]; exact hl, fun p hp => ?_⟩
    exact h2 _ _ (O1.pushL hp im)
  · intro ρ Q Q' hq hh
    exact h.da.mono _ _ _ (fun rs ρ1 h1 => onD_mono h1 fun xs h2 => ⟨h2.1, hq _ _ h2.2⟩) hh
/-- a new list as data -/
def dOfL (t : TDL) : TDE := fun ρ Q => t ρ fun xs ρ1 => Q (.d (.list xs)) ρ1
theorem pd_l {dl : TDL} (h : PDL X F e te dl) : PD X F e te (dOfL dl) := by
  refine ⟨h.pe, ?_, ?_⟩
  · intro pins ρ σ H Q O hq
    refine h.dl.run pins ρ σ H _ O (h.dl.mono _ _ _ (fun xs ρ1 h1 p H1 O1 => ?_) hq)
    obtain ⟨O2, i2⟩ := O1.popL
    exact h1 _ _ O2 i2
  · intro ρ Q Q' hq hh
    exact h.dl.mono _ _ _ (fun xs ρ1 h1 => hq _ _ h1) hh
/-! ### built-ins, by values -/
abbrev FA := List PyData → (PyData → Prop) → Prop
structure SC (K : PySem.W.Frag) (r : List V → Hp → VK → Prop) (f : FA) : Prop where
  run : ∀ (H : Hp) (vs : List V) (ds : List PyData) (Q : VK), DpAll K H vs ds → f ds (fun z => ∀ v, Sc z v → Q v H) → r vs H Q
  mono : ∀ ds Q Q', (∀ z, Q z → Q' z) → f ds Q → f ds Q'
def dCB (f : FA) (t : TDA) : TDE := fun ρ Q => t ρ fun rs ρ1 => onVs ρ1 rs fun xs => f xs fun z => Q (.d z) ρ1
theorem de_cb {r : List V → Hp → VK → Prop} {f : FA} (hf : SC F.K r f) (h : DA F t d) : DE F (tCB r t) (dCB f d) := by
  constructor
  · intro pins ρ σ H Q O hq
    refine h.run pins ρ σ H _ O (h.mono _ _ _ (fun rs ρ1 h1 vs H1 O1 R1 => ?_) hq)
    obtain ⟨xs, e, h2⟩ := onVs_of h1
    exact hf.run H1 vs xs Q (vals_dp O1 R1 e) (hf.mono _ _ _ (fun z q v hv => q v H1 O1 (.sc hv)) h2)
  · intro ρ Q Q' hq hh
    exact h.mono _ _ _ (fun rs ρ1 h1 => onVs_mono h1 fun xs h2 => hf.mono _ _ _ (fun z => hq _ _) h2) hh
theorem pd_callB {r : List V → Hp → VK → Prop} {f : FA} {x : Str} {p : Pos} {id : String} (hc : CallR X (.builtin id) r) (hf : SC F.K r f) (hg : Gl X x) (hm : X.mg x = none) (hv : bootBuiltins x = some (.builtin id)) (ha : PDA X F (e :: es) t d) (hn : x ≠ "__name__" := by decide) (hdb : (x == ("__debug__" : Str)) = false := by decide)
    (he : starEach (e :: es) X.env = (false, eval e X.env) :: starEach es X.env := by rfl) (hpl : (backTo pos (starEach es X.env)).any (·.1) = false := by rfl) : PD X F (.Call (.Name x p) (e :: es) [] pos) (tCB r t) (dCB f d) :=
  ⟨pe_callB hc hg hm hv ha.pa hn hdb he hpl, de_cb hf ha.da⟩
theorem pd_callTy {r : List V → Hp → VK → Prop} {f : FA} {x : Str} {p : Pos} {T : String} (hc : CallR X (.type T) r) (hf : SC F.K r f) (hg : Gl X x) (hm : X.mg x = none) (hv : bootBuiltins x = some (.type T)) (ha : PDA X F (e :: es) t d) (hn : x ≠ "__name__" := by decide) (hdb : (x == ("__debug__" : Str)) = false := by decide)
    (he : starEach (e :: es) X.env = (false, eval e X.env) :: starEach es X.env := by rfl) (hpl : (backTo pos (starEach es X.env)).any (·.1) = false := by rfl) : PD X F (.Call (.Name x p) (e :: es) [] pos) (tCB r t) (dCB f d) :=
  ⟨pe_callTy hc hg hm hv ha.pa hn hdb he hpl, de_cb hf ha.da⟩
/-- f, a function of a module that the program imports by name -/
theorem pd_callM {r : List V → Hp → VK → Prop} {f : FA} {x : Str} {p : Pos} {id : String} (hc : CallR X (.builtin id) r) (hf : SC F.K r f) (hg : Gl X x) (hm : X.mg x = some (.builtin id)) (ha : PDA X F (e :: es) t d) (hdb : (x == ("__debug__" : Str)) = false := by decide)
    (he : starEach (e :: es) X.env = (false, eval e X.env) :: starEach es X.env := by rfl) (hpl : (backTo pos (starEach es X.env)).any (·.1) = false := by rfl) : PD X F (.Call (.Name x p) (e :: es) [] pos) (tCB r t) (dCB f d) :=
  ⟨pe_callBfun hc hg hm ha.pa hdb he hpl, de_cb hf ha.da⟩
def fAbs : FA
  | [.int i], Q => Q (.int (if i < 0 then -i else i))
  | _, _ => False
theorem dpall1 {K : PySem.W.Frag} {H : Hp} {vs : List V} {d : PyData} (h : DpAll K H vs [d]) : ∃ v, vs = [v] ∧ Dp K H v d := by
  cases h with
  | cons h1 h2 => cases h2; exact ⟨_, rfl, h1⟩
theorem dpall2 {K : PySem.W.Frag} {H : Hp} {vs : List V} {d e : PyData} (h : DpAll K H vs [d, e]) : ∃ v u, vs = [v, u] ∧ Dp K H v d ∧ Dp K H u e := by
  cases h with
  | cons h1 h2 =>
    obtain ⟨u, rfl, h3⟩ := dpall1 h2
    exact ⟨_, u, rfl, h1, h3⟩
theorem dp_int {K : PySem.W.Frag} {H : Hp} {v : V} {i : Int} (h : Dp K H v (.int i)) : v = .int i := by cases h; rfl
theorem dp_bool {K : PySem.W.Frag} {H : Hp} {v : V} {i : Bool} (h : Dp K H v (.bool i)) : v = .bl i := by cases h; rfl
theorem dp_str {K : PySem.W.Frag} {H : Hp} {v : V} {i : Str} (h : Dp K H v (.str i)) : v = .str i := by cases h; rfl
theorem sc_abs {K : PySem.W.Frag} : SC K (fun xs H Q => ∃ i, xs = [.int i] ∧ Q (.int (if i < 0 then -i else i)) H) fAbs := by
  constructor
  · intro H vs ds Q h q
    unfold fAbs at q
    split at q
    · obtain ⟨v, rfl, h1⟩ := dpall1 h
      cases dp_int h1
      exact ⟨_, rfl, q _ .int⟩
    · exact q.elim
  · intro ds Q Q' hq q
    unfold fAbs at q ⊢
    split at q
    · exact hq _ q
    · exact q.elim
def fInt : FA
  | [.int i], Q => Q (.int i)
  | [.bool k], Q => Q (.int (if k then 1 else 0))
  | _, _ => False
theorem sc_int {K : PySem.W.Frag} : SC K (fun xs H Q => (∃ i, xs = [.int i] ∧ Q (.int i) H) ∨ ∃ k, xs = [.bl k] ∧ Q (.int (if k then 1 else 0)) H) fInt := by
  constructor
  · intro H vs ds Q h q
    unfold fInt at q
    split at q
    · obtain ⟨v, rfl, h1⟩ := dpall1 h
      cases dp_int h1
      exact .inl ⟨_, rfl, q _ .int⟩
    · obtain ⟨v, rfl, h1⟩ := dpall1 h
      cases dp_bool h1
      exact .inr ⟨_, rfl, q _ .int⟩
    · exact q.elim
  · intro ds Q Q' hq q
    unfold fInt at q ⊢
    split at q <;> first | exact hq _ q | exact q.elim
def fMax : FA
  | [.int i, .int j], Q => Q (.int (if j > i then j else i))
  | _, _ => False
theorem sc_max {K : PySem.W.Frag} : SC K (fun xs H Q => ∃ i j, xs = [.int i, .int j] ∧ Q (.int (if j > i then j else i)) H) fMax := by
  constructor
  · intro H vs ds Q h q
    unfold fMax at q
    split at q
    · obtain ⟨v, u, rfl, h1, h2⟩ := dpall2 h
      cases dp_int h1; cases dp_int h2
      exact ⟨_, _, rfl, q _ .int⟩
    · exact q.elim
  · intro ds Q Q' hq q
    unfold fMax at q ⊢
    split at q <;> first | exact hq _ q | exact q.elim
def fMin : FA
  | [.int i, .int j], Q => Q (.int (if j < i then j else i))
  | _, _ => False
theorem sc_min {K : PySem.W.Frag} : SC K (fun xs H Q => ∃ i j, xs = [.int i, .int j] ∧ Q (.int (if j < i then j else i)) H) fMin := by
  constructor
  · intro H vs ds Q h q
    unfold fMin at q
    split at q
    · obtain ⟨v, u, rfl, h1, h2⟩ := dpall2 h
      cases dp_int h1; cases dp_int h2
      exact ⟨_, _, rfl, q _ .int⟩
    · exact q.elim
  · intro ds Q Q' hq q
    unfold fMin at q ⊢
    split at q <;> first | exact hq _ q | exact q.elim
def fGcd : FA
  | [.int i, .int j], Q => Q (.int ((Nat.gcd i.natAbs j.natAbs : Nat) : Int))
  | _, _ => False
theorem sc_gcd {K : PySem.W.Frag} : SC K rGcd fGcd := by
  constructor
  · intro H vs ds Q h q
    unfold fGcd at q
    split at q
    · obtain ⟨v, u, rfl, h1, h2⟩ := dpall2 h
      cases dp_int h1; cases dp_int h2
      exact ⟨_, _, rfl, q _ .int⟩
    · exact q.elim
  · intro ds Q Q' hq q
    unfold fGcd at q ⊢
    split at q <;> first | exact hq _ q | exact q.elim
/-- len of a list or a tuple -/
def fLen : FA
  | [.list xs], Q => Q (.int (xs.length : Nat))
  | [.tuple xs], Q => Q (.int (xs.length : Nat))
  | _, _ => False
theorem DpAll.length {K : PySem.W.Frag} {H : Hp} : ∀ {vs : List V} {ds : List PyData}, DpAll K H vs ds → vs.length = ds.length
  | _, [], h => by cases h; rfl
  | _, _ :: _, h => by cases h with | cons h1 h2 => simp [DpAll.length h2]
theorem sc_len {K : PySem.W.Frag} : SC K (fun xs H Q => ∃ p ys, xs = [.ref p] ∧ (SqL K H p ys ∨ SqT K H p ys) ∧ Q (.int ys.length) H) fLen := by
  constructor
  · intro H vs ds Q h q
    unfold fLen at q
    split at q
    · obtain ⟨v, rfl, h1⟩ := dpall1 h
      cases h1 with
      | lst h2 h3 => exact ⟨_, _, rfl, .inl h2, by rw [DpAll.length h3]; exact q _ .int⟩
    · obtain ⟨v, rfl, h1⟩ := dpall1 h
      cases h1 with
      | tup h2 h3 => exact ⟨_, _, rfl, .inr h2, by rw [DpAll.length h3]; exact q _ .int⟩
    · exact q.elim
  · intro ds Q Q' hq q
    unfold fLen at q ⊢
    split at q <;> first | exact hq _ q | exact q.elim
/-- repr of data -/
def rRepr (K : PySem.W.Frag) : List V → Hp → VK → Prop := fun vs H Q => ∃ v d, vs = [v] ∧ Dp K H v d ∧ d.showable = true ∧ d.hasDict = false ∧ d.depth ≤ 60 ∧ d.shown.length ≤ sizeLine ∧ Q (.str d.shown) H
theorem call_repr (hr : X.A.guards = some []) (hu : X.A.units + 64 < cLine) : CallR X (.builtin "repr") (rRepr X.K) := by
  intro pins s σ H vs us Q I r h
  obtain ⟨v, d, rfl, hd, hs, hn, hdp, hsz, q⟩ := h
  obtain ⟨u, rfl, ru⟩ := vals1 r
  obtain ⟨as, rd⟩ := Dp.reads I d v u hd ru
  have fin : ∀ (h' : Heap) (u' : Tok) (tk : Nat), (∀ b o, s.heap.get? b = some o → h'.get? b = some o) → EP X pins σ Q (.str d.shown u') { s with heap := h', toks := tk } := fun h' u' tk hk =>
    ⟨.str d.shown, H, I.kept hk, ⟨u', rfl⟩, q⟩
  cases d with
  | none =>
    cases hd; cases (show u = Value.none from ru)
    rw [PyData.shown_none] at q
    exact PySem.P.repr_of_none ⟨.str _, H, I.tok _, ⟨_, rfl⟩, q⟩
  | bool b =>
    cases hd; cases (show u = Value.bool b from ru)
    rw [PyData.shown_bool] at q
    exact PySem.P.repr_of_bool ⟨.str _, H, I.tok _, ⟨_, rfl⟩, q⟩
  | int i =>
    cases hd; obtain ⟨tk, rfl⟩ := (show ∃ t, u = Value.int i t from ru)
    have hz : i.natAbs.log2 < 1920 := by simpa [PyData.showable] using hs
    rw [PyData.shown_int] at q
    exact PySem.P.repr_of_int hz ⟨.str _, H, I.tok _, ⟨_, rfl⟩, q⟩
  | str x =>
    cases hd; obtain ⟨tk, rfl⟩ := (show ∃ t, u = Value.str x t from ru)
    rw [PyData.shown_str] at q hsz
    exact PySem.P.repr_of_str ⟨.str _, H, I.tok _, ⟨_, rfl⟩, q⟩ hsz
  | list xs =>
    cases hd; rename_i a vs h1 h2; cases (show u = Value.ref a from ru)
    exact repr_of_reads' rd hs (PyData.noDict_hsm hn) hr (by omega) (fun _ _ e => e) fin hsz
  | tuple xs =>
    cases hd; rename_i a vs h1 h2; cases (show u = Value.ref a from ru)
    exact repr_of_reads' rd hs (PyData.noDict_hsm hn) hr (by omega) (fun _ _ e => e) fin hsz
  | dict _ => cases hd
def Plain (d : PyData) : Prop := d.showable = true ∧ d.hasDict = false ∧ d.depth ≤ 60 ∧ d.shown.length ≤ sizeLine
def fRepr : FA
  | [d], Q => Plain d ∧ Q (.str d.shown)
  | _, _ => False
theorem sc_repr {K : PySem.W.Frag} : SC K (rRepr K) fRepr := by
  constructor
  · intro H vs ds Q h q
    unfold fRepr at q
    split at q
    · obtain ⟨v, rfl, h1⟩ := dpall1 h
      exact ⟨v, _, rfl, h1, q.1.1, q.1.2.1, q.1.2.2.1, q.1.2.2.2, q.2 _ .str⟩
    · exact q.elim
  · intro ds Q Q' hq q
    unfold fRepr at q ⊢
    split at q
    · exact ⟨q.1, hq _ q.2⟩
    · exact q.elim
end
end DV
namespace DV
open PySem PySem.Spec PyProof.Rows L2
/-! ## defs, where nothing is being shown by repr around them -/
structure FnG (P : Program) (w : World) (K : PySem.W.Frag) (mg : Str → Option Value) (base : Heap) (CX : CXT) (k : Nat) (f : Addr) (fd : FuncData) (ps : List Str) (sp : Sp) : Prop where
  size : ∀ vs H Q E, sp vs H Q E → vs.length = ps.length
  goes : ∀ (A : Around) (out : List Env) (s : Shared) (H : Hp) (ar : Args) (us : List Value) (vs : List V) (Q : VK) (E : XK),
    Room k A → A.guards = some [] → Env0 P w K mg base A out s H → BindsTo s fd ar (ps.zip us) → Vals vs us → sp vs H Q E → codeAny (model P w) A (.call (.ref f) ar) (CR CX out P w H s Q E) s
theorem FnG.up {P : Program} {w : World} {K : PySem.W.Frag} {mg : Str → Option Value} {base : Heap} {CX : CXT} {j k : Nat} {f : Addr} {fd : FuncData} {ps : List Str} {sp : Sp} (G : FnG P w K mg base CX j f fd ps sp) (h : j ≤ k) : FnG P w K mg base CX k f fd ps sp :=
  ⟨G.size, fun A out s H ar us vs Q E hr => G.goes A out s H ar us vs Q E (hr.mono h)⟩
section
variable {P : Program} {w : World} {K : PySem.W.Frag} {mg : Str → Option Value} {base : Heap}
theorem fg_of {x qual : Str} {st : Stmt} {f : Addr} {fd : FuncData} {N ps : List Str} {k : Nat} {sp : Sp} (W : Fun K x qual st f fd) (S : FnScope N ps (defScope st)) (hlen : ∀ vs H Q E, sp vs H Q E → vs.length = ps.length)
    (body : ∀ (cdv : Value) (A : Around) (out : List Env) (s : Shared) (H : Hp) (vs : List V) (Q : VK) (E : XK), Room k (A.deeper (envOfC qual (defScope st) s.heap.objs.size f cdv)) → A.guards = some [] → sp vs H Q E →
      ∃ t, PSs (cxOf CX0 P w K mg base N qual (defScope st) f cdv A out s H E).nox (defBody st) t ∧ t { nx := fun _ H' => Q .non H', rt := Q } (start N vs) H) : FnG P w K mg base CX0 (k + 1) f fd ps sp := by
  obtain ⟨oc, od, kV, doc, pm, an, cdv, ct, osl, rfl, lk, cd⟩ := W.ex
  constructor
  · exact hlen
  intro A out s H ar us vs Q E room hgd env0 hbind rel hs
  have inK : K.In s.heap := env0.mod.kin.keeps fun b o e => (env0.bs b o e).1
  have names : ∀ y ∈ ps.zip us, (defScope st).names.lookup y.1 = some .local ∨ ((defScope st).names.lookup y.1 = some .cell ∧ ((cellsFrom (s.heap.objs.size + 1) (defScope st).names []).lookup y.1).isSome = true) := by
    rintro ⟨n, v⟩ hy
    cases S.par n (List.of_mem_zip hy).1 with
    | inl q => exact .inl q
    | inr q => exact .inr ⟨q, PySem.W.cellsFrom_some _ _ _ (.inl q)⟩
  apply codeAny_call_function room.depth (inK _ _ lk) rfl S.co S.gen rfl (PySem.W.codeRec_of inK cd)
  apply hbind
  apply wpAny_newFunctionEnv_cells S.kind names
  rintro env rfl s1 ic
  constructor
  · exact (env0.mod.nolimit.keeps fun b o e => (env0.bs b o e).1).keeps ic.toInCall.keep
  apply codeAny_func
  obtain ⟨t, ht0, hq⟩ := body cdv A out s H vs Q E (room.deeper _) hgd hs
  have ht := ht0.nox
  have I0 := inv_start (CX := CX0) (E := E) S room.hd env0 (hlen _ _ _ _ hs) rel ic
  refine wpAny_mono (ht.run [] s1 (start N vs) H _ I0 hq) ?_ fun _ _ z => z
  intro fl s' z
  cases fl with
  | ret u =>
    obtain ⟨v, σ', H', J, rv, q⟩ := z
    exact ⟨v, H', J.os, J.bare, J.base, J.hok, rv, q⟩
  | next =>
    obtain ⟨σ', H', J, q⟩ := z
    exact ⟨V.non, H', J.os, J.bare, J.base, J.hok, rfl, q⟩
  | brk => exact z.elim fun _ z => z.elim fun _ z => z.2.elim
  | cont => exact z.elim fun _ z => z.elim fun _ z => z.2.elim
end
section
variable {X : Cx} {k : Nat} {f : Addr} {fd : FuncData} {ps : List Str} {sp : Sp} {E : XK} {x : Str} {p pos : Pos} {e : Expr} {es : List Expr} {t : TA}
theorem goes_fn {pins : List (Addr × Obj)} {σ : L2.St} {H : Hp} {s : Shared} {Q : VK} {us : List Value} {vs : List V} (G : FnG X.prog X.w X.K X.mg X.base CX0 k f fd ps sp) (hr : Room k X.A) (hgd : X.A.guards = some []) (hb : Binds X.K fd ps [])
    (I : Inv X pins σ H s) (r : Vals vs us) (h : sp vs H Q E) : wpAny (model X.prog X.w) X.A (call (.ref f) us) (EP X pins σ Q) X.xe s := by
  have bl : (us ++ []).length = ps.length := by rw [List.append_nil, ← r.length]; exact G.size _ _ _ _ h
  have bd := hb s us I.kIn bl
  rw [List.append_nil] at bd
  apply wpAny_call
  refine codeAny_mono (G.goes X.A X.stack s H ⟨us, []⟩ us vs Q E hr hgd I.env0 bd r h) ?_
  rintro (e | (u | _ | _ | _)) s' z
  all_goals first | exact I.after z | exact False.elim z
/-- f(e, ..) -/
theorem pe_callG (G : FnG X.prog X.w X.K X.mg X.base CX0 k f fd ps sp) (hr : Room k X.A) (hgd : X.A.guards = some []) (hg : Gl X x) (hm : X.mg x = some (.ref f)) (hk : PySem.W.keepIn X.K (.ref f) = true) (hb : Binds X.K fd ps [])
    (ha : PA X (e :: es) t) (hdb : (x == ("__debug__" : Str)) = false := by decide) (he : starEach (e :: es) X.env = (false, eval e X.env) :: starEach es X.env := by rfl) (hpl : (backTo pos (starEach es X.env)).any (·.1) = false := by rfl) :
    PE X (.Call (.Name x p) (e :: es) [] pos) (fun σ H Q => t σ H fun vs H1 => sp vs H1 Q E) := by
  constructor
  intro pins s σ H Q I h
  apply wpAny_Call_Name_kw
  apply ld_glob I hg hm _ hdb
  refine PySem.W.callWith_K (h₀ := X.base) I.ok.mod.kin hk (thn (ha.run pos pins s σ H _ I h) ?_) he hpl
  rintro us s1 ⟨vs, H1, I1, r, q⟩
  exact ⟨I1.kIn, goes_fn G hr hgd hb I1 r q⟩
end
/-! ## the end -/
theorem law_goes {P : Program} {w : World} {K : PySem.W.Frag} {mg mb : Str → Option Value} {k : Nat} {fa a : Addr} {fd : FuncData} {x : Str} {sp : Sp} {s₁ : Shared} {vs : List Value} {ns : List Int}
    (inK : K.In s₁.heap) (nm : s₁.heap.Ns mainGlobals mg) (nb : s₁.heap.Ns builtinsNs mb) (bb : ∀ x : Str, x ≠ "__name__" → mb x = bootBuiltins x) (nl : s₁.heap.NoLimit) (ng : s₁.gens = #[])
    (at_a : s₁.heap.get? a = some { cls := .type "list", data := .seq vs.toArray }) (hin : IntsAre vs ns) (short : ns.length ≤ sizeLine) (room : Room k callerA)
    (G : ∀ base : Heap, K.In base → base.Ns mainGlobals mg → FnG P w K mg base CX0 k fa fd [x] sp) (bind : ∀ (s : Shared) (u : Value), BindsTo s fd ⟨[u], []⟩ [(x, u)])
    (hs : ∀ H : Hp, SqL K H a (ns.map V.int) → sp [.ref a] H (fun v _ => v = .bl true) fun _ _ _ => False) :
    codeAny (model P w) callerA (.call (.ref fa) ⟨[.ref a], []⟩) (fun r s' => r = .ok (.ret (.bool true)) ∧ OldK s₁.heap s'.heap ∧ s'.os = s₁.os ∧ AllBare s'.gens) s₁ := by
  let ob : Obj := { cls := .type "list", data := .seq vs.toArray }
  let Hs : Hp := fun b => if b = a ∧ K.lookup a = none then some (.frz ob (.lst (ns.map V.int))) else none
  have Hs_some : ∀ {b u}, Hs b = some u → b = a ∧ K.lookup a = none ∧ u = .frz ob (.lst (ns.map V.int)) := by
    intro b u q
    have q : (if b = a ∧ K.lookup a = none then some (HO.frz ob (.lst (ns.map V.int))) else none) = some u := q
    split at q
    · rename_i c; cases q; exact ⟨c.1, c.2, rfl⟩
    · cases q
  have rel := vals_ints hin
  have sq : SqL K Hs a (ns.map V.int) := by
    cases hk : K.lookup a with
    | none => exact .inl (.inr ⟨ob, if_pos ⟨rfl, hk⟩⟩)
    | some o =>
      have e := inK a o hk
      rw [at_a] at e; cases e
      exact .inr ⟨_, vs.toArray, _, hk, rfl, rfl, rfl, by rw [List.size_toArray, hin.length]; exact short, by simpa using rel⟩
  have hok : HOk P w Hs s₁.heap := by
    intro b u q
    obtain ⟨rfl, _, rfl⟩ := Hs_some q
    exact ⟨at_a, by rw [List.length_map]; exact short, vs, _, rel, at_a⟩
  have keepK : ∀ {b : Addr} {o : Obj}, K.lookup b = some o → Hs b = none := by
    intro b o e
    cases q : Hs b with
    | none => rfl
    | some u => obtain ⟨rfl, z, _⟩ := Hs_some q; rw [z] at e; cases e
  have keepD : ∀ {b : Addr} {o : Obj} {es : Array DictEntry} {ep : Nat}, s₁.heap.get? b = some o → o.data = .dict es ep → Hs b = none := by
    intro b o es ep e d
    cases q : Hs b with
    | none => rfl
    | some u =>
      obtain ⟨rfl, _, _⟩ := Hs_some q
      rw [at_a] at e; cases e
      exact absurd d (by intro z; cases z)
  have ns_of : ∀ {b : Addr} {m : Str → Option Value}, s₁.heap.Ns b m → (hidT s₁.heap Hs).Ns b m := by
    rintro b m ⟨o, es, ep, e, d, r⟩
    exact ⟨o, es, ep, hidT_get e (keepD e d), d, r⟩
  have kb : K.In (hidT s₁.heap Hs) := fun b o e => hidT_get (inK b o e) (keepK e)
  have md : Mod K mg (hidT s₁.heap Hs) := by
    obtain ⟨mc, l1, l2⟩ := nl
    exact ⟨kb, ns_of nm, ⟨mb, ns_of nb, bb⟩, ⟨mc, ns_of l1, l2⟩⟩
  have env0 : Env0 P w K mg (hidT s₁.heap Hs) callerA [] s₁ Hs :=
    ⟨rfl, md, fun b o => of_hidT, Nat.le_of_eq (hidT_size _ _), trivial, (fun b hb => nomatch hb), hok, .of_eq ng⟩
  refine codeAny_mono ((G _ kb (ns_of nm)).goes callerA [] s₁ Hs ⟨[.ref a], []⟩ [.ref a] [.ref a] _ _ room rfl env0 (bind s₁ (.ref a)) (.cons rfl .nil) (hs Hs sq)) ?_
  rintro (e | fl) s' z
  · exact False.elim z
  cases fl with
  | next => exact False.elim z
  | brk => exact False.elim z
  | cont => exact False.elim z
  | ret u =>
    obtain ⟨v, H', os, bare, un, hok', rv, q⟩ := z
    have q : v = .bl true := q
    subst q
    obtain rfl : u = Value.bool true := rv
    refine ⟨rfl, .of_keep ?_, os, bare⟩
    intro b o e
    cases q : Hs b with
    | none => exact un.keep b o e q (fun z => nomatch z) (fun z => nomatch z)
    | some u =>
      obtain ⟨rfl, _, rfl⟩ := Hs_some q
      obtain ⟨e2, _⟩ := hok' _ _ (un.frzs _ _ _ q)
      rw [at_a] at e; cases e
      exact e2
theorem walk_goes {l : PySem.W.OpenLaw} {n k : Nat} {q : Program} {loose : List Str} {XP : (Str → Option Value) → Heap → Prop} {YP : World → Heap → Prop} {d : DefRec} {K : Params → PySem.W.Frag} {sp : PySem.W.Frag → Sp} {x : Str}
    (hn : l.most = some n) (hn2 : n ≤ sizeLine) (hdf : d.params.defaults = []) (hr : Room k callerA) (hY : ∀ (w : World) (h : Heap), YP w h → (K w.params).In h)
    (G : ∀ (w : World) (mg : Str → Option Value) (fa : Addr) (h : Heap), (K w.params).In h → h.Ns mainGlobals mg → mg d.name = some (.ref fa) →
      ∃ fd : FuncData, (∀ (s : Shared) (u : Value), BindsTo s fd ⟨[u], []⟩ [(x, u)]) ∧ ∀ base : Heap, (K w.params).In base → base.Ns mainGlobals mg → FnG l.prog w (K w.params) mg base CX0 k fa fd [x] (sp (K w.params)))
    (hsp : ∀ (K : PySem.W.Frag) (H : Hp) (a : Addr) (ns : List Int), ns.length ≤ n → SqL K H a (ns.map V.int) → sp K [.ref a] H (fun v _ => v = .bl true) fun _ _ _ => False) :
    PySem.W.WalkO q loose XP YP l.row.toRowW d [] (fun f vs => PySem.call f vs) := by
  apply Att.attach_call hn hdf
  intro w s₀ s₁ mg mb fa o pm cd doc a vs ns Gr Y ho hd hcd hmg hobj hints hlen hg
  have inK := hY w _ Y
  obtain ⟨fd, hb, hF⟩ := G w mg fa _ inK Gr.T.g hmg
  exact law_goes inK Gr.T.g Gr.T.b Gr.T.builtins Gr.T.nolimit hg hobj hints (Nat.le_trans hlen hn2) hr hF hb fun H => hsp _ H a ns hlen
end DV
namespace DV
open PySem PySem.Spec PyProof.Rows L2
section
variable {X : Cx} {F : Fm} {a b c e : Expr} {es : List Expr} {ta tb tc te : TE} {da db dc de : TDE} {pos : Pos} {t : TA} {d : TDA} {tt tu : TT} {dt du : TDT}
/-! ### tests -/
def dTV (te : TDE) : TDT := fun ρ Q => te ρ fun r ρ1 => match val ρ1 r with
  | some (.bool k) => Q k ρ1
  | _ => False
theorem dt_tv {k : TE → TT} (hk : ∀ te, k te = fun σ H Q => te σ H fun x H1 => ∃ c, x = .bl c ∧ Q c H1) (h : DE F te de) : DT F (k te) (dTV de) := by
  rw [hk]
  constructor
  · intro pins ρ σ H Q O hq
    refine h.run pins ρ σ H _ O (h.mono _ _ _ (fun r ρ1 h1 v H1 O1 R1 => ?_) hq)
    split at h1
    · rename_i k e
      cases dp_bool (val_dp O1 R1 e)
      exact ⟨k, rfl, h1 H1 O1⟩
    · exact h1.elim
  · intro ρ Q Q' hq hh
    refine h.mono _ _ _ (fun r ρ1 h1 => ?_) hh
    show match val ρ1 r with
      | some (.bool k) => Q' k ρ1
      | _ => False
    split at h1
    · rename_i k e
      exact hq _ _ h1
    · exact h1.elim
theorem pt_v (h : PD X F e te de) (he : ∀ whole, isTrue e X.env whole = (do let v ← whole; standAt e.pos; holding [v] (truthy v)) := by intro _; rfl) : PDT X F e (tB te) (dTV de) := ⟨pt_val h.pe he, dt_tv (k := tB) (fun _ => rfl) h.de⟩
def dNot (t : TDT) : TDT := fun ρ Q => t ρ fun k ρ1 => Q (!k) ρ1
theorem pt_no (h : PDT X F a tt dt) : PDT X F (.UnaryOp .Not a pos) (tNot tt) (dNot dt) :=
  ⟨pt_not h.pt, fun pins ρ σ H Q O hq => h.dt.run pins ρ σ H _ O (h.dt.mono _ _ _ (fun k ρ1 h1 H1 O1 => h1 H1 O1) hq), fun ρ Q Q' hq hh => h.dt.mono _ _ _ (fun k ρ1 h1 => hq _ _ h1) hh⟩
def dAnd (t u : TDT) : TDT := fun ρ Q => t ρ fun k ρ1 => if k = true then u ρ1 Q else Q false ρ1
def dOr (t u : TDT) : TDT := fun ρ Q => t ρ fun k ρ1 => if k = true then Q true ρ1 else u ρ1 Q
theorem dt_and (h1 : DT F tt dt) (h2 : DT F tu du) : DT F (tAnd tt tu) (dAnd dt du) := by
  constructor
  · intro pins ρ σ H Q O hq
    refine h1.run pins ρ σ H _ O (h1.mono _ _ _ (fun k ρ1 h3 H1 O1 => ?_) hq)
    cases k with
    | true => exact h2.run pins ρ1 σ H1 Q O1 h3
    | false => exact h3 H1 O1
  · intro ρ Q Q' hq hh
    refine h1.mono _ _ _ (fun k ρ1 h3 => ?_) hh
    cases k with
    | true => exact h2.mono _ _ _ hq h3
    | false => exact hq _ _ h3
theorem dt_or (h1 : DT F tt dt) (h2 : DT F tu du) : DT F (tOr tt tu) (dOr dt du) := by
  constructor
  · intro pins ρ σ H Q O hq
    refine h1.run pins ρ σ H _ O (h1.mono _ _ _ (fun k ρ1 h3 H1 O1 => ?_) hq)
    cases k with
    | false => exact h2.run pins ρ1 σ H1 Q O1 h3
    | true => exact h3 H1 O1
  · intro ρ Q Q' hq hh
    refine h1.mono _ _ _ (fun k ρ1 h3 => ?_) hh
    cases k with
    | false => exact h2.mono _ _ _ hq h3
    | true => exact hq _ _ h3
theorem pwd_and1 (h : PDT X F a tt dt) : PDW X F (.BoolOp .And [a] pos) tt dt := ⟨pw_and1 h.pt, h.dt⟩
theorem pwd_or1 (h : PDT X F a tt dt) : PDW X F (.BoolOp .Or [a] pos) tt dt := ⟨pw_or1 h.pt, h.dt⟩
theorem pwd_and {rest : List Expr} (h : PDT X F a tt dt) (k : PDW X F (.BoolOp .And (b :: rest) pos) tu du) : PDW X F (.BoolOp .And (a :: b :: rest) pos) (tAnd tt tu) (dAnd dt du) := ⟨pw_and h.pt k.pw, dt_and h.dt k.dt⟩
theorem pwd_or {rest : List Expr} (h : PDT X F a tt dt) (k : PDW X F (.BoolOp .Or (b :: rest) pos) tu du) : PDW X F (.BoolOp .Or (a :: b :: rest) pos) (tOr tt tu) (dOr dt du) := ⟨pw_or h.pt k.pw, dt_or h.dt k.dt⟩
theorem pt_w (h : PDW X F e tt dt) : PDT X F e tt dt := ⟨h.pw.pt, h.dt⟩
/-- and, or, not as values: truths -/
def dAndV (ta tb : TDE) : TDE := fun ρ Q => ta ρ fun r ρ1 => match val ρ1 r with
  | some (.bool k) => if k = true then tb ρ1 Q else Q (.d (.bool false)) ρ1
  | _ => False
def dOrV (ta tb : TDE) : TDE := fun ρ Q => ta ρ fun r ρ1 => match val ρ1 r with
  | some (.bool k) => if k = true then Q (.d (.bool true)) ρ1 else tb ρ1 Q
  | _ => False
def dNotV (ta : TDE) : TDE := fun ρ Q => ta ρ fun r ρ1 => match val ρ1 r with
  | some (.bool k) => Q (.d (.bool !k)) ρ1
  | _ => False
theorem pdn_one {op : BoolOp} (h : PD X F a ta da) : PD X F (.BoolOp op [a] pos) ta da := ⟨pe_one h.pe, h.de⟩
theorem pd_and {rest : List Expr} (ha : PD X F a ta da) (hb : PD X F (.BoolOp .And (b :: rest) pos) tb db) : PD X F (.BoolOp .And (a :: b :: rest) pos) (L2.tAndV ta tb) (dAndV da db) := by
  refine ⟨pe_and ha.pe hb.pe, ?_, ?_⟩
  · intro pins ρ σ H Q O hq
    refine ha.de.run pins ρ σ H _ O (ha.de.mono _ _ _ (fun r ρ1 h1 v H1 O1 R1 => ?_) hq)
    split at h1
    · rename_i k e
      cases dp_bool (val_dp O1 R1 e)
      refine ⟨k, rfl, ?_⟩
      cases k with
      | true => exact hb.de.run pins ρ1 σ H1 Q O1 h1
      | false => exact h1 _ H1 O1 (.sc .bool)
    · exact h1.elim
  · intro ρ Q Q' hq hh
    refine ha.de.mono _ _ _ (fun r ρ1 h1 => ?_) hh
    revert h1
    split
    · rename_i k e
      cases k with
      | true => exact fun h1 => hb.de.mono _ _ _ hq h1
      | false => exact fun h1 => hq _ _ h1
    · exact fun h1 => h1
theorem pd_or {rest : List Expr} (ha : PD X F a ta da) (hb : PD X F (.BoolOp .Or (b :: rest) pos) tb db) : PD X F (.BoolOp .Or (a :: b :: rest) pos) (L2.tOrV ta tb) (dOrV da db) := by
  refine ⟨pe_or ha.pe hb.pe, ?_, ?_⟩
  · intro pins ρ σ H Q O hq
    refine ha.de.run pins ρ σ H _ O (ha.de.mono _ _ _ (fun r ρ1 h1 v H1 O1 R1 => ?_) hq)
    split at h1
    · rename_i k e
      cases dp_bool (val_dp O1 R1 e)
      refine ⟨k, rfl, ?_⟩
      cases k with
      | false => exact hb.de.run pins ρ1 σ H1 Q O1 h1
      | true => exact h1 _ H1 O1 (.sc .bool)
    · exact h1.elim
  · intro ρ Q Q' hq hh
    refine ha.de.mono _ _ _ (fun r ρ1 h1 => ?_) hh
    revert h1
    split
    · rename_i k e
      cases k with
      | false => exact fun h1 => hb.de.mono _ _ _ hq h1
      | true => exact fun h1 => hq _ _ h1
    · exact fun h1 => h1
theorem pd_not (ha : PD X F a ta da) : PD X F (.UnaryOp .Not a pos) (L2.tNotV ta) (dNotV da) := by
  refine ⟨pe_not ha.pe, ?_, ?_⟩
  · intro pins ρ σ H Q O hq
    refine ha.de.run pins ρ σ H _ O (ha.de.mono _ _ _ (fun r ρ1 h1 v H1 O1 R1 => ?_) hq)
    split at h1
    · rename_i k e
      cases dp_bool (val_dp O1 R1 e)
      exact ⟨k, rfl, h1 _ H1 O1 (.sc .bool)⟩
    · exact h1.elim
  · intro ρ Q Q' hq hh
    refine ha.de.mono _ _ _ (fun r ρ1 h1 => ?_) hh
    revert h1
    split
    · exact fun h1 => hq _ _ h1
    · exact fun h1 => h1
def dIfE (t : TDT) (ta tb : TDE) : TDE := fun ρ Q => t ρ fun k ρ1 => if k = true then ta ρ1 Q else tb ρ1 Q
theorem pd_ifExp (hc : PDT X F c tt dt) (ha : PD X F a ta da) (hb : PD X F b tb db) : PD X F (.IfExp c a b pos) (tIf tt ta tb) (dIfE dt da db) := by
  refine ⟨pe_ifExp hc.pt ha.pe hb.pe, ?_, ?_⟩
  · intro pins ρ σ H Q O hq
    refine hc.dt.run pins ρ σ H _ O (hc.dt.mono _ _ _ (fun k ρ1 h1 H1 O1 => ?_) hq)
    cases k with
    | true => exact ha.de.run pins ρ1 σ H1 Q O1 h1
    | false => exact hb.de.run pins ρ1 σ H1 Q O1 h1
  · intro ρ Q Q' hq hh
    refine hc.dt.mono _ _ _ (fun k ρ1 h1 => ?_) hh
    cases k with
    | true => exact ha.de.mono _ _ _ hq h1
    | false => exact hb.de.mono _ _ _ hq h1
/-- a < b < c -/
def dChain (f g : F2) (ta tb tc : TDE) : TDE := fun ρ Q => ta ρ fun r ρ1 => tb ρ1 fun s ρ2 => onV2 ρ2 r s fun x y => f x y fun z => match z with
  | .bool k => if k = true then tc ρ2 fun u ρ3 => onV2 ρ3 s u fun y z => g y z fun o => Q (.d o) ρ3 else Q (.d (.bool false)) ρ2
  | _ => False
end
/-! ## statements -/
structure Rel (F : Fm) (pins : List Pin) (D : Ends) (DD : DEnds) : Prop where
  nx : ∀ ρ σ H, Ok F pins ρ σ H → DD.nx ρ → D.nx σ H
  rt : ∀ ρ σ H v r, Ok F pins ρ σ H → ROk F (Av F pins ρ σ) ρ σ H r v → DD.rt r ρ → D.rt v H
  bk : ∀ ρ σ H, Ok F pins ρ σ H → DD.bk ρ → D.bk σ H
  ct : ∀ ρ σ H, Ok F pins ρ σ H → DD.ct ρ → D.ct σ H
  rl : ∀ ρ σ H p xs, Ok F (.acc p xs :: pins) ρ σ H → DD.rl xs ρ → D.rt (.ref p) H
def DS (F : Fm) (ts : TS) (tds : TDS) : Prop := ∀ (pins : List Pin) (ρ : Rho) (σ : L2.St) (H : Hp) (D : Ends) (DD : DEnds), Ok F pins ρ σ H → SPn F pins → Rel F pins D DD → tds DD ρ → ts D σ H
structure PDS (X : Cx) (F : Fm) (st : Stmt) (ts : TS) (tds : TDS) : Prop where
  ps : PS X st ts
  ds : DS F ts tds
structure PDSs (X : Cx) (F : Fm) (st : List Stmt) (ts : TS) (tds : TDS) : Prop where
  pss : PSs X st ts
  ds : DS F ts tds
section
variable {X : Cx} {F : Fm} {a b c e : Expr} {es : List Expr} {ta tb tc te : TE} {da db dc de : TDE} {pos : Pos} {t : TA} {d : TDA} {tt tu : TT} {dt du : TDT} {st : Stmt} {rest sts : List Stmt} {ts us : TS} {ds dus : TDS}
def dNext : TDS := fun DD ρ => DD.nx ρ
def dSeq (t u : TDS) : TDS := fun DD ρ => t { DD with nx := u DD } ρ
theorem dss_nil : PDSs X F [] tNext dNext := ⟨pss_nil, fun pins ρ σ H D DD O S R h => R.nx ρ σ H O h⟩
theorem dss_cons (h1 : PDS X F st ts ds) (h2 : PDSs X F rest us dus) : PDSs X F (st :: rest) (tSeq ts us) (dSeq ds dus) :=
  ⟨pss_cons h1.ps h2.pss, fun pins ρ σ H D DD O S R h => h1.ds pins ρ σ H { D with nx := us D } { DD with nx := dus DD } O S
    ⟨fun ρ1 σ1 H1 O1 q => h2.ds pins ρ1 σ1 H1 D DD O1 S R q, R.rt, R.bk, R.ct, R.rl⟩ h⟩
theorem dss_one (h1 : PDS X F st ts ds) : PDSs X F [st] ts ds := ⟨pss_one h1.ps, h1.ds⟩
def dBreak : TDS := fun DD ρ => DD.bk ρ
def dCont : TDS := fun DD ρ => DD.ct ρ
theorem ds_pass : PDS X F (.Pass pos) tNext dNext := ⟨ps_pass, fun pins ρ σ H D DD O S R h => R.nx ρ σ H O h⟩
theorem ds_break : PDS X F (.Break pos) tBreak dBreak := ⟨ps_break, fun pins ρ σ H D DD O S R h => R.bk ρ σ H O h⟩
theorem ds_continue : PDS X F (.Continue pos) tCont dCont := ⟨ps_continue, fun pins ρ σ H D DD O S R h => R.ct ρ σ H O h⟩
def dDrop (te : TDE) : TDS := fun DD ρ => te ρ fun _ ρ1 => DD.nx ρ1
theorem ds_expr (he : PD X F e te de) (hs : swapsWith e none pos.line X.env = pure false := by rfl) : PDS X F (.Expr e pos) (tDrop te) (dDrop de) :=
  ⟨ps_expr he.pe hs, fun pins ρ σ H D DD O S R h => he.de.run pins ρ σ H _ O (he.de.mono _ _ _ (fun r ρ1 h1 v H1 O1 _ => R.nx ρ1 σ H1 O1 h1) h)⟩
def dRet (te : TDE) : TDS := fun DD ρ => te ρ DD.rt
theorem ds_ret (he : PD X F e te de) : PDS X F (.Return (some e) pos) (tRet te) (dRet de) :=
  ⟨ps_ret he.pe, fun pins ρ σ H D DD O S R h => he.de.run pins ρ σ H _ O (he.de.mono _ _ _ (fun r ρ1 h1 v H1 O1 R1 => R.rt ρ1 σ H1 v r O1 R1 h1) h)⟩
def dRetN : TDS := fun DD ρ => DD.rt (.d .none) ρ
theorem ds_retN : PDS X F (.Return none pos) tRetN dRetN := ⟨ps_retN, fun pins ρ σ H D DD O S R h => R.rt ρ σ H .non _ O (.sc .none) h⟩
def dIfS (c : TDT) (t u : TDS) : TDS := fun DD ρ => c ρ fun k ρ1 => if k = true then t DD ρ1 else u DD ρ1
theorem ds_if {c : Expr} {x y : List Stmt} (hc : PDT X F c tt dt) (h1 : PDSs X F x ts ds) (h2 : PDSs X F y us dus) : PDS X F (.If c x y pos) (tIfS tt ts us) (dIfS dt ds dus) := by
  refine ⟨ps_if hc.pt h1.pss h2.pss, fun pins ρ σ H D DD O S R h => ?_⟩
  refine hc.dt.run pins ρ σ H _ O (hc.dt.mono _ _ _ (fun k ρ1 h3 H1 O1 => ?_) h)
  cases k with
  | true => exact h1.ds pins ρ1 σ H1 D DD O1 S R h3
  | false => exact h2.ds pins ρ1 σ H1 D DD O1 S R h3
/-! ### targets -/
def setR (i : Nat) (r : R) (ρ : Rho) (k : Rho → Prop) : Prop := match r with
  | .d x => k (ρ.set i (some (.d x)))
  | .raw v => k (ρ.set i (some (.raw v)))
  | .o j => match ρ[j]? with
    | some (some (.ro x)) => k (ρ.set i (some (.ro x)))
    | _ => False
def SameOut (σ σ' : L2.St) (sl : List Nat) : Prop := ∀ vs : List Nat, (∀ i ∈ sl, i ∈ vs) → wipe σ' vs = wipe σ vs
abbrev TDGt := R → Rho → (Rho → Prop) → Prop
structure DG (F : Fm) (g : TG) (dg : TDGt) (sl : List Nat) : Prop where
  run : ∀ (pins : List Pin) (ρ : Rho) (σ : L2.St) (H : Hp) (v : V) (r : R) (Q : L2.St → Hp → Prop) (P : Rho → Prop), Ok F pins ρ σ H → (∀ i ∈ sl, Fr pins i) → ROk F (Av F pins ρ σ) ρ σ H r v → dg r ρ P →
    (∀ ρ' σ' H', Ok F pins ρ' σ' H' → SameOut σ σ' sl → P ρ' → Q σ' H') → g v σ H Q
  mono : ∀ r ρ P P', (∀ ρ', P ρ' → P' ρ') → dg r ρ P → dg r ρ P'
theorem wipe_out1 {σ : L2.St} {i : Nat} {u : Option V} : ∀ {vs : List Nat}, i ∈ vs → wipe (σ.set i u) vs = wipe σ vs
  | j :: r, h => by
    show (wipe (σ.set i u) r).set j none = (wipe σ r).set j none
    by_cases hr : i ∈ r
    · rw [wipe_out1 hr]
    · have e : i = j := by
        rcases List.mem_cons.mp h with z | z
        · exact z
        · exact absurd z hr
      subst e
      have : ∀ (vs : List Nat) (σ : L2.St), i ∉ vs → wipe (σ.set i u) vs = (wipe σ vs).set i u := fun vs => by
        induction vs with
        | nil => intro σ _; rfl
        | cons k ks ih =>
          intro σ hn
          show (wipe (σ.set i u) ks).set k none = ((wipe σ ks).set k none).set i u
          rw [ih σ (fun z => hn (List.mem_cons_of_mem _ z)), List.set_comm _ _ (fun z => hn (by rw [z]; exact List.mem_cons_self ..))]
      rw [this r σ hr, List.set_set]
theorem dg_name (i : Nat) : DG F (gName i) (setR i) [i] := by
  constructor
  · intro pins ρ σ H v r Q P O hf Rv h k
    have so : SameOut σ (σ.set i (some v)) [i] := fun vs hv => wipe_out1 (hv i (List.mem_singleton.mpr rfl))
    have hi := hf i (List.mem_singleton.mpr rfl)
    cases r with
    | d x => exact k _ _ _ (O.put hi (fun _ z => by cases z) fun f e => by cases e; exact ⟨v, rfl, Rv⟩) so h
    | raw u => exact k _ _ _ (O.put hi (fun _ z => by cases z) fun f e => by cases e; exact ⟨v, rfl, Rv⟩) so h
    | o j =>
      unfold setR at h
      dsimp only at h
      split at h
      · rename_i x e
        obtain ⟨u, h1, h2⟩ := O.ent j _ e
        have h3 := Rv.1
        rw [h1] at h3; cases h3
        exact k _ _ _ (O.put hi (fun _ z => by cases z) fun f e => by cases e; exact ⟨_, rfl, h2⟩) so h
      · exact h.elim
  · intro r ρ P P' hp h
    cases r with
    | d x => exact hp _ h
    | raw v => exact hp _ h
    | o j =>
      unfold setR at h ⊢
      dsimp only at h ⊢
      split at h
      · exact hp _ h
      · exact h.elim
structure DGs (F : Fm) (g : TGs) (dg : List PyData → Rho → (Rho → Prop) → Prop) (sl : List Nat) : Prop where
  run : ∀ (pins : List Pin) (ρ : Rho) (σ : L2.St) (H : Hp) (vs : List V) (xs : List PyData) (Q : L2.St → Hp → Prop) (P : Rho → Prop), Ok F pins ρ σ H → (∀ i ∈ sl, Fr pins i) → ImAll F.K (Av F pins ρ σ) H xs vs → dg xs ρ P →
    (∀ ρ' σ' H', Ok F pins ρ' σ' H' → SameOut σ σ' sl → P ρ' → Q σ' H') → g vs σ H Q
  mono : ∀ xs ρ P P', (∀ ρ', P ρ' → P' ρ') → dg xs ρ P → dg xs ρ P'
def dgNil : List PyData → Rho → (Rho → Prop) → Prop
  | [], ρ, P => P ρ
  | _, _, _ => False
def dgCons (g : TDGt) (gs : List PyData → Rho → (Rho → Prop) → Prop) : List PyData → Rho → (Rho → Prop) → Prop
  | x :: xs, ρ, P => g (.d x) ρ fun ρ' => gs xs ρ' P
  | _, _, _ => False
theorem dgs_nil : DGs F gNil dgNil [] := by
  constructor
  · intro pins ρ σ H vs xs Q P O hf hv h k
    cases xs with
    | nil => simp only [ImAll] at hv; exact ⟨hv, k ρ σ H O (fun _ _ => rfl) h⟩
    | cons x xs => exact h.elim
  · intro xs ρ P P' hp h
    cases xs with
    | nil => exact hp _ h
    | cons x xs => exact h.elim
def pinsOf : List V → List PyData → List Pin
  | v :: vs, x :: xs => .val v (.d x) :: pinsOf vs xs
  | _, _ => []
theorem Ok.pushAll {pins : List Pin} {ρ : Rho} {σ : L2.St} {H : Hp} (O : Ok F pins ρ σ H) : ∀ {xs : List PyData} {vs : List V}, ImAll F.K (Av F pins ρ σ) H xs vs → Ok F (pinsOf vs xs ++ pins) ρ σ H ∧ Av F (pinsOf vs xs ++ pins) ρ σ = Av F pins ρ σ
  | [], vs, h => by simp only [ImAll] at h; subst h; exact ⟨O, rfl⟩
  | x :: xs, vs, h => by
    simp only [ImAll] at h
    obtain ⟨v, us, rfl, h1, h2⟩ := h
    obtain ⟨O1, e⟩ := O.pushAll h2
    exact ⟨O1.push (v := v) (r := .d x) (by rw [e]; exact h1), e⟩
theorem Ok.popAll {pins : List Pin} {ρ : Rho} {σ : L2.St} {H : Hp} : ∀ {xs : List PyData} {vs : List V}, vs.length = xs.length → Ok F (pinsOf vs xs ++ pins) ρ σ H → Ok F pins ρ σ H ∧ Av F (pinsOf vs xs ++ pins) ρ σ = Av F pins ρ σ ∧ ImAll F.K (Av F pins ρ σ) H xs vs
  | [], [], _, O => ⟨O, rfl, .nil⟩
  | x :: xs, [], h, _ => by cases h
  | [], v :: vs, h, _ => by cases h
  | x :: xs, v :: vs, h, O => by
    obtain ⟨O1, r1⟩ := Ok.popV (show Ok F (.val v (.d x) :: (pinsOf vs xs ++ pins)) ρ σ H from O)
    obtain ⟨O2, e, r2⟩ := Ok.popAll (by simpa using h) O1
    have r1 : Im F.K (Av F (pinsOf vs xs ++ pins) ρ σ) H x v := r1
    rw [e] at r1
    exact ⟨O2, e, .cons r1 r2⟩
theorem fr_pinsOf {pins : List Pin} {i : Nat} (h : Fr pins i) : ∀ (vs : List V) (xs : List PyData), Fr (pinsOf vs xs ++ pins) i
  | [], _ => h
  | v :: vs, [] => h
  | v :: vs, x :: xs => fun u j hp => by
    rcases List.mem_cons.mp (show Pin.val u (.o j) ∈ Pin.val v (.d x) :: (pinsOf vs xs ++ pins) from hp) with z | z
    · cases z
    · exact fr_pinsOf h vs xs u j z
theorem SameOut.trans {σ σ1 σ2 : L2.St} {s t : List Nat} (h : SameOut σ σ1 s) (k : SameOut σ1 σ2 t) : SameOut σ σ2 (s ++ t) := fun vs hv =>
  (k vs fun i hi => hv i (List.mem_append_right _ hi)).trans (h vs fun i hi => hv i (List.mem_append_left _ hi))
theorem dgs_cons {g : TG} {dg : TDGt} {s t : List Nat} {gs : TGs} {dgs : List PyData → Rho → (Rho → Prop) → Prop} (h1 : DG F g dg s) (h2 : DGs F gs dgs t) : DGs F (gCons g gs) (dgCons dg dgs) (s ++ t) := by
  constructor
  · intro pins ρ σ H vs xs Q P O hf hv h k
    cases xs with
    | nil => exact h.elim
    | cons x xs =>
      simp only [ImAll] at hv
      obtain ⟨v, us, rfl, h3, h4⟩ := hv
      obtain ⟨O1, e1⟩ := O.pushAll h4
      refine ⟨v, us, rfl, h1.run (pinsOf us xs ++ pins) ρ σ H v (.d x) _ _ O1 (fun i hi => fr_pinsOf (hf i (List.mem_append_left _ hi)) us xs) (by rw [e1]; exact h3) h fun ρ' σ' H' O2 so q => ?_⟩
      obtain ⟨O3, _, r3⟩ := Ok.popAll h4.length O2
      exact h2.run pins ρ' σ' H' us xs Q P O3 (fun i hi => hf i (List.mem_append_right _ hi)) r3 q fun ρ2 σ2 H2 O4 so2 q2 => k ρ2 σ2 H2 O4 (so.trans so2) q2
  · intro xs ρ P P' hp h
    cases xs with
    | nil => exact h.elim
    | cons x xs => exact h1.mono _ _ _ _ (fun ρ' q => h2.mono _ _ _ _ hp q) h
def dgTup (n : Nat) (gs : List PyData → Rho → (Rho → Prop) → Prop) : TDGt := fun r ρ P => match r with
  | .d (.tuple xs) => xs.length = n ∧ gs xs ρ P
  | _ => False
theorem dg_tup {n : Nat} {gs : TGs} {dgs : List PyData → Rho → (Rho → Prop) → Prop} {s : List Nat} (h : DGs F gs dgs s) : DG F (gTup F.K n gs) (dgTup n dgs) s := by
  constructor
  · intro pins ρ σ H v r Q P O hf Rv hd k
    unfold dgTup at hd
    split at hd
    · rename_i xs
      have Rv : Im F.K (Av F pins ρ σ) H (.tuple xs) v := Rv
      simp only [Im] at Rv
      obtain ⟨a, vs, rfl, l, im⟩ := Rv
      exact ⟨a, vs, rfl, l.sq, by rw [im.length]; exact hd.1, h.run pins ρ σ H vs xs Q P O hf im hd.2 k⟩
    · exact hd.elim
  · intro r ρ P P' hp hd
    unfold dgTup at hd ⊢
    split at hd
    · exact ⟨hd.1, h.mono _ _ _ _ hp hd.2⟩
    · exact hd.elim
structure PDG (X : Cx) (F : Fm) (tg : Expr) (g : TG) (dg : TDGt) (sl : List Nat) : Prop where
  pg : PG X tg g
  dg : DG F g dg sl
structure PDGs (X : Cx) (F : Fm) (tgs : List Expr) (g : TGs) (dg : List PyData → Rho → (Rho → Prop) → Prop) (sl : List Nat) : Prop where
  pgs : PGs X tgs g
  dgs : DGs F g dg sl
theorem pgd_name {i : Nat} {x : Str} (hN : X.N.Nodup) (hi : X.N[i]? = some x := by rfl) (hx : Loc X.env.scope x := by first | exact Or.inl rfl | exact Or.inr rfl) (hf : X.fn x = true ∨ X.env.scope.names.lookup x = some .local := by first | exact .inl rfl | exact .inr rfl) : PDG X F (.Name x pos) (gName i) (setR i) [i] := ⟨pg_name hN hi hx hf, dg_name i⟩
theorem pgds_nil : PDGs X F [] gNil dgNil [] := ⟨pgs_nil, dgs_nil⟩
end
end DV
namespace DV
open PySem PySem.Spec PyProof.Rows L2
section
variable {X : Cx} {F : Fm} {a b c e : Expr} {es : List Expr} {ta tb tc te : TE} {da db dc de : TDE} {dl : TDL} {pos : Pos} {t : TA} {d : TDA} {tt tu : TT} {dt du : TDT} {st : Stmt} {rest sts : List Stmt} {ts us : TS} {ds dus : TDS}
theorem pgds_cons {tg : Expr} {tgs : List Expr} {g : TG} {dg : TDGt} {s u : List Nat} {gs : TGs} {dgs : List PyData → Rho → (Rho → Prop) → Prop} (h1 : PDG X F tg g dg s) (h2 : PDGs X F tgs gs dgs u)
    (hs : (assignEach (tg :: tgs) X.env).map (·.2) = assign tg X.env :: (assignEach tgs X.env).map (·.2) := by rfl) : PDGs X F (tg :: tgs) (gCons g gs) (dgCons dg dgs) (s ++ u) := ⟨pgs_cons h1.pg h2.pgs hs, dgs_cons h1.dg h2.dgs⟩
theorem pgd_tup {tgs : List Expr} {k n : Nat} {gs : TGs} {dgs : List PyData → Rho → (Rho → Prop) → Prop} {s : List Nat} (hc : X.calm = true) (h : PDGs X F tgs gs dgs s) (hK : X.K = F.K := by rfl)
    (hn : (assignEach tgs X.env).length = n := by rfl) (hst : (assignEach tgs X.env).findIdx? (·.1) = none := by rfl) : PDG X F (.Tuple tgs k pos) (gTup F.K n gs) (dgTup n dgs) s := by
  refine ⟨?_, dg_tup h.dgs⟩
  have := pg_tup (pos := pos) (k := k) hc h.pgs hn hst
  rw [hK] at this
  exact this
def dAsg (te : TDE) (dg : TDGt) : TDS := fun DD ρ => te ρ fun r ρ1 => dg r ρ1 DD.nx
theorem dsa {g : TG} {dg : TDGt} {s : List Nat} (he : DE F te de) (hg : DG F g dg s) (hf : ∀ i ∈ s, ¬ F.fix i) : DS F (tAsg te g) (dAsg de dg) := fun pins ρ σ H D DD O S R h =>
  he.run pins ρ σ H _ O (he.mono _ _ _ (fun r ρ1 h1 v H1 O1 R1 => hg.run pins ρ1 σ H1 v r _ _ O1 (fun i hi => S.fr (hf i hi)) R1 h1 fun ρ2 σ2 H2 O2 _ q => R.nx ρ2 σ2 H2 O2 q) h)
theorem ds_asg {tg : Expr} {g : TG} {dg : TDGt} {s : List Nat} (he : PD X F e te de) (hg : PDG X F tg g dg s) (hf : ∀ i ∈ s, ¬ F.fix i) (hs : swapsWithSole [tg] e pos.line X.env = pure false := by rfl) (hw : swappedStores [tg] e X.env = pure none := by rfl)
    (h1 : (assignEach [tg] X.env).map (·.2) = [assign tg X.env] := by rfl) : PDS X F (.Assign [tg] e pos) (tAsg te g) (dAsg de dg) := ⟨ps_asg he.pe hg.pg hs hw h1, dsa he.de hg.dg hf⟩
theorem ds_set {i : Nat} {x : Str} {pos' : Pos} (hN : X.N.Nodup) (he : PD X F e te de) (hf : ¬ F.fix i) (hi : X.N[i]? = some x := by rfl) (hx : Loc X.env.scope x := by first | exact Or.inl rfl | exact Or.inr rfl) (hs : swapsWith e (some (.Name x pos')) pos.line X.env = pure false := by rfl) (hfn : X.fn x = true ∨ X.env.scope.names.lookup x = some .local := by first | exact .inl rfl | exact .inr rfl) :
    PDS X F (.Assign [.Name x pos'] e pos) (tAsg te (gName i)) (dAsg de (setR i)) := ⟨ps_set hN hi hx he.pe hs hfn, dsa he.de (dg_name i) fun j hj => by rw [List.mem_singleton.mp hj]; exact hf⟩
/-- x = a new list that is changed later -/
def dSetL (i : Nat) (tl : TDL) : TDS := fun DD ρ => tl ρ fun xs ρ1 => DD.nx (ρ1.set i (some (.own xs)))
theorem dsl {i : Nat} (he : DL F te dl) (hf : ¬ F.fix i) : DS F (tAsg te (gName i)) (dSetL i dl) := fun pins ρ σ H D DD O S R h =>
  he.run pins ρ σ H _ O (he.mono _ _ _ (fun xs ρ1 h1 p H1 O1 => R.nx _ _ H1 (O1.putL (S.fr hf)) h1) h)
theorem ds_setL {i : Nat} {x : Str} {pos' : Pos} (hN : X.N.Nodup) (he : PDL X F e te dl) (hf : ¬ F.fix i) (hi : X.N[i]? = some x := by rfl) (hx : Loc X.env.scope x := by first | exact Or.inl rfl | exact Or.inr rfl) (hs : swapsWith e (some (.Name x pos')) pos.line X.env = pure false := by rfl) (hfn : X.fn x = true ∨ X.env.scope.names.lookup x = some .local := by first | exact .inl rfl | exact .inr rfl) :
    PDS X F (.Assign [.Name x pos'] e pos) (tAsg te (gName i)) (dSetL i dl) := ⟨ps_set hN hi hx he.pe hs hfn, dsl he.dl hf⟩
def noO : R → Prop
  | .o _ => False
  | _ => True
/-- x, y = e, e' with plain locals -/
def dPar (i j : Nat) (t : TDA) : TDS := fun DD ρ => t ρ fun rs ρ1 => match rs with
  | [r, s] => noO s ∧ setR i r ρ1 fun ρ2 => setR j s ρ2 DD.nx
  | _ => False
theorem ds_par {i j : Nat} {x y : Str} {px py pt : Pos} {pt2 : Pos} {kt' k2'} (hc : X.calm = true) (hN : X.N.Nodup) (ha : PDA X F [a, b] t d) (hfi : ¬ F.fix i) (hfj : ¬ F.fix j) (hij : i ≠ j := by decide) (hi : X.N[i]? = some x := by rfl) (hj : X.N[j]? = some y := by rfl)
    (hx : X.env.scope.names.lookup x = some .local := by rfl) (hy : X.env.scope.names.lookup y = some .local := by rfl)
    (hw : swappedStores [.Tuple [.Name x px, .Name y py] kt' pt] (.Tuple [a, b] k2' pt2) X.env = pure (some [x, y]) := by rfl)
    (hs : swapsWithSole [.Tuple [.Name x px, .Name y py] kt' pt] (.Tuple [a, b] k2' pt2) pos.line X.env = pure false := by rfl) :
    PDS X F (.Assign [.Tuple [.Name x px, .Name y py] kt' pt] (.Tuple [a, b] k2' pt2) pos) (tPar i j t) (dPar i j d) := by
  refine ⟨ps_par hc hN hi hj hij hx hy ha.pa hw hs, fun pins ρ σ H D DD O S R h => ?_⟩
  refine ha.da.run pins ρ σ H _ O (ha.da.mono _ _ _ (fun rs ρ1 h1 vs H1 O1 R1 => ?_) h)
  split at h1
  · rename_i r s
    simp only [ROks] at R1
    obtain ⟨v, us, rfl, r1, w, us2, rfl, r2, rfl⟩ := R1
    refine ⟨v, w, rfl, ?_⟩
    have O2 := O1.push r2
    have g1 : gName i v σ H1 fun σ2 H2 => gName j w σ2 H2 fun σ3 H3 => D.nx σ3 H3 := by
      refine (dg_name (F := F) i).run (.val w s :: pins) ρ1 σ H1 v r _ _ O2 (fun k hk => ?_) (by exact r1) h1.2 fun ρ2 σ2 H2 O3 _ q => ?_
      · rw [List.mem_singleton.mp hk]
        intro u l hp
        rcases List.mem_cons.mp hp with z | z
        · cases z
          exact h1.1.elim
        · exact S.fr hfi u l z
      · obtain ⟨O4, r3⟩ := O3.popV
        exact (dg_name (F := F) j).run pins ρ2 σ2 H2 w s _ _ O4 (fun k hk => by rw [List.mem_singleton.mp hk]; exact S.fr hfj) r3 q fun ρ4 σ4 H4 O5 _ q2 => R.nx _ _ _ O5 q2
    exact g1
  · exact h1.elim
/-! ### lists of one's own: append, insert, x[k] = e, x[k] += e -/
/-- the own list that stands in slot i -/
def onOwn (ρ : Rho) (i : Nat) (f : List PyData → Prop) : Prop := match ρ[i]? with
  | some (some (.own xs)) => f xs
  | _ => False
theorem onOwn_of {ρ : Rho} {i : Nat} {f : List PyData → Prop} (h : onOwn ρ i f) : ∃ xs, ρ[i]? = some (some (.own xs)) ∧ f xs := by
  unfold onOwn at h
  split at h
  · exact ⟨_, by assumption, h⟩
  · exact h.elim
theorem onOwn_mono {ρ : Rho} {i : Nat} {f g : List PyData → Prop} (h : onOwn ρ i f) (k : ∀ x, f x → g x) : onOwn ρ i g := by
  unfold onOwn at h ⊢
  split at h
  · exact k _ h
  · exact h.elim
/-- a datum -/
def onDat (r : R) (f : PyData → Prop) : Prop := match r with
  | .d x => f x
  | _ => False
theorem Ok.ownGet {pins : List Pin} {ρ : Rho} {σ : L2.St} {H : Hp} (O : Ok F pins ρ σ H) {i : Nat} {xs : List PyData} (h : ρ[i]? = some (some (.own xs))) :
    ∃ p vs, σ[i]? = some (some (.ref p)) ∧ H p = some (.lst vs) ∧ ImAll F.K (Av F pins ρ σ) H xs vs ∧ OwnAt ρ σ i p := by
  obtain ⟨v, h1, p, vs, rfl, h2, h3, _⟩ := O.ent i _ h
  exact ⟨p, vs, h1, h2, h3, ⟨xs, h⟩, h1⟩
/-- a method of the own list at slot i -/
def dOwnM (i : Nat) (t : TDA) (k : List PyData → List R → (PyData → List PyData → Prop) → Prop) : TDE := fun ρ Q => onOwn ρ i fun _ => t ρ fun rs ρ1 => onOwn ρ1 i fun xs => k xs rs fun z ys => Q (.d z) (ρ1.set i (some (.own ys)))
/-- its reading r by values, from data; the answer is without a heap -/
structure SM (F : Fm) (r : V → List V → Hp → VK → Prop) (k : List PyData → List R → (PyData → List PyData → Prop) → Prop) : Prop where
  run : ∀ (pins : List Pin) (ρ : Rho) (σ : L2.St) (H : Hp) (p : Addr) (vs us : List V) (xs : List PyData) (rs : List R) (Q : VK), Ok F pins ρ σ H → H p = some (.lst vs) → ImAll F.K (Av F pins ρ σ) H xs vs → ROks F (Av F pins ρ σ) ρ σ H rs us →
    k xs rs (fun z ys => ∀ v ws, Sc z v → ImAll F.K (Av F pins ρ σ) H ys ws → Q v (upd H p (.lst ws))) → r (.ref p) us H Q
  mono : ∀ xs rs Q Q', (∀ z ys, Q z ys → Q' z ys) → k xs rs Q → k xs rs Q'
theorem de_ownM {i : Nat} {r : V → List V → Hp → VK → Prop} {k : List PyData → List R → (PyData → List PyData → Prop) → Prop} (hr : SM F r k) (ha : DA F t d) : DE F (tBM F.K "list" r (tVar i) t) (dOwnM i d k) := by
  constructor
  · intro pins ρ σ H Q O h
    obtain ⟨xs0, e0, h⟩ := onOwn_of h
    obtain ⟨p, vs0, h1, h2, h3, _⟩ := O.ownGet e0
    refine ⟨.ref p, h1, .inl ⟨rfl, vs0, .of h2⟩, ?_⟩
    refine ha.run pins ρ σ H _ O (ha.mono _ _ _ (fun rs ρ1 h4 us H1 O1 R1 => ?_) h)
    obtain ⟨xs, e1, h5⟩ := onOwn_of h4
    obtain ⟨q, vs, g1, g2, g3, g4⟩ := O1.ownGet e1
    rw [h1] at g1; cases g1
    refine hr.run pins ρ1 σ H1 p vs us xs rs Q O1 g2 g3 R1 (hr.mono _ _ _ _ (fun z ys q v ws hv hw => ?_) h5)
    exact q v _ (O1.setOwn g4 hw) (.sc hv)
  · intro ρ Q Q' hq h
    exact onOwn_mono h fun xs0 h => ha.mono _ _ _ (fun rs ρ1 h4 => onOwn_mono h4 fun xs h5 => hr.mono _ _ _ _ (fun z ys q => hq _ _ q) h5) h
def kAppend : List PyData → List R → (PyData → List PyData → Prop) → Prop
  | xs, [.d y], Q => Few (xs.length + 1) ∧ Q .none (xs ++ [y])
  | _, _, _ => False
theorem sm_append : SM F rAppend kAppend := by
  constructor
  · intro pins ρ σ H p vs us xs rs Q O h1 h2 h3 h
    unfold kAppend at h
    split at h
    · rename_i xs y
      simp only [ROks] at h3
      obtain ⟨v, _, rfl, h4, rfl⟩ := h3
      refine ⟨p, vs, v, rfl, rfl, h1, ?_, h.2 _ _ .none (h2.append (.cons h4 .nil))⟩
      have := h.1
      unfold Few at this
      rw [h2.length]; omega
    · exact h.elim
  · intro xs rs Q Q' hq h
    unfold kAppend at h ⊢
    split at h
    · exact ⟨h.1, hq _ _ h.2⟩
    · exact h.elim
def rInsert : V → List V → Hp → VK → Prop := fun x vs H Q => ∃ (l : Addr) (xs : List V) (i : Int) (y : V), x = .ref l ∧ vs = [.int i, y] ∧ H l = some (.lst xs) ∧ xs.length < sizeLine ∧ 0 ≤ i ∧ i < 2 ^ 63 ∧
    Q .non (upd H l (.lst (xs.take i.toNat ++ [y] ++ xs.drop i.toNat)))
def kInsert : List PyData → List R → (PyData → List PyData → Prop) → Prop
  | xs, [.d (.int i), .d y], Q => (Few (xs.length + 1) ∧ 0 ≤ i ∧ i < 2 ^ 63) ∧ Q .none (xs.take i.toNat ++ [y] ++ xs.drop i.toNat)
  | _, _, _ => False
theorem sm_insert : SM F rInsert kInsert := by
  constructor
  · intro pins ρ σ H p vs us xs rs Q O h1 h2 h3 h
    unfold kInsert at h
    split at h
    · rename_i i y
      simp only [ROks] at h3
      obtain ⟨v1, _, rfl, h5, v, _, rfl, h4, rfl⟩ := h3
      have h5 : Im F.K (Av F pins ρ σ) H (.int i) v1 := h5
      cases (Im.int_iff.mp h5)
      refine ⟨p, vs, i, v, rfl, rfl, h1, ?_, h.1.2.1, h.1.2.2, h.2 _ _ .none (((h2.take _).append (.cons h4 .nil)).append (h2.drop _))⟩
      have := h.1.1
      unfold Few at this
      rw [h2.length]; omega
    · exact h.elim
  · intro xs rs Q Q' hq h
    unfold kInsert at h ⊢
    split at h
    · exact ⟨h.1, hq _ _ h.2⟩
    · exact h.elim
section
variable {name : Str} {apos cpos : Pos} {x : Str} {vpos : Pos} {i : Nat}
theorem pd_append (ha : PDA X F [e] t d) (hK : X.K = F.K := by rfl) (hN : X.N[i]? = some x := by rfl) (hv : Vis X.env.scope x := by first | exact Or.inl rfl | exact Or.inr (Or.inl rfl) | exact Or.inr (Or.inr rfl)) (hd : (x == ("__debug__" : Str)) = false := by decide)
    (hcd : (x == ("__classdict__" : Str)) = false := by decide)
    (hbase : attributeBase (.Name x vpos) "append" X.env (eval (.Name x vpos) X.env) = eval (.Name x vpos) X.env := by rfl)
    (hfew : ((backTo cpos (starEach [e] X.env)).all (fun x => !x.1) && (backToKw cpos (keywordEach [] X.env)).all (fun x => x.1.isSome)
      && decide (([e] : List Expr).length + ([] : List Keyword).length + (if ([] : List Keyword).isEmpty then 0 else 1) < 30)) = true := by rfl)
    (hline : (apos.endLine == cpos.line) = true := by rfl) (hs : starEach [e] X.env = (false, eval e X.env) :: starEach [] X.env := by rfl) (hplain : (backTo cpos (starEach [] X.env)).any (·.1) = false := by rfl) :
    PD X F (.Call (.Attribute (.Name x vpos) "append" apos) [e] [] cpos) (tBM F.K "list" rAppend (tVar i) t) (dOwnM i d kAppend) := by
  refine ⟨?_, de_ownM sm_append ha.da⟩
  have := pe_bm (cpos := cpos) (apos := apos) PySem.F.plainAttrs_list PySem.F.slot_list_append PySem.F.type_list_append mt_append (pe_var (pos := vpos) hN hv hd hcd) ha.pa hbase hfew hline hs hplain
  rw [hK] at this
  exact this
theorem pd_insert {e2 : Expr} (ha : PDA X F [e, e2] t d) (hK : X.K = F.K := by rfl) (hN : X.N[i]? = some x := by rfl) (hv : Vis X.env.scope x := by first | exact Or.inl rfl | exact Or.inr (Or.inl rfl) | exact Or.inr (Or.inr rfl)) (hd : (x == ("__debug__" : Str)) = false := by decide)
    (hcd : (x == ("__classdict__" : Str)) = false := by decide)
    (hbase : attributeBase (.Name x vpos) "insert" X.env (eval (.Name x vpos) X.env) = eval (.Name x vpos) X.env := by rfl)
    (hfew : ((backTo cpos (starEach [e, e2] X.env)).all (fun x => !x.1) && (backToKw cpos (keywordEach [] X.env)).all (fun x => x.1.isSome)
      && decide (([e, e2] : List Expr).length + ([] : List Keyword).length + (if ([] : List Keyword).isEmpty then 0 else 1) < 30)) = true := by rfl)
    (hline : (apos.endLine == cpos.line) = true := by rfl) (hs : starEach [e, e2] X.env = (false, eval e X.env) :: starEach [e2] X.env := by rfl) (hplain : (backTo cpos (starEach [e2] X.env)).any (·.1) = false := by rfl) :
    PD X F (.Call (.Attribute (.Name x vpos) "insert" apos) [e, e2] [] cpos) (tBM F.K "list" rInsert (tVar i) t) (dOwnM i d kInsert) := by
  refine ⟨?_, de_ownM sm_insert ha.da⟩
  have := pe_bm (cpos := cpos) (apos := apos) PySem.F.plainAttrs_list PySem.F.slot_list_insert PySem.F.type_list_insert mt_insert (pe_var (pos := vpos) hN hv hd hcd) ha.pa hbase hfew hline hs hplain
  rw [hK] at this
  exact this
end
/-- x[k] = e -/
def dSetItem (i : Nat) (te tk : TDE) : TDS := fun DD ρ => te ρ fun r ρ1 => onDat r fun y => onOwn ρ1 i fun _ => tk ρ1 fun s ρ2 => onV ρ2 s fun k => onOwn ρ2 i fun xs => match k with
  | .int k => (0 ≤ k ∧ k < xs.length) ∧ DD.nx (ρ2.set i (some (.own (xs.set k.toNat y))))
  | _ => False
theorem ixN_nat {n : Nat} {k : Int} (h0 : 0 ≤ k) (h1 : k < n) : ixN n k = some k.toNat := by
  unfold ixN; rw [if_pos h0, if_pos h1]
theorem ds_setItem {i : Nat} {k : Expr} {tk : TE} {dk : TDE} {x : Str} {vpos spos : Pos} (he : PD X F e te de) (hk : PD X F k tk dk) (hg : PG X (.Subscript (.Name x vpos) k spos) (gSub (tVar i) tk rSetL)) (hs : swapsWithSole [.Subscript (.Name x vpos) k spos] e pos.line X.env = pure false := by rfl) (hw : swappedStores [.Subscript (.Name x vpos) k spos] e X.env = pure none := by rfl)
    (h1 : (assignEach [.Subscript (.Name x vpos) k spos] X.env).map (·.2) = [assign (.Subscript (.Name x vpos) k spos) X.env] := by rfl) :
    PDS X F (.Assign [.Subscript (.Name x vpos) k spos] e pos) (tAsg te (gSub (tVar i) tk rSetL)) (dSetItem i de dk) := by
  refine ⟨ps_asg he.pe hg hs hw h1, fun pins ρ σ H D DD O S R h => ?_⟩
  refine he.de.run pins ρ σ H _ O (he.de.mono _ _ _ (fun r ρ1 h2 v H1 O1 R1 => ?_) h)
  cases r with
  | o j => exact h2.elim
  | raw u => exact h2.elim
  | d y =>
    obtain ⟨xs0, e0, h2⟩ := onOwn_of h2
    obtain ⟨p, vs0, g1, g2, g3, _⟩ := O1.ownGet e0
    refine ⟨.ref p, g1, ?_⟩
    refine hk.de.run (.val v (.d y) :: pins) ρ1 σ H1 _ (O1.push R1) (hk.de.mono _ _ _ (fun s ρ2 h3 u H2 O2 R2 => ?_) h2)
    obtain ⟨O3, R3⟩ := O2.popV
    obtain ⟨kk, e1, h4⟩ := onV_of h3
    obtain ⟨xs, e2, h5⟩ := onOwn_of h4
    obtain ⟨q, vs, f1, f2, f3, f4⟩ := O3.ownGet e2
    rw [g1] at f1; cases f1
    cases kk <;> first | exact h5.elim | skip
    rename_i k0
    cases dp_int (val_dp O2 R2 e1)
    refine ⟨p, vs, k0, k0.toNat, rfl, rfl, f2, ?_, R.nx _ _ _ (O3.setOwn f4 (f3.set _ R3)) h5.2⟩
    rw [f3.length]
    exact ixN_nat h5.1.1 h5.1.2
/-- x[k] += e, whole numbers -/
def dAddItem (i : Nat) (tk te : TDE) : TDS := fun DD ρ => onOwn ρ i fun _ => tk ρ fun s ρ1 => onV ρ1 s fun k => onOwn ρ1 i fun xs => match k with
  | .int k => (0 ≤ k ∧ k < xs.length) ∧ match xs[k.toNat]? with
    | some (.int n) => te ρ1 fun r ρ2 => onV ρ2 r fun y => onOwn ρ2 i fun ys => match y with
      | .int m => ys.length = xs.length ∧ DD.nx (ρ2.set i (some (.own (ys.set k.toNat (.int (n + m))))))
      | _ => False
    | _ => False
  | _ => False
theorem ds_addItem {i : Nat} {k : Expr} {tk : TE} {dk : TDE} {x : Str} {vpos spos : Pos} (hk : PD X F k tk dk) (he : PD X F e te de) (hp : PS X (.AugAssign (.Subscript (.Name x vpos) k spos) .Add e pos) (tAugS (tVar i) tk te (rIxL F.K) (ipI fun i j => i + j) rSetL)) :
    PDS X F (.AugAssign (.Subscript (.Name x vpos) k spos) .Add e pos) (tAugS (tVar i) tk te (rIxL F.K) (ipI fun i j => i + j) rSetL) (dAddItem i dk de) := by
  refine ⟨hp, fun pins ρ σ H D DD O S R h => ?_⟩
  obtain ⟨xs0, e0, h⟩ := onOwn_of h
  obtain ⟨p, vs0, g1, g2, g3, _⟩ := O.ownGet e0
  refine ⟨.ref p, g1, ?_⟩
  refine hk.de.run pins ρ σ H _ O (hk.de.mono _ _ _ (fun s ρ1 h3 u H1 O1 R1 => ?_) h)
  obtain ⟨kk, e1, h4⟩ := onV_of h3
  obtain ⟨xs, e2, h5⟩ := onOwn_of h4
  obtain ⟨q, vs, f1, f2, f3, f4⟩ := O1.ownGet e2
  rw [g1] at f1; cases f1
  cases kk <;> first | exact h5.elim | skip
  rename_i k0
  cases dp_int (val_dp O1 R1 e1)
  obtain ⟨hb, h6⟩ := h5
  split at h6
  · rename_i n en
    obtain ⟨v0, ev, iv⟩ := f3.get en
    cases (Im.int_iff.mp iv)
    refine ⟨p, vs, k0, .int n, rfl, rfl, .of f2, ?_, ?_⟩
    · unfold atI
      rw [f3.length, ixN_nat hb.1 hb.2]
      exact ev
    refine he.de.run pins ρ1 σ H1 _ O1 (he.de.mono _ _ _ (fun r ρ2 h7 w H2 O2 R2 => ?_) h6)
    obtain ⟨y, e3, h8⟩ := onV_of h7
    obtain ⟨ys, e4, h9⟩ := onOwn_of h8
    obtain ⟨q2, us, j1, j2, j3, j4⟩ := O2.ownGet e4
    rw [g1] at j1; cases j1
    cases y <;> first | exact h9.elim | skip
    rename_i m
    cases dp_int (val_dp O2 R2 e3)
    refine ⟨n, m, rfl, rfl, p, us, k0, k0.toNat, rfl, rfl, j2, ?_, R.nx _ _ _ (O2.setOwn j4 (j3.set _ .int)) h9.2⟩
    rw [j3.length, h9.1]
    exact ixN_nat hb.1 hb.2
  · exact h6.elim
end
end DV
namespace DV
open PySem PySem.Spec PyProof.Rows L2
/-! ## loops -/
section
variable {X : Cx} {F : Fm} {a b c e : Expr} {es : List Expr} {ta tb tc te : TE} {da db dc de : TDE} {dl : TDL} {pos : Pos} {t : TA} {d : TDA} {tt tu : TT} {dt du : TDT} {st : Stmt} {rest sts : List Stmt} {ts us : TS} {ds dus : TDS}
def dWhile (c : TDT) (tb : TDS) : TDS := fun DD ρ => ∃ (I : Rho → Prop) (μ : Rho → Nat), I ρ ∧ ∀ ρ, I ρ → c ρ fun k ρ1 => if k = true then tb { DD with nx := fun ρ' => I ρ' ∧ μ ρ' < μ ρ, ct := fun ρ' => I ρ' ∧ μ ρ' < μ ρ, bk := DD.nx } ρ1 else DD.nx ρ1
theorem ds_while {c : Expr} {body : List Stmt} (hp : PassesOwn (model X.prog X.w) X.A X.env X.xe) (hc : PDT X F c tt dt) (hb : PDSs X F body ts ds) : PDS X F (.While c body [] pos) (tWhile tt ts) (dWhile dt ds) := by
  refine ⟨ps_while hp hc.pt hb.pss, fun pins ρ σ H D DD O S R h => ?_⟩
  obtain ⟨I, μ, h0, h⟩ := h
  refine ⟨fun m σ H => ∃ ρ, Ok F pins ρ σ H ∧ I ρ ∧ m = μ ρ, ⟨_, ρ, O, h0, rfl⟩, ?_⟩
  rintro m σ1 H1 ⟨ρ1, O1, i1, rfl⟩
  refine hc.dt.run pins ρ1 σ1 H1 _ O1 (hc.dt.mono _ _ _ (fun k ρ2 h2 H2 O2 => ?_) (h ρ1 i1))
  cases k with
  | false => exact R.nx _ _ _ O2 h2
  | true =>
    refine ⟨fun σ' H' => ∃ ρ', Ok F pins ρ' σ' H' ∧ I ρ' ∧ μ ρ' < μ ρ1, fun σ' H' ⟨ρ', O', i', lt⟩ => ⟨μ ρ', lt, ρ', O', i', rfl⟩, ?_⟩
    exact hb.ds pins ρ2 σ1 H2 _ { DD with nx := fun ρ' => I ρ' ∧ μ ρ' < μ ρ1, ct := fun ρ' => I ρ' ∧ μ ρ' < μ ρ1, bk := DD.nx } O2 S ⟨fun ρ3 σ3 H3 O3 q => ⟨ρ3, O3, q⟩, R.rt, R.nx, fun ρ3 σ3 H3 O3 q => ⟨ρ3, O3, q⟩, R.rl⟩ h2
/-- what is walked: J gives the items, while the values pl are in mind -/
structure WOk (F : Fm) (J : It) (items : List PyData) (pl : List Pin) : Prop where
  goes : ∀ (i : Nat) (pins : List Pin) (ρ : Rho) (σ : L2.St) (H : Hp), (∀ p ∈ pl, p ∈ pins) → i < items.length → Ok F pins ρ σ H → J.go i H
  stops : ∀ (pins : List Pin) (ρ : Rho) (σ : L2.St) (H : Hp), (∀ p ∈ pl, p ∈ pins) → Ok F pins ρ σ H → J.stop items.length H
  yld : ∀ (i : Nat) (pins : List Pin) (ρ : Rho) (σ : L2.St) (H : Hp) (x : V) (H' : Hp), (∀ p ∈ pl, p ∈ pins) → i < items.length → Ok F pins ρ σ H → J.yld i H x H' → ∃ y, items[i]? = some y ∧ Ok F pins ρ σ H' ∧ Im F.K (Av F pins ρ σ) H' y x
abbrev TDI := Rho → (List PyData → Rho → Prop) → Prop
def Vp (pl : List Pin) : Prop := ∀ p ∈ pl, ∃ v r, p = .val v r
structure DI (F : Fm) (wi : TI) (dw : TDI) : Prop where
  run : ∀ (pins : List Pin) (ρ : Rho) (σ : L2.St) (H : Hp) (R : It → Hp → Prop), Ok F pins ρ σ H →
    dw ρ (fun items ρ' => ∀ J H' pl, WOk F J items pl → (∀ p ∈ pl, ∃ v x, p = .val v (.d x)) → Ok F (pl ++ pins) ρ' σ H' → R J H') → wi σ H R
  mono : ∀ ρ Q Q', (∀ r ρ', Q r ρ' → Q' r ρ') → dw ρ Q → dw ρ Q'
structure PDI (X : Cx) (F : Fm) (tg iter : Expr) (wi : TI) (dw : TDI) : Prop where
  pi : PI X tg iter wi
  di : DI F wi dw
theorem Ok.popVs {pins : List Pin} {ρ : Rho} {σ : L2.St} {H : Hp} : ∀ {pl : List Pin}, (∀ p ∈ pl, ∃ v x, p = .val v (.d x)) → Ok F (pl ++ pins) ρ σ H → Ok F pins ρ σ H ∧ Av F (pl ++ pins) ρ σ = Av F pins ρ σ
  | [], _, O => ⟨O, rfl⟩
  | p :: pl, h, O => by
    obtain ⟨v, x, rfl⟩ := h p (List.mem_cons_self ..)
    obtain ⟨O1, _⟩ := Ok.popV (show Ok F (.val v (.d x) :: (pl ++ pins)) ρ σ H from O)
    obtain ⟨O2, e⟩ := O1.popVs fun q hq => h q (List.mem_cons_of_mem _ hq)
    exact ⟨O2, e⟩
theorem SPn.app {pins : List Pin} (S : SPn F pins) {pl : List Pin} (h : ∀ p ∈ pl, ∃ v x, p = .val v (.d x)) : SPn F (pl ++ pins) := fun v j hp => by
  rcases List.mem_append.mp hp with z | z
  · obtain ⟨u, x, e⟩ := h _ z
    cases e
  · exact S v j z
theorem accs_app {pins : List Pin} : ∀ {pl : List Pin}, (∀ p ∈ pl, ∃ v x, p = .val v (.d x)) → accs (pl ++ pins) = accs pins
  | [], _ => rfl
  | p :: pl, h => by
    obtain ⟨v, x, rfl⟩ := h p (List.mem_cons_self ..)
    exact accs_app (pl := pl) fun q hq => h q (List.mem_cons_of_mem _ hq)
/-- fewer things in mind -/
theorem Ok.sub {pins qs : List Pin} {ρ : Rho} {σ : L2.St} {H : Hp} (O : Ok F pins ρ σ H) (h : ∀ p ∈ qs, p ∈ pins) (e : accs qs = accs pins) : Ok F qs ρ σ H := by
  have ae : Av F qs ρ σ = Av F pins ρ σ := by unfold Av; rw [e]
  exact ⟨O.len, by rw [ae]; exact O.ent, O.own, fun p hp => by rw [ae]; exact O.pin p (h p hp), by rw [e]; exact O.acs, O.fr, O.nh, O.ln, O.h0, O.lf⟩
theorem Ok.popAV {pins : List Pin} {ρ : Rho} {σ : L2.St} {H : Hp} {p : Addr} {xs : List PyData} {pl : List Pin} (O : Ok F (.acc p xs :: (pl ++ pins)) ρ σ H) (h : ∀ p ∈ pl, ∃ v x, p = .val v (.d x)) : Ok F (.acc p xs :: pins) ρ σ H := by
  refine O.sub (fun q hq => ?_) ?_
  · rcases List.mem_cons.mp hq with z | z
    · rw [z]; exact List.mem_cons_self ..
    · exact List.mem_cons_of_mem _ (List.mem_append_right _ z)
  · show p :: accs pins = p :: accs (pl ++ pins)
    rw [accs_app h]
theorem Rel.app {pins : List Pin} {D : Ends} {DD : DEnds} (R : Rel F pins D DD) {pl : List Pin} (h : ∀ p ∈ pl, ∃ v x, p = .val v (.d x)) : Rel F (pl ++ pins) D DD :=
  ⟨fun ρ σ H O q => R.nx ρ σ H (O.popVs h).1 q, fun ρ σ H v r O r1 q => R.rt ρ σ H v r (O.popVs h).1 (by rw [(O.popVs h).2] at r1; exact r1) q, fun ρ σ H O q => R.bk ρ σ H (O.popVs h).1 q, fun ρ σ H O q => R.ct ρ σ H (O.popVs h).1 q, fun ρ σ H p xs O q => R.rl ρ σ H p xs (O.popAV h) q⟩
def dFor (wi : TDI) (g : TDGt) (tb : TDS) : TDS := fun DD ρ => wi ρ fun xs ρ1 => ∃ I : Nat → Rho → Prop, I 0 ρ1 ∧
  (∀ i x ρ, xs[i]? = some x → I i ρ → g (.d x) ρ fun ρ2 => tb { DD with nx := I (i + 1), ct := I (i + 1), bk := DD.nx } ρ2) ∧ ∀ ρ, I xs.length ρ → DD.nx ρ
theorem ds_for {tg iter : Expr} {body : List Stmt} {wi : TI} {dw : TDI} {g : TG} {dg : TDGt} {sl : List Nat} (hp : PassesOwn (model X.prog X.w) X.A X.env X.xe) (hc : X.calm = true) (hi : PDI X F tg iter wi dw) (hg : PDG X F tg g dg sl) (hb : PDSs X F body ts ds) (hf : ∀ i ∈ sl, ¬ F.fix i)
    (hs : ∀ x, foldedSetIterable iter X.env x = pure x := by intro _; rfl) : PDS X F (.For tg iter body [] pos) (tFor wi g ts) (dFor dw dg ds) := by
  refine ⟨?_, fun pins ρ σ H D DD O S R h => ?_⟩
  · first | exact ps_for hp hc hi.pi hg.pg hb.pss | exact ps_for hp hc hi.pi hg.pg hb.pss hs
  refine hi.di.run pins ρ σ H _ O (hi.di.mono _ _ _ (fun xs ρ1 h1 J H1 pl W hpl O1 => ?_) h)
  obtain ⟨I, h0, hturn, hend⟩ := h1
  have hin : ∀ p ∈ pl, p ∈ pl ++ pins := fun p hp => List.mem_append_left _ hp
  have R2 := R.app hpl
  refine ⟨fun i m σ H => ∃ ρ, Ok F (pl ++ pins) ρ σ H ∧ I i ρ ∧ i ≤ xs.length ∧ m = xs.length - i, ⟨_, ρ1, O1, h0, Nat.zero_le _, rfl⟩, ?_⟩
  rintro i m σ2 H2 ⟨ρ2, O2, i2, hle, rfl⟩
  by_cases hlt : i < xs.length
  · refine .inr ⟨W.goes i _ ρ2 σ2 H2 hin hlt O2, fun σ' H' => ∃ ρ', Ok F (pl ++ pins) ρ' σ' H' ∧ I (i + 1) ρ', fun σ' H' ⟨ρ', O', i'⟩ => ⟨xs.length - (i + 1), by omega, ρ', O', i', by omega, rfl⟩, fun x H3 hy => ?_⟩
    obtain ⟨y, ey, O3, im⟩ := W.yld i _ ρ2 σ2 H2 x H3 hin hlt O2 hy
    refine hg.dg.run _ ρ2 σ2 H3 x (.d y) _ _ O3 (fun j hj => (S.app hpl).fr (hf j hj)) im (hturn i y ρ2 ey i2) fun ρ4 σ4 H4 O4 _ q => ?_
    exact hb.ds _ ρ4 σ4 H4 _ { DD with nx := I (i + 1), ct := I (i + 1), bk := DD.nx } O4 (S.app hpl) ⟨fun ρ5 σ5 H5 O5 q => ⟨ρ5, O5, q⟩, R2.rt, R2.nx, fun ρ5 σ5 H5 O5 q => ⟨ρ5, O5, q⟩, R2.rl⟩ q
  · have e : i = xs.length := by omega
    subst e
    exact .inl ⟨W.stops _ ρ2 σ2 H2 hin O2, R2.nx _ _ _ O2 (hend ρ2 i2)⟩
/-! ### comprehensions -/
def dLc (wi : TDI) (g : TDGt) (tt : TDT) (te : TDE) (vs : List Nat) : TDL := fun ρ Q => wi ρ fun xs ρ1 => (∀ i ∈ vs, ρ1[i]? = some none) ∧ ∃ I : Nat → List PyData → Rho → Prop, I 0 [] ρ1 ∧
  (∀ i x acc ρ, xs[i]? = some x → I i acc ρ → g (.d x) ρ fun ρ2 => tt ρ2 fun k ρ3 => if k = true then te ρ3 fun r ρ4 => onDat r fun y => Few (acc.length + 1) ∧ I (i + 1) (acc ++ [y]) (wipeR ρ4 vs) else I (i + 1) acc (wipeR ρ3 vs)) ∧
  ∀ acc ρ, I xs.length acc ρ → Q acc (wipeR ρ vs)
def dYes : TDT := fun ρ Q => Q true ρ
structure PDTs (X : Cx) (F : Fm) (ifs : List Expr) (tt : TT) (td : TDT) : Prop where
  pts : PTs X ifs tt
  dt : DT F tt td
theorem dts_nil : PDTs X F [] tYes dYes := ⟨pts_nil, fun pins ρ σ H Q O h => h H O, fun ρ Q Q' hq h => hq _ _ h⟩
theorem dts_one (h : PDT X F c tt dt) : PDTs X F [c] tt dt := ⟨pts_one h.pt, h.dt⟩
theorem dl_lc {wi : TI} {dw : TDI} {g : TG} {dg : TDGt} {vs : List Nat} (hi : DI F wi dw) (hg : DG F g dg vs) (ht : DT F tt dt) (he : DE F te de) : DL F (tLc wi g tt te vs) (dLc dw dg dt de vs) := by
  constructor
  · intro pins ρ σ H Q O h
    refine hi.run pins ρ σ H _ O (hi.mono _ _ _ (fun xs ρ1 h1 J H1 pl W hpl O1 D hD => ?_) h)
    obtain ⟨hno, I, h0, hturn, hend⟩ := h1
    have hfr : ∀ {p : List Pin}, (∀ q ∈ p, q ∈ pl ++ pins ∨ ∃ a ys, q = .acc a ys) → ∀ i ∈ vs, Fr p i := fun {p} hp i hi v j hm e => by
      subst e
      rcases hp _ hm with z | ⟨a, ys, z⟩
      · obtain ⟨_, x, hx⟩ := O1.pin _ z
        unfold slot at hx
        rw [hno j hi] at hx
        cases hx
      · cases z
    -- the state of a turn: the values pl, the new list, at the wiped slots
    have hin : ∀ acc, ∀ p ∈ pl, p ∈ (Pin.acc D acc :: (pl ++ pins)) := fun acc p hp => List.mem_cons_of_mem _ (List.mem_append_left _ hp)
    have hfr2 : ∀ acc, ∀ i ∈ vs, Fr (Pin.acc D acc :: (pl ++ pins)) i := fun acc => hfr fun q hq => by
      rcases List.mem_cons.mp hq with z | z
      · exact .inr ⟨_, _, z⟩
      · exact .inl z
    have start : Ok F (.acc D [] :: (pl ++ pins)) ρ1 σ (upd H1 D (.lst [])) := O1.pushL hD .nil
    have hw1 : wipeR ρ1 vs = ρ1 := by
      have : ∀ (us : List Nat), (∀ i ∈ us, ρ1[i]? = some none) → wipeR ρ1 us = ρ1 := fun us => by
        induction us with
        | nil => intro _; rfl
        | cons k ks ih =>
          intro hk
          show (wipeR ρ1 ks).set k none = ρ1
          rw [ih fun i hi => hk i (List.mem_cons_of_mem _ hi)]
          apply List.ext_getElem?
          intro n
          by_cases e : k = n
          · subst e
            have := hk k (List.mem_cons_self ..)
            have hl : k < ρ1.length := by
              rcases Nat.lt_or_ge k ρ1.length with z | z
              · exact z
              · rw [List.getElem?_eq_none z] at this; cases this
            rw [List.getElem?_set_self hl, this]
          · rw [List.getElem?_set_ne e]
      exact this vs hno
    have start2 : Ok F (.acc D [] :: (pl ++ pins)) ρ1 (wipe σ vs) (upd H1 D (.lst [])) := by
      have := start.wipe (hfr2 [])
      rw [hw1] at this
      exact this
    refine ⟨fun i m H => ∃ acc ρ, Ok F (.acc D acc :: (pl ++ pins)) ρ (wipe σ vs) H ∧ I i acc ρ ∧ i ≤ xs.length ∧ m = xs.length - i, ⟨_, [], ρ1, start2, h0, Nat.zero_le _, rfl⟩, ?_⟩
    rintro i m H2 ⟨acc, ρ2, O2, i2, hle, rfl⟩
    by_cases hlt : i < xs.length
    · refine .inr ⟨W.goes i _ ρ2 _ H2 (hin acc) hlt O2, fun H' => ∃ acc ρ, Ok F (.acc D acc :: (pl ++ pins)) ρ (wipe σ vs) H' ∧ I (i + 1) acc ρ, fun H' ⟨acc', ρ', O', i'⟩ => ⟨xs.length - (i + 1), by omega, acc', ρ', O', i', by omega, rfl⟩, fun x H3 hy => ?_⟩
      obtain ⟨y, ey, O3, im⟩ := W.yld i _ ρ2 _ H2 x H3 (hin acc) hlt O2 hy
      refine hg.run _ ρ2 _ H3 x (.d y) _ _ O3 (hfr2 acc) im (hturn i y acc ρ2 ey i2) fun ρ4 σ4 H4 O4 so q => ?_
      have hw4 : wipe σ4 vs = wipe σ vs := by
        have := so vs fun _ h => h
        rw [this]
        have idem : ∀ (us : List Nat) (τ : L2.St), (∀ i ∈ us, i ∈ vs) → wipe (wipe σ vs) us = wipe σ vs := fun us => by
          induction us with
          | nil => intro _ _; rfl
          | cons k ks ih =>
            intro τ hk
            show (wipe (wipe σ vs) ks).set k none = wipe σ vs
            rw [ih τ fun i hi => hk i (List.mem_cons_of_mem _ hi)]
            apply List.ext_getElem?
            intro n
            by_cases e : k = n
            · subst e
              have hk1 := hk k (List.mem_cons_self ..)
              by_cases hl : k < (wipe σ vs).length
              · rw [List.getElem?_set_self hl]
                have : ∀ (ws : List Nat), k ∈ ws → k < σ.length → (wipe σ ws)[k]? = some none := fun ws => by
                  induction ws with
                  | nil => intro h _; cases h
                  | cons w ws ih2 =>
                    intro h hl2
                    show ((wipe σ ws).set w none)[k]? = some none
                    by_cases e2 : w = k
                    · subst e2
                      rw [List.getElem?_set_self (by rw [wipe_length]; exact hl2)]
                    · rw [List.getElem?_set_ne e2]
                      rcases List.mem_cons.mp h with z | z
                      · exact absurd z.symm e2
                      · exact ih2 z hl2
                rw [this vs hk1 (by rw [wipe_length] at hl; exact hl)]
              · rw [List.getElem?_eq_none (by rw [List.length_set]; omega), List.getElem?_eq_none (by omega)]
            · rw [List.getElem?_set_ne e]
        exact idem vs σ fun _ h => h
      refine ⟨hw4, ?_⟩
      refine ht.run _ ρ4 σ4 H4 _ O4 (ht.mono _ _ _ (fun k ρ5 h5 H5 O5 => ?_) q)
      cases k with
      | false =>
        have := O5.wipe (hfr2 acc)
        rw [hw4] at this
        exact ⟨acc, _, this, h5⟩
      | true =>
        refine he.run _ ρ5 σ4 H5 _ O5 (he.mono _ _ _ (fun r ρ6 h6 w H6 O6 R6 => ?_) h5)
        cases r with
        | o j => exact h6.elim
        | raw u => exact h6.elim
        | d z =>
          obtain ⟨vsD, hHD, hiD, _, _⟩ := O6.pin _ (List.mem_cons_self ..)
          refine ⟨vsD, hHD, ?_, acc ++ [z], wipeR ρ6 vs, ?_, h6.2⟩
          · have := h6.1
            unfold Few at this
            rw [hiD.length]; omega
          · have O7 := (O6.setAcc (hiD.append (.cons R6 .nil))).wipe (hfr2 (acc ++ [z]))
            rw [hw4] at O7
            exact O7
    · have e : i = xs.length := by omega
      subst e
      refine .inl ⟨W.stops _ ρ2 _ H2 (hin acc) O2, ?_⟩
      have hq := hend acc ρ2 i2
      refine hq D H2 ?_
      have O3 := O2.wipe (hfr2 acc)
      have hww : wipe (wipe σ vs) vs = wipe (wipe σ vs) vs := rfl
      have O4 : Ok F (.acc D acc :: (pl ++ pins)) (wipeR ρ2 vs) σ H2 := by
        refine Ok.unwipe (vs := vs) (Ok.unwipe (vs := vs) O3 ?_) ?_
        all_goals
          intro i hi
          by_cases hl : i < ρ2.length
          · exact .inl (wipeR_none hi hl)
          · exact .inr (List.getElem?_eq_none (by rw [wipeR_len]; omega))
      refine O4.sub (fun p hp => ?_) (by show D :: accs pins = D :: accs (pl ++ pins); rw [accs_app hpl])
      rcases List.mem_cons.mp hp with z | z
      · exact z ▸ List.mem_cons_self ..
      · exact List.mem_cons_of_mem _ (List.mem_append_right _ z)
  · intro ρ Q Q' hq h
    refine hi.mono _ _ _ (fun xs ρ1 h1 => ?_) h
    obtain ⟨hno, I, h0, hturn, hend⟩ := h1
    exact ⟨hno, I, h0, hturn, fun acc ρ i => hq _ _ (hend acc ρ i)⟩
end
end DV
namespace DV
open PySem PySem.Spec PyProof.Rows L2
section
variable {X : Cx} {F : Fm} {a b c e : Expr} {es : List Expr} {ta tb tc te : TE} {da db dc de : TDE} {dl : TDL} {pos : Pos} {t : TA} {d : TDA} {tt tu : TT} {dt du : TDT}
/-! ## calls of defs -/
/-- what a def's parameter is handed: data that nobody changes (d), or a list that is read alone (ro) -/
inductive Kd
  | d | ro
def ArgOk (K : PySem.W.Frag) (N Z : Addr → Prop) (H : Hp) : Kd → PyData → V → Prop
  | .d, x, v => Im K N H x v
  | .ro, x, v => Im K N H x v ∨ ∃ a us xs, v = .ref a ∧ x = .list xs ∧ ((Rd H a (.lst us) ∧ ¬ Z a) ∨ SqL K (fun _ => none) a us) ∧ ImAll K N H xs us
def ArgsOk (K : PySem.W.Frag) (N Z : Addr → Prop) (H : Hp) : List Kd → List PyData → List V → Prop
  | k :: ks, x :: xs, vs => ∃ v us, vs = v :: us ∧ ArgOk K N Z H k x v ∧ ArgsOk K N Z H ks xs us
  | [], [], vs => vs = []
  | _, _, _ => False
def noZ : Addr → Prop := fun _ => False
abbrev Sd := List PyData → (PyData → Prop) → Prop
/-- the promise of a def that changes nothing -/
def spP (K : PySem.W.Frag) (ks : List Kd) (S : Sd) : Sp := fun vs H Q _ => ∃ (N : Addr → Prop) (xs : List PyData), (∀ a, N a → ∃ o, H a = some o) ∧ ArgsOk K N noZ H ks xs vs ∧
  S xs fun z => ∀ v H', (∀ a o, H a = some o → H' a = some o) → Im K N H' z v → Q v H'
abbrev Sb := List PyData → List PyData → (PyData → List PyData → Prop) → Prop
/-- of one that changes its first argument, a list, alone -/
def spB (K : PySem.W.Frag) (ks : List Kd) (S : Sb) : Sp := fun vs H Q _ => ∃ (N : Addr → Prop) (B : Addr) (bvs ws : List V) (bag xs : List PyData), vs = .ref B :: ws ∧ N B ∧ (∀ a, N a → ∃ o, H a = some o) ∧ H B = some (.lst bvs) ∧ ImAll K N H bag bvs ∧ ArgsOk K N (fun a => a = B) H ks xs ws ∧
  S bag xs fun z bag' => ∀ v H' bvs', (∀ a o, a ≠ B → H a = some o → H' a = some o) → H' B = some (.lst bvs') → ImAll K N H' bag' bvs' → Im K N H' z v → Q v H'
def dats2 (ρ : Rho) : List Kd → List R → Option (List PyData)
  | .d :: ks, .d x :: rs => (dats2 ρ ks rs).map (x :: ·)
  | .ro :: ks, r :: rs => match val ρ r, dats2 ρ ks rs with
    | some x, some xs => some (x :: xs)
    | _, _ => none
  | [], [] => some []
  | _, _ => none
theorem ro_arg {Z : Addr → Prop} {pins : List Pin} {ρ : Rho} {σ : L2.St} {H : Hp} (O : Ok F pins ρ σ H) {r : R} {v : V} {x : PyData} (h2 : ∀ a, Z a → F.L a ∨ F.H0 a = none) (h1 : ∀ j a, r = .o j → OwnAt ρ σ j a → ¬ Z a)
    (h : ROk F (Av F pins ρ σ) ρ σ H r v) (hv : val ρ r = some x) : ArgOk F.K (Av F pins ρ σ) Z H .ro x v := by
  have ro : ∀ {x : PyData} {v : V}, RoOk F (Av F pins ρ σ) H x v → ArgOk F.K (Av F pins ρ σ) Z H .ro x v := by
    rintro x v (h | ⟨a, us, xs, e, e2, l, t⟩)
    · exact .inl h
    · refine .inr ⟨a, us, xs, e, e2, ?_, t⟩
      rcases l with ⟨l, n⟩ | l
      · refine .inl ⟨?_, fun z => ?_⟩
        · rcases l with l | ⟨o, l⟩
          · exact .inl (O.fr _ _ n l)
          · exact .inr ⟨o, O.fr _ _ n l⟩
        · rcases h2 a z with z | z
          · exact n z
          · rcases l with l | ⟨o, l⟩
            · rw [z] at l; cases l
            · rw [z] at l; cases l
      · exact .inr l
  cases r with
  | d y => cases hv; exact .inl h
  | raw u => cases hv
  | o i =>
    have g1 := h.1
    have hv : slot ρ i = some x := hv
    unfold slot at hv
    split at hv
    · rename_i y e; cases hv
      obtain ⟨u, g2, g3⟩ := O.ent i _ e
      rw [g1] at g2; cases g2
      exact .inl g3
    · rename_i ys e; cases hv
      obtain ⟨p, vs, g2, g3, g4, g5⟩ := O.ownGet e
      rw [g1] at g2; cases g2
      exact .inr ⟨p, vs, ys, rfl, rfl, .inl ⟨.inl g3, h1 i p rfl g5⟩, g4⟩
    · rename_i y e; cases hv
      obtain ⟨u, g2, g3⟩ := O.ent i _ e
      rw [g1] at g2; cases g2
      exact ro g3
    · cases hv
theorem args_ok {Z : Addr → Prop} {pins : List Pin} {ρ : Rho} {σ : L2.St} {H : Hp} (O : Ok F pins ρ σ H) (h2 : ∀ a, Z a → F.L a ∨ F.H0 a = none) : ∀ {ks : List Kd} {rs : List R} {vs : List V} {xs : List PyData}, (∀ r ∈ rs, ∀ j a, r = .o j → OwnAt ρ σ j a → ¬ Z a) → ROks F (Av F pins ρ σ) ρ σ H rs vs → dats2 ρ ks rs = some xs → ArgsOk F.K (Av F pins ρ σ) Z H ks xs vs
  | [], [], vs, xs, _, h, e => by
    simp only [ROks] at h; simp only [dats2] at e; cases e
    simp only [ArgsOk]; exact h
  | .d :: ks, .d x :: rs, vs, xs, hz, h, e => by
    simp only [ROks] at h
    obtain ⟨v, us, rfl, h1, h3⟩ := h
    simp only [dats2] at e
    cases e1 : dats2 ρ ks rs with
    | none => rw [e1] at e; cases e
    | some ys =>
      rw [e1] at e; cases e
      simp only [ArgsOk]
      exact ⟨v, us, rfl, h1, args_ok O h2 (fun r hr => hz r (List.mem_cons_of_mem _ hr)) h3 e1⟩
  | .ro :: ks, r :: rs, vs, xs, hz, h, e => by
    simp only [ROks] at h
    obtain ⟨v, us, rfl, h1, h3⟩ := h
    simp only [dats2] at e
    cases e0 : val ρ r with
    | none => rw [e0] at e; cases e
    | some x =>
      cases e1 : dats2 ρ ks rs with
      | none => rw [e0, e1] at e; cases e
      | some ys =>
        rw [e0, e1] at e; cases e
        simp only [ArgsOk]
        exact ⟨v, us, rfl, ro_arg O h2 (hz r (List.mem_cons_self ..)) h1 e0, args_ok O h2 (fun r hr => hz r (List.mem_cons_of_mem _ hr)) h3 e1⟩
  | [], _ :: _, _, _, _, _, e => by simp only [dats2] at e; cases e
  | .d :: _, [], _, _, _, _, e => by simp only [dats2] at e; cases e
  | .ro :: _, [], _, _, _, _, e => by simp only [dats2] at e; cases e
  | .d :: _, .o _ :: _, _, _, _, _, e => by simp only [dats2] at e; cases e
  | .d :: _, .raw _ :: _, _, _, _, _, e => by simp only [dats2] at e; cases e
def onArgs (ρ : Rho) (ks : List Kd) (rs : List R) (f : List PyData → Prop) : Prop := match dats2 ρ ks rs with
  | some xs => f xs
  | _ => False
theorem onArgs_of {ρ : Rho} {ks : List Kd} {rs : List R} {f : List PyData → Prop} (h : onArgs ρ ks rs f) : ∃ xs, dats2 ρ ks rs = some xs ∧ f xs := by
  unfold onArgs at h
  split at h
  · exact ⟨_, by assumption, h⟩
  · exact h.elim
theorem onArgs_mono {ρ : Rho} {ks : List Kd} {rs : List R} {f g : List PyData → Prop} (h : onArgs ρ ks rs f) (k : ∀ xs, f xs → g xs) : onArgs ρ ks rs g := by
  unfold onArgs at h ⊢
  split at h
  · exact k _ h
  · exact h.elim
def MonoP (S : Sd) : Prop := ∀ xs Q Q', (∀ z, Q z → Q' z) → S xs Q → S xs Q'
def MonoB (S : Sb) : Prop := ∀ bag xs Q Q', (∀ z b, Q z b → Q' z b) → S bag xs Q → S bag xs Q'
def dCallP (ks : List Kd) (S : Sd) (t : TDA) : TDE := fun ρ Q => t ρ fun rs ρ1 => onArgs ρ1 ks rs fun xs => S xs fun z => Q (.d z) ρ1
theorem de_callP {ks : List Kd} {S : Sd} {E : XK} (hS : MonoP S) (h : DA F t d) : DE F (fun σ H Q => t σ H fun vs H1 => spP F.K ks S vs H1 Q E) (dCallP ks S d) := by
  constructor
  · intro pins ρ σ H Q O hq
    refine h.run pins ρ σ H _ O (h.mono _ _ _ (fun rs ρ1 h1 vs H1 O1 R1 => ?_) hq)
    obtain ⟨xs, e, h2⟩ := onArgs_of h1
    refine ⟨Av F pins ρ1 σ, xs, fun a ha => O1.avH ha, args_ok O1 (fun a z => z.elim) (fun _ _ _ _ _ _ z => z) R1 e, hS _ _ _ (fun z q v H' g im => ?_) h2⟩
    exact q v H' (O1.heap g) im
  · intro ρ Q Q' hq hh
    exact h.mono _ _ _ (fun rs ρ1 h1 => onArgs_mono h1 fun xs h2 => hS _ _ _ (fun z => hq _ _) h2) hh
theorem pd_callP {ks : List Kd} {S : Sd} {k : Nat} {f : Addr} {fd : FuncData} {ps : List Str} {x : Str} {p : Pos} (G : FnG X.prog X.w X.K X.mg X.base CX0 k f fd ps (spP F.K ks S)) (hS : MonoP S) (hr : Room k X.A) (hgd : X.A.guards = some []) (hg : Gl X x) (hm : X.mg x = some (.ref f)) (hk : PySem.W.keepIn X.K (.ref f) = true) (hb : Binds X.K fd ps [])
    (ha : PDA X F (e :: es) t d) (hdb : (x == ("__debug__" : Str)) = false := by decide) (he : starEach (e :: es) X.env = (false, eval e X.env) :: starEach es X.env := by rfl) (hpl : (backTo pos (starEach es X.env)).any (·.1) = false := by rfl) :
    PD X F (.Call (.Name x p) (e :: es) [] pos) (fun σ H Q => t σ H fun vs H1 => spP F.K ks S vs H1 Q E0) (dCallP ks S d) :=
  ⟨pe_callG G hr hgd hg hm hk hb ha.pa hdb he hpl, de_callP hS ha.da⟩
def noSelf (i : Nat) : List R → Prop
  | [] => True
  | .o j :: rs => j ≠ i ∧ noSelf i rs
  | _ :: rs => noSelf i rs
theorem noSelf_mem {i : Nat} : ∀ {rs : List R}, noSelf i rs → ∀ r ∈ rs, ∀ j, r = .o j → j ≠ i
  | .o k :: rs, h, r, hr, j, e => by
    rcases List.mem_cons.mp hr with z | z
    · rw [z] at e; cases e; exact h.1
    · exact noSelf_mem h.2 r z j e
  | .d _ :: rs, h, r, hr, j, e => by
    rcases List.mem_cons.mp hr with z | z
    · rw [z] at e; cases e
    · exact noSelf_mem (show noSelf i rs from h) r z j e
  | .raw _ :: rs, h, r, hr, j, e => by
    rcases List.mem_cons.mp hr with z | z
    · rw [z] at e; cases e
    · exact noSelf_mem (show noSelf i rs from h) r z j e
/-- f(bag, ..): the first argument the own list at slot i -/
def dCallB (ks : List Kd) (S : Sb) (t : TDA) : TDE := fun ρ Q => t ρ fun rs ρ1 => match rs with
  | .o i :: rs => noSelf i rs ∧ onOwn ρ1 i fun bag => onArgs ρ1 ks rs fun xs => S bag xs fun z bag' => Q (.d z) (ρ1.set i (some (.own bag')))
  | _ => False
theorem Ok.lent {pins : List Pin} {ρ : Rho} {σ : L2.St} {H H' : Hp} (O : Ok F pins ρ σ H) {i : Nat} {B : Addr} {vs : List V} {ys : List PyData} (h : OwnAt ρ σ i B) (g : ∀ a o, a ≠ B → H a = some o → H' a = some o) (hB : H' B = some (.lst vs)) (hv : ImAll F.K (Av F pins ρ σ) H' ys vs) :
    Ok F pins (ρ.set i (some (.own ys))) σ H' ∧ Av F pins (ρ.set i (some (.own ys))) σ = Av F pins ρ σ := by
  have ae : Av F pins (ρ.set i (some (.own ys))) σ = Av F pins ρ σ := by
    funext b
    unfold Av
    simp only [setOwn_iff (xs := ys) h]
  have aB : Av F pins ρ σ B := .inr (.inl ⟨i, h⟩)
  have G : Go (Av F pins ρ σ) (Av F pins ρ σ) H H' := ⟨fun a o n e => g a o (fun z => n (by rw [z]; exact aB)) e, fun a z => .inl z⟩
  -- first a heap with an empty list at B, then the heap H'
  have O1 := O.setOwn (xs := []) (vs := []) h .nil
  have ae1 : Av F pins (ρ.set i (some (.own []))) σ = Av F pins ρ σ := by
    funext b
    unfold Av
    simp only [setOwn_iff (xs := []) h]
  have hi : i < ρ.length := by
    obtain ⟨⟨zs, h1⟩, _⟩ := h
    rcases Nat.lt_or_ge i ρ.length with z | z
    · exact z
    · rw [List.getElem?_eq_none z] at h1; cases h1
  refine ⟨?_, ae⟩
  refine ⟨by rw [List.length_set]; exact O.len, fun j f hj => ?_, fun j k b z1 z2 => O.own j k b ((setOwn_iff h j b).mp z1) ((setOwn_iff h k b).mp z2), fun p hp => ?_, O.acs, fun b o n e => ?_, fun b z => ?_, O.ln, O.h0, fun j b z => O.lf j b ((setOwn_iff h j b).mp z)⟩
  · rw [ae]
    rcases getset hj with ⟨rfl, q, hl⟩ | ⟨ne, q⟩
    · cases q
      obtain ⟨_, _, hl⟩ := O.ownL h
      exact ⟨.ref B, h.2, B, vs, rfl, hB, hv, hl⟩
    · obtain ⟨v, h3, h4⟩ := O.ent j f q
      refine ⟨v, h3, EntOk.go G h4 fun b us ev hb ⟨zs, ex⟩ => ?_⟩
      subst ev ex
      exact g b _ (fun z => ne (O.own j i B (by subst z; exact ⟨⟨zs, q⟩, h3⟩) h)) hb
  · rw [ae]
    have hq := O.pin p hp
    cases p with
    | val v r =>
      cases r with
      | d x => exact Im.go G hq
      | o j =>
        refine ⟨hq.1, ?_⟩
        by_cases e2 : j = i
        · subst e2
          exact ⟨.list ys, by unfold slot; rw [List.getElem?_set_self hi]⟩
        · obtain ⟨x, hx2⟩ := hq.2
          exact ⟨x, by rw [slot_ne e2]; exact hx2⟩
      | raw u => exact hq
    | acc b zs =>
      obtain ⟨us, h3, h4, h5, h6⟩ := hq
      exact ⟨us, g b _ (fun z => h6 (by subst z; exact ⟨i, h⟩)) h3, h4.go G, h5, fun ⟨j, z⟩ => h6 ⟨j, (setOwn_iff h j b).mp z⟩⟩
  · obtain ⟨_, _, hl⟩ := O.ownL h
    refine g b o (fun z => ?_) (O.fr b o n e)
    subst z
    rcases hl with hl | hl
    · exact n hl
    · rw [hl] at e; cases e
  · by_cases e : b = B
    · subst e; exact ⟨_, hB⟩
    · obtain ⟨o, z⟩ := O.nh b z
      exact ⟨o, g b o e z⟩
theorem de_callB {ks : List Kd} {S : Sb} {E : XK} (hS : MonoB S) (h : DA F t d) : DE F (fun σ H Q => t σ H fun vs H1 => spB F.K ks S vs H1 Q E) (dCallB ks S d) := by
  constructor
  · intro pins ρ σ H Q O hq
    refine h.run pins ρ σ H _ O (h.mono _ _ _ (fun rs ρ1 h1 vs H1 O1 R1 => ?_) hq)
    cases rs with
    | nil => exact h1.elim
    | cons r rs =>
      cases r with
      | d x => exact h1.elim
      | raw u => exact h1.elim
      | o i =>
        obtain ⟨hns, h1⟩ := h1
        obtain ⟨bag, e0, h2⟩ := onOwn_of h1
        obtain ⟨xs, e, h3⟩ := onArgs_of h2
        simp only [ROks] at R1
        obtain ⟨v, us, rfl, R0, R1⟩ := R1
        obtain ⟨B, bvs, g1, g2, g3, g4⟩ := O1.ownGet e0
        have := R0.1
        rw [g1] at this; cases this
        refine ⟨Av F pins ρ1 σ, B, bvs, us, bag, xs, rfl, .inr (.inl ⟨i, g4⟩), fun a ha => O1.avH ha, g2, g3, args_ok O1 (fun a z => by obtain ⟨_, _, hl⟩ := O1.ownL g4; rw [z]; exact hl) (fun r hr j a e z ea => noSelf_mem hns r hr j e (O1.own j i B (by rw [← ea]; exact z) g4)) R1 e, hS _ _ _ _ (fun z bag' q v H' bvs' g hB hv im => ?_) h3⟩
        obtain ⟨O2, ae⟩ := O1.lent g4 g hB hv
        exact q v H' O2 (by show Im F.K (Av F pins (ρ1.set i (some (.own bag'))) σ) H' z v; rw [ae]; exact im)
  · intro ρ Q Q' hq hh
    refine h.mono _ _ _ (fun rs ρ1 h1 => ?_) hh
    cases rs with
    | nil => exact h1.elim
    | cons r rs =>
      cases r with
      | d x => exact h1.elim
      | raw u => exact h1.elim
      | o i => exact ⟨h1.1, onOwn_mono h1.2 fun bag h2 => onArgs_mono h2 fun xs h3 => hS _ _ _ _ (fun z b => hq _ _) h3⟩
theorem pd_callBag {ks : List Kd} {S : Sb} {k : Nat} {f : Addr} {fd : FuncData} {ps : List Str} {x : Str} {p : Pos} (G : FnG X.prog X.w X.K X.mg X.base CX0 k f fd ps (spB F.K ks S)) (hS : MonoB S) (hr : Room k X.A) (hgd : X.A.guards = some []) (hg : Gl X x) (hm : X.mg x = some (.ref f)) (hk : PySem.W.keepIn X.K (.ref f) = true) (hb : Binds X.K fd ps [])
    (ha : PDA X F (e :: es) t d) (hdb : (x == ("__debug__" : Str)) = false := by decide) (he : starEach (e :: es) X.env = (false, eval e X.env) :: starEach es X.env := by rfl) (hpl : (backTo pos (starEach es X.env)).any (·.1) = false := by rfl) :
    PD X F (.Call (.Name x p) (e :: es) [] pos) (fun σ H Q => t σ H fun vs H1 => spB F.K ks S vs H1 Q E0) (dCallB ks S d) :=
  ⟨pe_callG G hr hgd hg hm hk hb ha.pa hdb he hpl, de_callB hS ha.da⟩
end
/-! ## a def's body -/
def entOf : Kd → PyData → Ent
  | .d, x => .d x
  | .ro, x => .ro x
def rhoP (n : Nat) (ks : List Kd) (xs : List PyData) : Rho := (ks.zip xs).map (fun p => some (entOf p.1 p.2)) ++ List.replicate (n - xs.length) none
def frP (K : PySem.W.Frag) (H : Hp) (N : Addr → Prop) : Fm := ⟨K, H, N, fun _ => False, fun _ => False⟩
def frB (K : PySem.W.Frag) (H : Hp) (N : Addr → Prop) (B : Addr) : Fm := ⟨K, H, N, fun a => a = B, fun i => i = 0⟩
theorem ArgsOk.len {K : PySem.W.Frag} {N Z : Addr → Prop} {H : Hp} : ∀ {ks : List Kd} {xs : List PyData} {vs : List V}, ArgsOk K N Z H ks xs vs → vs.length = ks.length ∧ xs.length = ks.length
  | [], [], _, h => by simp only [ArgsOk] at h; subst h; exact ⟨rfl, rfl⟩
  | k :: ks, x :: xs, _, h => by
    simp only [ArgsOk] at h
    obtain ⟨v, us, rfl, _, h2⟩ := h
    obtain ⟨e1, e2⟩ := ArgsOk.len h2
    exact ⟨by simp [e1], by simp [e2]⟩
  | [], _ :: _, _, h => by simp only [ArgsOk] at h
  | _ :: _, [], _, h => by simp only [ArgsOk] at h
theorem ArgsOk.at {K : PySem.W.Frag} {N Z : Addr → Prop} {H : Hp} : ∀ {ks : List Kd} {xs : List PyData} {vs : List V} {i : Nat} {e : Ent}, ArgsOk K N Z H ks xs vs → ((ks.zip xs).map (fun p => some (entOf p.1 p.2)))[i]? = some (some e) → ∃ k x v, e = entOf k x ∧ vs[i]? = some v ∧ ArgOk K N Z H k x v
  | [], [], _, _, _, _, h => by simp at h
  | k :: ks, x :: xs, _, 0, e, h, he => by
    simp only [ArgsOk] at h
    obtain ⟨v, us, rfl, h1, _⟩ := h
    simp at he
    exact ⟨k, x, v, he.symm, rfl, h1⟩
  | k :: ks, x :: xs, _, i + 1, e, h, he => by
    simp only [ArgsOk] at h
    obtain ⟨v, us, rfl, _, h2⟩ := h
    obtain ⟨k', x', v', g1, g2, g3⟩ := ArgsOk.at (i := i) h2 (by simpa using he)
    exact ⟨k', x', v', g1, by simpa using g2, g3⟩
  | [], _ :: _, _, _, _, h, _ => by simp only [ArgsOk] at h
  | _ :: _, [], _, _, _, h, _ => by simp only [ArgsOk] at h
end DV
namespace DV
open PySem PySem.Spec PyProof.Rows L2
theorem rhoP_len {n : Nat} {ks : List Kd} {xs : List PyData} (h : xs.length = ks.length) (hn : ks.length ≤ n) : (rhoP n ks xs).length = n := by
  unfold rhoP
  rw [List.length_append, List.length_map, List.length_zip, List.length_replicate]
  omega
theorem rhoP_some {n : Nat} {ks : List Kd} {xs : List PyData} {i : Nat} {e : Ent} (h : (rhoP n ks xs)[i]? = some (some e)) : ((ks.zip xs).map (fun p => some (entOf p.1 p.2)))[i]? = some (some e) := by
  unfold rhoP at h
  by_cases hi : i < ((ks.zip xs).map (fun p => some (entOf p.1 p.2))).length
  · rw [List.getElem?_append_left hi] at h; exact h
  · rw [List.getElem?_append_right (by omega), List.getElem?_replicate] at h
    split at h <;> cases h
theorem arg_ent {K : PySem.W.Frag} {N A Z : Addr → Prop} {H : Hp} {F : Fm} (hF : F.K = K) (hH : F.H0 = H) (hL : ∀ a, F.L a → Z a) (hA : ∀ a, A a → N a) {k : Kd} {x : PyData} {v : V} (h : ArgOk K N Z H k x v) : EntOk F A H (entOf k x) v := by
  subst hF hH
  have G : Go N A F.H0 F.H0 := ⟨fun a o _ e => e, fun a z => .inl (hA a z)⟩
  cases k with
  | d => exact Im.go G h
  | ro =>
    rcases h with h | ⟨a, us, xs, e, e2, l, t⟩
    · exact .inl (Im.go G h)
    · refine .inr ⟨a, us, xs, e, e2, ?_, t.go G⟩
      rcases l with ⟨l, n⟩ | l
      · exact .inl ⟨l, fun z => n (hL a z)⟩
      · exact .inr l
def retP (r : R) (ρ : Rho) (Q : PyData → Prop) : Prop := match r with
  | .d z => Q z
  | .o i => onOwn ρ i fun xs => Q (.list xs)
  | .raw _ => False
def retB (r : R) (ρ : Rho) (Q : PyData → List PyData → Prop) : Prop := onOwn ρ 0 fun bag => match r with
  | .d z => Q z bag
  | .o (i + 1) => onOwn ρ (i + 1) fun xs => Q (.list xs) bag
  | _ => False
theorem fixP {K : PySem.W.Frag} {H : Hp} {N : Addr → Prop} {i : Nat} : ¬ (frP K H N).fix i := fun z => z
theorem fixB {K : PySem.W.Frag} {H : Hp} {N : Addr → Prop} {B : Addr} {i : Nat} (h : i ≠ 0) : ¬ (frB K H N B).fix i := h
theorem nofixP {K : PySem.W.Frag} {H : Hp} {N : Addr → Prop} {l : List Nat} : ∀ i ∈ l, ¬ (frP K H N).fix i := fun _ _ z => z
theorem nofixB {K : PySem.W.Frag} {H : Hp} {N : Addr → Prop} {B : Addr} {l : List Nat} (h : ∀ i ∈ l, i ≠ 0) : ∀ i ∈ l, ¬ (frB K H N B).fix i := h
section
variable {P : Program} {w : World} {K : PySem.W.Frag} {mg : Str → Option Value} {base : Heap}
theorem fnP {x qual : Str} {st : Stmt} {f : Addr} {fd : FuncData} {N ps : List Str} {k : Nat} {ks : List Kd} {S : Sd} (W : Fun K x qual st f fd) (Sc : FnScope N ps (defScope st)) (hks : ks.length = ps.length)
    (body : ∀ (cdv : Value) (A : Around) (out : List Env) (s : Shared) (H : Hp) (E : XK) (Nn : Addr → Prop), Room k (A.deeper (envOfC qual (defScope st) s.heap.objs.size f cdv)) → A.guards = some [] →
      ∃ ts tds, PDSs (cxOf CX0 P w K mg base N qual (defScope st) f cdv A out s H E).nox (frP K H Nn) (defBody st) ts tds ∧
        ∀ xs Q, xs.length = ks.length → S xs Q → tds { nx := fun _ => Q .none, rt := fun r ρ => retP r ρ Q } (rhoP N.length ks xs)) : FnG P w K mg base CX0 (k + 1) f fd ps (spP K ks S) := by
  have hpl : ps.length ≤ N.length := by have := congrArg List.length Sc.pre; rw [List.length_take] at this; omega
  refine fg_of W Sc (fun vs H Q E h => ?_) fun cdv A out s H vs Q E hr hgd h => ?_
  · obtain ⟨Nn, xs, _, ha, _⟩ := h
    rw [ha.len.1, hks]
  obtain ⟨Nn, xs, hN, ha, hS⟩ := h
  obtain ⟨ts, tds, hb, hq⟩ := body cdv A out s H E Nn hr hgd
  refine ⟨ts, hb.pss, ?_⟩
  have hl := ha.len
  have noOwn : ∀ i a, ¬ OwnAt (rhoP N.length ks xs) (L2.start N vs) i a := by
    rintro i a ⟨⟨ys, h1⟩, _⟩
    obtain ⟨k, x, v, e, _⟩ := ha.at (rhoP_some h1)
    cases k <;> cases e
  have O : Ok (frP K H Nn) [] (rhoP N.length ks xs) (L2.start N vs) H := by
    refine ⟨?_, fun i e h1 => ?_, fun i j a h1 _ => absurd h1 (noOwn i a), fun p hp => (nomatch hp), .nil, fun a o _ e => e, hN, fun a h => h.elim, hN, fun i a _ h => h.elim⟩
    · rw [rhoP_len hl.2 (by rw [hks]; exact hpl)]
      unfold L2.start
      rw [List.length_append, List.length_map, List.length_replicate]
      omega
    · obtain ⟨k, x, v, rfl, h2, h3⟩ := ha.at (rhoP_some h1)
      refine ⟨v, ?_, arg_ent (N := Nn) rfl rfl (fun a z => z) (fun a z => ?_) h3⟩
      · have hi : i < vs.length := by
          rcases Nat.lt_or_ge i vs.length with z | z
          · exact z
          · rw [List.getElem?_eq_none z] at h2; cases h2
        unfold L2.start
        rw [List.getElem?_append_left (by simpa using hi), List.getElem?_map, h2]; rfl
      · rcases z with z | ⟨j, z⟩ | z
        · exact z
        · exact absurd z (noOwn j a)
        · cases z
  refine hb.ds [] _ _ H _ _ O (fun v j hp => nomatch hp) ⟨fun ρ σ H' O' q => ?_, fun ρ σ H' v r O' R' q => ?_, fun _ _ _ _ q => False.elim q, fun _ _ _ _ q => False.elim q, fun _ _ _ _ _ _ q => False.elim q⟩ (hq xs _ hl.2 hS)
  · exact q .non H' (fun a o e => O'.fr a o (fun z => z) e) .none
  · have G : Go (Av (frP K H Nn) [] ρ σ) Nn H' H' := ⟨fun _ _ _ e => e, fun a z => .inl (.inl z)⟩
    have fr : ∀ a o, H a = some o → H' a = some o := fun a o e => O'.fr a o (fun z => z) e
    cases r with
    | d z => exact q v H' fr (Im.go G R')
    | raw u => exact q.elim
    | o i =>
      obtain ⟨ys, e, q⟩ := onOwn_of q
      obtain ⟨p, us, h1, h2, h3, h4⟩ := O'.ownGet e
      have := R'.1
      rw [h1] at this; cases this
      refine q _ H' fr ?_
      simp only [Im]
      refine ⟨p, us, rfl, ⟨h2, fun z => ?_⟩, h3.go G⟩
      obtain ⟨_, _, hl⟩ := O'.ownL h4
      rcases hl with hl | hl
      · exact hl
      · obtain ⟨o, e⟩ := hN p z
        have hl : H p = none := hl
        rw [hl] at e; cases e
theorem fnB {x qual : Str} {st : Stmt} {f : Addr} {fd : FuncData} {N ps : List Str} {k : Nat} {ks : List Kd} {S : Sb} (W : Fun K x qual st f fd) (Sc : FnScope N ps (defScope st)) (hks : ks.length + 1 = ps.length)
    (body : ∀ (cdv : Value) (A : Around) (out : List Env) (s : Shared) (H : Hp) (E : XK) (Nn : Addr → Prop) (B : Addr), Room k (A.deeper (envOfC qual (defScope st) s.heap.objs.size f cdv)) → A.guards = some [] →
      ∃ ts tds, PDSs (cxOf CX0 P w K mg base N qual (defScope st) f cdv A out s H E).nox (frB K H Nn B) (defBody st) ts tds ∧
        ∀ bag xs Q, xs.length = ks.length → S bag xs Q → tds { nx := fun ρ => retB (.d .none) ρ Q, rt := fun r ρ => retB r ρ Q } (some (.own bag) :: rhoP (N.length - 1) ks xs)) : FnG P w K mg base CX0 (k + 1) f fd ps (spB K ks S) := by
  have hpl : ps.length ≤ N.length := by have := congrArg List.length Sc.pre; rw [List.length_take] at this; omega
  refine fg_of W Sc (fun vs H Q E h => ?_) fun cdv A out s H vs Q E hr hgd h => ?_
  · obtain ⟨Nn, B, bvs, ws, bag, xs, rfl, _, _, _, _, ha, _⟩ := h
    rw [List.length_cons, ha.len.1, hks]
  obtain ⟨Nn, B, bvs, ws, bag, xs, rfl, hNB, hN, hB, hbag, ha, hS⟩ := h
  obtain ⟨ts, tds, hb, hq⟩ := body cdv A out s H E Nn B hr hgd
  refine ⟨ts, hb.pss, ?_⟩
  have hl := ha.len
  have own0 : ∀ i a, OwnAt (some (.own bag) :: rhoP (N.length - 1) ks xs) (L2.start N (.ref B :: ws)) i a → i = 0 ∧ a = B := by
    rintro i a ⟨⟨ys, h1⟩, h2⟩
    cases i with
    | zero =>
      have h2 : some (some (V.ref B)) = some (some (V.ref a)) := h2
      cases h2; exact ⟨rfl, rfl⟩
    | succ i =>
      obtain ⟨k, x, v, e, _⟩ := ha.at (rhoP_some (show (rhoP (N.length - 1) ks xs)[i]? = some (some (.own ys)) by simpa using h1))
      cases k <;> cases e
  have at0 : OwnAt (some (.own bag) :: rhoP (N.length - 1) ks xs) (L2.start N (.ref B :: ws)) 0 B := ⟨⟨bag, rfl⟩, rfl⟩
  have avN : ∀ a, Av (frB K H Nn B) [.val (.ref B) (.o 0)] (some (.own bag) :: rhoP (N.length - 1) ks xs) (L2.start N (.ref B :: ws)) a → Nn a := by
    rintro a (z | ⟨j, z⟩ | z)
    · exact z
    · rw [(own0 j a z).2]; exact hNB
    · cases z
  have G0 : Go Nn (Av (frB K H Nn B) [.val (.ref B) (.o 0)] (some (.own bag) :: rhoP (N.length - 1) ks xs) (L2.start N (.ref B :: ws))) H H := ⟨fun _ _ _ e => e, fun a z => .inl (avN a z)⟩
  have O : Ok (frB K H Nn B) [.val (.ref B) (.o 0)] (some (.own bag) :: rhoP (N.length - 1) ks xs) (L2.start N (.ref B :: ws)) H := by
    refine ⟨?_, fun i e h1 => ?_, fun i j a h1 h2 => (own0 i a h1).1.trans (own0 j a h2).1.symm, fun p hp => ?_, .nil, fun a o _ e => e, hN, fun a h => ?_, hN, fun i a h _ => (own0 i a h).1⟩
    · rw [List.length_cons, rhoP_len hl.2 (by omega)]
      unfold L2.start
      rw [List.length_append, List.length_map, List.length_replicate, List.length_cons]
      omega
    · cases i with
      | zero =>
        have h1 : some (some (Ent.own bag)) = some (some e) := h1
        cases h1
        exact ⟨.ref B, rfl, B, bvs, rfl, hB, hbag.go G0, .inl rfl⟩
      | succ i =>
        obtain ⟨k, x, v, rfl, h2, h3⟩ := ha.at (rhoP_some (show (rhoP (N.length - 1) ks xs)[i]? = some (some e) by simpa using h1))
        refine ⟨v, ?_, ?_⟩
        · have hi : i < ws.length := by
            rcases Nat.lt_or_ge i ws.length with z | z
            · exact z
            · rw [List.getElem?_eq_none z] at h2; cases h2
          unfold L2.start
          rw [List.getElem?_append_left (by simpa using hi), List.getElem?_map]
          show (ws[i]?).map some = some (some v)
          rw [h2]; rfl
        · exact arg_ent (N := Nn) rfl rfl (fun a z => z) avN h3
    · rcases List.mem_cons.mp hp with rfl | hp
      · exact ⟨rfl, .list bag, rfl⟩
      · cases hp
    · rw [h]; exact hNB
  refine hb.ds [.val (.ref B) (.o 0)] _ _ H _ _ O (fun v j hp => ?_) ⟨fun ρ σ H' O' q => ?_, fun ρ σ H' v r O' R' q => ?_, fun _ _ _ _ q => False.elim q, fun _ _ _ _ q => False.elim q, fun _ _ _ _ _ _ q => False.elim q⟩ (hq bag xs _ hl.2 hS)
  · rcases List.mem_cons.mp hp with z | z
    · cases z; rfl
    · cases z
  all_goals
    have G : Go (Av (frB K H Nn B) [.val (.ref B) (.o 0)] ρ σ) Nn H' H' := ⟨fun _ _ _ e => e, fun a z => .inl (.inl z)⟩
    have fr : ∀ a o, a ≠ B → H a = some o → H' a = some o := fun a o n e => O'.fr a o n e
    obtain ⟨bag', e0, q⟩ := onOwn_of q
    obtain ⟨p, us, h1, h2, h3, h4⟩ := O'.ownGet e0
    have hp0 := (O'.pin _ (List.mem_cons_self ..)).1
    rw [h1] at hp0; cases hp0
  · exact q .non H' us fr h2 (h3.go G) .none
  · cases r with
    | d z => exact q v H' us fr h2 (h3.go G) (Im.go G R')
    | raw u => exact q.elim
    | o i =>
      cases i with
      | zero => exact q.elim
      | succ i =>
        obtain ⟨ys, e, q⟩ := onOwn_of q
        obtain ⟨p, vs, g1, g2, g3, g4⟩ := O'.ownGet e
        have := R'.1
        rw [g1] at this; cases this
        refine q _ H' us fr h2 (h3.go G) ?_
        simp only [Im]
        refine ⟨p, vs, rfl, ⟨g2, fun z => ?_⟩, g3.go G⟩
        obtain ⟨_, _, hl⟩ := O'.ownL g4
        rcases hl with hl | hl
        · have hl : p = B := hl
          subst hl
          have := O'.own _ _ _ g4 h4
          cases this
        · obtain ⟨o, e⟩ := hN p z
          have hl : H p = none := hl
          rw [hl] at e; cases e
end
end DV
namespace DV
open PySem PySem.Spec PyProof.Rows L2
section
variable {X : Cx} {F : Fm} {a b c e : Expr} {es : List Expr} {ta tb tc te : TE} {da db dc de : TDE} {dl dl2 : TDL} {pos : Pos} {t : TA} {d : TDA} {tt tu : TT} {dt du : TDT}
/-! ### lists and tuples that are read -/
theorem get_list : PGet X (rIxL X.K) := by
  intro pins s σ H o i ov iv Q I ro ri h
  obtain ⟨p, xs, k, z, rfl, rfl, hq, he, q⟩ := h
  cases ro
  obtain ⟨tk, rfl⟩ := ri
  obtain ⟨its, r, pl, hz⟩ := I.list hq
  obtain ⟨j, h1, h2, h3, h4, h5⟩ := atI_get he
  obtain ⟨w, ew, rw'⟩ := r.get h2
  have hl := r.length
  have hn := line63
  have fin : EP X pins σ Q w s := ⟨z, H, I, rw', q⟩
  by_cases h0 : 0 ≤ k
  · have hj : k.toNat = j := by
      rw [seqIndex_of h0 h5] at h1
      exact Option.some.inj h1
    exact wpAny_getItem_list pl.isList h0 (by omega) (by rw [hj]; simpa using ew) fin
  · have hj : (k + (its.toArray.size : Int)).toNat = j := by
      rw [seqIndex_neg (by omega) h4] at h1
      rw [List.size_toArray, ← hl]
      exact Option.some.inj h1
    exact wpAny_getItem_list_neg pl.isList (by omega) (by rw [List.size_toArray] <;> omega) (by omega) (by rw [hj]; simpa using ew) fin
/-- the items of a list or tuple -/
def items (ρ : Rho) : R → Option (List PyData)
  | .d (.list xs) => some xs
  | .d (.tuple xs) => some xs
  | .o i => match ρ[i]? with
    | some (some (.own xs)) => some xs
    | some (some (.ro (.list xs))) => some xs
    | some (some (.ro (.tuple xs))) => some xs
    | some (some (.d (.list xs))) => some xs
    | some (some (.d (.tuple xs))) => some xs
    | _ => none
  | _ => none
section
variable {pins : List Pin} {ρ : Rho} {σ : L2.St} {H : Hp}
theorem im_items {A : Addr → Prop} {x : PyData} {v : V} {xs : List PyData} (h : Im F.K A H x v) (e : x = .list xs ∨ x = .tuple xs) : ∃ a vs, v = .ref a ∧ (SqL F.K H a vs ∨ SqT F.K H a vs) ∧ ImAll F.K A H xs vs := by
  rcases e with rfl | rfl
  · simp only [Im] at h
    obtain ⟨a, vs, e, l, t⟩ := h
    exact ⟨a, vs, e, .inl l.sq, t⟩
  · simp only [Im] at h
    obtain ⟨a, vs, e, l, t⟩ := h
    exact ⟨a, vs, e, .inr l.sq, t⟩
theorem items_ok (O : Ok F pins ρ σ H) {r : R} {v : V} {xs : List PyData} (h : ROk F (Av F pins ρ σ) ρ σ H r v) (e : items ρ r = some xs) : ∃ a vs, v = .ref a ∧ (SqL F.K H a vs ∨ SqT F.K H a vs) ∧ ImAll F.K (Av F pins ρ σ) H xs vs := by
  cases r with
  | raw u => cases e
  | d x =>
    cases x <;> first | cases e | skip
    · exact im_items h (.inl rfl)
    · exact im_items h (.inr rfl)
  | o i =>
    have h1 := h.1
    have e : (match ρ[i]? with
      | some (some (.own xs)) => some xs
      | some (some (.ro (.list xs))) => some xs
      | some (some (.ro (.tuple xs))) => some xs
      | some (some (.d (.list xs))) => some xs
      | some (some (.d (.tuple xs))) => some xs
      | _ => none) = some xs := e
    split at e
    · rename_i ys q; cases e
      obtain ⟨p, vs, g1, g2, g3, _⟩ := O.ownGet q
      rw [h1] at g1; cases g1
      exact ⟨p, vs, rfl, .inl (.of g2), g3⟩
    · rename_i ys q; cases e
      obtain ⟨u, g1, g2⟩ := O.ent i _ q
      rw [h1] at g1; cases g1
      rcases g2 with g2 | ⟨p, us, zs, rfl, g4, g5, g6⟩
      · exact im_items g2 (.inl rfl)
      · cases g4; exact ⟨p, us, rfl, .inl (g5.sq O), g6⟩
    · rename_i ys q; cases e
      obtain ⟨u, g1, g2⟩ := O.ent i _ q
      rw [h1] at g1; cases g1
      rcases g2 with g2 | ⟨p, us, zs, rfl, g4, g5, g6⟩
      · exact im_items g2 (.inr rfl)
      · cases g4
    · rename_i ys q; cases e
      obtain ⟨u, g1, g2⟩ := O.ent i _ q
      rw [h1] at g1; cases g1
      exact im_items g2 (.inl rfl)
    · rename_i ys q; cases e
      obtain ⟨u, g1, g2⟩ := O.ent i _ q
      rw [h1] at g1; cases g1
      exact im_items g2 (.inr rfl)
    · cases e
end
def onItems (ρ : Rho) (r : R) (f : List PyData → Prop) : Prop := match items ρ r with
  | some xs => f xs
  | _ => False
theorem onItems_of {ρ : Rho} {r : R} {f : List PyData → Prop} (h : onItems ρ r f) : ∃ xs, items ρ r = some xs ∧ f xs := by
  unfold onItems at h
  split at h
  · exact ⟨_, by assumption, h⟩
  · exact h.elim
theorem onItems_mono {ρ : Rho} {r : R} {f g : List PyData → Prop} (h : onItems ρ r f) (k : ∀ xs, f xs → g xs) : onItems ρ r g := by
  unfold onItems at h ⊢
  split at h
  · exact k _ h
  · exact h.elim
def onInt (ρ : Rho) (r : R) (f : Int → Prop) : Prop := match val ρ r with
  | some (.int k) => f k
  | _ => False
theorem onInt_of {ρ : Rho} {r : R} {f : Int → Prop} (h : onInt ρ r f) : ∃ k, val ρ r = some (.int k) ∧ f k := by
  unfold onInt at h
  split at h
  · exact ⟨_, by assumption, h⟩
  · exact h.elim
theorem onInt_mono {ρ : Rho} {r : R} {f g : Int → Prop} (h : onInt ρ r f) (k : ∀ x, f x → g x) : onInt ρ r g := by
  unfold onInt at h ⊢
  split at h
  · exact k _ h
  · exact h.elim
def onAt (xs : List PyData) (k : Int) (f : PyData → Prop) : Prop := match atI xs k with
  | some y => f y
  | _ => False
theorem onAt_of {xs : List PyData} {k : Int} {f : PyData → Prop} (h : onAt xs k f) : ∃ y, atI xs k = some y ∧ f y := by
  unfold onAt at h
  split at h
  · exact ⟨_, by assumption, h⟩
  · exact h.elim
theorem onAt_mono {xs : List PyData} {k : Int} {f g : PyData → Prop} (h : onAt xs k f) (m : ∀ x, f x → g x) : onAt xs k g := by
  unfold onAt at h ⊢
  split at h
  · exact m _ h
  · exact h.elim
def dIx (ta tb : TDE) : TDE := dBin ta tb fun r s ρ Q => onItems ρ r fun xs => onInt ρ s fun k => onAt xs k fun y => Q (.d y) ρ
theorem at_rel {K : PySem.W.Frag} {N : Addr → Prop} {H : Hp} {xs : List PyData} {vs : List V} {k : Int} {y : PyData} (h : ImAll K N H xs vs) (e : atI xs k = some y) : ∃ v, atI vs k = some v ∧ Im K N H y v := by
  unfold atI at e ⊢
  rw [h.length]
  cases q : ixN xs.length k with
  | none => rw [q] at e; cases e
  | some j =>
    rw [q] at e
    exact h.get e
theorem pd_ix (ha : PD X F a ta da) (hb : PD X F b tb db) (hs : PlainIx b) (hK : X.K = F.K := by rfl) : PD X F (.Subscript a b pos) (tOp (fun x y H Q => rIxL F.K x y H Q ∨ rIxT F.K x y H Q) ta tb) (dIx da db) := by
  refine ⟨?_, de_bin ha.de hb.de (fun pins ρ σ H x y r s Q O R1 R2 h => ?_) fun r s ρ Q Q' hq h => onItems_mono h fun xs h => onInt_mono h fun k h => onAt_mono h fun y h => hq _ _ h⟩
  · have := pe_ix (pos := pos) (ix_list.or ix_tup) ha.pe hb.pe hs
    rw [hK] at this
    exact this
  obtain ⟨xs, e1, h⟩ := onItems_of h
  obtain ⟨k, e2, h⟩ := onInt_of h
  obtain ⟨y, e3, h⟩ := onAt_of h
  obtain ⟨p, vs, rfl, l, im⟩ := items_ok O R1 e1
  cases dp_int (val_dp O R2 e2)
  obtain ⟨v, e4, i4⟩ := at_rel im e3
  rcases l with l | l
  · exact .inl ⟨p, vs, k, v, rfl, rfl, l, e4, h v H O i4⟩
  · exact .inr ⟨p, vs, k, v, rfl, rfl, l, e4, h v H O i4⟩
/-! ### slices -/
def cutD (xs : List PyData) (lo hi : Option Int) : List PyData := (xs.drop (HT.sIx xs.length 0 lo)).take (HT.sIx xs.length xs.length hi - HT.sIx xs.length 0 lo)
theorem ImAll.cut {K : PySem.W.Frag} {N : Addr → Prop} {H : Hp} {xs : List PyData} {vs : List V} (h : ImAll K N H xs vs) (lo hi : Option Int) : ImAll K N H (cutD xs lo hi) (cutV vs lo hi) := by
  unfold cutD cutV
  rw [h.length]
  exact (h.drop _).take _
abbrev TDO := Rho → (Option Int → Rho → Prop) → Prop
structure DO (F : Fm) (to : TO) (td : TDO) : Prop where
  run : ∀ (pins : List Pin) (ρ : Rho) (σ : L2.St) (H : Hp) (Q : Option Int → Hp → Prop), Ok F pins ρ σ H → td ρ (fun o ρ' => ∀ H', Ok F pins ρ' σ H' → Q o H') → to σ H Q
  mono : ∀ ρ Q Q', (∀ r ρ', Q r ρ' → Q' r ρ') → td ρ Q → td ρ Q'
structure PDO (X : Cx) (F : Fm) (e : Option Expr) (to : TO) (td : TDO) : Prop where
  po : PO X e to
  d : DO F to td
def dNoPart : TDO := fun ρ Q => Q none ρ
def dPart (te : TDE) : TDO := fun ρ Q => te ρ fun r ρ1 => onInt ρ1 r fun k => Q (some k) ρ1
theorem pdo_none : PDO X F none tNoPart dNoPart := ⟨po_none, fun pins ρ σ H Q O h => h H O, fun _ _ _ hq h => hq _ _ h⟩
theorem pdo_some (h : PD X F e te de) : PDO X F (some e) (tPart te) (dPart de) := by
  refine ⟨po_some h.pe, fun pins ρ σ H Q O hq => ?_, fun ρ Q Q' hq hh => h.de.mono _ _ _ (fun r ρ1 h1 => onInt_mono h1 fun k => hq _ _) hh⟩
  refine h.de.run pins ρ σ H _ O (h.de.mono _ _ _ (fun r ρ1 h1 v H1 O1 R1 => ?_) hq)
  obtain ⟨k, e, q⟩ := onInt_of h1
  cases dp_int (val_dp O1 R1 e)
  exact ⟨k, rfl, q H1 O1⟩
def dSlice (te : TDE) (tl th : TDO) (k : R → Option Int → Option Int → Rho → Prop) (ρ : Rho) : Prop := te ρ fun r ρ1 => tl ρ1 fun lo ρ2 => th ρ2 fun hi ρ3 => k r lo hi ρ3
variable {lo hi : Option Expr} {tl th : TO} {dlo dhi : TDO} {p2 : Pos}
/-- the items of a list that callers or this body may change -/
def litems (ρ : Rho) : R → Option (List PyData)
  | .d (.list xs) => some xs
  | .o i => match ρ[i]? with
    | some (some (.own xs)) => some xs
    | some (some (.ro (.list xs))) => some xs
    | some (some (.d (.list xs))) => some xs
    | _ => none
  | _ => none
theorem litems_ok {pins : List Pin} {ρ : Rho} {σ : L2.St} {H : Hp} (O : Ok F pins ρ σ H) {r : R} {v : V} {xs : List PyData} (h : ROk F (Av F pins ρ σ) ρ σ H r v) (e : litems ρ r = some xs) : ∃ a vs, v = .ref a ∧ SqL F.K H a vs ∧ ImAll F.K (Av F pins ρ σ) H xs vs := by
  have lst : ∀ {A : Addr → Prop} {v : V} {xs : List PyData}, Im F.K A H (.list xs) v → ∃ a vs, v = .ref a ∧ SqL F.K H a vs ∧ ImAll F.K A H xs vs := fun {A v xs} h => by
    simp only [Im] at h
    obtain ⟨a, vs, e, l, t⟩ := h
    exact ⟨a, vs, e, l.sq, t⟩
  cases r with
  | raw u => cases e
  | d x =>
    cases x <;> first | cases e | skip
    exact lst h
  | o i =>
    have h1 := h.1
    have e : (match ρ[i]? with
      | some (some (.own xs)) => some xs
      | some (some (.ro (.list xs))) => some xs
      | some (some (.d (.list xs))) => some xs
      | _ => none) = some xs := e
    split at e
    · rename_i ys q; cases e
      obtain ⟨p, vs, g1, g2, g3, _⟩ := O.ownGet q
      rw [h1] at g1; cases g1
      exact ⟨p, vs, rfl, .of g2, g3⟩
    · rename_i ys q; cases e
      obtain ⟨u, g1, g2⟩ := O.ent i _ q
      rw [h1] at g1; cases g1
      rcases g2 with g2 | ⟨p, us, zs, rfl, g4, g5, g6⟩
      · exact lst g2
      · cases g4; exact ⟨p, us, rfl, g5.sq O, g6⟩
    · rename_i ys q; cases e
      obtain ⟨u, g1, g2⟩ := O.ent i _ q
      rw [h1] at g1; cases g1
      exact lst g2
    · cases e
def onL (ρ : Rho) (r : R) (f : List PyData → Prop) : Prop := match litems ρ r with
  | some xs => f xs
  | _ => False
theorem onL_of {ρ : Rho} {r : R} {f : List PyData → Prop} (h : onL ρ r f) : ∃ xs, litems ρ r = some xs ∧ f xs := by
  unfold onL at h
  split at h
  · exact ⟨_, by assumption, h⟩
  · exact h.elim
theorem onL_mono {ρ : Rho} {r : R} {f g : List PyData → Prop} (h : onL ρ r f) (k : ∀ xs, f xs → g xs) : onL ρ r g := by
  unfold onL at h ⊢
  split at h
  · exact k _ h
  · exact h.elim
def dSlL (te : TDE) (tl th : TDO) : TDL := fun ρ Q => dSlice te tl th (fun r lo hi ρ3 => onL ρ3 r fun xs => Q (cutD xs lo hi) ρ3) ρ
theorem pl_slice (he : PD X F e te de) (hl : PDO X F lo tl dlo) (hh : PDO X F hi th dhi) (hK : X.K = F.K := by rfl) : PDL X F (.Subscript e (.Slice lo hi none p2) pos) (tSl (rSlL F.K) te tl th) (dSlL de dlo dhi) := by
  refine ⟨?_, fun pins ρ σ H Q O h => ?_, fun ρ Q Q' hq h => he.de.mono _ _ _ (fun r ρ1 h1 => hl.d.mono _ _ _ (fun l ρ2 h2 => hh.d.mono _ _ _ (fun u ρ3 h3 => onL_mono h3 fun xs => hq _ _) h2) h1) h⟩
  · have := pe_slice (pos := pos) (p2 := p2) sl_list he.pe hl.po hh.po
    rw [hK] at this
    exact this
  refine he.de.run pins ρ σ H _ O (he.de.mono _ _ _ (fun r ρ1 h1 v H1 O1 R1 => ?_) h)
  refine hl.d.run (.val v r :: pins) ρ1 σ H1 _ (O1.push R1) (hl.d.mono _ _ _ (fun l ρ2 h2 H2 O2 => ?_) h1)
  refine hh.d.run (.val v r :: pins) ρ2 σ H2 _ O2 (hh.d.mono _ _ _ (fun u ρ3 h3 H3 O3 => ?_) h2)
  obtain ⟨O4, R4⟩ := O3.popV
  obtain ⟨xs, e1, q⟩ := onL_of h3
  obtain ⟨p, vs, rfl, sq, im⟩ := litems_ok O4 R4 e1
  exact ⟨p, vs, rfl, sq, fun p' hp => q p' _ (O4.pushL hp (im.cut l u))⟩
/-! ### xs + ys of lists -/
def mitems (ρ : Rho) : R → Option (List PyData)
  | .d (.list xs) => some xs
  | .o i => match ρ[i]? with
    | some (some (.own xs)) => some xs
    | _ => none
  | _ => none
theorem mitems_ok {pins : List Pin} {ρ : Rho} {σ : L2.St} {H : Hp} (O : Ok F pins ρ σ H) {r : R} {v : V} {xs : List PyData} (h : ROk F (Av F pins ρ σ) ρ σ H r v) (e : mitems ρ r = some xs) : ∃ a vs, v = .ref a ∧ H a = some (.lst vs) ∧ ImAll F.K (Av F pins ρ σ) H xs vs := by
  cases r with
  | raw u => cases e
  | d x =>
    cases x <;> first | cases e | skip
    have h : Im F.K (Av F pins ρ σ) H (.list xs) v := h
    simp only [Im] at h
    obtain ⟨a, vs, e, l, t⟩ := h
    exact ⟨a, vs, e, l.1, t⟩
  | o i =>
    have h1 := h.1
    have e : (match ρ[i]? with
      | some (some (.own xs)) => some xs
      | _ => none) = some xs := e
    split at e
    · rename_i ys q; cases e
      obtain ⟨p, vs, g1, g2, g3, _⟩ := O.ownGet q
      rw [h1] at g1; cases g1
      exact ⟨p, vs, rfl, g2, g3⟩
    · cases e
def onM (ρ : Rho) (r : R) (f : List PyData → Prop) : Prop := match mitems ρ r with
  | some xs => f xs
  | _ => False
theorem onM_of {ρ : Rho} {r : R} {f : List PyData → Prop} (h : onM ρ r f) : ∃ xs, mitems ρ r = some xs ∧ f xs := by
  unfold onM at h
  split at h
  · exact ⟨_, by assumption, h⟩
  · exact h.elim
theorem onM_mono {ρ : Rho} {r : R} {f g : List PyData → Prop} (h : onM ρ r f) (k : ∀ xs, f xs → g xs) : onM ρ r g := by
  unfold onM at h ⊢
  split at h
  · exact k _ h
  · exact h.elim
def dCat (ta tb : TDE) : TDL := fun ρ Q => ta ρ fun r ρ1 => tb ρ1 fun s ρ2 => onM ρ2 r fun xs => onM ρ2 s fun ys => Few (xs.length + ys.length) ∧ Q (xs ++ ys) ρ2
theorem pl_cat (ha : PD X F a ta da) (hb : PD X F b tb db) : PDL X F (.BinOp a .Add b pos) (tOp rCat ta tb) (dCat da db) := by
  refine ⟨pe_op op_cat ha.pe hb.pe, fun pins ρ σ H Q O h => ?_, fun ρ Q Q' hq h => ha.de.mono _ _ _ (fun r ρ1 h1 => hb.de.mono _ _ _ (fun s ρ2 h2 => onM_mono h2 fun xs h3 => onM_mono h3 fun ys h4 => ⟨h4.1, hq _ _ h4.2⟩) h1) h⟩
  refine ha.de.run pins ρ σ H _ O (ha.de.mono _ _ _ (fun r ρ1 h1 x H1 O1 R1 => ?_) h)
  refine hb.de.run (.val x r :: pins) ρ1 σ H1 _ (O1.push R1) (hb.de.mono _ _ _ (fun s ρ2 h2 y H2 O2 R2 => ?_) h1)
  obtain ⟨O3, R3⟩ := O2.popV
  obtain ⟨xs, e1, h3⟩ := onM_of h2
  obtain ⟨ys, e2, h4, q⟩ := onM_of h3
  obtain ⟨p, vs, rfl, g1, i1⟩ := mitems_ok O3 R3 e1
  obtain ⟨p2, us, rfl, g2, i2⟩ := mitems_ok O3 R2 e2
  exact ⟨p, p2, vs, us, rfl, rfl, g1, g2, by rw [i1.length, i2.length]; exact h4, fun p' hp => q p' _ (O3.pushL hp (i1.append i2))⟩
/-! ### tuple(xs), list(xs) -/
def dTupOf (t : TDA) : TDE := fun ρ Q => t ρ fun rs ρ1 => match rs with
  | [.d (.tuple xs)] => Q (.d (.tuple xs)) ρ1
  | [r] => onL ρ1 r fun xs => Q (.d (.tuple xs)) ρ1
  | _ => False
theorem pd_tupleOf {p : Pos} (hg : Gl X "tuple") (hm : X.mg "tuple" = none) (ha : PDA X F [e] t d) (hK : X.K = F.K := by rfl) (he : starEach [e] X.env = (false, eval e X.env) :: starEach [] X.env := by rfl) (hpl : (backTo pos (starEach [] X.env)).any (·.1) = false := by rfl) :
    PD X F (.Call (.Name "tuple" p) [e] [] pos) (tCB (fun xs H Q => ∃ p ys, xs = [.ref p] ∧ ((SqL F.K H p ys ∧ ∀ l, H l = none → Q (.ref l) (upd H l (.tup ys))) ∨ (SqT F.K H p ys ∧ Q (.ref p) H))) t) (dTupOf d) := by
  refine ⟨?_, fun pins ρ σ H Q O h => ?_, fun ρ Q Q' hq h => ?_⟩
  · have := pe_callTy (p := p) (pos := pos) call_tuple_of hg hm (by decide +kernel) ha.pa (by decide) (by decide) he hpl
    rw [hK] at this
    exact this
  · refine ha.da.run pins ρ σ H _ O (ha.da.mono _ _ _ (fun rs ρ1 h1 vs H1 O1 R1 => ?_) h)
    split at h1
    · rename_i xs
      simp only [ROks] at R1
      obtain ⟨v, _, rfl, r1, rfl⟩ := R1
      have r2 : Im F.K (Av F pins ρ1 σ) H1 (.tuple xs) v := r1
      have r3 := r2
      simp only [Im] at r2
      obtain ⟨p, us, rfl, l, im⟩ := r2
      exact ⟨p, us, rfl, .inr ⟨l.sq, h1 _ _ O1 r3⟩⟩
    · rename_i r _
      simp only [ROks] at R1
      obtain ⟨v, _, rfl, r1, rfl⟩ := R1
      obtain ⟨xs, e1, q⟩ := onL_of h1
      obtain ⟨p, us, rfl, l, im⟩ := litems_ok O1 r1 e1
      refine ⟨p, us, rfl, .inl ⟨l, fun l' hl => ?_⟩⟩
      obtain ⟨O2, i2⟩ := newTup O1 hl im
      exact q _ _ O2 i2
    · exact h1.elim
  · refine ha.da.mono _ _ _ (fun rs ρ1 h1 => ?_) h
    revert h1
    split
    · exact fun h1 => hq _ _ h1
    · exact fun h1 => onL_mono h1 fun xs => hq _ _
    · exact fun h1 => h1
end
/-! ### what is walked -/
section
variable {X : Cx} {F : Fm} {tg e e2 : Expr} {te te2 : TE} {de de2 : TDE} {pos p : Pos} {t : TA} {d : TDA}
theorem PI.or {tg iter : Expr} {w1 w2 : TI} (h1 : PI X tg iter w1) (h2 : PI X tg iter w2) : PI X tg iter (fun σ H R => w1 σ H R ∨ w2 σ H R) :=
  ⟨fun pins s σ H R I h => h.elim (h1.run pins s σ H R I) (h2.run pins s σ H R I)⟩
end
end DV
namespace DV
open PySem PySem.Spec PyProof.Rows L2
section
variable {X : Cx} {F : Fm} {tg e e2 a b : Expr} {te te2 ta tb : TE} {de de2 da db : TDE} {pos p : Pos} {t : TA} {d : TDA}
theorem wok_list {v : V} {xs : List PyData} {a : Addr} (hv : v = .ref a) : WOk F (Itl F.K a) xs [.val v (.d (.list xs))] := by
  subst hv
  have key : ∀ (pins : List Pin) (ρ : Rho) (σ : L2.St) (H : Hp), (∀ q ∈ [Pin.val (.ref a) (.d (.list xs))], q ∈ pins) → Ok F pins ρ σ H → ∃ vs, SqL F.K H a vs ∧ ImAll F.K (Av F pins ρ σ) H xs vs := fun pins ρ σ H hp O => by
    have h : Im F.K (Av F pins ρ σ) H (.list xs) (.ref a) := O.pin _ (hp _ (List.mem_cons_self ..))
    simp only [Im] at h
    obtain ⟨q, vs, e, l, im⟩ := h
    cases e
    exact ⟨vs, l.sq, im⟩
  refine ⟨fun i pins ρ σ H hp hi O => ?_, fun pins ρ σ H hp O => ?_, fun i pins ρ σ H x H' hp hi O y => ?_⟩
  · obtain ⟨vs, h1, h2⟩ := key pins ρ σ H hp O
    have hl := h2.length
    exact ⟨vs, vs[i]'(by omega), h1, by simp⟩
  · obtain ⟨vs, h1, h2⟩ := key pins ρ σ H hp O
    exact ⟨vs, h1, by rw [h2.length]; exact Nat.le_refl _⟩
  · obtain ⟨vs, h1, h2⟩ := key pins ρ σ H hp O
    obtain ⟨rfl, y⟩ := y
    obtain ⟨d, e1, e2⟩ := h2.getV (y vs h1)
    exact ⟨d, e1, O, e2⟩
theorem wok_tup {v : V} {xs : List PyData} {a : Addr} (hv : v = .ref a) : WOk F (Itt F.K a) xs [.val v (.d (.tuple xs))] := by
  subst hv
  have key : ∀ (pins : List Pin) (ρ : Rho) (σ : L2.St) (H : Hp), (∀ q ∈ [Pin.val (.ref a) (.d (.tuple xs))], q ∈ pins) → Ok F pins ρ σ H → ∃ vs, SqT F.K H a vs ∧ ImAll F.K (Av F pins ρ σ) H xs vs := fun pins ρ σ H hp O => by
    have h : Im F.K (Av F pins ρ σ) H (.tuple xs) (.ref a) := O.pin _ (hp _ (List.mem_cons_self ..))
    simp only [Im] at h
    obtain ⟨q, vs, e, l, im⟩ := h
    cases e
    exact ⟨vs, l.sq, im⟩
  refine ⟨fun i pins ρ σ H hp hi O => ?_, fun pins ρ σ H hp O => ?_, fun i pins ρ σ H x H' hp hi O y => ?_⟩
  · obtain ⟨vs, h1, h2⟩ := key pins ρ σ H hp O
    have hl := h2.length
    exact ⟨vs, vs[i]'(by omega), h1, by simp⟩
  · obtain ⟨vs, h1, h2⟩ := key pins ρ σ H hp O
    exact ⟨vs, h1, by rw [h2.length]; exact Nat.le_refl _⟩
  · obtain ⟨vs, h1, h2⟩ := key pins ρ σ H hp O
    obtain ⟨rfl, y⟩ := y
    obtain ⟨d, e1, e2⟩ := h2.getV (y vs h1)
    exact ⟨d, e1, O, e2⟩
theorem mem_pinsOf : ∀ {vs : List V} {xs : List PyData} {p : Pin}, p ∈ pinsOf vs xs → ∃ v x, p = .val v (.d x)
  | [], _, _, h => by cases h
  | _ :: _, [], _, h => by cases h
  | v :: vs, x :: xs, p, h => by
    rcases List.mem_cons.mp h with z | z
    · exact ⟨v, x, z⟩
    · exact mem_pinsOf z
theorem all_pinsOf {pins : List Pin} {ρ : Rho} {σ : L2.St} {H : Hp} (O : Ok F pins ρ σ H) : ∀ {vs : List V} {xs : List PyData}, vs.length = xs.length → (∀ q ∈ pinsOf vs xs, q ∈ pins) → ImAll F.K (Av F pins ρ σ) H xs vs
  | [], [], _, _ => .nil
  | v :: vs, x :: xs, hl, h => .cons (O.pin _ (h _ (List.mem_cons_self ..))) (all_pinsOf O (by simpa using hl) fun q hq => h q (List.mem_cons_of_mem _ hq))
  | [], _ :: _, hl, _ => by cases hl
  | _ :: _, [], hl, _ => by cases hl
/-- a list that is read alone -/
theorem wok_ro {xs : List PyData} {us : List V} {a : Addr} (hl : us.length = xs.length) (hr : LkR F a us) : WOk F (Itl F.K a) xs (pinsOf us xs) := by
  refine ⟨fun i pins ρ σ H hp hi O => ?_, fun pins ρ σ H hp O => ?_, fun i pins ρ σ H x H' hp hi O y => ?_⟩
  · exact ⟨us, us[i]'(by omega), hr.sq O, by simp⟩
  · exact ⟨us, hr.sq O, by rw [hl]; exact Nat.le_refl _⟩
  · obtain ⟨rfl, y⟩ := y
    obtain ⟨d, e1, e2⟩ := (all_pinsOf O hl hp).getV (y us (hr.sq O))
    exact ⟨d, e1, O, e2⟩
def dSeqI (te : TDE) : TDI := fun ρ Q => te ρ fun r ρ1 => match r with
  | .d (.list xs) => Q xs ρ1
  | .d (.tuple xs) => Q xs ρ1
  | .o i => match ρ1[i]? with
    | some (some (.ro (.list xs))) => Q xs ρ1
    | some (some (.ro (.tuple xs))) => Q xs ρ1
    | _ => False
  | _ => False
def iSeq (K : PySem.W.Frag) (tl : TE) : TI := fun σ H R => tl σ H fun x H1 => ∃ a, x = .ref a ∧ (((∃ xs, SqL K H1 a xs) ∧ R (Itl K a) H1) ∨ ((∃ xs, SqT K H1 a xs) ∧ R (Itt K a) H1))
theorem pi_seq (he : PE X e te) : PI X tg e (iSeq X.K te) := by
  constructor
  intro pins s σ H R I h
  refine thn (he.run pins s σ H _ I h) ?_
  rintro v s1 ⟨x, H1, I1, r1, a, rfl, hq⟩
  cases r1
  have new : ∀ (o : Obj), ∀ b ∈ [s1.heap.objs.size], FpOk X pins H1 b := fun o b hb => by
    obtain rfl : b = s1.heap.objs.size := by simpa using hb
    exact I1.fpOk (Nat.le_refl _) I1.fresh
  have keep : ∀ (o : Obj), Inv X pins σ H1 { s1 with heap := s1.heap.push o } := fun o => I1.kept (t' := s1.toks) fun b u e => Heap.get?_push_of_some _ e
  rcases hq with ⟨⟨xs, hq⟩, q⟩ | ⟨⟨xs, hq⟩, q⟩
  · obtain ⟨its, rv, pl, _⟩ := I1.list hq
    apply wpAny_pyIter_list pl.isList
    exact ⟨_, [s1.heap.objs.size], _, _, H1, rfl, keep _, turn_list a _, ⟨_, Heap.get?_push_size _ rfl, rfl, rfl⟩, new default, q⟩
  · obtain ⟨its, rv, pl, _⟩ := I1.tuple hq
    apply wpAny_pyIter_tuple (show s1.heap.IsTuple a its.toArray from pl)
    exact ⟨_, [s1.heap.objs.size], _, _, H1, rfl, keep _, turn_tuple a _, ⟨_, Heap.get?_push_size _ rfl, rfl, rfl⟩, new default, q⟩
theorem pdi_seq (he : PD X F e te de) (hK : X.K = F.K := by rfl) : PDI X F tg e (iSeq F.K te) (dSeqI de) := by
  refine ⟨?_, fun pins ρ σ H R O h => ?_, fun ρ Q Q' hq h => ?_⟩
  · have := pi_seq (tg := tg) he.pe
    rw [hK] at this
    exact this
  · refine he.de.run pins ρ σ H _ O (he.de.mono _ _ _ (fun r ρ1 h1 v H1 O1 R1 => ?_) h)
    split at h1
    · rename_i xs
      have im : Im F.K (Av F pins ρ1 σ) H1 (.list xs) v := R1
      have im2 := im
      simp only [Im] at im2
      obtain ⟨a, vs, rfl, l, _⟩ := im2
      refine ⟨a, rfl, .inl ⟨⟨vs, l.sq⟩, h1 _ H1 _ (wok_list rfl) (fun p hp => ?_) (O1.push (v := .ref a) (r := .d (.list xs)) im)⟩⟩
      rcases List.mem_cons.mp hp with z | z
      · exact ⟨_, _, z⟩
      · cases z
    · rename_i xs
      have im : Im F.K (Av F pins ρ1 σ) H1 (.tuple xs) v := R1
      have im2 := im
      simp only [Im] at im2
      obtain ⟨a, vs, rfl, l, _⟩ := im2
      refine ⟨a, rfl, .inr ⟨⟨vs, l.sq⟩, h1 _ H1 _ (wok_tup rfl) (fun p hp => ?_) (O1.push (v := .ref a) (r := .d (.tuple xs)) im)⟩⟩
      rcases List.mem_cons.mp hp with z | z
      · exact ⟨_, _, z⟩
      · cases z
    · rename_i i
      have g0 := R1.1
      split at h1
      · rename_i xs q
        obtain ⟨u, g1, g2⟩ := O1.ent i _ q
        rw [g0] at g1; cases g1
        rcases g2 with im | ⟨a, us, ys, rfl, e1, l, t⟩
        · have im2 := im
          simp only [Im] at im2
          obtain ⟨a, vs, rfl, l, _⟩ := im2
          refine ⟨a, rfl, .inl ⟨⟨vs, l.sq⟩, h1 _ H1 _ (wok_list rfl) (fun p hp => ?_) (O1.push (v := .ref a) (r := .d (.list xs)) im)⟩⟩
          rcases List.mem_cons.mp hp with z | z
          · exact ⟨_, _, z⟩
          · cases z
        · cases e1
          exact ⟨a, rfl, .inl ⟨⟨us, l.sq O1⟩, h1 _ H1 _ (wok_ro t.length l) (fun p hp => mem_pinsOf hp) (O1.pushAll t).1⟩⟩
      · rename_i xs q
        obtain ⟨u, g1, g2⟩ := O1.ent i _ q
        rw [g0] at g1; cases g1
        rcases g2 with im | ⟨a, us, ys, rfl, e1, l, t⟩
        · have im2 := im
          simp only [Im] at im2
          obtain ⟨a, vs, rfl, l, _⟩ := im2
          refine ⟨a, rfl, .inr ⟨⟨vs, l.sq⟩, h1 _ H1 _ (wok_tup rfl) (fun p hp => ?_) (O1.push (v := .ref a) (r := .d (.tuple xs)) im)⟩⟩
          rcases List.mem_cons.mp hp with z | z
          · exact ⟨_, _, z⟩
          · cases z
        · cases e1
      · exact h1.elim
    · exact h1.elim
  · refine he.de.mono _ _ _ (fun r ρ1 h1 => ?_) h
    revert h1
    split
    · exact fun h1 => hq _ _ h1
    · exact fun h1 => hq _ _ h1
    · intro h1
      split at h1
      · exact hq _ _ h1
      · exact hq _ _ h1
      · exact h1.elim
    · exact fun h1 => h1
/-! ### ranges -/
def rng (lo : Int) (n : Nat) : List PyData := (List.range n).map fun k => .int (lo + (k : Nat))
theorem rng_at {lo : Int} {n i : Nat} (h : i < n) : (rng lo n)[i]? = some (.int (lo + (i : Nat))) := by
  unfold rng
  rw [List.getElem?_map, List.getElem?_range h]; rfl
theorem rng_len {lo : Int} {n : Nat} : (rng lo n).length = n := by unfold rng; rw [List.length_map, List.length_range]
theorem wok_rng {lo : Int} {n : Nat} : WOk F (Itr lo n) (rng lo n) [] := by
  refine ⟨fun i pins ρ σ H hp hi O => by rw [rng_len] at hi; exact hi, fun pins ρ σ H hp O => by rw [rng_len]; exact Nat.le_refl _, fun i pins ρ σ H x H' hp hi O y => ?_⟩
  rw [rng_len] at hi
  obtain ⟨rfl, rfl⟩ := y
  exact ⟨_, rng_at hi, O, .int⟩
def dRng1 (t : TDA) : TDI := fun ρ Q => t ρ fun rs ρ1 => match rs with
  | [.d (.int j)] => (-(2 ^ 62) ≤ j ∧ j < 2 ^ 62) ∧ Q (rng 0 j.toNat) ρ1
  | _ => False
def dRng2 (t : TDA) : TDI := fun ρ Q => t ρ fun rs ρ1 => match rs with
  | [.d (.int i), .d (.int j)] => (-(2 ^ 62) ≤ i ∧ i < 2 ^ 62 ∧ -(2 ^ 62) ≤ j ∧ j < 2 ^ 62) ∧ Q (rng i (j - i).toNat) ρ1
  | _ => False
theorem pdi_range1 (hg : Gl X "range") (hm : X.mg "range" = none) (ha : PDA X F [e] t d) (hs : starEach [e] X.env = [(false, eval e X.env)] := by rfl) : PDI X F tg (.Call (.Name "range" p) [e] [] pos) (iRng1 t) (dRng1 d) := by
  refine ⟨pi_range1 hg hm ha.pa hs, fun pins ρ σ H R O h => ?_, fun ρ Q Q' hq h => ?_⟩
  · refine ha.da.run pins ρ σ H _ O (ha.da.mono _ _ _ (fun rs ρ1 h1 vs H1 O1 R1 => ?_) h)
    split at h1
    · rename_i j
      simp only [ROks] at R1
      obtain ⟨v, _, rfl, r1, rfl⟩ := R1
      cases (Im.int_iff.mp (show Im F.K (Av F pins ρ1 σ) H1 (.int j) v from r1))
      exact ⟨j, rfl, h1.1.1, h1.1.2, h1.2 _ H1 [] wok_rng (fun p hp => nomatch hp) O1⟩
    · exact h1.elim
  · refine ha.da.mono _ _ _ (fun rs ρ1 h1 => ?_) h
    revert h1
    split
    · exact fun h1 => ⟨h1.1, hq _ _ h1.2⟩
    · exact fun h1 => h1
theorem pdi_range2 (hg : Gl X "range") (hm : X.mg "range" = none) (ha : PDA X F [e, e2] t d) (hs : starEach [e, e2] X.env = [(false, eval e X.env), (false, eval e2 X.env)] := by rfl) (hs2 : starEach [e2] X.env = [(false, eval e2 X.env)] := by rfl) :
    PDI X F tg (.Call (.Name "range" p) [e, e2] [] pos) (iRng2 t) (dRng2 d) := by
  refine ⟨pi_range2 hg hm ha.pa hs hs2, fun pins ρ σ H R O h => ?_, fun ρ Q Q' hq h => ?_⟩
  · refine ha.da.run pins ρ σ H _ O (ha.da.mono _ _ _ (fun rs ρ1 h1 vs H1 O1 R1 => ?_) h)
    split at h1
    · rename_i i j
      simp only [ROks] at R1
      obtain ⟨v, _, rfl, r1, w, _, rfl, r2, rfl⟩ := R1
      cases (Im.int_iff.mp (show Im F.K (Av F pins ρ1 σ) H1 (.int i) v from r1))
      cases (Im.int_iff.mp (show Im F.K (Av F pins ρ1 σ) H1 (.int j) w from r2))
      exact ⟨i, j, rfl, h1.1, h1.2 _ H1 [] wok_rng (fun p hp => nomatch hp) O1⟩
    · exact h1.elim
  · refine ha.da.mono _ _ _ (fun rs ρ1 h1 => ?_) h
    revert h1
    split
    · exact fun h1 => ⟨h1.1, hq _ _ h1.2⟩
    · exact fun h1 => h1
end
/-- comprehensions -/
theorem pl_lc {X : Cx} {F : Fm} {elt tg iter : Expr} {ifs : List Expr} {scope : Scope} {own : List (Str × Nat)} {pos : Pos} {wi : TI} {dw : TDI} {g : TG} {dg : TDGt} {tt : TT} {dt : TDT} {te : TE} {de : TDE} (hc : X.calm = true) (hN : X.N.Nodup) (hi : PDI X F tg iter wi dw) (ok : BlkOk X.N X.env.scope scope own)
    (hg : ∀ (s : Shared) (H : Hp) (C : Addr) (cl : List (Str × Addr)) (fp : List Addr), PDG (X.blk s H scope (compEnvC scope cl C X.env) fp) F tg g dg (own.map (·.2))) (ht : ∀ (s : Shared) (H : Hp) (C : Addr) (cl : List (Str × Addr)) (fp : List Addr), PDTs (X.blk s H scope (compEnvC scope cl C X.env) fp) F ifs tt dt)
    (he : ∀ (s : Shared) (H : Hp) (C : Addr) (cl : List (Str × Addr)) (fp : List Addr), PD (X.blk s H scope (compEnvC scope cl C X.env) fp) F elt te de) (hs : ∀ x, foldedSetIterable iter X.env x = pure x := by intro _; rfl) :
    PDL X F (.ListComp elt [⟨tg, iter, ifs, 0⟩] scope pos) (tLc wi g tt te (own.map (·.2))) (dLc dw dg dt de (own.map (·.2))) := by
  refine ⟨pe_lc hc hN hi.pi ok (fun s H C cl fp => (hg s H C cl fp).pg) (fun s H C cl fp => (ht s H C cl fp).pts) (fun s H C cl fp => (he s H C cl fp).pe) hs, ?_⟩
  exact dl_lc hi.di (hg (PySem.start X.prog).1 (fun _ => none) 0 [] []).dg (ht (PySem.start X.prog).1 (fun _ => none) 0 [] []).dt (he (PySem.start X.prog).1 (fun _ => none) 0 [] []).de
end DV
namespace DV
open PySem PySem.Spec PyProof.Rows L2
section
variable {X : Cx} {F : Fm} {e a b c : Expr} {es : List Expr} {te ta tb : TE} {de da db : TDE} {dl : TDL} {pos p : Pos} {t : TA} {d : TDA}
/-! ### isinstance, isqrt, ** -/
def tyName : PyData → String
  | .none => "NoneType"
  | .bool _ => "bool"
  | .int _ => "int"
  | .str _ => "str"
  | .list _ => "list"
  | .tuple _ => "tuple"
  | .dict _ => "dict"
theorem tyx_of {K : PySem.W.Frag} {H : Hp} {v : V} {x : PyData} (h : Dp K H v x) : TyX K H v (.type (tyName x)) := by
  cases h with
  | non => exact .base .non
  | bl b => exact .base (.bl b)
  | int i => exact .base (.int i)
  | str z => exact .base (.str z)
  | lst l _ =>
    rcases l with (l | ⟨o, l⟩) | ⟨o, its, n, hk, hc, _⟩
    · exact .base (.lst l)
    · exact .base (.frz l)
    · exact .kList hk hc
  | tup l _ =>
    rcases l with (l | ⟨o, l⟩) | ⟨o, its, n, hk, hc, _⟩
    · exact .base (.tup l)
    · exact .fTuple l
    · exact .kTuple hk hc
def dIsi (n : String) (te : TDE) : TDE := fun ρ Q => te ρ fun r ρ1 => onV ρ1 r fun x => match kitB (tyName x) n with
  | some k => Q (.d (.bool k)) ρ1
  | _ => False
theorem pd_isinst {n : String} {x : Str} {p2 : Pos} (he : PD X F e te de) (hg : Gl X "isinstance") (hm : X.mg "isinstance" = none) (hg2 : Gl X x) (hm2 : X.mg x = none) (hv2 : bootBuiltins x = some (.type n)) (hK : X.K = F.K := by rfl) (hn : x ≠ "__name__" := by decide) (hd : (x == ("__debug__" : Str)) = false := by decide)
    (hs : starEach [e, .Name x p2] X.env = (false, eval e X.env) :: starEach [.Name x p2] X.env := by rfl) (hs2 : starEach [.Name x p2] X.env = (false, eval (.Name x p2) X.env) :: starEach [] X.env := by rfl) (hpl : (backTo pos (starEach [.Name x p2] X.env)).any (·.1) = false := by rfl) :
    PD X F (.Call (.Name "isinstance" p) [e, .Name x p2] [] pos) (tCB (rIsi F.K) (tCons te (tCons (tC (.ty n)) tNil))) (dIsi n de) := by
  refine ⟨?_, fun pins ρ σ H Q O h => ?_, fun ρ Q Q' hq h => ?_⟩
  · have := pe_callB (p := p) (pos := pos) call_isi hg hm (by decide +kernel) (pa_cons he.pe (pa_cons (pe_bltn (pos := p2) (v := .ty n) hg2 hm2 hv2 rfl hn hd) pa_nil hs2) hs) (by decide) (by decide) hs hpl
    rw [hK] at this
    exact this
  · refine he.de.run pins ρ σ H _ O (he.de.mono _ _ _ (fun r ρ1 h1 v H1 O1 R1 => ?_) h)
    obtain ⟨x, e1, h2⟩ := onV_of h1
    split at h2
    · rename_i k ek
      exact ⟨v, .ty n, _, _, k, rfl, .ty n, tyx_of (val_dp O1 R1 e1), kit_ty ek, h2 _ _ O1 (.sc .bool)⟩
    · exact h2.elim
  · refine he.de.mono _ _ _ (fun r ρ1 h1 => onV_mono h1 fun x h2 => ?_) h
    revert h2
    split
    · exact fun h2 => hq _ _ h2
    · exact fun h2 => h2
def rSqrt : List V → Hp → VK → Prop := fun vs H Q => ∃ i : Int, vs = [.int i] ∧ 0 ≤ i ∧ i.toNat.log2 < 13000 ∧ Q (.int ((Float64.isqrt i.toNat : Nat) : Int)) H
theorem cr_sqrt : CallR X (.builtin "math.isqrt") rSqrt := by
  intro pins s σ H vs us Q I r h
  obtain ⟨i, rfl, h0, h1, q⟩ := h
  obtain ⟨u, rfl, t, rfl⟩ := vals1 r
  exact call_function_meets PySem.W.MGF.kind_isqrt PySem.W.MGF.plain_isqrt PySem.W.MGF.entry_isqrt (PySem.W.MGF.args_isqrt _) (PySem.W.mg_run_isqrt i t (by omega) (by omega) (by omega)).meets ⟨.int _, H, I.tok _, ⟨_, rfl⟩, q⟩
def fSqrt : FA
  | [.int i], Q => (0 ≤ i ∧ i.toNat.log2 < 13000) ∧ Q (.int ((Float64.isqrt i.toNat : Nat) : Int))
  | _, _ => False
theorem sc_sqrt {K : PySem.W.Frag} : SC K rSqrt fSqrt := by
  constructor
  · intro H vs ds Q h q
    unfold fSqrt at q
    split at q
    · obtain ⟨v, rfl, h1⟩ := dpall1 h
      cases dp_int h1
      exact ⟨_, rfl, q.1.1, q.1.2, q.2 _ .int⟩
    · exact q.elim
  · intro ds Q Q' hq q
    unfold fSqrt at q ⊢
    split at q
    · exact ⟨q.1, hq _ q.2⟩
    · exact q.elim
abbrev fPow : F2 := fI CPow fun i j => .int (i ^ j.toNat)
theorem pd_pow (ha : PD X F a ta da) (hb : PD X F b tb db) : PD X F (.BinOp a .Pow b pos) (tOp (rI CPow fun i j => .int (i ^ j.toNat)) ta tb) (dOp fPow da db) := pd_op op_pow (so_I fun _ _ => .int) ha hb
/-- a chain of two comparisons of whole numbers -/
def dChainLe (f g : Int → Int → Bool) (ta tb tc : TDE) : TDE := fun ρ Q => ta ρ fun r ρ1 => tb ρ1 fun s ρ2 => onInt ρ2 r fun i => onInt ρ2 s fun j => if f i j = true then tc ρ2 fun u ρ3 => onInt ρ3 u fun k => Q (.d (.bool (g j k))) ρ3 else Q (.d (.bool false)) ρ2
theorem pd_chainI {op op' : CmpOp} {f g : Int → Int → Bool} {tc : TE} {dc : TDE} (ho : OpR X (compareOp op) (rI0 fun i j => .bl (f i j))) (ho' : OpR X (compareOp op') (rI0 fun i j => .bl (g i j))) (ha : PD X F a ta da) (hb : PD X F b tb db) (hc : PD X F c tc dc)
    (h1 : PE X (.Compare a [op, op'] [b, c] pos) (tChain (rI0 fun i j => .bl (f i j)) (rI0 fun i j => .bl (g i j)) ta tb tc)) : PD X F (.Compare a [op, op'] [b, c] pos) (tChain (rI0 fun i j => .bl (f i j)) (rI0 fun i j => .bl (g i j)) ta tb tc) (dChainLe f g da db dc) := by
  refine ⟨h1, fun pins ρ σ H Q O h => ?_, fun ρ Q Q' hq h => ?_⟩
  · refine ha.de.run pins ρ σ H _ O (ha.de.mono _ _ _ (fun r ρ1 h1 x H1 O1 R1 => ?_) h)
    refine hb.de.run (.val x r :: pins) ρ1 σ H1 _ (O1.push R1) (hb.de.mono _ _ _ (fun s ρ2 h2 y H2 O2 R2 => ?_) h1)
    obtain ⟨O3, R3⟩ := O2.popV
    obtain ⟨i, e1, h3⟩ := onInt_of h2
    obtain ⟨j, e2, h4⟩ := onInt_of h3
    cases dp_int (val_dp O3 R3 e1)
    cases dp_int (val_dp O3 R2 e2)
    refine ⟨i, j, rfl, rfl, f i j, rfl, ?_⟩
    by_cases hf : f i j = true
    · rw [if_pos hf] at h4 ⊢
      refine hc.de.run (.val (.int j) s :: pins) ρ2 σ H2 _ (O3.push R2) (hc.de.mono _ _ _ (fun u ρ3 h5 z H3 O4 R4 => ?_) h4)
      obtain ⟨k, e3, h6⟩ := onInt_of h5
      obtain ⟨O5, _⟩ := O4.popV
      cases dp_int (val_dp O5 R4 e3)
      exact ⟨j, k, rfl, rfl, h6 _ _ O5 (.sc .bool)⟩
    · rw [if_neg hf] at h4 ⊢
      exact h4 _ _ O3 (.sc .bool)
  · refine ha.de.mono _ _ _ (fun r ρ1 h1 => hb.de.mono _ _ _ (fun s ρ2 h2 => onInt_mono h2 fun i h3 => onInt_mono h3 fun j h4 => ?_) h1) h
    by_cases hf : f i j = true
    · rw [if_pos hf] at h4 ⊢
      exact hc.de.mono _ _ _ (fun u ρ3 h5 => onInt_mono h5 fun k h6 => hq _ _ h6) h4
    · rw [if_neg hf] at h4 ⊢
      exact hq _ _ h4
end
/-! ### a def that hands back a new list -/
abbrev SdL := List PyData → (List PyData → Prop) → Prop
def spF (K : PySem.W.Frag) (ks : List Kd) (S : SdL) : Sp := fun vs H Q _ => ∃ (N : Addr → Prop) (xs : List PyData), (∀ a, N a → ∃ o, H a = some o) ∧ ArgsOk K N noZ H ks xs vs ∧
  S xs fun zs => ∀ p H' us, (∀ a o, H a = some o → H' a = some o) → H p = none → H' p = some (.lst us) → ImAll K (fun a => N a ∨ a = p) H' zs us → Q (.ref p) H'
def MonoF (S : SdL) : Prop := ∀ xs Q Q', (∀ z, Q z → Q' z) → S xs Q → S xs Q'
section
variable {P : Program} {w : World} {K : PySem.W.Frag} {mg : Str → Option Value} {base : Heap}
/-- its body: return [..] -/
theorem fnF {x qual : Str} {st : Stmt} {f : Addr} {fd : FuncData} {N ps : List Str} {k : Nat} {ks : List Kd} {S : SdL} {e : Expr} {pos : Pos} (W : Fun K x qual st f fd) (Sc : FnScope N ps (defScope st)) (hks : ks.length = ps.length) (hst : defBody st = [.Return (some e) pos])
    (body : ∀ (cdv : Value) (A : Around) (out : List Env) (s : Shared) (H : Hp) (E : XK) (Nn : Addr → Prop), Room k (A.deeper (envOfC qual (defScope st) s.heap.objs.size f cdv)) → A.guards = some [] →
      ∃ te dl, PDL (cxOf CX0 P w K mg base N qual (defScope st) f cdv A out s H E).nox (frP K H Nn) e te dl ∧
        ∀ xs Q, xs.length = ks.length → S xs Q → dl (rhoP N.length ks xs) fun zs _ => Q zs) : FnG P w K mg base CX0 (k + 1) f fd ps (spF K ks S) := by
  have hpl : ps.length ≤ N.length := by have := congrArg List.length Sc.pre; rw [List.length_take] at this; omega
  refine fg_of W Sc (fun vs H Q E h => ?_) fun cdv A out s H vs Q E hr hgd h => ?_
  · obtain ⟨Nn, xs, _, ha, _⟩ := h
    rw [ha.len.1, hks]
  obtain ⟨Nn, xs, hN, ha, hS⟩ := h
  obtain ⟨te, dl, hb, hq⟩ := body cdv A out s H E Nn hr hgd
  refine ⟨_, by rw [hst]; exact pss_one (ps_ret hb.pe), ?_⟩
  have hl := ha.len
  have noOwn : ∀ i a, ¬ OwnAt (rhoP N.length ks xs) (L2.start N vs) i a := by
    rintro i a ⟨⟨ys, h1⟩, _⟩
    obtain ⟨k, x, v, e, _⟩ := ha.at (rhoP_some h1)
    cases k <;> cases e
  have O : Ok (frP K H Nn) [] (rhoP N.length ks xs) (L2.start N vs) H := by
    refine ⟨?_, fun i e h1 => ?_, fun i j a h1 _ => absurd h1 (noOwn i a), fun p hp => (nomatch hp), .nil, fun a o _ e => e, hN, fun a h => h.elim, hN, fun i a _ h => h.elim⟩
    · rw [rhoP_len hl.2 (by rw [hks]; exact hpl)]
      unfold L2.start
      rw [List.length_append, List.length_map, List.length_replicate]
      omega
    · obtain ⟨k, x, v, rfl, h2, h3⟩ := ha.at (rhoP_some h1)
      refine ⟨v, ?_, arg_ent (N := Nn) rfl rfl (fun a z => z) (fun a z => ?_) h3⟩
      · have hi : i < vs.length := by
          rcases Nat.lt_or_ge i vs.length with z | z
          · exact z
          · rw [List.getElem?_eq_none z] at h2; cases h2
        unfold L2.start
        rw [List.getElem?_append_left (by simpa using hi), List.getElem?_map, h2]; rfl
      · rcases z with z | ⟨j, z⟩ | z
        · exact z
        · exact absurd z (noOwn j a)
        · cases z
  refine hb.dl.run [] _ _ H _ O (hb.dl.mono _ _ _ (fun zs ρ q p H' O' => ?_) (hq xs _ hl.2 hS))
  obtain ⟨us, h1, h2, h3, h4⟩ := O'.pin _ (List.mem_cons_self ..)
  have hp : H p = none := h3
  refine q p H' us (fun a o e => O'.fr a o (fun z => z) e) hp h1 (h2.go ⟨fun _ _ _ e => e, fun a z => .inl ?_⟩)
  rcases z with z | rfl
  · exact .inl z
  · exact .inr (.inr (List.mem_cons_self ..))
end
section
variable {X : Cx} {F : Fm} {e : Expr} {es : List Expr} {t : TA} {d : TDA} {pos : Pos}
/-- kept in mind, from one heap to the next -/
theorem Ok.pushL2 {pins : List Pin} {ρ : Rho} {σ : L2.St} {H H' : Hp} (O : Ok F pins ρ σ H) (g : ∀ a o, H a = some o → H' a = some o) {p : Addr} {xs : List PyData} {vs : List V} (hp : H p = none) (hp' : H' p = some (.lst vs)) (h : ImAll F.K (fun a => Av F pins ρ σ a ∨ a = p) H' xs vs) : Ok F (.acc p xs :: pins) ρ σ H' := by
  have avE : ∀ a, Av F (.acc p xs :: pins) ρ σ a → Av F pins ρ σ a ∨ a = p := fun a h => by
    rcases h with h | h | h
    · exact .inl (.inl h)
    · exact .inl (.inr (.inl h))
    · rcases List.mem_cons.mp (show a ∈ p :: accs pins from h) with rfl | h
      · exact .inr rfl
      · exact .inl (.inr (.inr h))
  have G : Go (Av F pins ρ σ) (Av F (.acc p xs :: pins) ρ σ) H H' := ⟨fun a o _ h => g a o h, fun a h => (avE a h).imp_right fun z => by rw [z]; exact hp⟩
  have G2 : Go (fun a => Av F pins ρ σ a ∨ a = p) (Av F (.acc p xs :: pins) ρ σ) H' H' := ⟨fun a o _ h => h, fun a h => .inl (avE a h)⟩
  have nAv : ¬ Av F pins ρ σ p := fun h => by obtain ⟨o, h⟩ := O.avH h; rw [hp] at h; cases h
  refine ⟨O.len, fun i e h => ?_, O.own, fun q hq => ?_, ?_, fun a o n h => g _ _ (O.fr a o n h), fun a h => ?_, O.ln, O.h0, O.lf⟩
  · obtain ⟨v, h1, h2⟩ := O.ent i e h
    exact ⟨v, h1, EntOk.go G h2 fun a us _ z _ => g _ _ z⟩
  · rcases List.mem_cons.mp hq with rfl | hq
    · refine ⟨vs, hp', h.go G2, ?_, fun ⟨i, z⟩ => nAv (.inr (.inl ⟨i, z⟩))⟩
      cases e : F.H0 p with
      | none => rfl
      | some o =>
        by_cases hl : F.L p
        · exact absurd (.inl (O.ln p hl)) nAv
        · rw [O.fr p o hl e] at hp; cases hp
    · have h := O.pin q hq
      cases q with
      | val v r => exact ROk.go G h
      | acc a ys =>
        obtain ⟨us, h1, h2, h3⟩ := h
        exact ⟨us, g _ _ h1, h2.go G, h3⟩
  · exact List.nodup_cons.mpr ⟨fun h => nAv (.inr (.inr h)), O.acs⟩
  · obtain ⟨o, h⟩ := O.nh a h
    exact ⟨o, g _ _ h⟩
def dCallF (ks : List Kd) (S : SdL) (t : TDA) : TDL := fun ρ Q => t ρ fun rs ρ1 => onArgs ρ1 ks rs fun xs => S xs fun zs => Q zs ρ1
theorem pl_callF {ks : List Kd} {S : SdL} {k : Nat} {f : Addr} {fd : FuncData} {ps : List Str} {x : Str} {p : Pos} (G : FnG X.prog X.w X.K X.mg X.base CX0 k f fd ps (spF F.K ks S)) (hS : MonoF S) (hr : Room k X.A) (hgd : X.A.guards = some []) (hg : Gl X x) (hm : X.mg x = some (.ref f)) (hk : PySem.W.keepIn X.K (.ref f) = true) (hb : Binds X.K fd ps [])
    (ha : PDA X F (e :: es) t d) (hdb : (x == ("__debug__" : Str)) = false := by decide) (he : starEach (e :: es) X.env = (false, eval e X.env) :: starEach es X.env := by rfl) (hpl : (backTo pos (starEach es X.env)).any (·.1) = false := by rfl) :
    PDL X F (.Call (.Name x p) (e :: es) [] pos) (fun σ H Q => t σ H fun vs H1 => spF F.K ks S vs H1 Q E0) (dCallF ks S d) := by
  refine ⟨pe_callG G hr hgd hg hm hk hb ha.pa hdb he hpl, fun pins ρ σ H Q O h => ?_, fun ρ Q Q' hq h => ha.da.mono _ _ _ (fun rs ρ1 h1 => onArgs_mono h1 fun xs h2 => hS _ _ _ (fun z => hq _ _) h2) h⟩
  refine ha.da.run pins ρ σ H _ O (ha.da.mono _ _ _ (fun rs ρ1 h1 vs H1 O1 R1 => ?_) h)
  obtain ⟨xs, e, h2⟩ := onArgs_of h1
  exact ⟨Av F pins ρ1 σ, xs, fun a ha => O1.avH ha, args_ok O1 (fun a z => z.elim) (fun _ _ _ _ _ _ z => z) R1 e, hS _ _ _ (fun zs q p H' us g hp hp' im => q p H' (O1.pushL2 g hp hp' im)) h2⟩
end
section
variable {X : Cx} {F : Fm} {a b : Expr} {ta tb : TE} {da db : TDE} {pos : Pos}
/-! ### comparisons as tests -/
theorem pt_cmpD {op : CmpOp} {r : R2} {f : F2} (ho : OpR X (compareOp op) r) (hm : behindInMarks op b = false) (hf : SO F.K r f) (ha : PD X F a ta da) (hb : PD X F b tb db) : PDT X F (.Compare a [op] [b] pos) (tTest (tOp r ta tb)) (dTV (dOp f da db)) :=
  ⟨pt_cmpR ho ha.pe hb.pe hm, dt_tv (k := tTest) (fun _ => rfl) (de_op hf ha.de hb.de)⟩
theorem pt_lt (ha : PD X F a ta da) (hb : PD X F b tb db) : PDT X F (.Compare a [.Lt] [b] pos) (tTest (tOp (rI0 fun i j => .bl (decide (i < j))) ta tb)) (dTV (dOp fLt da db)) := pt_cmpD op_lt (nomark _) (so_I0 fun _ _ => .bool) ha hb
theorem pt_le (ha : PD X F a ta da) (hb : PD X F b tb db) : PDT X F (.Compare a [.LtE] [b] pos) (tTest (tOp (rI0 fun i j => .bl (decide (i ≤ j))) ta tb)) (dTV (dOp fLe da db)) := pt_cmpD op_le (nomark _) (so_I0 fun _ _ => .bool) ha hb
theorem pt_gt (ha : PD X F a ta da) (hb : PD X F b tb db) : PDT X F (.Compare a [.Gt] [b] pos) (tTest (tOp (rI0 fun i j => .bl (decide (j < i))) ta tb)) (dTV (dOp fGt da db)) := pt_cmpD op_gt (nomark _) (so_I0 fun _ _ => .bool) ha hb
theorem pt_ge (ha : PD X F a ta da) (hb : PD X F b tb db) : PDT X F (.Compare a [.GtE] [b] pos) (tTest (tOp (rI0 fun i j => .bl (decide (j ≤ i))) ta tb)) (dTV (dOp fGe da db)) := pt_cmpD op_ge (nomark _) (so_I0 fun _ _ => .bool) ha hb
theorem pt_eq (hu : X.A.units + 64 < cLine) (hK : X.K = F.K) (ha : PD X F a ta da) (hb : PD X F b tb db) : PDT X F (.Compare a [.Eq] [b] pos) (tTest (tOp (rEqD F.K) ta tb)) (dTV (dOp fEq da db)) := by
  have h := pt_cmpD (X := X) (F := F) (pos := pos) (op_eqD hu) (nomark _) (by rw [hK]; exact so_Eq) ha hb
  rw [hK] at h; exact h
theorem pt_ne (hu : X.A.units + 64 < cLine) (hK : X.K = F.K) (ha : PD X F a ta da) (hb : PD X F b tb db) : PDT X F (.Compare a [.NotEq] [b] pos) (tTest (tOp (rNeD F.K) ta tb)) (dTV (dOp fNe da db)) := by
  have h := pt_cmpD (X := X) (F := F) (pos := pos) (op_neD hu) (nomark _) (by rw [hK]; exact so_Ne) ha hb
  rw [hK] at h; exact h
end
end DV
namespace DV
open PySem PySem.Spec PyProof.Rows L2
/-! ## what is shown, and how long it is -/
mutual
def okd : PyData → Bool
  | .none => true
  | .bool _ => true
  | .int i => decide (i.natAbs.log2 < 1000)
  | .str x => (PyData.str x).canLay0 && x.cps.toList.all fun c => decide (c < 16 ^ 8)
  | .list xs => okds xs
  | .tuple xs => okds xs
  | .dict _ => false
def okds : List PyData → Bool
  | [] => true
  | x :: xs => okd x && okds xs
end
mutual
def cost : PyData → Nat
  | .none => 5
  | .bool _ => 5
  | .int _ => 1001
  | .str x => 10 * x.length + 2
  | .list xs => costs xs + 3
  | .tuple xs => costs xs + 3
  | .dict _ => 0
def costs : List PyData → Nat
  | [] => 0
  | x :: xs => cost x + 2 + costs xs
end
theorem piled_costs : ∀ {ts : List Str} {xs : List PyData}, ts = PyData.shownAll xs → (∀ x ∈ xs, x.shown.length ≤ cost x) → (Str.join ", " ts).length ≤ costs xs
  | _, [], h, _ => by
    rw [PyData.shownAll_nil] at h; subst h
    show (Str.join ", " []).length ≤ 0
    decide
  | _, [x], h, hx => by
    rw [PyData.shownAll_cons, PyData.shownAll_nil] at h; subst h
    have := hx x (List.mem_cons_self ..)
    show x.shown.length ≤ cost x + 2 + 0
    omega
  | _, x :: y :: xs, h, hx => by
    rw [PyData.shownAll_cons] at h; subst h
    have ih := piled_costs (ts := PyData.shownAll (y :: xs)) (xs := y :: xs) rfl fun z hz => hx z (List.mem_cons_of_mem _ hz)
    have h1 := hx x (List.mem_cons_self ..)
    have e : Str.join ", " (x.shown :: PyData.shownAll (y :: xs)) = x.shown ++ ", " ++ Str.join ", " (PyData.shownAll (y :: xs)) := by
      rw [PyData.shownAll_cons]; rfl
    rw [e, strLen_append, strLen_append]
    have e2 : (Str.ofString ", ").length = 2 := by decide
    have e3 : costs (x :: y :: xs) = cost x + 2 + costs (y :: xs) := by simp only [costs]
    rw [e3]
    omega
mutual
theorem shown_le : ∀ d : PyData, okd d = true → d.shown.length ≤ cost d
  | .none, _ => by rw [PyData.shown_none]; simp only [cost]; decide
  | .bool b, _ => by rw [PyData.shown_bool]; simp only [cost]; cases b <;> decide
  | .int i, h => by
    simp only [okd, decide_eq_true_eq] at h
    rw [PyData.shown_int, PySem.ofString_length]
    simp only [cost]
    exact int_text_length_le (k := 1000) (by decide) h
  | .str x, h => by
    simp only [okd, Bool.and_eq_true, List.all_eq_true, decide_eq_true_eq] at h
    rw [PyData.shown_str]
    simp only [cost]
    exact StrLaws.reprText_len x h.2
  | .list xs, h => by
    simp only [okd] at h
    rw [PyData.shown_list, strLen_append, strLen_append]
    have := piled_costs (ts := PyData.shownAll xs) rfl (shown_les xs h)
    simp only [cost]
    have e1 : (Str.ofString "[").length = 1 := by decide
    have e2 : (Str.ofString "]").length = 1 := by decide
    omega
  | .tuple xs, h => by
    simp only [okd] at h
    rw [PyData.shown_tuple, strLen_append, strLen_append]
    have := piled_costs (ts := PyData.shownAll xs) rfl (shown_les xs h)
    simp only [cost]
    have e1 : (Str.ofString "(").length = 1 := by decide
    have e2 : (Str.ofString (if (xs.length == 1) = true then ",)" else ")")).length ≤ 2 := by split <;> decide
    omega
  | .dict _, h => by simp only [okd] at h; cases h
theorem shown_les : ∀ xs : List PyData, okds xs = true → ∀ x ∈ xs, x.shown.length ≤ cost x
  | [], _, x, hx => nomatch hx
  | y :: ys, h, x, hx => by
    simp only [okds, Bool.and_eq_true] at h
    rcases List.mem_cons.mp hx with e | hx
    · rw [e]; exact shown_le y h.1
    · exact shown_les ys h.2 x hx
end
mutual
theorem okd_facts : ∀ d : PyData, okd d = true → d.canLay0 = true ∧ d.showable = true ∧ d.hasDict = false
  | .none, _ => ⟨by simp [PyData.canLay0], by simp [PyData.showable], by simp [PyData.hasDict]⟩
  | .bool b, _ => ⟨by simp [PyData.canLay0], by simp [PyData.showable], by simp [PyData.hasDict]⟩
  | .int i, h => by
    simp only [okd, decide_eq_true_eq] at h
    exact ⟨by simp [PyData.canLay0], by simp only [PyData.showable, decide_eq_true_eq]; omega, by simp [PyData.hasDict]⟩
  | .str x, h => by
    simp only [okd, Bool.and_eq_true] at h
    exact ⟨h.1, by simp [PyData.showable], by simp [PyData.hasDict]⟩
  | .list xs, h => by
    simp only [okd] at h
    simp only [PyData.canLay0, PyData.showable, PyData.hasDict]
    exact okds_facts xs h
  | .tuple xs, h => by
    simp only [okd] at h
    simp only [PyData.canLay0, PyData.showable, PyData.hasDict]
    exact okds_facts xs h
  | .dict _, h => by simp only [okd] at h; cases h
theorem okds_facts : ∀ xs : List PyData, okds xs = true → PyData.canLayAll0 xs = true ∧ PyData.showableAll xs = true ∧ PyData.hasDictAll xs = false
  | [], _ => ⟨by simp [PyData.canLayAll0], by simp [PyData.showableAll], by simp [PyData.hasDictAll]⟩
  | y :: ys, h => by
    simp only [okds, Bool.and_eq_true] at h
    obtain ⟨a1, a2, a3⟩ := okd_facts y h.1
    obtain ⟨b1, b2, b3⟩ := okds_facts ys h.2
    simp only [PyData.canLayAll0, PyData.showableAll, PyData.hasDictAll]
    exact ⟨by rw [a1, b1]; rfl, by rw [a2, b2]; rfl, by rw [a3, b3]; rfl⟩
end
/-- data that can be compared and shown -/
structure Fine (d : PyData) : Prop where
  ok : okd d = true
  deep : d.depth ≤ 60
  few : cost d ≤ 16000000
theorem Fine.shaped {d : PyData} (h : Fine d) : SeqAt.shaped d = true := by
  unfold SeqAt.shaped
  rw [Bool.and_eq_true, decide_eq_true_eq]
  exact ⟨(okd_facts d h.ok).1, by have := h.deep; omega⟩
theorem Fine.plain {d : PyData} (h : Fine d) : Plain d := by
  refine ⟨(okd_facts d h.ok).2.1, (okd_facts d h.ok).2.2, h.deep, Nat.le_trans (shown_le d h.ok) (Nat.le_trans h.few ?_)⟩
  rw [sizeLine_eq]; decide
theorem Fine.refl {d : PyData} (h : Fine d) : PyData.eqv d d = true := SeqAt.eqv_refl d (okd_facts d h.ok).1
theorem shaped_str {x : Str} (h : (PyData.str x).canLay0 = true) : SeqAt.shaped (.str x) = true := by
  unfold SeqAt.shaped
  rw [Bool.and_eq_true, decide_eq_true_eq]
  exact ⟨h, by simp [PyData.depth]⟩
end DV
namespace DV
open PySem PySem.Spec PyProof.Rows L2
/-! ## words for readings -/
theorem few_le {n : Nat} (h : n ≤ 100000) : Few n := Nat.le_trans h (by rw [sizeLine_eq]; decide)
theorem few_iff {n : Nat} : (n ≤ sizeLine) = Few n := rfl
theorem sh_int {i : Int} : SeqAt.shaped (.int i) = true := by simp [SeqAt.shaped, PyData.canLay0, PyData.depth]
theorem sh_bool {i : Bool} : SeqAt.shaped (.bool i) = true := by simp [SeqAt.shaped, PyData.canLay0, PyData.depth]
theorem eqv_int {i j : Int} : PyData.eqv (.int i) (.int j) = decide (i = j) := by
  simp only [PyData.eqv]; exact Bool.beq_eq_decide_eq i j
theorem on0 {x : PyData} {xs : List PyData} {f : PyData → Prop} : onAt (x :: xs) 0 f = f x := by
  have e : atI (x :: xs) 0 = some x := by
    unfold atI ixN
    rw [if_pos (by omega), if_pos (by rw [List.length_cons]; omega)]; rfl
  unfold onAt; rw [e]
theorem on1 {x y : PyData} {xs : List PyData} {f : PyData → Prop} : onAt (x :: y :: xs) 1 f = f y := by
  have e : atI (x :: y :: xs) 1 = some y := by
    unfold atI ixN
    rw [if_pos (by omega), if_pos (by rw [List.length_cons, List.length_cons]; omega)]; rfl
  unfold onAt; rw [e]
theorem on2 {x y z : PyData} {xs : List PyData} {f : PyData → Prop} : onAt (x :: y :: z :: xs) 2 f = f z := by
  have e : atI (x :: y :: z :: xs) 2 = some z := by
    unfold atI ixN
    rw [if_pos (by omega), if_pos (by rw [List.length_cons, List.length_cons, List.length_cons]; omega)]; rfl
  unfold onAt; rw [e]
theorem on3 {x y z u : PyData} {xs : List PyData} {f : PyData → Prop} : onAt (x :: y :: z :: u :: xs) 3 f = f u := by
  have e : atI (x :: y :: z :: u :: xs) 3 = some u := by
    unfold atI ixN
    rw [if_pos (by omega), if_pos (by rw [List.length_cons, List.length_cons, List.length_cons, List.length_cons]; omega)]; rfl
  unfold onAt; rw [e]
theorem cutD_sub {xs : List PyData} {lo hi : Option Int} : ∀ y ∈ cutD xs lo hi, y ∈ xs := fun y h => List.mem_of_mem_drop (List.mem_of_mem_take h)
theorem cutD_len {xs : List PyData} {lo hi : Option Int} : (cutD xs lo hi).length ≤ xs.length := by
  unfold cutD
  rw [List.length_take, List.length_drop]; omega
theorem ite_t {c : Prop} [Decidable c] {A B : Prop} (h : c) (k : A) : if decide c = true then A else B := by rw [decide_eq_true h, if_pos rfl]; exact k
theorem ite_f {c : Prop} [Decidable c] {A B : Prop} (h : ¬ c) (k : B) : if decide c = true then A else B := by rw [decide_eq_false h, if_neg (by decide)]; exact k
theorem ite_b {c : Prop} [Decidable c] {A B : Prop} (k : c → A) (m : ¬ c → B) : if decide c = true then A else B := by
  by_cases h : c
  · exact ite_t h (k h)
  · exact ite_f h (m h)
theorem cmw {i j : Int} {a b : Nat} (ha : i.natAbs < 2 ^ a) (hb : j.natAbs < 2 ^ b) (h0 : 0 < a := by decide) (h1 : 0 < b := by decide) (h : a + b ≤ 1000000 := by decide) : CMulW i j := wide_mul ha hb h0 h1 h
theorem cdw {i j : Int} {b : Nat} (h : 0 < j) (hb : j.natAbs < 2 ^ b) (h0 : 0 < b := by decide) (h9 : b ≤ 9000 := by decide) : CDivW i j := wide_div h hb h0 h9
/-- one statement, what follows kept shut -/
theorem seqI {t u : TDS} {DD : DEnds} {ρ : Rho} (h : ∀ k, k = u DD → t { DD with nx := k } ρ) : dSeq t u DD ρ := h _ rfl
theorem tn0 : Int.toNat 0 = 0 := rfl
theorem tn1 : Int.toNat 1 = 1 := rfl
theorem tn2 : Int.toNat 2 = 2 := rfl
theorem tn3 : Int.toNat 3 = 3 := rfl
/-! ## the draws of the laws -/
/-- the state of the draws, behind at most m of them -/
def Bag (m : Nat) (bag : List PyData) : Prop := ∃ (a b c : Int) (cells : List Int), bag = [.int a, .int b, .int c, .list (cells.map .int)] ∧ 0 ≤ a ∧ 0 ≤ b ∧ b < 4294967296 ∧ 0 ≤ c ∧ c ≤ m ∧ cells.length ≤ 63 ∧ ∀ k ∈ cells, (0 : Int) ≤ k
theorem Bag.up {m n : Nat} {bag : List PyData} (h : Bag m bag) (k : m ≤ n) : Bag n bag := by
  obtain ⟨a, b, c, cells, e, h1, h2, h3, h4, h5, h6⟩ := h
  exact ⟨a, b, c, cells, e, h1, h2, h3, h4, by omega, h6⟩
def S_take : Sb := fun bag xs Q => ∃ (m : Nat) (n : Int), Bag m bag ∧ m < 2 ^ 60 ∧ xs = [.int n] ∧ 0 < n ∧ n.natAbs < 2 ^ 8000 ∧ ∀ (v : Int) bag', 0 ≤ v → v < n → Bag (m + 1) bag' → Q (.int v) bag'
theorem m_take : MonoB S_take := fun bag xs Q Q' hq ⟨m, n, h1, h2, h3, h4, h5, h6⟩ => ⟨m, n, h1, h2, h3, h4, h5, fun v b a1 a2 a3 => hq _ _ (h6 v b a1 a2 a3)⟩
def td_take : TDS := dSeq
          (dIfS (dTV (dOp fEq (dIx (dVar 0) (dC (PyData.int 0))) (dC (PyData.int 0))))
            (dSeq
              (dAsg
                (dIx
                  (dOfL
                    (dCat
                      (dOfL
                        (dSlL (dIx (dVar 0) (dC (PyData.int 3))) (dPart (dIx (dVar 0) (dC (PyData.int 2)))) dNoPart))
                      (dOfL (dLst (dCons (dC (PyData.int 0)) dNil)))))
                  (dC (PyData.int 0)))
                (setR 2))
              (dSeq (dAddItem 0 (dC (PyData.int 2)) (dC (PyData.int 1)))
                (dSeq
                  (dIfS (dTV (dOp fGe (dVar 2) (dOp fPow (dC (PyData.int 10)) (dC (PyData.int 18)))))
                    (dSetItem 0 (dVar 2) (dC (PyData.int 0))) dNext)
                  (dSeq
                    (dAsg
                      (dOp fAdd
                        (dOp fAdd (dOp fMul (dIx (dVar 0) (dC (PyData.int 1))) (dC (PyData.int 48271)))
                          (dOp fMod (dCB fInt (dCons (dVar 2) dNil)) (dC (PyData.int 2147483647))))
                        (dOp fMul (dC (PyData.int 7919)) (dIx (dVar 0) (dC (PyData.int 2)))))
                      (setR 3))
                    (dSetItem 0 (dOp fMod (dCB fInt (dCons (dVar 3) dNil)) (dC (PyData.int 2147483647)))
                      (dC (PyData.int 1)))))))
            dNext)
          (dSeq
            (dIfS (dTV (dOp fGt (dIx (dVar 0) (dC (PyData.int 0))) (dC (PyData.int 0))))
              (dSeq (dAsg (dOp fMod (dCB fInt (dCons (dIx (dVar 0) (dC (PyData.int 0))) dNil)) (dVar 1)) (setR 4))
                (dSeq
                  (dSetItem 0 (dOp fDiv (dCB fInt (dCons (dIx (dVar 0) (dC (PyData.int 0))) dNil)) (dVar 1))
                    (dC (PyData.int 0)))
                  (dRet (dVar 4))))
              dNext)
            (dSeq
              (dAsg
                (dOp fMod
                  (dCB fInt
                    (dCons
                      (dOp fMul (dOp fAdd (dIx (dVar 0) (dC (PyData.int 1))) (dC (PyData.int 1)))
                        (dC (PyData.int 39373)))
                      dNil))
                  (dC (PyData.int 1000000007)))
                (setR 5))
              (dSeq
                (dAsg
                  (dOp fMod
                    (dCB fInt
                      (dCons
                        (dOp fMul
                          (dOp fMod (dCB fInt (dCons (dOp fMul (dVar 5) (dVar 5)) dNil)) (dC (PyData.int 998244353)))
                          (dC (PyData.int 30011)))
                        dNil))
                    (dC (PyData.int 998244353)))
                  (setR 6))
                (dRet (dOp fMod (dCB fInt (dCons (dOp fDiv (dVar 6) (dC (PyData.int 7))) dNil)) (dVar 1))))))
/-- behind the first if -/
def td_take2 : TDS := (dSeq
            (dIfS (dTV (dOp fGt (dIx (dVar 0) (dC (PyData.int 0))) (dC (PyData.int 0))))
              (dSeq (dAsg (dOp fMod (dCB fInt (dCons (dIx (dVar 0) (dC (PyData.int 0))) dNil)) (dVar 1)) (setR 4))
                (dSeq
                  (dSetItem 0 (dOp fDiv (dCB fInt (dCons (dIx (dVar 0) (dC (PyData.int 0))) dNil)) (dVar 1))
                    (dC (PyData.int 0)))
                  (dRet (dVar 4))))
              dNext)
            (dSeq
              (dAsg
                (dOp fMod
                  (dCB fInt
                    (dCons
                      (dOp fMul (dOp fAdd (dIx (dVar 0) (dC (PyData.int 1))) (dC (PyData.int 1)))
                        (dC (PyData.int 39373)))
                      dNil))
                  (dC (PyData.int 1000000007)))
                (setR 5))
              (dSeq
                (dAsg
                  (dOp fMod
                    (dCB fInt
                      (dCons
                        (dOp fMul
                          (dOp fMod (dCB fInt (dCons (dOp fMul (dVar 5) (dVar 5)) dNil)) (dC (PyData.int 998244353)))
                          (dC (PyData.int 30011)))
                        dNil))
                    (dC (PyData.int 998244353)))
                  (setR 6))
                (dRet (dOp fMod (dCB fInt (dCons (dOp fDiv (dVar 6) (dC (PyData.int 7))) dNil)) (dVar 1))))))
theorem rd_take2 {m : Nat} {n a b c : Int} {cells : List Int} {x2 x3 : Option Ent} {Q : PyData → List PyData → Prop} (hn : 0 < n) (hn2 : n.natAbs < 2 ^ 8000) (h0 : 0 ≤ a) (h1 : 0 ≤ b) (h2 : b < 4294967296) (h3 : 0 ≤ c) (h4 : c ≤ m) (h5 : cells.length ≤ 63) (h6 : ∀ k ∈ cells, (0 : Int) ≤ k)
    (q : ∀ (v : Int) bag', 0 ≤ v → v < n → Bag m bag' → Q (.int v) bag') : td_take2 { nx := fun ρ => retB (.d .none) ρ Q, rt := fun r ρ => retB r ρ Q } [some (.own [.int a, .int b, .int c, .list (cells.map .int)]), some (.d (.int n)), x2, x3, none, none, none] := by
  unfold td_take2
  simp only [dSeq, dAsg, dCB, dCons, dNil, dVar, onVs, vals, val, slot, setR, fGcd, dIfS, dTV, dOp, dBin, onV2, fLt, fLe, fGt, fGe, fAdd, fSub, fMul, fDiv, fMod, fI0, dC, dUn, onV, fNeg, dNext, dRet, dTup, onD, dats, fDivZ, fI, fPow, Few, retP, fAbs, fInt, fMax, fMin, fLen, fSqrt, fEq, fNe, dNot, dAnd, dOr, dAndV, dOrV, dNotV, dIfE, dDrop, dRetN, dPar, noO, dSetL, dLst, dOfL, dOwnM, onOwn, onDat, kAppend, kInsert, dSetItem, dAddItem, dIx, onItems, items, onInt, dNoPart, dPart, dSlice, onL, litems, dSlL, dCat, onM, mitems, dTupOf, dSeqI, dRng1, dRng2, dCallP, dCallB, dCallF, noSelf, onArgs, dats2, dIsi, tyName, dYes, dgTup, dgCons, dgNil, retB, dBreak, dCont, ne_eq, not_false_eq_true, true_and, and_true, List.getElem?_cons_zero, List.getElem?_cons_succ, List.set_cons_zero, List.set_cons_succ, Option.map, List.length_cons, List.length_nil, on0, on1, on2, on3]
  refine ite_b (fun ha => ?_) fun ha => ?_
  · refine ⟨hn, cdw hn hn2, ⟨by decide, by decide⟩, ?_⟩
    exact q _ _ (Int.emod_nonneg _ (by clear hn2; omega)) (Int.emod_lt_of_pos _ hn) ⟨a / n, b, c, cells, rfl, Int.ediv_nonneg h0 (by clear hn2; omega), h1, h2, h3, h4, h5, h6⟩
  · have e0 : ∀ x k : Int, 0 < k → 0 ≤ x % k ∧ x % k < k := fun x k hk => ⟨Int.emod_nonneg _ (by omega), Int.emod_lt_of_pos _ hk⟩
    refine ⟨cmw (a := 40) (b := 20) (by omega) (by decide), by decide, ?_⟩
    obtain ⟨u1, u2⟩ := e0 ((b + 1) * 39373) 1000000007 (by decide)
    generalize (b + 1) * 39373 % 1000000007 = u at u1 u2 ⊢
    refine ⟨cmw (a := 40) (b := 40) (by omega) (by omega), by decide, ?_⟩
    obtain ⟨w1, w2⟩ := e0 (u * u) 998244353 (by decide)
    generalize u * u % 998244353 = w at w1 w2 ⊢
    refine ⟨cmw (a := 40) (b := 20) (by omega) (by decide), by decide, cdw (b := 20) (by decide) (by decide), hn, ?_⟩
    exact q _ _ (e0 _ n hn).1 (e0 _ n hn).2 ⟨a, b, c, cells, rfl, h0, h1, h2, h3, h4, h5, h6⟩
theorem rd_take {bag xs : List PyData} {Q : PyData → List PyData → Prop} (hS : S_take bag xs Q) : td_take { nx := fun ρ => retB (.d .none) ρ Q, rt := fun r ρ => retB r ρ Q } (some (.own bag) :: rhoP 6 [.d] xs) := by
  obtain ⟨m, n, ⟨a, b, c, cells, rfl, h0, h1, h2, h3, h4, h5, h6⟩, hm, rfl, hn, hn2, q⟩ := hS
  have e : (some (.own [.int a, .int b, .int c, .list (cells.map .int)]) :: rhoP 6 [.d] [.int n] : Rho) = [some (.own [.int a, .int b, .int c, .list (cells.map .int)]), some (.d (.int n)), none, none, none, none, none] := rfl
  rw [e]
  show dSeq _ td_take2 _ _
  unfold dSeq
  simp only [dSeq, dAsg, dCB, dCons, dNil, dVar, onVs, vals, val, slot, setR, fGcd, dIfS, dTV, dOp, dBin, onV2, fLt, fLe, fGt, fGe, fAdd, fSub, fMul, fDiv, fMod, fI0, dC, dUn, onV, fNeg, dNext, dRet, dTup, onD, dats, fDivZ, fI, fPow, Few, retP, fAbs, fInt, fMax, fMin, fLen, fSqrt, fEq, fNe, dNot, dAnd, dOr, dAndV, dOrV, dNotV, dIfE, dDrop, dRetN, dPar, noO, dSetL, dLst, dOfL, dOwnM, onOwn, onDat, kAppend, kInsert, dSetItem, dAddItem, dIx, onItems, items, onInt, dNoPart, dPart, dSlice, onL, litems, dSlL, dCat, onM, mitems, dTupOf, dSeqI, dRng1, dRng2, dCallP, dCallB, dCallF, noSelf, onArgs, dats2, dIsi, tyName, dYes, dgTup, dgCons, dgNil, retB, dBreak, dCont, ne_eq, not_false_eq_true, true_and, and_true, List.getElem?_cons_zero, List.getElem?_cons_succ, List.set_cons_zero, List.set_cons_succ, Option.map, List.length_cons, List.length_nil, on0, on1, on2, on3, sh_int, eqv_int]
  refine ite_b (fun ha => ?_) fun ha => ?_
  · -- the next cell
    have hc : ∃ (k : Int) (rest : List PyData), cutD (cells.map PyData.int) (some c) none ++ [PyData.int 0] = .int k :: rest ∧ 0 ≤ k := by
      cases e1 : cutD (cells.map PyData.int) (some c) none with
      | nil => exact ⟨0, [], rfl, by decide⟩
      | cons y ys =>
        have hy : y ∈ cells.map PyData.int := cutD_sub (lo := some c) (hi := none) y (by rw [e1]; exact List.mem_cons_self ..)
        obtain ⟨k, hk, rfl⟩ := List.mem_map.mp hy
        exact ⟨k, ys ++ [PyData.int 0], rfl, h6 k hk⟩
    obtain ⟨k, rest, e1, hk⟩ := hc
    have hl : (cutD (cells.map PyData.int) (some c) none).length ≤ 63 := Nat.le_trans cutD_len (by rw [List.length_map]; exact h5)
    rw [e1]
    simp only [dSeq, dAsg, dCB, dCons, dNil, dVar, onVs, vals, val, slot, setR, fGcd, dIfS, dTV, dOp, dBin, onV2, fLt, fLe, fGt, fGe, fAdd, fSub, fMul, fDiv, fMod, fI0, dC, dUn, onV, fNeg, dNext, dRet, dTup, onD, dats, fDivZ, fI, fPow, Few, retP, fAbs, fInt, fMax, fMin, fLen, fSqrt, fEq, fNe, dNot, dAnd, dOr, dAndV, dOrV, dNotV, dIfE, dDrop, dRetN, dPar, noO, dSetL, dLst, dOfL, dOwnM, onOwn, onDat, kAppend, kInsert, dSetItem, dAddItem, dIx, onItems, items, onInt, dNoPart, dPart, dSlice, onL, litems, dSlL, dCat, onM, mitems, dTupOf, dSeqI, dRng1, dRng2, dCallP, dCallB, dCallF, noSelf, onArgs, dats2, dIsi, tyName, dYes, dgTup, dgCons, dgNil, retB, dBreak, dCont, ne_eq, not_false_eq_true, true_and, and_true, List.getElem?_cons_zero, List.getElem?_cons_succ, List.set_cons_zero, List.set_cons_succ, Option.map, List.length_cons, List.length_nil, on0, on1, on2, on3, sh_int, eqv_int, tn0, tn1, tn2, tn3]
    refine ⟨few_le (by omega), few_le (by omega), ⟨by decide, by decide⟩, ⟨by decide, by decide, by decide⟩, ?_⟩
    refine ite_b (fun hk2 => ?_) fun hk2 => ?_
    · refine ⟨⟨by decide, by decide⟩, cmw (a := 40) (b := 20) (by omega) (by decide), by decide, cmw (a := 20) (b := 62) (by decide) (by omega), by decide, ⟨by decide, by decide⟩, ?_⟩
      have z := Int.emod_lt_of_pos (b * 48271 + k % 2147483647 + 7919 * (c + 1)) (show (0 : Int) < 2147483647 by decide)
      exact rd_take2 (m := m + 1) hn hn2 hk (Int.emod_nonneg _ (by decide)) (by omega) (by omega) (by omega) h5 h6 q
    · refine ⟨cmw (a := 40) (b := 20) (by omega) (by decide), by decide, cmw (a := 20) (b := 62) (by decide) (by omega), by decide, ⟨by decide, by decide⟩, ?_⟩
      have z := Int.emod_lt_of_pos (b * 48271 + k % 2147483647 + 7919 * (c + 1)) (show (0 : Int) < 2147483647 by decide)
      exact rd_take2 (m := m + 1) hn hn2 h0 (Int.emod_nonneg _ (by decide)) (by omega) (by omega) (by omega) h5 h6 q
  · exact rd_take2 hn hn2 h0 h1 h2 h3 (by omega) h5 h6 q
/-- one of some things -/
def S_some : Sb := fun bag xs Q => ∃ (m : Nat) (ys : List PyData), Bag m bag ∧ m < 2 ^ 60 ∧ (xs = [.list ys] ∨ xs = [.tuple ys]) ∧ 0 < ys.length ∧ ys.length ≤ 100000 ∧ ∀ y bag', y ∈ ys → Bag (m + 1) bag' → Q y bag'
theorem m_some : MonoB S_some := fun bag xs Q Q' hq ⟨m, ys, h1, h2, h3, h4, h5, h6⟩ => ⟨m, ys, h1, h2, h3, h4, h5, fun y b a1 a2 => hq _ _ (h6 y b a1 a2)⟩
theorem onAt_mem {ys : List PyData} {v : Int} {f : PyData → Prop} (h0 : 0 ≤ v) (h1 : v < ys.length) (h : ∀ y ∈ ys, f y) : onAt ys v f := by
  have hv : v.toNat < ys.length := by omega
  have e : atI ys v = some ys[v.toNat] := by
    unfold atI ixN
    rw [if_pos h0, if_pos h1]
    exact List.getElem?_eq_getElem hv
  unfold onAt; rw [e]
  exact h _ (List.getElem_mem hv)
theorem rd_some {bag xs : List PyData} {Q : PyData → List PyData → Prop} (hS : S_some bag xs Q) :
    dRet (dIx (dVar 1) (dCallB [Kd.d] S_take (dCons (dVar 0) (dCons (dCB fLen (dCons (dVar 1) dNil)) dNil)))) { nx := fun ρ => retB (.d .none) ρ Q, rt := fun r ρ => retB r ρ Q } (some (.own bag) :: rhoP 1 [.d] xs) := by
  obtain ⟨m, ys, hb, hm, hx, h0, h1, q⟩ := hS
  have key : ∀ n : Int, n = (ys.length : Nat) → S_take bag [.int n] fun z bag' => ∃ v : Int, z = .int v ∧ 0 ≤ v ∧ v < ys.length ∧ Bag (m + 1) bag' := fun n hn =>
    ⟨m, n, hb, hm, rfl, by omega, Nat.lt_of_lt_of_le (by omega : n.natAbs < 2 ^ 17) (Nat.pow_le_pow_right (by decide) (by decide)), fun v bag' a1 a2 a3 => ⟨v, rfl, a1, by omega, a3⟩⟩
  rcases hx with rfl | rfl
  · have e : (some (.own bag) :: rhoP 1 [.d] [.list ys] : Rho) = [some (.own bag), some (.d (.list ys))] := rfl
    rw [e]
    simp only [dSeq, dAsg, dCB, dCons, dNil, dVar, onVs, vals, val, slot, setR, fGcd, dIfS, dTV, dOp, dBin, onV2, fLt, fLe, fGt, fGe, fAdd, fSub, fMul, fDiv, fMod, fI0, dC, dUn, onV, fNeg, dNext, dRet, dTup, onD, dats, fDivZ, fI, fPow, Few, retP, fAbs, fInt, fMax, fMin, fLen, fSqrt, fEq, fNe, dNot, dAnd, dOr, dAndV, dOrV, dNotV, dIfE, dDrop, dRetN, dPar, noO, dSetL, dLst, dOfL, dOwnM, onOwn, onDat, kAppend, kInsert, dSetItem, dAddItem, dIx, onItems, items, onInt, dNoPart, dPart, dSlice, onL, litems, dSlL, dCat, onM, mitems, dTupOf, dSeqI, dRng1, dRng2, dCallP, dCallB, dCallF, noSelf, onArgs, dats2, dIsi, tyName, dYes, dgTup, dgCons, dgNil, retB, dBreak, dCont, ne_eq, not_false_eq_true, true_and, and_true, List.getElem?_cons_zero, List.getElem?_cons_succ, List.set_cons_zero, List.set_cons_succ, Option.map, List.length_cons, List.length_nil]
    refine m_take _ _ _ _ (fun z bag' h => ?_) (key _ rfl)
    obtain ⟨v, rfl, a1, a2, a3⟩ := h
    exact onAt_mem a1 a2 fun y hy => q y bag' hy a3
  · have e : (some (.own bag) :: rhoP 1 [.d] [.tuple ys] : Rho) = [some (.own bag), some (.d (.tuple ys))] := rfl
    rw [e]
    simp only [dSeq, dAsg, dCB, dCons, dNil, dVar, onVs, vals, val, slot, setR, fGcd, dIfS, dTV, dOp, dBin, onV2, fLt, fLe, fGt, fGe, fAdd, fSub, fMul, fDiv, fMod, fI0, dC, dUn, onV, fNeg, dNext, dRet, dTup, onD, dats, fDivZ, fI, fPow, Few, retP, fAbs, fInt, fMax, fMin, fLen, fSqrt, fEq, fNe, dNot, dAnd, dOr, dAndV, dOrV, dNotV, dIfE, dDrop, dRetN, dPar, noO, dSetL, dLst, dOfL, dOwnM, onOwn, onDat, kAppend, kInsert, dSetItem, dAddItem, dIx, onItems, items, onInt, dNoPart, dPart, dSlice, onL, litems, dSlL, dCat, onM, mitems, dTupOf, dSeqI, dRng1, dRng2, dCallP, dCallB, dCallF, noSelf, onArgs, dats2, dIsi, tyName, dYes, dgTup, dgCons, dgNil, retB, dBreak, dCont, ne_eq, not_false_eq_true, true_and, and_true, List.getElem?_cons_zero, List.getElem?_cons_succ, List.set_cons_zero, List.set_cons_succ, Option.map, List.length_cons, List.length_nil]
    refine m_take _ _ _ _ (fun z bag' h => ?_) (key _ rfl)
    obtain ⟨v, rfl, a1, a2, a3⟩ := h
    exact onAt_mem a1 a2 fun y hy => q y bag' hy a3
/-- the draws at their start -/
def S_bag : SdL := fun xs Q => ∃ ns : List Int, xs = [.list (ns.map .int)] ∧ ∀ bag, Bag 0 bag → Q bag
theorem m_bag : MonoF S_bag := fun xs Q Q' hq ⟨ns, h1, h2⟩ => ⟨ns, h1, fun b hb => hq _ (h2 b hb)⟩
theorem rd_bag {xs : List PyData} {Q : List PyData → Prop} (hS : S_bag xs Q) :
    dLst (dCons (dC (PyData.int 0)) (dCons (dC (PyData.int 1234567891)) (dCons (dC (PyData.int 0)) (dCons (dOfL
                    (dLc (dSeqI (dOfL (dSlL (dVar 0) dNoPart (dPart (dC (PyData.int 63)))))) (setR 1) dYes
                      (dCB fAbs (dCons (dVar 1) dNil)) [1])) dNil)))) (rhoP 2 [.ro] xs) fun zs _ => Q zs := by
  obtain ⟨ns, rfl, q⟩ := hS
  have e : rhoP 2 [.ro] [.list (ns.map .int)] = [some (.ro (.list (ns.map .int))), none] := rfl
  rw [e]
  have hl : (cutD (ns.map PyData.int) none (some 63)).length ≤ 63 := by
    unfold cutD
    rw [List.length_take]
    have : HT.sIx (ns.map PyData.int).length (ns.map PyData.int).length (some 63) ≤ 63 := by
      rw [show (63 : Int) = ((63 : Nat) : Int) from rfl, HT.sIx_nat]; omega
    omega
  have hi : ∀ (i : Nat) (x : PyData), (cutD (ns.map PyData.int) none (some 63))[i]? = some x → ∃ k : Int, x = .int k := fun i x h => by
    have := cutD_sub x (List.mem_of_getElem? h)
    obtain ⟨k, _, rfl⟩ := List.mem_map.mp this
    exact ⟨k, rfl⟩
  simp only [dLc, dSeq, dAsg, dCB, dCons, dNil, dVar, onVs, vals, val, slot, setR, fGcd, dIfS, dTV, dOp, dBin, onV2, fLt, fLe, fGt, fGe, fAdd, fSub, fMul, fDiv, fMod, fI0, dC, dUn, onV, fNeg, dNext, dRet, dTup, onD, dats, fDivZ, fI, fPow, Few, retP, fAbs, fInt, fMax, fMin, fLen, fSqrt, fEq, fNe, dNot, dAnd, dOr, dAndV, dOrV, dNotV, dIfE, dDrop, dRetN, dPar, noO, dSetL, dLst, dOfL, dOwnM, onOwn, onDat, kAppend, kInsert, dSetItem, dAddItem, dIx, onItems, items, onInt, dNoPart, dPart, dSlice, onL, litems, dSlL, dCat, onM, mitems, dTupOf, dSeqI, dRng1, dRng2, dCallP, dCallB, dCallF, noSelf, onArgs, dats2, dIsi, tyName, dYes, dgTup, dgCons, dgNil, retB, dBreak, dCont, ne_eq, not_false_eq_true, true_and, and_true, List.getElem?_cons_zero, List.getElem?_cons_succ, List.set_cons_zero, List.set_cons_succ, Option.map, List.length_cons, List.length_nil]
  refine ⟨fun i hi => ?_, fun i acc ρ => i ≤ 63 ∧ ρ = [some (.ro (.list (ns.map .int))), none] ∧ ∃ cs : List Int, acc = cs.map .int ∧ cs.length = i ∧ ∀ k ∈ cs, (0 : Int) ≤ k, ⟨by omega, rfl, [], rfl, rfl, fun k hk => nomatch hk⟩, fun i x acc ρ hx hI => ?_, fun acc ρ hI => ?_⟩
  · obtain rfl : i = 1 := by simpa using hi
    rfl
  · obtain ⟨hi0, rfl, cs, rfl, hc, hp⟩ := hI
    obtain ⟨k, rfl⟩ := hi i x hx
    have hil : i < 63 := by
      have := (List.getElem?_eq_some_iff.mp hx).1
      omega
    simp only [dSeq, dAsg, dCB, dCons, dNil, dVar, onVs, vals, val, slot, setR, fGcd, dIfS, dTV, dOp, dBin, onV2, fLt, fLe, fGt, fGe, fAdd, fSub, fMul, fDiv, fMod, fI0, dC, dUn, onV, fNeg, dNext, dRet, dTup, onD, dats, fDivZ, fI, fPow, Few, retP, fAbs, fInt, fMax, fMin, fLen, fSqrt, fEq, fNe, dNot, dAnd, dOr, dAndV, dOrV, dNotV, dIfE, dDrop, dRetN, dPar, noO, dSetL, dLst, dOfL, dOwnM, onOwn, onDat, kAppend, kInsert, dSetItem, dAddItem, dIx, onItems, items, onInt, dNoPart, dPart, dSlice, onL, litems, dSlL, dCat, onM, mitems, dTupOf, dSeqI, dRng1, dRng2, dCallP, dCallB, dCallF, noSelf, onArgs, dats2, dIsi, tyName, dYes, dgTup, dgCons, dgNil, retB, dBreak, dCont, ne_eq, not_false_eq_true, true_and, and_true, List.getElem?_cons_zero, List.getElem?_cons_succ, List.set_cons_zero, List.set_cons_succ, Option.map, List.length_cons, List.length_nil, wipeR, if_pos]
    refine ⟨few_le (by rw [List.length_map]; omega), by omega, cs ++ [if k < 0 then -k else k], by rw [List.map_append]; rfl, by rw [List.length_append, hc]; rfl, fun j hj => ?_⟩
    rcases List.mem_append.mp hj with h | h
    · exact hp j h
    · obtain rfl : j = if k < 0 then -k else k := by simpa using h
      split <;> omega
  · obtain ⟨hi0, rfl, cs, rfl, hc, hp⟩ := hI
    exact ⟨few_le (by decide), q _ ⟨0, 1234567891, 0, cs, rfl, by decide, by decide, by decide, by decide, by decide, by omega, hp⟩⟩
/-- the same, and shown the same -/
def S_alike : Sd
  | [x, y], Q => (x = y ∧ Fine x) ∧ Q (.bool true)
  | _, _ => False
theorem m_alike : MonoP S_alike := fun xs Q Q' hq h => by
  unfold S_alike at h ⊢
  split at h
  · exact ⟨h.1, hq _ h.2⟩
  · exact h.elim
theorem rd_alike {xs : List PyData} {Q : PyData → Prop} (hS : S_alike xs Q) :
    dRet (dAndV (dOp fEq (dVar 0) (dVar 1)) (dOp fEqS (dCB fRepr (dCons (dVar 0) dNil)) (dCB fRepr (dCons (dVar 1) dNil)))) { nx := fun _ => Q .none, rt := fun r ρ => retP r ρ Q } (rhoP 2 [.ro, .ro] xs) := by
  unfold S_alike at hS
  split at hS
  · rename_i x y
    obtain ⟨⟨rfl, hf⟩, q⟩ := hS
    have e : rhoP 2 [.ro, .ro] [x, x] = [some (.ro x), some (.ro x)] := rfl
    rw [e]
    simp only [dSeq, dAsg, dCB, dCons, dNil, dVar, onVs, vals, val, slot, setR, fGcd, dIfS, dTV, dOp, dBin, onV2, fLt, fLe, fGt, fGe, fAdd, fSub, fMul, fDiv, fMod, fI0, dC, dUn, onV, fNeg, dNext, dRet, dTup, onD, dats, fDivZ, fI, fPow, Few, retP, fAbs, fInt, fMax, fMin, fLen, fSqrt, fEq, fNe, dNot, dAnd, dOr, dAndV, dOrV, dNotV, dIfE, dDrop, dRetN, dPar, noO, dSetL, dLst, dOfL, dOwnM, onOwn, onDat, kAppend, kInsert, dSetItem, dAddItem, dIx, onItems, items, onInt, dNoPart, dPart, dSlice, onL, litems, dSlL, dCat, onM, mitems, dTupOf, dSeqI, dRng1, dRng2, dCallP, dCallB, dCallF, noSelf, onArgs, dats2, dIsi, tyName, dYes, dgTup, dgCons, dgNil, retB, dBreak, dCont, ne_eq, not_false_eq_true, true_and, and_true, List.getElem?_cons_zero, List.getElem?_cons_succ, List.set_cons_zero, List.set_cons_succ, Option.map, List.length_cons, List.length_nil, fRepr, fEqS, hf.shaped, hf.refl, if_pos]
    exact ⟨hf.plain, hf.plain, by simpa only [decide_true] using q⟩
  · exact hS.elim
theorem law_args {K : PySem.W.Frag} {H : Hp} {a : Addr} {ns : List Int} {n : Nat} {S : Sd} {E : XK} (hl : ns.length ≤ n) (hS : SqL K H a (ns.map V.int)) (hm : MonoP S) (h : ∀ ns : List Int, ns.length ≤ n → S [.list (ns.map .int)] fun z => z = .bool true) :
    spP K [.ro] S [.ref a] H (fun v _ => v = .bl true) E := by
  refine ⟨fun _ => False, [.list (ns.map .int)], fun a z => z.elim, ?_, hm _ _ _ (fun z hz v H' _ im => ?_) (h ns hl)⟩
  · simp only [ArgsOk]
    refine ⟨.ref a, [], rfl, .inr ⟨a, ns.map .int, ns.map .int, rfl, rfl, ?_, ImAll.ints ns⟩, rfl⟩
    rcases hS with h | h
    · exact .inl ⟨h, fun z => z⟩
    · exact .inr (.inr h)
  · subst hz
    exact Im.bool_iff.mp im
end DV
namespace DV
open PySem PySem.Spec PyProof.Rows L2
/-! ## more rules -/
section
variable {X : Cx} {F : Fm} {a b c e : Expr} {es : List Expr} {ta tb tc te : TE} {da db dc de : TDE} {pos : Pos} {t : TA} {d : TDA}
/-! ### is None -/
def isNo : PyData → Bool
  | .none => true
  | _ => false
theorem isNo_of {K : PySem.W.Frag} {H : Hp} {v : V} {x : PyData} (h : Dp K H v x) : decide (v = .non) = isNo x := by
  cases h <;> rfl
def dIsN (te : TDE) : TDE := fun ρ Q => te ρ fun r ρ1 => onV ρ1 r fun x => Q (.d (.bool (isNo x))) ρ1
def dNotN (te : TDE) : TDE := fun ρ Q => te ρ fun r ρ1 => onV ρ1 r fun x => Q (.d (.bool (!isNo x))) ρ1
theorem de_isN (he : DE F te de) : DE F (tIsN te) (dIsN de) := by
  constructor
  · intro pins ρ σ H Q O h
    refine he.run pins ρ σ H _ O (he.mono _ _ _ (fun r ρ1 h1 v H1 O1 R1 => ?_) h)
    obtain ⟨x, e1, h2⟩ := onV_of h1
    rw [isNo_of (val_dp O1 R1 e1)]
    exact h2 _ _ O1 (.sc .bool)
  · intro ρ Q Q' hq h
    exact he.mono _ _ _ (fun r ρ1 h1 => onV_mono h1 fun x h2 => hq _ _ h2) h
theorem de_notN (he : DE F te de) : DE F (tNotN te) (dNotN de) := by
  constructor
  · intro pins ρ σ H Q O h
    refine he.run pins ρ σ H _ O (he.mono _ _ _ (fun r ρ1 h1 v H1 O1 R1 => ?_) h)
    obtain ⟨x, e1, h2⟩ := onV_of h1
    rw [isNo_of (val_dp O1 R1 e1)]
    exact h2 _ _ O1 (.sc .bool)
  · intro ρ Q Q' hq h
    exact he.mono _ _ _ (fun r ρ1 h1 => onV_mono h1 fun x h2 => hq _ _ h2) h
theorem pd_isN {j p2} (he : PD X F e te de) : PD X F (.Compare e [.Is] [.Constant .none j p2] pos) (tIsN te) (dIsN de) := ⟨pe_cmp (pc_isN he.pe), de_isN he.de⟩
theorem pd_notN {j p2} (he : PD X F e te de) : PD X F (.Compare e [.IsNot] [.Constant .none j p2] pos) (tNotN te) (dNotN de) := ⟨pe_cmp (pc_notN he.pe), de_notN he.de⟩
theorem pt_isN {j p2} (he : PD X F e te de) : PDT X F (.Compare e [.Is] [.Constant .none j p2] pos) (tB (tIsN te)) (dTV (dIsN de)) := ⟨pt_cmp (pc_isN he.pe), dt_tv (k := tB) (fun _ => rfl) (de_isN he.de)⟩
theorem pt_notN {j p2} (he : PD X F e te de) : PDT X F (.Compare e [.IsNot] [.Constant .none j p2] pos) (tB (tNotN te)) (dTV (dNotN de)) := ⟨pt_cmp (pc_notN he.pe), dt_tv (k := tB) (fun _ => rfl) (de_notN he.de)⟩
/-! ### in, not in a list of data -/
def fInD : F2
  | x, .list ds, Q => (SeqAt.shaped x = true ∧ SeqAt.shaped (.list ds) = true) ∧ Q (.bool (ds.any fun z => PyData.eqv z x))
  | _, _, _ => False
def fNotInD : F2
  | x, .list ds, Q => (SeqAt.shaped x = true ∧ SeqAt.shaped (.list ds) = true) ∧ Q (.bool (!ds.any fun z => PyData.eqv z x))
  | _, _, _ => False
theorem so_InD {K : PySem.W.Frag} : SO K (rInD K) fInD := by
  constructor
  · intro H x y dx dy Q h1 h2 q
    cases dy <;> first | exact q.elim | skip
    exact ⟨dx, _, h1, h2, q.1.1, q.1.2, q.2 _ .bool⟩
  · intro x y Q Q' hq q
    cases y <;> first | exact q.elim | skip
    exact ⟨q.1, hq _ q.2⟩
theorem so_NotInD {K : PySem.W.Frag} : SO K (rNotInD K) fNotInD := by
  constructor
  · intro H x y dx dy Q h1 h2 q
    cases dy <;> first | exact q.elim | skip
    exact ⟨dx, _, h1, h2, q.1.1, q.1.2, q.2 _ .bool⟩
  · intro x y Q Q' hq q
    cases y <;> first | exact q.elim | skip
    exact ⟨q.1, hq _ q.2⟩
/-! ### x += e -/
def dAug (i : Nat) (f : Int → Int → Int) (te : TDE) : TDS := fun DD ρ => onInt ρ (.o i) fun n => te ρ fun r ρ1 => onInt ρ1 r fun m => DD.nx (ρ1.set i (some (.d (.int (f n m)))))
theorem ds_aug {i : Nat} {f : Int → Int → Int} {op : Operator} {x : Str} {p2 : Pos} (hN : X.N.Nodup) (he : PD X F e te de) (ho : PIp X op (ipI f)) (hf : ¬ F.fix i) (hi : X.N[i]? = some x := by rfl) (hx : Loc X.env.scope x := by first | exact Or.inl rfl | exact Or.inr rfl) (hfn : X.fn x = true ∨ X.env.scope.names.lookup x = some .local := by first | exact .inl rfl | exact .inr rfl) :
    PDS X F (.AugAssign (.Name x p2) op e pos) (tAug i te (ipI f)) (dAug i f de) := by
  refine ⟨ps_aug hN hi hx he.pe ho hfn, fun pins ρ σ H D DD O S R h => ?_⟩
  obtain ⟨n, e1, h⟩ := onInt_of h
  have e1 : slot ρ i = some (.int n) := e1
  have hs : ∃ v, σ[i]? = some (some v) := by
    unfold slot at e1
    split at e1
    · rename_i y q
      obtain ⟨v, h1, _⟩ := O.ent i _ q; exact ⟨v, h1⟩
    · cases e1
    · rename_i y q
      obtain ⟨v, h1, _⟩ := O.ent i _ q; exact ⟨v, h1⟩
    · cases e1
  obtain ⟨v, hv⟩ := hs
  cases dp_int (slot_dp O hv e1)
  refine ⟨.int n, hv, ?_⟩
  refine he.de.run pins ρ σ H _ O (he.de.mono _ _ _ (fun r ρ1 h1 u H1 O1 R1 => ?_) h)
  obtain ⟨m, e2, h2⟩ := onInt_of h1
  cases dp_int (val_dp O1 R1 e2)
  exact ⟨n, m, rfl, rfl, R.nx _ _ _ (O1.put (S.fr hf) (fun _ z => by cases z) fun g e => by cases e; exact ⟨_, rfl, by simp only [EntOk, Im]⟩) h2⟩
/-! ### extend, pop -/
def kPop : List PyData → List R → (PyData → List PyData → Prop) → Prop
  | xs, [], Q => match xs[xs.length - 1]? with
    | some (.int k) => Q (.int k) xs.dropLast
    | some (.bool k) => Q (.bool k) xs.dropLast
    | _ => False
  | _, _, _ => False
/-! ### built-ins over lists of whole numbers, of truths -/
def asInts : List PyData → Option (List Int)
  | [] => some []
  | .int i :: xs => (asInts xs).map (i :: ·)
  | _ :: _ => none
def asBools : List PyData → Option (List Bool)
  | [] => some []
  | .bool i :: xs => (asBools xs).map (i :: ·)
  | _ :: _ => none
theorem asInts_map : ∀ ns : List Int, asInts (ns.map .int) = some ns
  | [] => rfl
  | n :: ns => by show (asInts (ns.map .int)).map (n :: ·) = _; rw [asInts_map ns]; rfl
theorem asBools_map : ∀ ns : List Bool, asBools (ns.map .bool) = some ns
  | [] => rfl
  | n :: ns => by show (asBools (ns.map .bool)).map (n :: ·) = _; rw [asBools_map ns]; rfl
theorem asInts_dp {K : PySem.W.Frag} {H : Hp} : ∀ {xs : List PyData} {vs : List V} {ns : List Int}, DpAll K H vs xs → asInts xs = some ns → vs = ns.map V.int
  | [], _, _, h, e => by cases h; cases e; rfl
  | .int i :: xs, _, _, h, e => by
    cases h with
    | cons h1 h2 =>
      simp only [asInts] at e
      cases e1 : asInts xs with
      | none => rw [e1] at e; cases e
      | some ms =>
        rw [e1] at e; cases e
        rw [asInts_dp h2 e1, dp_int h1]; rfl
  | .none :: _, _, _, _, e => by cases e
  | .bool _ :: _, _, _, _, e => by cases e
  | .str _ :: _, _, _, _, e => by cases e
  | .list _ :: _, _, _, _, e => by cases e
  | .tuple _ :: _, _, _, _, e => by cases e
  | .dict _ :: _, _, _, _, e => by cases e
theorem asBools_dp {K : PySem.W.Frag} {H : Hp} : ∀ {xs : List PyData} {vs : List V} {ns : List Bool}, DpAll K H vs xs → asBools xs = some ns → vs = ns.map V.bl
  | [], _, _, h, e => by cases h; cases e; rfl
  | .bool i :: xs, _, _, h, e => by
    cases h with
    | cons h1 h2 =>
      simp only [asBools] at e
      cases e1 : asBools xs with
      | none => rw [e1] at e; cases e
      | some ms =>
        rw [e1] at e; cases e
        rw [asBools_dp h2 e1, dp_bool h1]; rfl
  | .none :: _, _, _, _, e => by cases e
  | .int _ :: _, _, _, _, e => by cases e
  | .str _ :: _, _, _, _, e => by cases e
  | .list _ :: _, _, _, _, e => by cases e
  | .tuple _ :: _, _, _, _, e => by cases e
  | .dict _ :: _, _, _, _, e => by cases e
def fSum : FA
  | [.list xs], Q => match asInts xs with
    | some ns => Q (.int ns.sum)
    | _ => False
  | _, _ => False
theorem sc_sum {K : PySem.W.Frag} : SC K (rSum K) fSum := by
  constructor
  · intro H vs ds Q h q
    unfold fSum at q
    split at q
    · split at q
      · rename_i xs ns e
        obtain ⟨v, rfl, h1⟩ := dpall1 h
        cases h1 with
        | lst h2 h3 => exact ⟨_, ns, rfl, by rw [← asInts_dp h3 e]; exact h2, q _ .int⟩
      · exact q.elim
    · exact q.elim
  · intro ds Q Q' hq q
    unfold fSum at q ⊢
    split at q
    · split at q
      · rename_i xs ns e
        exact hq _ q
      · exact q.elim
    · exact q.elim
def fAllB : FA
  | [.list xs], Q => match asBools xs with
    | some ns => Q (.bool (ns.all id))
    | _ => False
  | _, _ => False
def fAnyB : FA
  | [.list xs], Q => match asBools xs with
    | some ns => Q (.bool (ns.any id))
    | _ => False
  | _, _ => False
theorem sc_all {K : PySem.W.Frag} : SC K (rAll K) fAllB := by
  constructor
  · intro H vs ds Q h q
    unfold fAllB at q
    split at q
    · split at q
      · rename_i xs ns e
        obtain ⟨v, rfl, h1⟩ := dpall1 h
        cases h1 with
        | lst h2 h3 => exact ⟨_, ns, rfl, by rw [← asBools_dp h3 e]; exact h2, q _ .bool⟩
      · exact q.elim
    · exact q.elim
  · intro ds Q Q' hq q
    unfold fAllB at q ⊢
    split at q
    · split at q
      · rename_i xs ns e
        exact hq _ q
      · exact q.elim
    · exact q.elim
theorem sc_any {K : PySem.W.Frag} : SC K (rAny K) fAnyB := by
  constructor
  · intro H vs ds Q h q
    unfold fAnyB at q
    split at q
    · split at q
      · rename_i xs ns e
        obtain ⟨v, rfl, h1⟩ := dpall1 h
        cases h1 with
        | lst h2 h3 => exact ⟨_, ns, rfl, by rw [← asBools_dp h3 e]; exact h2, q _ .bool⟩
      · exact q.elim
    · exact q.elim
  · intro ds Q Q' hq q
    unfold fAnyB at q ⊢
    split at q
    · split at q
      · rename_i xs ns e
        exact hq _ q
      · exact q.elim
    · exact q.elim
/-- max, min of a list of whole numbers -/
def fMaxL : FA
  | [.list xs], Q => match asInts xs with
    | some ns => 0 < ns.length ∧ ∀ m, m ∈ ns → (∀ y, y ∈ ns → y ≤ m) → Q (.int m)
    | _ => False
  | _, _ => False
def fMinL : FA
  | [.list xs], Q => match asInts xs with
    | some ns => 0 < ns.length ∧ ∀ m, m ∈ ns → (∀ y, y ∈ ns → m ≤ y) → Q (.int m)
    | _ => False
  | _, _ => False
theorem sc_maxL {K : PySem.W.Frag} : SC K (L2.rMax K) fMaxL := by
  constructor
  · intro H vs ds Q h q
    unfold fMaxL at q
    split at q
    · split at q
      · rename_i xs ns e
        obtain ⟨v, rfl, h1⟩ := dpall1 h
        cases h1 with
        | lst h2 h3 => exact ⟨_, ns, rfl, by rw [← asInts_dp h3 e]; exact h2, q.1, fun m hm hy => q.2 m hm hy _ .int⟩
      · exact q.elim
    · exact q.elim
  · intro ds Q Q' hq q
    unfold fMaxL at q ⊢
    split at q
    · split at q
      · rename_i xs ns e
        exact ⟨q.1, fun m hm hy => hq _ (q.2 m hm hy)⟩
      · exact q.elim
    · exact q.elim
theorem sc_minL {K : PySem.W.Frag} : SC K (L2.rMin K) fMinL := by
  constructor
  · intro H vs ds Q h q
    unfold fMinL at q
    split at q
    · split at q
      · rename_i xs ns e
        obtain ⟨v, rfl, h1⟩ := dpall1 h
        cases h1 with
        | lst h2 h3 => exact ⟨_, ns, rfl, by rw [← asInts_dp h3 e]; exact h2, q.1, fun m hm hy => q.2 m hm hy _ .int⟩
      · exact q.elim
    · exact q.elim
  · intro ds Q Q' hq q
    unfold fMinL at q ⊢
    split at q
    · split at q
      · rename_i xs ns e
        exact ⟨q.1, fun m hm hy => hq _ (q.2 m hm hy)⟩
      · exact q.elim
    · exact q.elim
/-! ### list(x) -/
def dListOf (t : TDA) : TDL := fun ρ Q => t ρ fun rs ρ1 => match rs with
  | [r] => onItems ρ1 r fun xs => Q xs ρ1
  | _ => False
theorem pl_listOf {p : Pos} (hg : Gl X "list") (hm : X.mg "list" = none) (ha : PDA X F [e] t d) (hK : X.K = F.K := by rfl) (he : starEach [e] X.env = (false, eval e X.env) :: starEach [] X.env := by rfl) (hpl : (backTo pos (starEach [] X.env)).any (·.1) = false := by rfl) :
    PDL X F (.Call (.Name "list" p) [e] [] pos) (tCB (fun xs H Q => ∃ p ys, xs = [.ref p] ∧ (SqL F.K H p ys ∨ SqT F.K H p ys) ∧ ∀ l, H l = none → Q (.ref l) (upd H l (.lst ys))) t) (dListOf d) := by
  refine ⟨?_, fun pins ρ σ H Q O h => ?_, fun ρ Q Q' hq h => ?_⟩
  · have := pe_callTy (p := p) (pos := pos) call_list_of hg hm (by decide +kernel) ha.pa (by decide) (by decide) he hpl
    rw [hK] at this
    exact this
  · refine ha.da.run pins ρ σ H _ O (ha.da.mono _ _ _ (fun rs ρ1 h1 vs H1 O1 R1 => ?_) h)
    split at h1
    · rename_i r
      simp only [ROks] at R1
      obtain ⟨v, _, rfl, r1, rfl⟩ := R1
      obtain ⟨xs, e1, q⟩ := onItems_of h1
      obtain ⟨p, us, rfl, l, im⟩ := items_ok O1 r1 e1
      exact ⟨p, us, rfl, l, fun l' hl => q _ _ (O1.pushL hl im)⟩
    · exact h1.elim
  · refine ha.da.mono _ _ _ (fun rs ρ1 h1 => ?_) h
    revert h1
    split
    · exact fun h1 => onItems_mono h1 fun xs => hq _ _
    · exact fun h1 => h1
/-! ### tuples: t + u, t[a:b], t * k -/
def titems : R → Option (List PyData)
  | .d (.tuple xs) => some xs
  | _ => none
def onT (r : R) (f : List PyData → Prop) : Prop := match titems r with
  | some xs => f xs
  | _ => False
theorem onT_of {r : R} {f : List PyData → Prop} (h : onT r f) : ∃ xs, r = .d (.tuple xs) ∧ f xs := by
  unfold onT at h
  split at h
  · rename_i xs e
    cases r <;> first | cases e | skip
    rename_i x
    cases x <;> first | cases e | skip
    exact ⟨_, rfl, h⟩
  · exact h.elim
theorem onT_mono {r : R} {f g : List PyData → Prop} (h : onT r f) (k : ∀ xs, f xs → g xs) : onT r g := by
  unfold onT at h ⊢
  split at h
  · exact k _ h
  · exact h.elim
theorem im_tup {A : Addr → Prop} {H : Hp} {xs : List PyData} {v : V} (h : Im F.K A H (.tuple xs) v) : ∃ a vs, v = .ref a ∧ SqT F.K H a vs ∧ ImAll F.K A H xs vs := by
  simp only [Im] at h
  obtain ⟨a, vs, e, l, t⟩ := h
  exact ⟨a, vs, e, l.sq, t⟩
def dCatT (ta tb : TDE) : TDE := dBin ta tb fun r s ρ Q => onT r fun xs => onT s fun ys => Few (xs.length + ys.length) ∧ Q (.d (.tuple (xs ++ ys))) ρ
theorem pd_catT (ha : PD X F a ta da) (hb : PD X F b tb db) (hK : X.K = F.K := by rfl) : PD X F (.BinOp a .Add b pos) (tOp (rCatA F.K) ta tb) (dCatT da db) := by
  refine ⟨?_, de_bin ha.de hb.de (fun pins ρ σ H x y r s Q O R1 R2 h => ?_) fun r s ρ Q Q' hq h => onT_mono h fun xs h => onT_mono h fun ys h => ⟨h.1, hq _ _ h.2⟩⟩
  · have := pe_op (pos := pos) op_catA ha.pe hb.pe
    rw [hK] at this
    exact this
  obtain ⟨xs, e1, h2⟩ := onT_of h
  subst e1
  obtain ⟨ys, e2, hl, q⟩ := onT_of h2
  subst e2
  have i1 : Im F.K (Av F pins ρ σ) H (.tuple xs) x := R1
  have i2 : Im F.K (Av F pins ρ σ) H (.tuple ys) y := R2
  obtain ⟨p, vs, rfl, l1, im1⟩ := im_tup i1
  obtain ⟨p2, us, rfl, l2, im2⟩ := im_tup i2
  refine ⟨p, p2, vs, us, rfl, rfl, l1, l2, by rw [im1.length, im2.length]; exact hl, fun hz => ?_, fun _ hz => ?_, fun _ _ p' hp => ?_⟩
  · have : xs = [] := List.length_eq_zero_iff.mp (by rw [← im1.length, hz]; rfl)
    subst this
    exact q _ _ O i2
  · have : ys = [] := List.length_eq_zero_iff.mp (by rw [← im2.length, hz]; rfl)
    subst this
    rw [List.append_nil] at q
    exact q _ _ O i1
  · obtain ⟨O2, i3⟩ := newTup O hp (im1.append im2)
    exact q _ _ O2 i3
variable {lo hi : Option Expr} {tl th : TO} {dlo dhi : TDO} {p2 : Pos}
def dSlT (te : TDE) (tl th : TDO) : TDE := fun ρ Q => dSlice te tl th (fun r lo hi ρ3 => onT r fun xs => Q (.d (.tuple (cutD xs lo hi))) ρ3) ρ
theorem pd_sliceT (he : PD X F e te de) (hl : PDO X F lo tl dlo) (hh : PDO X F hi th dhi) (hK : X.K = F.K := by rfl) : PD X F (.Subscript e (.Slice lo hi none p2) pos) (tSl (rSlA F.K) te tl th) (dSlT de dlo dhi) := by
  refine ⟨?_, fun pins ρ σ H Q O h => ?_, fun ρ Q Q' hq h => he.de.mono _ _ _ (fun r ρ1 h1 => hl.d.mono _ _ _ (fun l ρ2 h2 => hh.d.mono _ _ _ (fun u ρ3 h3 => onT_mono h3 fun xs => hq _ _) h2) h1) h⟩
  · have := pe_slice (pos := pos) (p2 := p2) sl_tupA he.pe hl.po hh.po
    rw [hK] at this
    exact this
  refine he.de.run pins ρ σ H _ O (he.de.mono _ _ _ (fun r ρ1 h1 v H1 O1 R1 => ?_) h)
  refine hl.d.run (.val v r :: pins) ρ1 σ H1 _ (O1.push R1) (hl.d.mono _ _ _ (fun l ρ2 h2 H2 O2 => ?_) h1)
  refine hh.d.run (.val v r :: pins) ρ2 σ H2 _ O2 (hh.d.mono _ _ _ (fun u ρ3 h3 H3 O3 => ?_) h2)
  obtain ⟨O4, R4⟩ := O3.popV
  obtain ⟨xs, rfl, q⟩ := onT_of h3
  have i1 : Im F.K (Av F pins ρ3 σ) H3 (.tuple xs) v := R4
  obtain ⟨p, vs, rfl, sq, im⟩ := im_tup i1
  refine ⟨p, vs, rfl, sq, fun hw => ?_, fun _ p' hp => ?_⟩
  · have : cutD xs l u = xs := by
      unfold cutD
      rw [← im.length, hw.1, hw.2, List.drop_zero, Nat.sub_zero, im.length, List.take_length]
    rw [this] at q
    exact q _ _ O4 i1
  · obtain ⟨O5, i3⟩ := newTup O4 hp (im.cut l u)
    exact q _ _ O5 i3
end
end DV
namespace DV
open PySem PySem.Spec PyProof.Rows L2
section
variable {X : Cx} {F : Fm} {tg e e2 a b c : Expr} {te te2 ta tb tc : TE} {de de2 da db dc : TDE} {pos p : Pos} {t : TA} {d : TDA} {dl : TDL}
theorem units65 {k : Nat} {A : Around} (r : Room k A) : A.units + 65 < cLine := by have := r.un; omega
/-! ### in, not in -/
theorem pd_in (hu : X.A.units + 65 < cLine) (hK : X.K = F.K) (ha : PD X F a ta da) (hb : PD X F b tb db) (hm : behindInMarks .In b = false := by rfl) : PD X F (.Compare a [.In] [b] pos) (tOp (rInD F.K) ta tb) (dOp fInD da db) := by
  have := pd_cmp (X := X) (F := F) (r := rInD F.K) (pos := pos) (by rw [← hK]; exact op_inD hu) hm so_InD ha hb
  exact this
theorem pd_notin (hu : X.A.units + 65 < cLine) (hK : X.K = F.K) (ha : PD X F a ta da) (hb : PD X F b tb db) (hm : behindInMarks .NotIn b = false := by rfl) : PD X F (.Compare a [.NotIn] [b] pos) (tOp (rNotInD F.K) ta tb) (dOp fNotInD da db) := by
  have := pd_cmp (X := X) (F := F) (r := rNotInD F.K) (pos := pos) (by rw [← hK]; exact op_notInD hu) hm so_NotInD ha hb
  exact this
theorem pt_in (hu : X.A.units + 65 < cLine) (hK : X.K = F.K) (ha : PD X F a ta da) (hb : PD X F b tb db) (hm : behindInMarks .In b = false := by rfl) : PDT X F (.Compare a [.In] [b] pos) (tTest (tOp (rInD F.K) ta tb)) (dTV (dOp fInD da db)) :=
  pt_cmpD (by rw [← hK]; exact op_inD hu) hm so_InD ha hb
theorem pt_notin (hu : X.A.units + 65 < cLine) (hK : X.K = F.K) (ha : PD X F a ta da) (hb : PD X F b tb db) (hm : behindInMarks .NotIn b = false := by rfl) : PDT X F (.Compare a [.NotIn] [b] pos) (tTest (tOp (rNotInD F.K) ta tb)) (dTV (dOp fNotInD da db)) :=
  pt_cmpD (by rw [← hK]; exact op_notInD hu) hm so_NotInD ha hb
theorem pd_chain {op op' : CmpOp} {f g : Int → Int → Bool} (ho : OpR X (compareOp op) (rI0 fun i j => .bl (f i j))) (ho' : OpR X (compareOp op') (rI0 fun i j => .bl (g i j))) (ha : PD X F a ta da) (hb : PD X F b tb db) (hc : PD X F c tc dc)
    (hm : lastMarks [op, op'] [b, c] = false := by with_unfolding_all rfl) : PD X F (.Compare a [op, op'] [b, c] pos) (tChain (rI0 fun i j => .bl (f i j)) (rI0 fun i j => .bl (g i j)) ta tb tc) (dChainLe f g da db dc) := pd_chainI ho ho' ha hb hc (pe_chain ho ho' ha.pe hb.pe hc.pe hm)
theorem pt_chain {op op' : CmpOp} {f g : Int → Int → Bool} (ho : OpR X (compareOp op) (rI0 fun i j => .bl (f i j))) (ho' : OpR X (compareOp op') (rI0 fun i j => .bl (g i j))) (ha : PD X F a ta da) (hb : PD X F b tb db) (hc : PD X F c tc dc)
    (hm : lastMarks [op, op'] [b, c] = false := by with_unfolding_all rfl) : PDT X F (.Compare a [op, op'] [b, c] pos) (tTest (tChain (rI0 fun i j => .bl (f i j)) (rI0 fun i j => .bl (g i j)) ta tb tc)) (dTV (dChainLe f g da db dc)) :=
  ⟨L2.pt_chain ho ho' ha.pe hb.pe hc.pe hm, dt_tv (k := tTest) (fun _ => rfl) (DV.pd_chain (pos := pos) ho ho' ha hb hc hm).de⟩
/-! ### x, y, z = .. -/
def dPar3 (i j l : Nat) (t : TDA) : TDS := fun DD ρ => t ρ fun rs ρ1 => match rs with
  | [r, s, u] => noO s ∧ noO u ∧ setR i r ρ1 fun ρ2 => setR j s ρ2 fun ρ3 => setR l u ρ3 DD.nx
  | _ => False
theorem fr_val {pins : List Pin} {v : V} {r : R} {i : Nat} (h : Fr pins i) (hn : noO r) : Fr (.val v r :: pins) i := by
  intro u l hp
  rcases List.mem_cons.mp hp with z | z
  · cases z; exact hn.elim
  · exact h u l z
theorem ds_par3 {i j l : Nat} {x y z : Str} {px py pz pt : Pos} {pt2 : Pos} {kt' k2'} (hc : X.calm = true) (hN : X.N.Nodup) (ha : PDA X F [a, b, c] t d) (hfi : ¬ F.fix i) (hfj : ¬ F.fix j) (hfl : ¬ F.fix l) (hij : i ≠ j := by decide) (hil : i ≠ l := by decide) (hjl : j ≠ l := by decide) (hi : X.N[i]? = some x := by rfl) (hj : X.N[j]? = some y := by rfl) (hl : X.N[l]? = some z := by rfl)
    (hx : X.env.scope.names.lookup x = some .local := by rfl) (hy : X.env.scope.names.lookup y = some .local := by rfl) (hz : X.env.scope.names.lookup z = some .local := by rfl)
    (hw : swappedStores [.Tuple [.Name x px, .Name y py, .Name z pz] kt' pt] (.Tuple [a, b, c] k2' pt2) X.env = pure (some [x, y, z]) := by rfl)
    (hs : swapsWithSole [.Tuple [.Name x px, .Name y py, .Name z pz] kt' pt] (.Tuple [a, b, c] k2' pt2) pos.line X.env = pure false := by rfl) :
    PDS X F (.Assign [.Tuple [.Name x px, .Name y py, .Name z pz] kt' pt] (.Tuple [a, b, c] k2' pt2) pos) (tPar3 i j l t) (dPar3 i j l d) := by
  refine ⟨ps_par3 hc hN hi hj hl hij hil hjl hx hy hz ha.pa hw hs, fun pins ρ σ H D DD O S R h => ?_⟩
  refine ha.da.run pins ρ σ H _ O (ha.da.mono _ _ _ (fun rs ρ1 h1 vs H1 O1 R1 => ?_) h)
  split at h1
  · rename_i r s q
    simp only [ROks] at R1
    obtain ⟨v, us, rfl, r1, w, us2, rfl, r2, g, us3, rfl, r3, rfl⟩ := R1
    refine ⟨v, w, g, rfl, ?_⟩
    have O2 := (O1.push r3).push (v := w) (r := s) r2
    have g1 : gName i v σ H1 fun σ2 H2 => gName j w σ2 H2 fun σ3 H3 => gName l g σ3 H3 fun σ4 H4 => D.nx σ4 H4 := by
      refine (dg_name (F := F) i).run (.val w s :: .val g q :: pins) ρ1 σ H1 v r _ _ O2 (fun k hk => ?_) (by exact r1) h1.2.2 fun ρ2 σ2 H2 O3 _ q2 => ?_
      · rw [List.mem_singleton.mp hk]
        exact fr_val (fr_val (S.fr hfi) h1.2.1) h1.1
      · obtain ⟨O4, r4⟩ := O3.popV
        refine (dg_name (F := F) j).run (.val g q :: pins) ρ2 σ2 H2 w s _ _ O4 (fun k hk => ?_) r4 q2 fun ρ4 σ4 H4 O5 _ q3 => ?_
        · rw [List.mem_singleton.mp hk]
          exact fr_val (S.fr hfj) h1.2.1
        · obtain ⟨O6, r6⟩ := O5.popV
          exact (dg_name (F := F) l).run pins ρ4 σ4 H4 g q _ _ O6 (fun k hk => by rw [List.mem_singleton.mp hk]; exact S.fr hfl) r6 q3 fun ρ6 σ6 H6 O7 _ q4 => R.nx _ _ _ O7 q4
    exact g1
  · exact h1.elim
/-! ### x = [.. for ..], stored within -/
theorem de_l (h : DL F te dl) : DE F te (dOfL dl) := by
  refine ⟨?_, ?_⟩
  · intro pins ρ σ H Q O hq
    refine h.run pins ρ σ H _ O (h.mono _ _ _ (fun xs ρ1 h1 p H1 O1 => ?_) hq)
    obtain ⟨O2, i2⟩ := O1.popL
    exact h1 _ _ O2 i2
  · intro ρ Q Q' hq hh
    exact h.mono _ _ _ (fun xs ρ1 h1 => hq _ _ h1) hh
/-! ### a new list is given back -/
def dRetL (tl : TDL) : TDS := fun DD ρ => tl ρ DD.rl
theorem ds_retL (he : PDL X F e te dl) : PDS X F (.Return (some e) pos) (tRet te) (dRetL dl) :=
  ⟨ps_ret he.pe, fun pins ρ σ H D DD O S R h => he.dl.run pins ρ σ H _ O (he.dl.mono _ _ _ (fun xs ρ1 h1 p H1 O1 => R.rl ρ1 σ H1 p xs O1 h1) h)⟩
end
theorem ds_setLcL {X : Cx} {F : Fm} {i : Nat} {y : Str} {py : Pos} {elt tg iter : Expr} {ifs : List Expr} {scope : Scope} {own : List (Str × Nat)} {pos spos : Pos} {wi : TI} {dw : TDI} {g : TG} {dg : TDGt} {tt : TT} {dt : TDT} {te : TE} {de : TDE} (hc : X.calm = true) (hN : X.N.Nodup) (hi : PDI X F tg iter wi dw) (ok : BlkOk X.N X.env.scope scope own)
    (hg : ∀ (s : Shared) (H : Hp) (C : Addr) (cl : List (Str × Addr)) (fp : List Addr), PDG (X.blk s H scope (compEnvC scope cl C X.env) fp) F tg g dg (own.map (·.2))) (ht : ∀ (s : Shared) (H : Hp) (C : Addr) (cl : List (Str × Addr)) (fp : List Addr), PDTs (X.blk s H scope (compEnvC scope cl C X.env) fp) F ifs tt dt)
    (he : ∀ (s : Shared) (H : Hp) (C : Addr) (cl : List (Str × Addr)) (fp : List Addr), PD (X.blk s H scope (compEnvC scope cl C X.env) fp) F elt te de) (hf : ¬ F.fix i)
    (hs : ∀ x, foldedSetIterable iter X.env x = pure x := by intro _; rfl) (hy : X.N[i]? = some y := by rfl) (hyl : X.env.scope.names.lookup y = some .local := by rfl)
    (hsw : swapsWith (.ListComp elt [⟨tg, iter, ifs, 0⟩] scope pos) (some (.Name y py)) spos.line X.env = pure true := by rfl) :
    PDS X F (.Assign [.Name y py] (.ListComp elt [⟨tg, iter, ifs, 0⟩] scope pos) spos) (tAsg (tLc wi g tt te (own.map (·.2))) (gName i)) (dSetL i (dLc dw dg dt de (own.map (·.2)))) := by
  refine ⟨ps_setLc hc hN hy hyl hsw hi.pi ok (fun s H C cl fp => (hg s H C cl fp).pg) (fun s H C cl fp => (ht s H C cl fp).pts) (fun s H C cl fp => (he s H C cl fp).pe) hs, ?_⟩
  exact dsl (dl_lc hi.di (hg (PySem.start X.prog).1 (fun _ => none) 0 [] []).dg (ht (PySem.start X.prog).1 (fun _ => none) 0 [] []).dt (he (PySem.start X.prog).1 (fun _ => none) 0 [] []).de) hf
theorem ds_setLc {X : Cx} {F : Fm} {i : Nat} {y : Str} {py : Pos} {elt tg iter : Expr} {ifs : List Expr} {scope : Scope} {own : List (Str × Nat)} {pos spos : Pos} {wi : TI} {dw : TDI} {g : TG} {dg : TDGt} {tt : TT} {dt : TDT} {te : TE} {de : TDE} (hc : X.calm = true) (hN : X.N.Nodup) (hi : PDI X F tg iter wi dw) (ok : BlkOk X.N X.env.scope scope own)
    (hg : ∀ (s : Shared) (H : Hp) (C : Addr) (cl : List (Str × Addr)) (fp : List Addr), PDG (X.blk s H scope (compEnvC scope cl C X.env) fp) F tg g dg (own.map (·.2))) (ht : ∀ (s : Shared) (H : Hp) (C : Addr) (cl : List (Str × Addr)) (fp : List Addr), PDTs (X.blk s H scope (compEnvC scope cl C X.env) fp) F ifs tt dt)
    (he : ∀ (s : Shared) (H : Hp) (C : Addr) (cl : List (Str × Addr)) (fp : List Addr), PD (X.blk s H scope (compEnvC scope cl C X.env) fp) F elt te de) (hf : ¬ F.fix i)
    (hs : ∀ x, foldedSetIterable iter X.env x = pure x := by intro _; rfl) (hy : X.N[i]? = some y := by rfl) (hyl : X.env.scope.names.lookup y = some .local := by rfl)
    (hsw : swapsWith (.ListComp elt [⟨tg, iter, ifs, 0⟩] scope pos) (some (.Name y py)) spos.line X.env = pure true := by rfl) :
    PDS X F (.Assign [.Name y py] (.ListComp elt [⟨tg, iter, ifs, 0⟩] scope pos) spos) (tAsg (tLc wi g tt te (own.map (·.2))) (gName i)) (dAsg (dOfL (dLc dw dg dt de (own.map (·.2)))) (setR i)) := by
  refine ⟨ps_setLc hc hN hy hyl hsw hi.pi ok (fun s H C cl fp => (hg s H C cl fp).pg) (fun s H C cl fp => (ht s H C cl fp).pts) (fun s H C cl fp => (he s H C cl fp).pe) hs, ?_⟩
  exact dsa (de_l (dl_lc hi.di (hg (PySem.start X.prog).1 (fun _ => none) 0 [] []).dg (ht (PySem.start X.prog).1 (fun _ => none) 0 [] []).dt (he (PySem.start X.prog).1 (fun _ => none) 0 [] []).de)) (dg_name i) fun j hj => by rw [List.mem_singleton.mp hj]; exact hf
def retF (r : R) (ρ : Rho) (Q : List PyData → Prop) : Prop := match r with
  | .o i => onOwn ρ i Q
  | _ => False
section
variable {P : Program} {w : World} {K : PySem.W.Frag} {mg : Str → Option Value} {base : Heap}
/-- a def that gives back a new list -/
theorem fnFs {x qual : Str} {st : Stmt} {f : Addr} {fd : FuncData} {N ps : List Str} {k : Nat} {ks : List Kd} {S : SdL} (W : Fun K x qual st f fd) (Sc : FnScope N ps (defScope st)) (hks : ks.length = ps.length)
    (body : ∀ (cdv : Value) (A : Around) (out : List Env) (s : Shared) (H : Hp) (E : XK) (Nn : Addr → Prop), Room k (A.deeper (envOfC qual (defScope st) s.heap.objs.size f cdv)) → A.guards = some [] →
      ∃ ts tds, PDSs (cxOf CX0 P w K mg base N qual (defScope st) f cdv A out s H E).nox (frP K H Nn) (defBody st) ts tds ∧
        ∀ xs Q, xs.length = ks.length → S xs Q → tds { nx := fun _ => False, rt := fun r ρ => retF r ρ Q, rl := fun xs _ => Q xs } (rhoP N.length ks xs)) : FnG P w K mg base CX0 (k + 1) f fd ps (spF K ks S) := by
  have hpl : ps.length ≤ N.length := by have := congrArg List.length Sc.pre; rw [List.length_take] at this; omega
  refine fg_of W Sc (fun vs H Q E h => ?_) fun cdv A out s H vs Q E hr hgd h => ?_
  · obtain ⟨Nn, xs, _, ha, _⟩ := h
    rw [ha.len.1, hks]
  obtain ⟨Nn, xs, hN, ha, hS⟩ := h
  obtain ⟨ts, tds, hb, hq⟩ := body cdv A out s H E Nn hr hgd
  refine ⟨ts, hb.pss, ?_⟩
  have hl := ha.len
  have noOwn : ∀ i a, ¬ OwnAt (rhoP N.length ks xs) (L2.start N vs) i a := by
    rintro i a ⟨⟨ys, h1⟩, _⟩
    obtain ⟨k, x, v, e, _⟩ := ha.at (rhoP_some h1)
    cases k <;> cases e
  have O : Ok (frP K H Nn) [] (rhoP N.length ks xs) (L2.start N vs) H := by
    refine ⟨?_, fun i e h1 => ?_, fun i j a h1 _ => absurd h1 (noOwn i a), fun p hp => (nomatch hp), .nil, fun a o _ e => e, hN, fun a h => h.elim, hN, fun i a _ h => h.elim⟩
    · rw [rhoP_len hl.2 (by rw [hks]; exact hpl)]
      unfold L2.start
      rw [List.length_append, List.length_map, List.length_replicate]
      omega
    · obtain ⟨k, x, v, rfl, h2, h3⟩ := ha.at (rhoP_some h1)
      refine ⟨v, ?_, arg_ent (N := Nn) rfl rfl (fun a z => z) (fun a z => ?_) h3⟩
      · have hi : i < vs.length := by
          rcases Nat.lt_or_ge i vs.length with z | z
          · exact z
          · rw [List.getElem?_eq_none z] at h2; cases h2
        unfold L2.start
        rw [List.getElem?_append_left (by simpa using hi), List.getElem?_map, h2]; rfl
      · rcases z with z | ⟨j, z⟩ | z
        · exact z
        · exact absurd z (noOwn j a)
        · cases z
  refine hb.ds [] _ _ H _ _ O (fun v j hp => nomatch hp) ⟨fun ρ σ H' O' q => False.elim q, fun ρ σ H' v r O' R' q => ?_, fun _ _ _ _ q => False.elim q, fun _ _ _ _ q => False.elim q, fun ρ σ H' p zs O' q => ?_⟩ (hq xs _ hl.2 hS)
  · have fr : ∀ a o, H a = some o → H' a = some o := fun a o e => O'.fr a o (fun z => z) e
    cases r with
    | d z => exact False.elim q
    | raw u => exact False.elim q
    | o i =>
      obtain ⟨ys, e, q⟩ := onOwn_of (show onOwn ρ i _ from q)
      obtain ⟨p, us, h1, h2, h3, h4⟩ := O'.ownGet e
      have := R'.1
      rw [h1] at this; cases this
      obtain ⟨_, _, hl⟩ := O'.ownL h4
      have hp : H p = none := hl.elim (fun z => False.elim z) fun z => z
      refine q p H' us fr hp h2 (h3.go ⟨fun _ _ _ e => e, fun a z => .inl ?_⟩)
      rcases z with z | rfl
      · exact .inl z
      · exact .inr (.inl ⟨i, h4⟩)
  · obtain ⟨us, h1, h2, h3, h4⟩ := O'.pin _ (List.mem_cons_self ..)
    have hp : H p = none := h3
    refine q p H' us (fun a o e => O'.fr a o (fun z => z) e) hp h1 (h2.go ⟨fun _ _ _ e => e, fun a z => .inl ?_⟩)
    rcases z with z | rfl
    · exact .inl z
    · exact .inr (.inr (List.mem_cons_self ..))
end
end DV
namespace DV
open PySem PySem.Spec PyProof.Rows L2
/-! ### zip, enumerate -/
/-- a list stands at a while the values pl are in mind -/
def LstAt (F : Fm) (pl : List Pin) (a : Addr) (xs : List PyData) : Prop := ∀ (pins : List Pin) (ρ : Rho) (σ : L2.St) (H : Hp), (∀ q ∈ pl, q ∈ pins) → Ok F pins ρ σ H → ∃ vs, SqL F.K H a vs ∧ ImAll F.K (Av F pins ρ σ) H xs vs
def TupAt (F : Fm) (pl : List Pin) (a : Addr) (xs : List PyData) : Prop := ∀ (pins : List Pin) (ρ : Rho) (σ : L2.St) (H : Hp), (∀ q ∈ pl, q ∈ pins) → Ok F pins ρ σ H → ∃ vs, SqT F.K H a vs ∧ ImAll F.K (Av F pins ρ σ) H xs vs
section
variable {X : Cx} {F : Fm} {tg e e2 a b c : Expr} {te te2 ta tb tc : TE} {de de2 da db dc : TDE} {pos p tpos : Pos} {t : TA} {d : TDA} {dl : TDL} {elts : List Expr} {kk : Nat}
theorem LstAt.up {pl pm : List Pin} {a : Addr} {xs : List PyData} (h : LstAt F pl a xs) (k : ∀ q ∈ pl, q ∈ pm) : LstAt F pm a xs := fun pins ρ σ H hp O => h pins ρ σ H (fun q hq => hp q (k q hq)) O
theorem TupAt.up {pl pm : List Pin} {a : Addr} {xs : List PyData} (h : TupAt F pl a xs) (k : ∀ q ∈ pl, q ∈ pm) : TupAt F pm a xs := fun pins ρ σ H hp O => h pins ρ σ H (fun q hq => hp q (k q hq)) O
def isD (pl : List Pin) : Prop := ∀ p ∈ pl, ∃ v x, p = .val v (.d x)
/-- what is walked or zipped: a list, or a tuple -/
def seqs (ρ : Rho) : R → Option (Bool × List PyData)
  | .d (.list xs) => some (false, xs)
  | .d (.tuple xs) => some (true, xs)
  | .o i => match ρ[i]? with
    | some (some (.ro (.list xs))) => some (false, xs)
    | some (some (.ro (.tuple xs))) => some (true, xs)
    | _ => none
  | _ => none
theorem seqs_ok {pins : List Pin} {ρ : Rho} {σ : L2.St} {H : Hp} (O : Ok F pins ρ σ H) {r : R} {v : V} {k : Bool} {xs : List PyData} (h : ROk F (Av F pins ρ σ) ρ σ H r v) (e : seqs ρ r = some (k, xs)) :
    ∃ a pl, v = .ref a ∧ isD pl ∧ Ok F (pl ++ pins) ρ σ H ∧ Av F (pl ++ pins) ρ σ = Av F pins ρ σ ∧ (if k = true then TupAt F pl a xs else LstAt F pl a xs) := by
  have lst : ∀ {ys : List PyData}, Im F.K (Av F pins ρ σ) H (.list ys) v → ∃ a pl, v = .ref a ∧ isD pl ∧ Ok F (pl ++ pins) ρ σ H ∧ Av F (pl ++ pins) ρ σ = Av F pins ρ σ ∧ LstAt F pl a ys := by
    intro ys im
    have im2 := im
    simp only [Im] at im2
    obtain ⟨a, vs, rfl, l, _⟩ := im2
    refine ⟨a, [.val (.ref a) (.d (.list ys))], rfl, fun p hp => ?_, O.push (v := .ref a) (r := .d (.list ys)) im, rfl, fun pins2 ρ2 σ2 H2 hp O2 => ?_⟩
    · rcases List.mem_cons.mp hp with z | z
      · exact ⟨_, _, z⟩
      · cases z
    · have h : Im F.K (Av F pins2 ρ2 σ2) H2 (.list ys) (.ref a) := O2.pin _ (hp _ (List.mem_cons_self ..))
      simp only [Im] at h
      obtain ⟨q, vs, e, l, im⟩ := h
      cases e
      exact ⟨vs, l.sq, im⟩
  have tup : ∀ {ys : List PyData}, Im F.K (Av F pins ρ σ) H (.tuple ys) v → ∃ a pl, v = .ref a ∧ isD pl ∧ Ok F (pl ++ pins) ρ σ H ∧ Av F (pl ++ pins) ρ σ = Av F pins ρ σ ∧ TupAt F pl a ys := by
    intro ys im
    have im2 := im
    simp only [Im] at im2
    obtain ⟨a, vs, rfl, l, _⟩ := im2
    refine ⟨a, [.val (.ref a) (.d (.tuple ys))], rfl, fun p hp => ?_, O.push (v := .ref a) (r := .d (.tuple ys)) im, rfl, fun pins2 ρ2 σ2 H2 hp O2 => ?_⟩
    · rcases List.mem_cons.mp hp with z | z
      · exact ⟨_, _, z⟩
      · cases z
    · have h : Im F.K (Av F pins2 ρ2 σ2) H2 (.tuple ys) (.ref a) := O2.pin _ (hp _ (List.mem_cons_self ..))
      simp only [Im] at h
      obtain ⟨q, vs, e, l, im⟩ := h
      cases e
      exact ⟨vs, l.sq, im⟩
  unfold seqs at e
  split at e
  · cases e
    simpa using lst h
  · cases e
    simpa using tup h
  · rename_i i
    have g0 := h.1
    split at e
    · rename_i ys q
      cases e
      obtain ⟨u, g1, g2⟩ := O.ent i _ q
      rw [g0] at g1; cases g1
      rcases g2 with im | ⟨a, us, zs, rfl, e1, l, t⟩
      · simpa using lst im
      · cases e1
        refine ⟨a, pinsOf us xs, rfl, fun p hp => mem_pinsOf hp, (O.pushAll t).1, (O.pushAll t).2, ?_⟩
        rw [if_neg (by decide)]
        exact fun pins2 ρ2 σ2 H2 hp O2 => ⟨us, l.sq O2, all_pinsOf O2 t.length hp⟩
    · rename_i ys q
      cases e
      obtain ⟨u, g1, g2⟩ := O.ent i _ q
      rw [g0] at g1; cases g1
      rcases g2 with im | ⟨a, us, zs, rfl, e1, l, t⟩
      · simpa using tup im
      · cases e1
    · cases e
  · cases e
theorem getL {vs : List V} {i : Nat} (h : i < vs.length) : vs[i]? = some (vs[i]'h) := List.getElem?_eq_getElem h
def zipD (xs ys : List PyData) : List PyData := List.zipWith (fun x y => .tuple [x, y]) xs ys
theorem zipD_len {xs ys : List PyData} : (zipD xs ys).length = min xs.length ys.length := List.length_zipWith
theorem zipD_at {xs ys : List PyData} {i : Nat} {x y : PyData} (h : xs[i]? = some x) (k : ys[i]? = some y) : (zipD xs ys)[i]? = some (.tuple [x, y]) := by
  unfold zipD
  rw [List.getElem?_zipWith, h, k]
theorem im_pair {A : Addr → Prop} {H : Hp} {x y : PyData} {u v : V} {T : Addr} (hT : H T = none) (h1 : Im F.K A H x u) (h2 : Im F.K A H y v) (hA : ¬ A T) : Im F.K A (upd H T (.tup [u, v])) (.tuple [x, y]) (.ref T) := by
  have G : Go A A H (upd H T (.tup [u, v])) := ⟨fun a o _ h => grow_new hT a o h, fun a h => .inl h⟩
  simp only [Im]
  exact ⟨T, [u, v], rfl, .inl ⟨.inl upd_same, hA⟩, .cons (h1.go G) (.cons (h2.go G) .nil)⟩
theorem wok_zipL {pl : List Pin} {p q : Addr} {xs ys : List PyData} (h1 : LstAt F pl p xs) (h2 : LstAt F pl q ys) : WOk F (Itz F.K p q) (zipD xs ys) pl := by
  refine ⟨fun i pins ρ σ H hp hi O => ?_, fun pins ρ σ H hp O => ?_, fun i pins ρ σ H x H' hp hi O y => ?_⟩
  · obtain ⟨us, a1, a2⟩ := h1 pins ρ σ H hp O
    obtain ⟨vs, b1, b2⟩ := h2 pins ρ σ H hp O
    rw [zipD_len] at hi
    have l1 := a2.length
    have l2 := b2.length
    exact ⟨us, vs, _, _, a1, b1, getL (by omega), getL (by omega)⟩
  · obtain ⟨us, a1, a2⟩ := h1 pins ρ σ H hp O
    obtain ⟨vs, b1, b2⟩ := h2 pins ρ σ H hp O
    refine ⟨us, vs, a1, b1, ?_⟩
    rw [zipD_len, a2.length, b2.length]
    omega
  · obtain ⟨us, a1, a2⟩ := h1 pins ρ σ H hp O
    obtain ⟨vs, b1, b2⟩ := h2 pins ρ σ H hp O
    obtain ⟨T, u, v, rfl, hT, rfl, f1, f2⟩ := y
    obtain ⟨x, e1, i1⟩ := a2.getV (f1 us a1)
    obtain ⟨y, e2, i2⟩ := b2.getV (f2 vs b1)
    refine ⟨_, zipD_at e1 e2, O.new hT, im_pair hT i1 i2 fun z => ?_⟩
    obtain ⟨o, z⟩ := O.avH z
    rw [hT] at z; cases z
theorem wok_zipT {pl : List Pin} {p q : Addr} {xs ys : List PyData} (h1 : TupAt F pl p xs) (h2 : TupAt F pl q ys) : WOk F (RZ.ItzT F.K p q) (zipD xs ys) pl := by
  refine ⟨fun i pins ρ σ H hp hi O => ?_, fun pins ρ σ H hp O => ?_, fun i pins ρ σ H x H' hp hi O y => ?_⟩
  · obtain ⟨us, a1, a2⟩ := h1 pins ρ σ H hp O
    obtain ⟨vs, b1, b2⟩ := h2 pins ρ σ H hp O
    rw [zipD_len] at hi
    have l1 := a2.length
    have l2 := b2.length
    exact ⟨us, vs, _, _, a1, b1, getL (by omega), getL (by omega)⟩
  · obtain ⟨us, a1, a2⟩ := h1 pins ρ σ H hp O
    obtain ⟨vs, b1, b2⟩ := h2 pins ρ σ H hp O
    refine ⟨us, vs, a1, b1, ?_⟩
    rw [zipD_len, a2.length, b2.length]
    omega
  · obtain ⟨us, a1, a2⟩ := h1 pins ρ σ H hp O
    obtain ⟨vs, b1, b2⟩ := h2 pins ρ σ H hp O
    obtain ⟨T, u, v, rfl, hT, rfl, f1, f2⟩ := y
    obtain ⟨x, e1, i1⟩ := a2.getV (f1 us a1)
    obtain ⟨y, e2, i2⟩ := b2.getV (f2 vs b1)
    refine ⟨_, zipD_at e1 e2, O.new hT, im_pair hT i1 i2 fun z => ?_⟩
    obtain ⟨o, z⟩ := O.avH z
    rw [hT] at z; cases z
def dZip (t : TDA) : TDI := fun ρ Q => t ρ fun rs ρ1 => match rs with
  | [r, s] => match seqs ρ1 r, seqs ρ1 s with
    | some (k, xs), some (l, ys) => k = l ∧ Q (zipD xs ys) ρ1
    | _, _ => False
  | _ => False
theorem pdi_zip (hg : Gl X "zip") (hm : X.mg "zip" = none) (ha : PDA X F [e, e2] t d) (hK : X.K = F.K := by rfl)
    (hs : starEach [e, e2] X.env = (false, eval e X.env) :: starEach [e2] X.env := by rfl) (hpl : (backTo pos (starEach [e2] X.env)).any (·.1) = false := by rfl) :
    PDI X F (.Tuple elts kk tpos) (.Call (.Name "zip" p) [e, e2] [] pos) (RZ.iZipA F.K t) (dZip d) := by
  refine ⟨?_, fun pins ρ σ H R O h => ?_, fun ρ Q Q' hq h => ?_⟩
  · have := RZ.pi_zipA (elts := elts) (kk := kk) (tpos := tpos) (p := p) (pos := pos) hg hm ha.pa hs hpl
    rw [hK] at this
    exact this
  · refine ha.da.run pins ρ σ H _ O (ha.da.mono _ _ _ (fun rs ρ1 h1 vs H1 O1 R1 => ?_) h)
    split at h1
    · rename_i r s
      split at h1
      · rename_i k xs l ys e1 e2
        obtain ⟨rfl, h1⟩ := h1
        simp only [ROks] at R1
        obtain ⟨v, _, rfl, r1, w, _, rfl, r2, rfl⟩ := R1
        obtain ⟨a, pl, rfl, d1, O2, av2, k1⟩ := seqs_ok O1 r1 e1
        have r2' : ROk F (Av F (pl ++ pins) ρ1 σ) ρ1 σ H1 s w := by rw [av2]; exact r2
        obtain ⟨b, pm, rfl, d2, O3, av3, k2⟩ := seqs_ok O2 r2' e2
        have dd : isD (pm ++ pl) := fun q hq => by
          rcases List.mem_append.mp hq with z | z
          · exact d2 q z
          · exact d1 q z
        have O4 : Ok F ((pm ++ pl) ++ pins) ρ1 σ H1 := by rw [List.append_assoc]; exact O3
        have in1 : ∀ q ∈ pl, q ∈ pm ++ pl := fun q hq => List.mem_append_right _ hq
        have in2 : ∀ q ∈ pm, q ∈ pm ++ pl := fun q hq => List.mem_append_left _ hq
        have in3 : ∀ q ∈ pm ++ pl, q ∈ (pm ++ pl) ++ pins := fun q hq => List.mem_append_left _ hq
        cases k with
        | false =>
          have k1 : LstAt F pl a xs := by simpa using k1
          have k2 : LstAt F pm b ys := by simpa using k2
          obtain ⟨us, a1, _⟩ := k1.up in1 _ _ _ _ in3 O4
          obtain ⟨vs, b1, _⟩ := k2.up in2 _ _ _ _ in3 O4
          exact ⟨a, b, us, vs, rfl, .inl ⟨a1, b1, h1 _ H1 (pm ++ pl) (wok_zipL (k1.up in1) (k2.up in2)) dd O4⟩⟩
        | true =>
          have k1 : TupAt F pl a xs := by simpa using k1
          have k2 : TupAt F pm b ys := by simpa using k2
          obtain ⟨us, a1, _⟩ := k1.up in1 _ _ _ _ in3 O4
          obtain ⟨vs, b1, _⟩ := k2.up in2 _ _ _ _ in3 O4
          exact ⟨a, b, us, vs, rfl, .inr ⟨a1, b1, h1 _ H1 (pm ++ pl) (wok_zipT (k1.up in1) (k2.up in2)) dd O4⟩⟩
      · exact h1.elim
    · exact h1.elim
  · refine ha.da.mono _ _ _ (fun rs ρ1 h1 => ?_) h
    revert h1
    split
    · split
      · exact fun h1 => ⟨h1.1, hq _ _ h1.2⟩
      · exact fun h1 => h1
    · exact fun h1 => h1
def enumD (xs : List PyData) : List PyData := zipD (rng 0 xs.length) xs
theorem enumD_len {xs : List PyData} : (enumD xs).length = xs.length := by
  unfold enumD
  rw [zipD_len, rng_len]; omega
theorem enumD_at {xs : List PyData} {i : Nat} {x : PyData} (h : xs[i]? = some x) : (enumD xs)[i]? = some (.tuple [.int (i : Nat), x]) := by
  have hi : i < xs.length := by
    rcases Nat.lt_or_ge i xs.length with z | z
    · exact z
    · rw [List.getElem?_eq_none z] at h; cases h
  have := zipD_at (rng_at (lo := 0) hi) h
  rw [Int.zero_add] at this
  exact this
theorem wok_enumL {pl : List Pin} {p : Addr} {xs : List PyData} (h1 : LstAt F pl p xs) : WOk F (Ite F.K p) (enumD xs) pl := by
  refine ⟨fun i pins ρ σ H hp hi O => ?_, fun pins ρ σ H hp O => ?_, fun i pins ρ σ H x H' hp hi O y => ?_⟩
  · obtain ⟨us, a1, a2⟩ := h1 pins ρ σ H hp O
    rw [enumD_len] at hi
    have l1 := a2.length
    exact ⟨us, _, a1, getL (by omega)⟩
  · obtain ⟨us, a1, a2⟩ := h1 pins ρ σ H hp O
    refine ⟨us, a1, ?_⟩
    rw [enumD_len, a2.length]
    exact Nat.le_refl _
  · obtain ⟨us, a1, a2⟩ := h1 pins ρ σ H hp O
    obtain ⟨T, u, rfl, hT, rfl, f1⟩ := y
    obtain ⟨x, e1, i1⟩ := a2.getV (f1 us a1)
    refine ⟨_, enumD_at e1, O.new hT, im_pair hT .int i1 fun z => ?_⟩
    obtain ⟨o, z⟩ := O.avH z
    rw [hT] at z; cases z
end
end DV
namespace DV
open PySem PySem.Spec PyProof.Rows L2
open AutoSeq1 (wpAny_loadPart')
/-! ### enumerate of a tuple -/
theorem meets_enumerate_newT (l : Addr) (items : Array Value) (n : Nat) (dct : Option Addr) (sl : Array (Option Value)) :
    Meets (Builtin.«enumerate.__new__» ⟨[.type "enumerate", .ref l], []⟩) (fun _ R s => s.heap.get? l = some { cls := .type "tuple", dict := dct, data := .seq items n, slots := sl } ∧
      R (.ok (.ret (.ref (s.heap.push { cls := .type "tuple_iterator", data := .fields #[.ref l, .int 0 0] }).objs.size)))
        { s with heap := (s.heap.push { cls := .type "tuple_iterator", data := .fields #[.ref l, .int 0 0] }).push { cls := .type "enumerate", data := .fields #[.none, .bool false, .ref s.heap.objs.size, rawInt 0, .none, .none] } }) :=
  .of_wp fun prog w A R s h => by
    obtain ⟨hp, g, d, tk, os⟩ := s; obtain ⟨hl, h⟩ := h
    have hsub := sub_enumerate
    have hL : Heap.IsTuple (Shared.heap ⟨hp, g, d, tk, os⟩) l items := ⟨_, hl, rfl, n, rfl⟩
    wp_walk using wpAny_loadPart' hl
    refine wpAny_stack_any fun st => wpAny_pure ?_
    split
    · rename_i c _ _ _ _ _
      cases (c == Value.type "enumerate")
      · wp_walk using wpAny_loadPart' hl, wpAny_pyIter_tuple hL
        exact ⟨_, rfl, h⟩
      · wp_walk using wpAny_loadPart' hl, wpAny_pyIter_tuple hL
        exact ⟨_, rfl, h⟩
    · wp_walk using wpAny_loadPart' hl, wpAny_pyIter_tuple hL
      exact ⟨_, rfl, h⟩
section
variable {prog : Program} {w : World} {A : Around} {E : Value → Shared → Prop} {s : Shared}
theorem call_enumerate_tuple {l : Addr} {items : Array Value} {Q : Value → Shared → Prop} (hL : s.heap.IsTuple l items)
    (h : ∀ h', IsEnum h' (s.heap.objs.size + 1) s.heap.objs.size 0 .none → h'.IsTupleIter s.heap.objs.size l 0 → h'.objs.size = s.heap.objs.size + 2 →
      (∀ b o, s.heap.get? b = some o → h'.get? b = some o) → Q (.ref (s.heap.objs.size + 1)) { s with heap := h' }) :
    wpAny (model prog w) A (call (.type "enumerate") [.ref l]) Q E s := by
  obtain ⟨⟨c, dct, dt, sl⟩, hl, hc, n, hd⟩ := hL
  replace hc : c = .type "tuple" := hc
  replace hd : dt = .seq items n := hd
  subst hc hd
  refine callType_new F.called_enumerate (by decide) (F.typeCall_enumerate_1 _) (F.newCall_enumerate_1 _) (fun obj => F.args_object_init_2 obj _) F.entry_enumerate_new
    (meets_enumerate_newT l items n dct sl) ⟨hl, ?_⟩
  have hz : (s.heap.push { cls := .type "tuple_iterator", data := .fields #[.ref l, .int 0 0] }).objs.size = s.heap.objs.size + 1 := Heap.size_push ..
  show _ ∧ _
  rw [hz]
  have he : IsEnum ((s.heap.push { cls := .type "tuple_iterator", data := .fields #[.ref l, .int 0 0] }).push
      { cls := .type "enumerate", data := .fields #[.none, .bool false, .ref s.heap.objs.size, rawInt 0, .none, .none] }) (s.heap.objs.size + 1) s.heap.objs.size 0 .none := by
    have := Heap.get?_push_size (s.heap.push { cls := .type "tuple_iterator", data := .fields #[.ref l, .int 0 0] })
      (o := { cls := .type "enumerate", data := .fields #[.none, .bool false, .ref s.heap.objs.size, rawInt 0, .none, .none] }) rfl
    rw [hz] at this; exact this
  refine ⟨⟨_, he, rfl⟩, h _ he ⟨_, Heap.get?_push_of_some _ (Heap.get?_push_size _ rfl), rfl, rfl⟩ (by rw [Heap.size_push, hz]) fun b o x => Heap.get?_push_of_some _ (Heap.get?_push_of_some _ x)⟩
end
def IteT (K : PySem.W.Frag) (a : Addr) : It :=
  ⟨fun i H => ∃ (xs : List V) (x : V), SqT K H a xs ∧ xs[i]? = some x, fun i H v H' => ∃ T x, v = .ref T ∧ H T = none ∧ H' = upd H T (.tup [.int (i : Nat), x]) ∧ ∀ xs, SqT K H a xs → xs[i]? = some x, fun i H => ∃ xs : List V, SqT K H a xs ∧ xs.length ≤ i⟩
theorem turn_enumT {P : Program} {w : World} {K : PySem.W.Frag} {elts : List Expr} {kk : Nat} {tpos : Pos} (a e it : Addr) (hae : e ≠ a) (hai : a ≠ it) :
    Turn P w K (.Tuple elts kk tpos) (IteT K a) [e, it] e (fun i h => (∃ old, IsEnum h e it ((i : Nat) : Int) old) ∧ h.IsTupleIter it a i ∧ e ≠ it) where
  mem := by simp
  obj := fun i h st b hb => by
    obtain ⟨⟨old, he⟩, ⟨o, ho, hc, hd⟩, _⟩ := st
    have e' : b = e ∨ b = it := by simpa using hb
    rcases e' with z | z
    · rw [z]; exact ⟨_, he, fun v q => nomatch q⟩
    · rw [z]; exact ⟨o, ho, fun v q => by rw [hd] at q; cases q⟩
  keep := fun i h h' st k => let ⟨⟨old, he⟩, hi, hne⟩ := st; ⟨⟨old, k e (by simp) _ he⟩, hi.at fun o q => k it (by simp) o q, hne⟩
  item := by
    intro X hP hw hK hc i pins s σ H E I hf st hg
    subst hP hw hK
    obtain ⟨⟨old, he⟩, hit, hne⟩ := st
    obtain ⟨xs, x, hq, hx⟩ := hg
    obtain ⟨its, rv, p, hz⟩ := I.tuple hq
    obtain ⟨u, hu, ru⟩ := rv.get hx
    have hel : e < s.heap.objs.size := Heap.lt_size he
    have hil : it < s.heap.objs.size := by obtain ⟨_, q, _⟩ := hit; exact Heap.lt_size q
    have hu' : its.toArray[i]? = some u := by simpa using hu
    have hlt : i < its.toArray.size := by
      rcases Nat.lt_or_ge i its.toArray.size with z | z
      · exact z
      · rw [Array.getElem?_eq_none z] at hu'; cases hu'
    refine wpAny_pyNext_enum_itemD (Draws.tuple (show X.A.in1.handled = none from I.ok.hd hc) it a hai its.toArray) he ⟨hit, show s.heap.IsTuple a its.toArray from p⟩ hlt hne (by simp [hne, hae]) fun x' h' tk hx' ho hst' hT hsz hk => ?_
    have ex : x' = u := by
      have z : its.toArray[i]? = some x' := hx'
      rw [hu'] at z; cases z; rfl
    subst ex
    obtain ⟨hit', _⟩ := hst'
    refine ⟨_, rfl, wpAny_letOwnedTupleGo_enum (s := { s with heap := h', toks := tk + 1 }) ho fun h'' he' sb => ?_⟩
    have hT2 : h''.get? s.heap.objs.size = some { cls := .type "tuple", data := .seq #[.int i tk, x'] } := (sb.2 _ (Nat.ne_of_gt hel)).trans hT
    have new : ObjOk X.prog X.w (upd H s.heap.objs.size (.tup [.int (i : Nat), x])) h'' s.heap.objs.size (.tup [.int (i : Nat), x]) :=
      ⟨by show 2 ≤ sizeLine; decide, [.int i tk, x'], .cons ⟨_, rfl⟩ (.cons ru .nil), ⟨_, hT2, rfl, _, rfl⟩⟩
    have I1 : Inv X pins σ (upd H s.heap.objs.size (.tup [.int (i : Nat), x])) { s with heap := h'', toks := tk + 1 } :=
      I.turnedNew (ch := [e, it]) (fun b ob hb q => (sb.2 b (fun z => hb (by simp [z]))).trans (hk b ob (fun z => hb (by simp [z])) (fun z => hb (by simp [z])) q)) hf (Nat.le_refl _) new
    refine ⟨.ref s.heap.objs.size, _, I1, rfl, ⟨_, x, rfl, I.hok.fresh (Nat.le_refl _), rfl, fun ys hy => by rw [I.tuple_inj hy hq]; exact hx⟩, ⟨⟨x', ?_⟩, hit'.at fun o q => (sb.2 it (Ne.symm hne)).trans q, hne⟩, fun b hb => ?_⟩
    · have e1 : ((i + 1 : Nat) : Int) = (i : Int) + 1 := by omega
      rw [e1]; exact he'
    · have hb' : b < s.heap.objs.size := by
        have e' : b = e ∨ b = it := by simpa using hb
        rcases e' with z | z
        · rw [z]; exact hel
        · rw [z]; exact hil
      rw [upd_ne (Nat.ne_of_lt hb')]
      exact (hf b hb).1
  done := by
    intro X hP hw hK hc i pins s σ H E I hf st hg
    subst hP hw hK
    obtain ⟨⟨old, he⟩, hit, hne⟩ := st
    obtain ⟨xs, hq, hx⟩ := hg
    obtain ⟨its, rv, p, hz⟩ := I.tuple hq
    obtain ⟨f0, f1, f2, f3, f4, f5⟩ := hf it (by simp)
    have hl := rv.length
    have hh : X.A.in1.handled = none := I.ok.hd hc
    have hge : its.toArray[i]? = none := by simp; omega
    have hT : s.TypeIs (.ref e) "enumerate" := ⟨_, he, rfl⟩
    unfold pyNext
    refine wpAny_bind (wpAny_attempt (wpAny_callSpecial?_slot (name := Str.ofString "__next__") hT F.slot_enumerate_next
      (wpAny_call_entry F.slot_enumerate_next hT F.entry_enumerate_next ?_ (F.args_enumerate_next_1 _))))
    show wpAny _ _ (field (.ref e) 2 >>= _) _ _ _
    refine wpAny_bind (wpAny_field he rfl (x := .ref it) rfl ?_)
    refine wpAny_bind (wpAny_nextOf_tuple_end hh hit (show s.heap.IsTuple a its.toArray from p) hge fun h' x eb hx' => ?_)
    obtain ⟨o, ho, hc⟩ := hx'
    refine wpAny_bind (wpAny_isInstance (T := "StopIteration") (b := true) ⟨o, ho, hc⟩ isSubtype_stop ?_)
    exact wpAny_pure ⟨rfl, I.turned (t' := s.toks) (fun b o hb q => eb b o hb q) f0 f1 f3 f4 f5⟩
  self := fun A i s Q E st h => let ⟨⟨_, he⟩, _⟩ := st; wpAny_pyIter_enum he h
def iEnumA (K : PySem.W.Frag) (ta : TA) : TI := fun σ H R => ta σ H fun vs H1 => ∃ a xs, vs = [.ref a] ∧ ((SqL K H1 a xs ∧ R (Ite K a) H1) ∨ (SqT K H1 a xs ∧ R (IteT K a) H1))
theorem pi_enumA {X : Cx} {e : Expr} {ta : TA} {p pos tpos : Pos} {elts : List Expr} {kk : Nat} (hg : Gl X "enumerate") (hm : X.mg "enumerate" = none) (ha : PA X [e] ta) (hs : starEach [e] X.env = [(false, eval e X.env)] := by rfl) :
    PI X (.Tuple elts kk tpos) (.Call (.Name "enumerate" p) [e] [] pos) (iEnumA X.K ta) := by
  refine ⟨fun pins s σ H R I h => ?_⟩
  refine Call_ (ld_blt I hg hm boot_enumerate (PyProof.Rows.callWith_type1 (thn (ha.run pos pins s σ H _ I h) fun us s1 ⟨vs, H1, I1, r1, q1⟩ => ?_) hs rfl))
  obtain ⟨a, xs, ex, q⟩ := q1
  subst ex
  cases r1 with
  | cons r rr =>
    cases rr
    cases r
    have fr : ∀ b ∈ [s1.heap.objs.size + 1, s1.heap.objs.size], FpOk X pins H1 b := fun b hb => by
      have e' : b = s1.heap.objs.size + 1 ∨ b = s1.heap.objs.size := by simpa using hb
      have hle : s1.heap.objs.size ≤ b := by
        rcases e' with z | z
        · rw [z]; exact Nat.le_add_right _ _
        · rw [z]; exact Nat.le_refl _
      exact I1.fpOk hle (I1.hok.fresh hle)
    rcases q with ⟨hq, q⟩ | ⟨hq, q⟩
    · obtain ⟨its, rv, p', hz⟩ := I1.list hq
      refine call_enumerate_list p'.isList fun h' he hit hsz hk => wpAny_pyIter_enum he ?_
      have I2 : Inv X pins σ H1 { s1 with heap := h' } := I1.kept (t' := s1.toks) hk
      exact ⟨s1.heap.objs.size + 1, [s1.heap.objs.size + 1, s1.heap.objs.size], _, _, H1, rfl, I2, turn_enum a (s1.heap.objs.size + 1) s1.heap.objs.size, ⟨⟨.none, he⟩, hit, Nat.succ_ne_self _⟩, fr, q⟩
    · obtain ⟨its, rv, p', hz⟩ := I1.tuple hq
      obtain ⟨o1, ho1, _⟩ := id p'
      have hlt := Heap.lt_size ho1
      refine call_enumerate_tuple (show s1.heap.IsTuple a its.toArray from p') fun h' he hit hsz hk => wpAny_pyIter_enum he ?_
      have I2 : Inv X pins σ H1 { s1 with heap := h' } := I1.kept (t' := s1.toks) hk
      exact ⟨s1.heap.objs.size + 1, [s1.heap.objs.size + 1, s1.heap.objs.size], _, _, H1, rfl, I2, turn_enumT a (s1.heap.objs.size + 1) s1.heap.objs.size (Nat.ne_of_gt (Nat.lt_succ_of_lt hlt)) (Nat.ne_of_lt hlt), ⟨⟨.none, he⟩, hit, Nat.succ_ne_self _⟩, fr, q⟩
section
variable {X : Cx} {F : Fm} {tg e e2 a b c : Expr} {te te2 ta tb tc : TE} {de de2 da db dc : TDE} {pos p tpos : Pos} {t : TA} {d : TDA} {elts : List Expr} {kk : Nat}
theorem wok_enumT {pl : List Pin} {p : Addr} {xs : List PyData} (h1 : TupAt F pl p xs) : WOk F (IteT F.K p) (enumD xs) pl := by
  refine ⟨fun i pins ρ σ H hp hi O => ?_, fun pins ρ σ H hp O => ?_, fun i pins ρ σ H x H' hp hi O y => ?_⟩
  · obtain ⟨us, a1, a2⟩ := h1 pins ρ σ H hp O
    rw [enumD_len] at hi
    have l1 := a2.length
    exact ⟨us, _, a1, getL (by omega)⟩
  · obtain ⟨us, a1, a2⟩ := h1 pins ρ σ H hp O
    refine ⟨us, a1, ?_⟩
    rw [enumD_len, a2.length]
    exact Nat.le_refl _
  · obtain ⟨us, a1, a2⟩ := h1 pins ρ σ H hp O
    obtain ⟨T, u, rfl, hT, rfl, f1⟩ := y
    obtain ⟨x, e1, i1⟩ := a2.getV (f1 us a1)
    refine ⟨_, enumD_at e1, O.new hT, im_pair hT .int i1 fun z => ?_⟩
    obtain ⟨o, z⟩ := O.avH z
    rw [hT] at z; cases z
def dEnum (t : TDA) : TDI := fun ρ Q => t ρ fun rs ρ1 => match rs with
  | [r] => match seqs ρ1 r with
    | some (_, xs) => Q (enumD xs) ρ1
    | _ => False
  | _ => False
theorem pdi_enum (hg : Gl X "enumerate") (hm : X.mg "enumerate" = none) (ha : PDA X F [e] t d) (hK : X.K = F.K := by rfl)
    (hs : starEach [e] X.env = [(false, eval e X.env)] := by rfl) :
    PDI X F (.Tuple elts kk tpos) (.Call (.Name "enumerate" p) [e] [] pos) (iEnumA F.K t) (dEnum d) := by
  refine ⟨?_, fun pins ρ σ H R O h => ?_, fun ρ Q Q' hq h => ?_⟩
  · have := pi_enumA (elts := elts) (kk := kk) (tpos := tpos) (p := p) (pos := pos) hg hm ha.pa hs
    rw [hK] at this
    exact this
  · refine ha.da.run pins ρ σ H _ O (ha.da.mono _ _ _ (fun rs ρ1 h1 vs H1 O1 R1 => ?_) h)
    split at h1
    · rename_i r
      split at h1
      · rename_i k xs e1
        simp only [ROks] at R1
        obtain ⟨v, _, rfl, r1, rfl⟩ := R1
        obtain ⟨a, pl, rfl, d1, O2, av2, k1⟩ := seqs_ok O1 r1 e1
        have in1 : ∀ q ∈ pl, q ∈ pl ++ pins := fun q hq => List.mem_append_left _ hq
        cases k with
        | false =>
          have k1 : LstAt F pl a xs := by simpa using k1
          obtain ⟨us, a1, _⟩ := k1 _ _ _ _ in1 O2
          exact ⟨a, us, rfl, .inl ⟨a1, h1 _ H1 pl (wok_enumL k1) d1 O2⟩⟩
        | true =>
          have k1 : TupAt F pl a xs := by simpa using k1
          obtain ⟨us, a1, _⟩ := k1 _ _ _ _ in1 O2
          exact ⟨a, us, rfl, .inr ⟨a1, h1 _ H1 pl (wok_enumT k1) d1 O2⟩⟩
      · exact h1.elim
    · exact h1.elim
  · refine ha.da.mono _ _ _ (fun rs ρ1 h1 => ?_) h
    revert h1
    split
    · split
      · exact hq _ _
      · exact fun h1 => h1
    · exact fun h1 => h1
end
end DV
set_option maxHeartbeats 4000000
namespace DV
open PySem PySem.Spec PyProof.Rows L2
/-! ### sorted of pairs of whole numbers -/
abbrev Pr := Int × Int
def lle (p q : Pr) : Prop := p.1 < q.1 ∨ (p.1 = q.1 ∧ p.2 ≤ q.2)
inductive All2 {α β : Type} (R : α → β → Prop) : List α → List β → Prop
  | nil : All2 R [] []
  | cons {a b as bs} : R a b → All2 R as bs → All2 R (a :: as) (b :: bs)
def PairIs (K : PySem.W.Frag) (H : Hp) (x : V) (p : Pr) : Prop := ∃ t, x = V.ref t ∧ SqT K H t [.int p.1, .int p.2]
noncomputable def keyOf (K : PySem.W.Frag) (H : Hp) (x : V) : Pr := by
  classical
  exact if h : ∃ p : Pr, PairIs K H x p then Classical.choose h else (0, 0)
section
variable {X : Cx} {pins : List (Addr × Obj)} {σ : L2.St} {H : Hp} {s : Shared}
theorem keyOf_is {K : PySem.W.Frag} {x : V} {p : Pr} (h : PairIs K H x p) : PairIs K H x (keyOf K H x) := by
  have e : ∃ p : Pr, PairIs K H x p := ⟨p, h⟩
  unfold keyOf
  rw [dif_pos e]
  exact Classical.choose_spec e
theorem pairIs_inj (I : Inv X pins σ H s) {x : V} {p q : Pr} (h : PairIs X.K H x p) (k : PairIs X.K H x q) : p = q := by
  obtain ⟨t, e1, h1⟩ := h
  obtain ⟨u, e2, h2⟩ := k
  rw [e1] at e2
  cases e2
  have e := I.tuple_inj h1 h2
  injection e with a b
  injection a with a
  injection b with b _
  injection b with b
  exact Prod.ext a b
theorem keyOf_eq (I : Inv X pins σ H s) {x : V} {p : Pr} (h : PairIs X.K H x p) : keyOf X.K H x = p := pairIs_inj I (keyOf_is h) h
theorem isPair_of (I : Inv X pins σ H s) {u : Value} {x : V} {p : Pr} (r : RelV x u) (h : PairIs X.K H x p) : Srt.IsPair s.heap u p.1 p.2 := by
  obtain ⟨t, rfl, h⟩ := h
  cases r
  obtain ⟨its2, r2, ⟨o, ho, hc, n, hd⟩, _⟩ := I.tuple h
  obtain ⟨u1, u2, rfl, ri, rj⟩ := vals2 r2
  obtain ⟨t1, rfl⟩ := ri
  obtain ⟨t2, rfl⟩ := rj
  exact ⟨t, o, t1, t2, n, rfl, ho, hc, hd⟩
theorem lle_of {a b : Pr} (h : SrtO.lexB b a = false) : lle a b := by
  have := SrtO.lexB_no.mp h
  unfold lle
  omega
def rSortP (K : PySem.W.Frag) : List V → Hp → VK → Prop := fun vs H Q => ∃ (a : Addr) (xs : List V) (ps : List Pr), vs = [V.ref a] ∧ SqL K H a xs ∧ All2 (PairIs K H) xs ps ∧
  ∀ (L : List (V × Pr)) (p : Addr), L.Perm (xs.zip ps) → L.Pairwise (fun x y => lle x.2 y.2) → H p = none → Q (.ref p) (upd H p (.lst (L.map (·.1))))
theorem zip_key {K : PySem.W.Frag} {k : V → Pr} : ∀ {xs : List V} {ps : List Pr}, All2 (PairIs K H) xs ps → (∀ x p, PairIs K H x p → k x = p) → xs.zip ps = xs.map fun x => (x, k x)
  | [], _, h, hk => by cases h; rfl
  | x :: xs, _, h, hk => by
    cases h with
    | cons h1 h2 =>
      rw [List.zip_cons_cons, List.map_cons, zip_key h2 hk, hk _ _ h1]
theorem cr_sortP : CallR X (.builtin "sorted") (rSortP X.K) := by
  intro pins s σ H vs us Q I r h
  obtain ⟨a, xs, ps, rfl, hs, hx, q⟩ := h
  obtain ⟨its, rv, hl, hz⟩ := I.list hs
  obtain ⟨u, rfl, ru⟩ := vals1 r
  obtain rfl : u = Value.ref a := ru
  have hx1 : ∀ x ∈ xs, ∃ p, PairIs X.K H x p := fun x hm => by
    clear q hs rv hz
    induction hx with
    | nil => cases hm
    | cons h1 h2 ih =>
      rcases List.mem_cons.mp hm with e | hm
      · rw [e]; exact ⟨_, h1⟩
      · exact ih hm
  obtain ⟨e1, e2⟩ := refs_back rv fun x m => by
    obtain ⟨p, t, e, _⟩ := hx1 x m
    exact ⟨t, e⟩
  refine SrtO.sorted_pairsO (k := fun u => keyOf X.K H (backV u)) hl.isList (by rw [← rv.length]; exact hz) (fun v hv => ?_) fun h' d out h1 h2 kp hd hn => ?_
  · have hm : backV v ∈ xs := by rw [e1]; exact List.mem_map.mpr ⟨_, hv, rfl⟩
    obtain ⟨p, hp⟩ := hx1 _ hm
    obtain ⟨t, rfl⟩ := e2 v hv
    exact isPair_of I (x := V.ref t) rfl (keyOf_is hp)
  · have h3 : ∀ u ∈ out, ∃ a, u = Value.ref a := fun u hu => e2 u (h2.perm.mem_iff.mp hu)
    obtain ⟨n, hn⟩ := hn
    have ez := zip_key hx fun x p hp => keyOf_eq I hp
    have hb : (out.map backV).Perm xs := by rw [e1]; exact h2.perm.map _
    have e5 : ((out.map backV).map fun x => (x, keyOf X.K H x)).map (·.1) = out.map backV := by
      rw [List.map_map]
      exact (List.map_congr_left fun _ _ => rfl).trans (List.map_id _)
    refine ⟨.ref d, upd H d (.lst (out.map backV)), I.laid (t' := s.toks) kp hd ⟨?_, out, n, vals_back h3, hn⟩, rfl, ?_⟩
    · rw [hb.length_eq]
      exact hz
    · have := q ((out.map backV).map fun x => (x, keyOf X.K H x)) d (by rw [ez]; exact hb.map _) ?_ (I.hok.fresh hd)
      · rw [e5] at this
        exact this
      · refine List.pairwise_map.mpr (List.pairwise_map.mpr (List.Pairwise.imp (fun {x y} hxy => lle_of hxy) h1))
end
def encP (p : Pr) : PyData := .tuple [.int p.1, .int p.2]
def asPairs : List PyData → Option (List Pr)
  | [] => some []
  | .tuple [.int x, .int y] :: xs => (asPairs xs).map ((x, y) :: ·)
  | _ :: _ => none
theorem asPairs_enc : ∀ ps : List Pr, asPairs (ps.map encP) = some ps
  | [] => rfl
  | p :: ps => by
    show (asPairs (ps.map encP)).map ((p.1, p.2) :: ·) = _
    rw [asPairs_enc ps]; rfl
theorem asPairs_back : ∀ {xs : List PyData} {ps : List Pr}, asPairs xs = some ps → xs = ps.map encP
  | [], _, h => by cases h; rfl
  | .tuple [.int x, .int y] :: xs, ps, h => by
    have h : (asPairs xs).map ((x, y) :: ·) = some ps := h
    cases e : asPairs xs with
    | none => rw [e] at h; cases h
    | some qs =>
      rw [e] at h
      cases h
      rw [asPairs_back e]; rfl
  | .none :: _, _, h => by cases h
  | .bool _ :: _, _, h => by cases h
  | .int _ :: _, _, h => by cases h
  | .str _ :: _, _, h => by cases h
  | .list _ :: _, _, h => by cases h
  | .dict _ :: _, _, h => by cases h
  | .tuple [] :: _, _, h => by cases h
  | .tuple [.none] :: _, _, h => by cases h
  | .tuple [.bool _] :: _, _, h => by cases h
  | .tuple [.int _] :: _, _, h => by cases h
  | .tuple [.str _] :: _, _, h => by cases h
  | .tuple [.list _] :: _, _, h => by cases h
  | .tuple [.tuple _] :: _, _, h => by cases h
  | .tuple [.dict _] :: _, _, h => by cases h
  | .tuple (.none :: _ :: _) :: _, _, h => by cases h
  | .tuple (.bool _ :: _ :: _) :: _, _, h => by cases h
  | .tuple (.str _ :: _ :: _) :: _, _, h => by cases h
  | .tuple (.list _ :: _ :: _) :: _, _, h => by cases h
  | .tuple (.tuple _ :: _ :: _) :: _, _, h => by cases h
  | .tuple (.dict _ :: _ :: _) :: _, _, h => by cases h
  | .tuple [.int _, .none] :: _, _, h => by cases h
  | .tuple [.int _, .bool _] :: _, _, h => by cases h
  | .tuple [.int _, .str _] :: _, _, h => by cases h
  | .tuple [.int _, .list _] :: _, _, h => by cases h
  | .tuple [.int _, .tuple _] :: _, _, h => by cases h
  | .tuple [.int _, .dict _] :: _, _, h => by cases h
  | .tuple (.int _ :: .none :: _ :: _) :: _, _, h => by cases h
  | .tuple (.int _ :: .bool _ :: _ :: _) :: _, _, h => by cases h
  | .tuple (.int _ :: .int _ :: _ :: _) :: _, _, h => by cases h
  | .tuple (.int _ :: .str _ :: _ :: _) :: _, _, h => by cases h
  | .tuple (.int _ :: .list _ :: _ :: _) :: _, _, h => by cases h
  | .tuple (.int _ :: .tuple _ :: _ :: _) :: _, _, h => by cases h
  | .tuple (.int _ :: .dict _ :: _ :: _) :: _, _, h => by cases h
theorem im_pairIs {K : PySem.W.Frag} {N : Addr → Prop} {H : Hp} {p : Pr} {v : V} (h : Im K N H (encP p) v) : PairIs K H v p := by
  simp only [encP, Im] at h
  obtain ⟨a, vs, rfl, l, im⟩ := h
  simp only [ImAll] at im
  obtain ⟨x, _, rfl, rfl, y, _, rfl, rfl, rfl⟩ := im
  exact ⟨a, rfl, l.sq⟩
theorem im_pairs {K : PySem.W.Frag} {N : Addr → Prop} {H : Hp} : ∀ {ps : List Pr} {vs : List V}, ImAll K N H (ps.map encP) vs → All2 (PairIs K H) vs ps
  | [], _, h => by simp only [List.map_nil, ImAll] at h; subst h; exact .nil
  | p :: ps, _, h => by
    rw [List.map_cons] at h
    simp only [ImAll] at h
    obtain ⟨v, vs, rfl, h1, h2⟩ := h
    exact .cons (im_pairIs h1) (im_pairs h2)
theorem im_zip {K : PySem.W.Frag} {N : Addr → Prop} {H : Hp} : ∀ {ps : List Pr} {vs : List V}, ImAll K N H (ps.map encP) vs → ∀ x ∈ vs.zip ps, Im K N H (encP x.2) x.1
  | [], _, h, x, hx => by simp only [List.map_nil, ImAll] at h; subst h; cases hx
  | p :: ps, _, h, x, hx => by
    rw [List.map_cons] at h
    simp only [ImAll] at h
    obtain ⟨v, vs, rfl, h1, h2⟩ := h
    rw [List.zip_cons_cons] at hx
    rcases List.mem_cons.mp hx with e | hx
    · rw [e]; exact h1
    · exact im_zip h2 x hx
theorem im_of_zip {K : PySem.W.Frag} {N : Addr → Prop} {H : Hp} : ∀ {L : List (V × Pr)}, (∀ x ∈ L, Im K N H (encP x.2) x.1) → ImAll K N H ((L.map (·.2)).map encP) (L.map (·.1))
  | [], _ => .nil
  | x :: L, h => by
    rw [List.map_cons, List.map_cons, List.map_cons]
    exact .cons (h x (List.mem_cons_self ..)) (im_of_zip fun y hy => h y (List.mem_cons_of_mem _ hy))
theorem All2.len {α β : Type} {R : α → β → Prop} : ∀ {as : List α} {bs : List β}, All2 R as bs → as.length = bs.length
  | _, _, .nil => rfl
  | _, _, .cons _ h => by rw [List.length_cons, List.length_cons, h.len]
/-- a sorted rearrangement -/
def Sortd (ps qs : List Pr) : Prop := qs.Perm ps ∧ qs.Pairwise lle
def SortdI (ps qs : List Int) : Prop := qs.Perm ps ∧ qs.Pairwise (· ≤ ·)
section
variable {X : Cx} {F : Fm} {e : Expr} {t : TA} {d : TDA} {pos : Pos}
def rSortA (K : PySem.W.Frag) : List V → Hp → VK → Prop := fun vs H Q => rSortP K vs H Q ∨ rSortedI K vs H Q
theorem cr_sortA : CallR X (.builtin "sorted") (rSortA X.K) := fun pins s σ H xs us Q I r h => by
  rcases h with h | h
  · exact cr_sortP pins s σ H xs us Q I r h
  · exact cr_sortedI pins s σ H xs us Q I r h
def dSort (t : TDA) : TDL := fun ρ Q => t ρ fun rs ρ1 => match rs with
  | [r] => onL ρ1 r fun xs => (∃ ps, asPairs xs = some ps ∧ ∀ qs, Sortd ps qs → Q (qs.map encP) ρ1) ∨ (∃ ns, asInts xs = some ns ∧ ∀ ms, SortdI ns ms → Q (ms.map .int) ρ1)
  | _ => False
theorem pl_sort {p : Pos} (hg : Gl X "sorted") (hm : X.mg "sorted" = none) (ha : PDA X F [e] t d) (hK : X.K = F.K := by rfl) (he : starEach [e] X.env = (false, eval e X.env) :: starEach [] X.env := by rfl) (hpl : (backTo pos (starEach [] X.env)).any (·.1) = false := by rfl) :
    PDL X F (.Call (.Name "sorted" p) [e] [] pos) (tCB (rSortA F.K) t) (dSort d) := by
  refine ⟨?_, fun pins ρ σ H Q O h => ?_, fun ρ Q Q' hq h => ?_⟩
  · have := pe_callB (p := p) (pos := pos) cr_sortA hg hm (by decide +kernel) ha.pa (by decide) (by decide) he hpl
    rw [hK] at this
    exact this
  · refine ha.da.run pins ρ σ H _ O (ha.da.mono _ _ _ (fun rs ρ1 h1 vs H1 O1 R1 => ?_) h)
    split at h1
    · rename_i r
      simp only [ROks] at R1
      obtain ⟨v, _, rfl, r1, rfl⟩ := R1
      obtain ⟨xs, e1, q⟩ := onL_of h1
      obtain ⟨p, us, rfl, l, im⟩ := litems_ok O1 r1 e1
      rcases q with ⟨ps, e2, q⟩ | ⟨ns, e2, q⟩
      · cases asPairs_back e2
        have a2 := im_pairs im
        refine .inl ⟨p, us, ps, rfl, l, a2, fun L p' pm pw hp => ?_⟩
        have hz : ∀ x ∈ L, Im F.K (Av F pins ρ1 σ) H1 (encP x.2) x.1 := fun x hx => im_zip im x (pm.mem_iff.mp hx)
        refine q (L.map (·.2)) ⟨?_, List.pairwise_map.mpr pw⟩ _ _ (O1.pushL hp (im_of_zip hz))
        have h := pm.map (·.2)
        rw [List.map_snd_zip (by rw [a2.len]; exact Nat.le_refl _)] at h
        exact h
      · cases asInts_dp im.dp e2
        refine .inr ⟨p, ns, rfl, l, fun ms p' pm pw hp => q ms ⟨pm, pw⟩ _ _ (O1.pushL hp (ImAll.ints ms))⟩
    · exact h1.elim
  · refine ha.da.mono _ _ _ (fun rs ρ1 h1 => ?_) h
    revert h1
    split
    · refine fun h1 => onL_mono h1 fun xs h2 => ?_
      rcases h2 with ⟨ps, e, q⟩ | ⟨ns, e, q⟩
      · exact .inl ⟨ps, e, fun qs s => hq _ _ (q qs s)⟩
      · exact .inr ⟨ns, e, fun qs s => hq _ _ (q qs s)⟩
    · exact fun h1 => h1
end
end DV
set_option maxHeartbeats 4000000
namespace DV
open PySem PySem.Spec PyProof.Rows L2
/-! ### sorted of a set of pairs -/
def twoOf : List Int → Pr
  | [x, y] => (x, y)
  | _ => (0, 0)
section
variable {P : Program} {w : World} {A : Around} {E : Value → Shared → Prop} {s : Shared}
theorem sorted_setP {a : Addr} {L : List (Addr × List Int)} {es : Array (Int × Value)} {ep : Nat} {t : SetTable} {Q : Value → Shared → Prop} (R : SetTR P w s.heap a L es ep t) (hh : A.handled = none)
    (hB : ∀ p ∈ L, p.2.length = 2)
    (hQ : ∀ s' p (out : List Value) (c : Nat) (L' : List (Addr × List Int)), (∀ b o, s.heap.get? b = some o → s'.heap.get? b = some o) → s'.gens = s.gens → s'.os = s.os → s.heap.objs.size ≤ p →
      s'.heap.get? p = some (seqObj "list" out.toArray c) → out = L'.map (fun q => Value.ref q.1) → L'.Perm L → L'.Pairwise (fun q r => lle (twoOf q.2) (twoOf r.2)) → Q (.ref p) s') :
    wpAny (model P w) A (call (.builtin "sorted") [.ref a]) Q E s := by
  obtain ⟨o, ho, hex, hd⟩ := R.ob
  have hsz := R.size
  have hfew := R.few
  refine Calls.call_function_entry kind_sorted plain_sorted entry_sorted (args_sorted1 _) ?_
  unfold Builtin.«sorted»
  refine wpAny_bind (m := checkCount "sorted" 1 1 _) (wpAny_pure ?_)
  refine wpAny_bind (collect_set (A := A.in1) hh ⟨o, ho, hex.1, hd⟩ R.fits (by unfold scanBound; omega) R.tab.ris R.led fun s1 vs k1 hz g1 o1 pm => ?_)
  have hes : es.toList.map (·.2) = L.map fun q => Value.ref q.1 := by
    rw [R.rows]
    unfold rowsOf
    rw [List.map_map] <;> rfl
  rw [hes] at pm
  have ord : ∀ vs : List Value, (∀ v ∈ vs, ∃ q ∈ L, v = Value.ref q.1) → ∃ L1 : List (Addr × List Int), vs = L1.map (fun q => Value.ref q.1) ∧ ∀ q ∈ L1, q ∈ L := by
    intro vs
    induction vs with
    | nil => intro _; exact ⟨[], rfl, fun q hq => (by cases hq)⟩
    | cons v vs ih =>
      intro hv
      obtain ⟨q, hq, e⟩ := hv v List.mem_cons_self
      obtain ⟨L1, e1, hs⟩ := ih fun u hu => hv u (List.mem_cons_of_mem _ hu)
      refine ⟨q :: L1, by rw [List.map_cons, e, e1], fun r hr => ?_⟩
      rcases List.mem_cons.mp hr with z | z
      · rw [z]; exact hq
      · exact hs r z
  have one : ∀ q ∈ L, ∀ r ∈ L, q.1 = r.1 → q = r := fun q hq r hr e => by
    have a1 := R.tup q hq
    have a2 := R.tup r hr
    rw [e] at a1
    have e2 : q.2 = r.2 := a1.inj a2
    exact Prod.ext e e2
  have perm_of : ∀ L1 : List (Addr × List Int), (∀ q ∈ L1, q ∈ L) → (L1.map (fun q => Value.ref q.1)).Perm (L.map fun q => Value.ref q.1) → L1.Perm L := by
    intro L1 hs pm1
    have nL : L.Nodup := L2.nodup_of_map R.nd
    have nref : (L.map fun q => Value.ref q.1).Nodup := by
      refine List.pairwise_map.mpr (List.Pairwise.imp_of_mem (fun {q r} hq hr hne e => ?_) nL)
      injection e with e
      exact hne (one q hq r hr e)
    have n1 : L1.Nodup := L2.nodup_of_map (pm1.nodup_iff.mpr nref)
    refine (List.perm_ext_iff_of_nodup n1 nL).mpr fun q => ⟨hs q, fun hq => ?_⟩
    have hm : Value.ref q.1 ∈ L1.map (fun q => Value.ref q.1) := pm1.mem_iff.mpr (List.mem_map.mpr ⟨q, hq, rfl⟩)
    obtain ⟨r, hr, e⟩ := List.mem_map.mp hm
    injection e with e
    rw [← one r (hs r hr) q hq e]
    exact hr
  have hvl : vs.length < 64 := by rw [pm.length_eq, List.length_map]; exact hfew
  refine wpAny_bind (wpAny_newList ?_ (by rw [sizeLine_eq]; omega))
  have hoL : (s1.heap.push (seqObj "list" vs.toArray 0)).get? s1.heap.objs.size = some (seqObj "list" vs.toArray 0) := Heap.get?_push_size _ rfl
  classical
  -- the key of a value
  let key : Value → Pr := fun v => if h : ∃ q ∈ L, v = Value.ref q.1 then twoOf (Classical.choose h).2 else (0, 0)
  have key_at : ∀ q ∈ L, key (.ref q.1) = twoOf q.2 := fun q hq => by
    have h : ∃ r ∈ L, Value.ref q.1 = Value.ref r.1 := ⟨q, hq, rfl⟩
    show (if h : ∃ r ∈ L, Value.ref q.1 = Value.ref r.1 then twoOf (Classical.choose h).2 else (0, 0)) = _
    rw [dif_pos h]
    obtain ⟨h1, h2⟩ := Classical.choose_spec h
    injection h2 with h2
    rw [← one q hq _ h1 h2]
  have isp : ∀ q ∈ L, Srt.IsPair (s1.heap.push (seqObj "list" vs.toArray 0)) (.ref q.1) (key (.ref q.1)).1 (key (.ref q.1)).2 := fun q hq => by
    rw [key_at q hq]
    obtain ⟨o, items, n, ho, hc, hd, hi⟩ := L2.isT_keep (R.tup q hq) fun b u e => Heap.get?_push_of_some (seqObj "list" vs.toArray 0) (k1 b u e)
    have l2 := hB q hq
    generalize q.2 = k at hi l2
    match k, l2 with
    | [x, y], _ =>
      have ia := ints_of_items hi
      cases ia' : items.toList with
      | nil => rw [ia'] at ia; cases ia
      | cons v1 r1 =>
        rw [ia'] at ia
        cases ia with
        | cons _ t1 ia2 =>
          cases ia2 with
          | cons _ t2 ia3 =>
            cases ia3
            have e : items = #[.int x t1, .int y t2] := by
              apply Array.toList_inj.mp
              rw [ia']
            exact ⟨q.1, o, t1, t2, n, rfl, ho, hc, by rw [hd, e]; rfl⟩
  have ofv : ∀ v ∈ vs, ∃ q ∈ L, v = Value.ref q.1 := fun v hv => by
    obtain ⟨q, hq, e⟩ := List.mem_map.mp (pm.mem_iff.mp hv)
    exact ⟨q, hq, e.symm⟩
  refine wpAny_bind (wpAny_holding (wpAny_call_entry slot_list_sort ⟨_, hoL, rfl⟩ entry_list_sort (SrtO.list_sort_ord (s := { s1 with heap := s1.heap.push (seqObj "list" vs.toArray 0) }) (SrtO.swo_lex key) hoL (by rw [sizeLine_eq]; omega) (fun h2 => ?_) fun out hs hb => ⟨_, rfl, ?_⟩) (args_list_sort _)))
  · refine SrtO.pairs_sortableO (by omega) (fun v hv => ?_) fun o e c => ?_
    · obtain ⟨q, hq, rfl⟩ := ofv v hv
      exact isp q hq
    · have e' : some o = some (seqObj "list" vs.toArray 0) := e.symm.trans hoL
      cases e'
      exact absurd (Value.type.inj c) (by decide)
  · obtain ⟨c, hc⟩ := PyProof.Rows.sortedHeap_at (vs := vs) (out := out.toArray) hoL
    obtain ⟨L', e', hs'⟩ := ord out fun v hv => ofv v (hb.perm.mem_iff.mp hv)
    have pL : L'.Perm L := perm_of L' hs' (by rw [← e']; exact hb.perm.trans pm)
    have pw : L'.Pairwise (fun q r => lle (twoOf q.2) (twoOf r.2)) := by
      rw [e'] at hs
      refine List.Pairwise.imp_of_mem (fun {q r} hq hr hle => ?_) (List.pairwise_map.mp hs)
      have := lle_of hle
      rw [key_at q (hs' q hq), key_at r (hs' r hr)] at this
      exact this
    refine wpAny_pure ⟨_, rfl, hQ _ s1.heap.objs.size out c L' (fun b u e => ?_) g1 o1 hz hc e' pL pw⟩
    have q := k1 b u e
    have hlt := Heap.lt_size q
    show (sortedHeap (s1.heap.push (seqObj "list" vs.toArray 0)) s1.heap.objs.size vs out.toArray).get? b = some u
    rw [PyProof.Rows.sortedHeap_old (Nat.ne_of_lt hlt) (by rw [size_push']; exact Nat.lt_succ_of_lt hlt)]
    exact Heap.get?_push_of_some _ q
end
section
variable {X : Cx}
def rSortedTP (K : PySem.W.Frag) (P : Program) (w : World) : List V → Hp → VK → Prop := fun vs H Q => ∃ (a : Addr) (L : List (Addr × List Int)), vs = [V.ref a] ∧ H a = some (SetTO P w a L) ∧ (∀ p ∈ L, SqT K H p.1 (p.2.map V.int)) ∧
  (∀ p ∈ L, p.2.length = 2) ∧
  ∀ (L' : List (Addr × List Int)) (p : Addr), L'.Perm L → (L'.map (·.2)).Nodup → L'.Pairwise (fun q r => lle (twoOf q.2) (twoOf r.2)) → H p = none → Q (.ref p) (upd H p (.lst (L'.map fun q => V.ref q.1)))
theorem cr_sortedTP (hc : X.calm = true) : CallR X (.builtin "sorted") (rSortedTP X.K X.prog X.w) := by
  intro pins s σ H vs us Q I r h
  obtain ⟨a, L, rfl, ha, hk, hB, q⟩ := h
  have R0 : SetT0 X.prog X.w s.heap a L := (I.hok a _ ha).1
  obtain ⟨es, ep, t, R⟩ := R0.full fun p hp => I.isT (hk p hp)
  rw [Vals.ref1 r]
  refine sorted_setP R (I.ok.hd hc) hB fun s' p out c L' k g o hp hg hout pm pw => ?_
  have hfew : L'.length < 64 := by rw [pm.length_eq]; exact R.few
  have hlen : (L'.map fun q => V.ref q.1).length ≤ sizeLine := by rw [List.length_map, sizeLine_eq]; omega
  have hn : H p = none := I.hok.fresh hp
  have hv : Vals (L'.map fun q => V.ref q.1) out := by rw [hout]; exact vals_of_refs L'
  have J : L2.Inv X pins σ (upd H p (.lst (L'.map fun q => V.ref q.1))) { s with heap := s'.heap, gens := s'.gens, drawn := s'.drawn, toks := s'.toks } :=
    I.call (ch := []) (Un.laid k hp hn) (I.hok.laid k hp ⟨hlen, out, c, hv, hg⟩) (by rw [g]; exact I.bare) (fun _ z => nomatch z)
  have e : s' = { s with heap := s'.heap, gens := s'.gens, drawn := s'.drawn, toks := s'.toks } := by
    cases s'
    cases s
    cases o
    rfl
  rw [e]
  exact ⟨.ref p, _, J, rfl, q L' p pm ((pm.map (·.2)).nodup_iff.mpr R.nd) pw hn⟩
end
theorem keyed {K : PySem.W.Frag} {N : Addr → Prop} {H : Hp} : ∀ {ps : List Pr} {vs : List V}, ImAll K N H (ps.map encP) vs → ∃ ks : List (Addr × List Int), vs = ks.map (fun p => V.ref p.1) ∧ ks.map (·.2) = ps.map (fun p => [p.1, p.2]) ∧ ∀ k ∈ ks, k.2.length = 2 ∧ Im K N H (encP (twoOf k.2)) (.ref k.1)
  | [], _, h => by simp only [List.map_nil, ImAll] at h; subst h; exact ⟨[], rfl, rfl, fun k hk => nomatch hk⟩
  | p :: ps, _, h => by
    rw [List.map_cons] at h
    simp only [ImAll] at h
    obtain ⟨v, vs, rfl, h1, h2⟩ := h
    obtain ⟨ks, e1, e2, e3⟩ := keyed h2
    obtain ⟨t, rfl, _⟩ := im_pairIs h1
    refine ⟨(t, [p.1, p.2]) :: ks, by rw [e1, List.map_cons], by rw [List.map_cons, List.map_cons, e2], fun k hk => ?_⟩
    rcases List.mem_cons.mp hk with e | hk
    · rw [e]; exact ⟨rfl, h1⟩
    · exact e3 k hk
theorem two_eq {k : List Int} (h : k.length = 2) : k = [(twoOf k).1, (twoOf k).2] := by
  match k, h with
  | [x, y], _ => rfl
theorem sq_of_im {K : PySem.W.Frag} {N : Addr → Prop} {H : Hp} {k : Addr × List Int} (h : k.2.length = 2) (im : Im K N H (encP (twoOf k.2)) (.ref k.1)) : SqT K H k.1 (k.2.map V.int) := by
  obtain ⟨t, e, q⟩ := im_pairIs im
  cases e
  have e : k.2.map V.int = [V.int (twoOf k.2).1, V.int (twoOf k.2).2] := by
    conv => lhs; rw [two_eq h]
    rfl
  rw [e]; exact q
/-- each pair once, in order -/
def SortdS (ps qs : List Pr) : Prop := qs.Nodup ∧ qs.Pairwise lle ∧ ∀ p, p ∈ qs ↔ p ∈ ps
section
variable {X : Cx} {F : Fm} {e : Expr} {t : TA} {d : TDA} {pos : Pos}
def dSortSet (t : TDA) : TDL := fun ρ Q => t ρ fun rs ρ1 => match rs with
  | [r] => onL ρ1 r fun xs => ∃ ps, asPairs xs = some ps ∧ ps.length < 64 ∧ ∀ qs, SortdS ps qs → Q (qs.map encP) ρ1
  | _ => False
theorem pl_sortSet {p p2 : Pos} {pos2 : Pos} (hc : X.calm = true) (hu : X.A.units + 64 < cLine) (hg : Gl X "sorted") (hm : X.mg "sorted" = none) (hg2 : Gl X "set") (hm2 : X.mg "set" = none) (ha : PDA X F [e] t d) (hK : X.K = F.K := by rfl)
    (he : starEach [e] X.env = (false, eval e X.env) :: starEach [] X.env := by rfl) (hpl : (backTo pos2 (starEach [] X.env)).any (·.1) = false := by rfl)
    (he2 : starEach [.Call (.Name "set" p2) [e] [] pos2] X.env = (false, eval (.Call (.Name "set" p2) [e] [] pos2) X.env) :: starEach [] X.env := by rfl) (hpl2 : (backTo pos (starEach [] X.env)).any (·.1) = false := by rfl) :
    PDL X F (.Call (.Name "sorted" p) [.Call (.Name "set" p2) [e] [] pos2] [] pos) (tCB (rSortedTP F.K X.prog X.w) (tCons (tCB (rSetOfT F.K X.prog X.w) t) tNil)) (dSortSet d) := by
  refine ⟨?_, fun pins ρ σ H Q O h => ?_, fun ρ Q Q' hq h => ?_⟩
  · have h1 := pe_callTy (p := p2) (pos := pos2) (cr_setOfT hc hu) hg2 hm2 (by decide +kernel) ha.pa (by decide) (by decide) he hpl
    have h2 := pe_callB (p := p) (pos := pos) (cr_sortedTP hc) hg hm (by decide +kernel) (pa_cons h1 pa_nil he2) (by decide) (by decide) he2 hpl2
    rw [hK] at h2
    exact h2
  · refine ha.da.run pins ρ σ H _ O (ha.da.mono _ _ _ (fun rs ρ1 h1 vs H1 O1 R1 => ?_) h)
    split at h1
    · rename_i r
      simp only [ROks] at R1
      obtain ⟨v, _, rfl, r1, rfl⟩ := R1
      obtain ⟨xs, e1, ps, e2, hlt, q⟩ := onL_of h1
      obtain ⟨l, us, rfl, sq, im⟩ := litems_ok O1 r1 e1
      cases asPairs_back e2
      obtain ⟨ks, e3, e4, e5⟩ := keyed im
      subst e3
      have hlen : ks.length = ps.length := by have := congrArg List.length e4; simpa using this
      refine ⟨l, ks, rfl, sq, fun k hk => sq_of_im (e5 k hk).1 (e5 k hk).2, by omega, fun a L ha0 hL1 hL2 => ?_⟩
      have O2 : Ok F pins ρ1 σ (upd H1 a (SetTO X.prog X.w a L)) := O1.new ha0
      have G : Go (Av F pins ρ1 σ) (Av F pins ρ1 σ) H1 (upd H1 a (SetTO X.prog X.w a L)) := ⟨fun b o _ h => grow_new ha0 b o h, fun b h => .inl h⟩
      have im2 : ∀ k ∈ L, k.2.length = 2 ∧ Im F.K (Av F pins ρ1 σ) (upd H1 a (SetTO X.prog X.w a L)) (encP (twoOf k.2)) (.ref k.1) := fun k hk => ⟨(e5 k (hL1 k hk)).1, (e5 k (hL1 k hk)).2.go G⟩
      refine ⟨a, L, rfl, upd_same, fun k hk => sq_of_im (im2 k hk).1 (im2 k hk).2, fun k hk => (im2 k hk).1, fun L' p' pm nd pw hp => ?_⟩
      have hL' : ∀ k ∈ L', k ∈ L := fun k hk => pm.mem_iff.mp hk
      have im3 : ImAll F.K (Av F pins ρ1 σ) (upd H1 a (SetTO X.prog X.w a L)) ((L'.map fun k => twoOf k.2).map encP) (L'.map fun k => V.ref k.1) := by
        have : ∀ M : List (Addr × List Int), (∀ k ∈ M, k ∈ L) → ImAll F.K (Av F pins ρ1 σ) (upd H1 a (SetTO X.prog X.w a L)) ((M.map fun k => twoOf k.2).map encP) (M.map fun k => V.ref k.1) := by
          intro M
          induction M with
          | nil => intro _; exact .nil
          | cons k M ih =>
            intro hM
            rw [List.map_cons, List.map_cons, List.map_cons]
            exact .cons (im2 k (hM k (List.mem_cons_self ..))).2 (ih fun j hj => hM j (List.mem_cons_of_mem _ hj))
        exact this L' hL'
      refine q (L'.map fun k => twoOf k.2) ⟨?_, List.pairwise_map.mpr pw, fun p => ⟨fun hp => ?_, fun hp => ?_⟩⟩ _ _ (O2.pushL hp im3)
      · refine List.pairwise_map.mpr (List.Pairwise.imp_of_mem (fun {j k} hj hk hne e => ?_) (List.pairwise_map.mp nd))
        have a1 := two_eq (im2 j (hL' j hj)).1
        have a2 := two_eq (im2 k (hL' k hk)).1
        exact hne (by rw [a1, a2, e])
      · obtain ⟨k, hk, rfl⟩ := List.mem_map.mp hp
        have hm : k.2 ∈ ks.map (·.2) := List.mem_map.mpr ⟨k, hL1 k (hL' k hk), rfl⟩
        rw [e4] at hm
        obtain ⟨p, hp, e⟩ := List.mem_map.mp hm
        rw [← e]; exact hp
      · have hm : [p.1, p.2] ∈ ks.map (·.2) := by rw [e4]; exact List.mem_map.mpr ⟨p, hp, rfl⟩
        obtain ⟨k, hk, e⟩ := List.mem_map.mp hm
        obtain ⟨j, hj, e9⟩ := List.mem_map.mp (hL2 k hk)
        refine List.mem_map.mpr ⟨j, pm.mem_iff.mpr hj, ?_⟩
        rw [e9, e]; rfl
    · exact h1.elim
  · refine ha.da.mono _ _ _ (fun rs ρ1 h1 => ?_) h
    revert h1
    split
    · exact fun h1 => onL_mono h1 fun xs ⟨ps, e, hl, q⟩ => ⟨ps, e, hl, fun qs s => hq _ _ (q qs s)⟩
    · exact fun h1 => h1
end
end DV
namespace HQ
open PySem PyProof.Rows
theorem kind_push : builtinKind "_heapq.heappush" = none := by decide +kernel
theorem plain_push : plainId "_heapq.heappush" = true := by decide +kernel
theorem entry_push : entryFor table "_heapq.heappush" = some Builtin.«_heapq.heappush» := entryFor_of_fast (by kernel_rfl)
theorem args_push (a b : Value) : argsOk "_heapq.heappush" ⟨[a, b], []⟩ := by unfold argsOk; kernel_rfl
theorem kind_pop : builtinKind "_heapq.heappop" = none := by decide +kernel
theorem plain_pop : plainId "_heapq.heappop" = true := by decide +kernel
theorem entry_pop : entryFor table "_heapq.heappop" = some Builtin.«_heapq.heappop» := entryFor_of_fast (by kernel_rfl)
theorem args_pop (a : Value) : argsOk "_heapq.heappop" ⟨[a], []⟩ := by unfold argsOk; kernel_rfl
theorem plain_sift : plainId "_heapq.heapify.sift" = true := by decide +kernel
theorem entry_sift : entryFor table "_heapq.heapify.sift" = some Builtin.«_heapq.heapify.sift» := entryFor_of_fast (by kernel_rfl)
section
variable {prog : Program} {w : World} {A : Around} {E : Value → Shared → Prop} {s : Shared}
theorem sub_list_list : isSubtype (.type "list") (.type "list") = pure true := by kernel_rfl
theorem push_code {l : Addr} {xs : Array Value} {n : Nat} {x : Value} {R : Fin → Shared → Prop} (hl : s.heap.get? l = some (seqObj "list" xs n)) (hz : xs.size < sizeLine)
    (h : ∀ h' e, h'.get? l = some (seqObj "list" (xs.push x) e) → Heap.SameBut l s.heap h' → R (.again (.builtin "_heapq.heapify.sift" ⟨[.ref l, .bool false, .bool false, rawInt (xs.size : Nat), rawInt (0 : Nat), .none, rawInt (-1)], []⟩)) { s with heap := h' }) :
    wpAny (model prog w) A (Builtin.«_heapq.heappush» ⟨[.ref l, x], []⟩) R E s := by
  have hsub := sub_list_list
  unfold Builtin.«_heapq.heappush»
  wp_walk
  have hp : (Obj.mapSeq (fun x_1 => x_1.push x) (seqObj "list" xs n)).data.pastItsLine = none := by
    show Data.pastItsLine (.seq (xs.push x) _) = none
    exact pastItsLine_seq (by rw [Array.size_push]; omega)
  rw [hp]
  refine wpAny_pure ?_
  have h1 : ∃ e, (s.heap.update l (Obj.mapSeq fun x_1 => x_1.push x)).get? l = some (seqObj "list" (xs.push x) e) := ⟨_, get?_update_seq hl _⟩
  have h2 : Heap.SameBut l s.heap (s.heap.update l (Obj.mapSeq fun x_1 => x_1.push x)) := Heap.SameBut.update ..
  generalize s.heap.update l (Obj.mapSeq fun x_1 => x_1.push x) = h3 at h1 h2
  obtain ⟨e, h1⟩ := h1
  have h4 := h h3 e h1 h2
  wp_walk
  have e0 : (xs.push x).size - 1 = xs.size := by simp
  rw [e0]
  exact h4
theorem rc_lt {a b : Int} {t u : Tok} {Q : Value → Shared → Prop} (h : Q (.bool (decide (a < b))) s) : wpAny (model prog w) A (richCompare .Lt (.int a t) (.int b u)) Q E s := PyProof.Rows.lt_int h
abbrev SC (l : Addr) (down : Bool) (i : Nat) (res : Value) : Code := .builtin "_heapq.heapify.sift" ⟨[.ref l, .bool false, .bool down, rawInt (i : Nat), rawInt (0 : Nat), res, rawInt (-1)], []⟩
abbrev sw (xs : Array Value) (i j : Nat) (x y : Value) : Array Value := (xs.setIfInBounds i y).setIfInBounds j x
theorem swap_at {l : Addr} {xs : Array Value} {n : Nat} {i j : Nat} {x y : Value} (hl : s.heap.get? l = some (seqObj "list" xs n)) : ∃ e, (s.heap.update l (Obj.mapSeq fun xs => (xs.setIfInBounds i y).setIfInBounds j x)).get? l = some (seqObj "list" (sw xs i j x y) e) := ⟨_, get?_update_seq hl _⟩
theorem past_sw {xs : Array Value} {n i j : Nat} {x y : Value} (hz : xs.size ≤ sizeLine) : (Obj.mapSeq (fun xs => (xs.setIfInBounds i y).setIfInBounds j x) (seqObj "list" xs n)).data.pastItsLine = none := by
  show Data.pastItsLine (.seq _ _) = none
  exact pastItsLine_seq (by simp; omega)
theorem up_code {l : Addr} {xs : Array Value} {n : Nat} {i : Nat} {res : Value} {x p : Int} {t u : Tok} {R : Fin → Shared → Prop} (hl : s.heap.get? l = some (seqObj "list" xs n)) (hi : 0 < i)
    (hx : xs[i]? = some (.int x t)) (hp : xs[(i - 1) / 2]? = some (.int p u)) (hz : xs.size ≤ sizeLine)
    (h1 : x < p → ∀ h' e, h'.get? l = some (seqObj "list" (sw xs ((i - 1) / 2) i (.int p u) (.int x t)) e) → Heap.SameBut l s.heap h' → R (.again (SC l false ((i - 1) / 2) res)) { s with heap := h' })
    (h2 : ¬ x < p → R (.done (.ret res)) s) :
    wpAny (model prog w) A (Builtin.«_heapq.heapify.sift» ⟨[.ref l, .bool false, .bool false, rawInt (i : Nat), rawInt (0 : Nat), res, rawInt (-1)], []⟩) R E s := by
  unfold Builtin.«_heapq.heapify.sift»
  wp_walk
  simp only [Int.toNat_natCast, hx, hp]
  refine wpAny_pure ?_
  wp_walk
  simp only [hp]
  refine wpAny_pure ?_
  simp only [Bool.false_eq_true, if_false]
  wp_walk using rc_lt
  by_cases c : x < p
  · rw [if_pos (by simpa using c)]
    wp_walk
    simp only [hp, hx]
    refine wpAny_pure ?_
    wp_walk
    simp only [hp, hx]
    refine wpAny_pure ?_
    wp_walk
    rw [past_sw hz]
    refine wpAny_pure ?_
    wp_walk
    obtain ⟨e, he⟩ := swap_at (i := (i - 1) / 2) (j := i) (x := .int p u) (y := .int x t) hl
    exact h1 c _ e he (Heap.SameBut.update ..)
  · rw [if_neg (by simpa using c)]
    wp_walk
    exact h2 c
theorem top_code {l : Addr} {xs : Array Value} {n : Nat} {res : Value} {R : Fin → Shared → Prop} (hl : s.heap.get? l = some (seqObj "list" xs n))
    (h2 : R (.done (.ret res)) s) :
    wpAny (model prog w) A (Builtin.«_heapq.heapify.sift» ⟨[.ref l, .bool false, .bool false, rawInt (0 : Nat), rawInt (0 : Nat), res, rawInt (-1)], []⟩) R E s := by
  unfold Builtin.«_heapq.heapify.sift»
  wp_walk
  exact h2
theorem leaf_code {l : Addr} {xs : Array Value} {n : Nat} {i : Nat} {res : Value} {R : Fin → Shared → Prop} (hl : s.heap.get? l = some (seqObj "list" xs n)) (hi : ¬ i < xs.size / 2)
    (h2 : R (.again (SC l false i res)) s) :
    wpAny (model prog w) A (Builtin.«_heapq.heapify.sift» ⟨[.ref l, .bool false, .bool true, rawInt (i : Nat), rawInt (0 : Nat), res, rawInt (-1)], []⟩) R E s := by
  unfold Builtin.«_heapq.heapify.sift»
  wp_walk
  exact h2
theorem down_swap {l : Addr} {xs : Array Value} {n : Nat} {i c : Nat} {res : Value} {x y : Value} {R : Fin → Shared → Prop} {m : Sem Unit} (hl : s.heap.get? l = some (seqObj "list" xs n))
    (hm : m = (do updateSeq l fun xs => (xs.setIfInBounds c x).setIfInBounds i y)) (hz : xs.size ≤ sizeLine)
    (h1 : ∀ h' e, h'.get? l = some (seqObj "list" (sw xs c i y x) e) → Heap.SameBut l s.heap h' → R (.again (SC l true c res)) { s with heap := h' }) :
    wpAny (model prog w) A (do m; again (SC l true c res)) R E s := by
  subst hm
  wp_walk
  rw [past_sw hz]
  refine wpAny_pure ?_
  wp_walk
  obtain ⟨e, he⟩ := swap_at (i := c) (j := i) (x := y) (y := x) hl
  exact h1 _ e he (Heap.SameBut.update ..)
theorem down_code {l : Addr} {xs : Array Value} {n : Nat} {i c : Nat} {res : Value} {x y : Value} {a b : Int} {t u : Tok} {R : Fin → Shared → Prop} (hl : s.heap.get? l = some (seqObj "list" xs n)) (hi : i < xs.size / 2)
    (hx : xs[i]? = some x) (hy : xs[c]? = some y) (ha : xs[2 * i + 1]? = some (.int a t)) (hb : 2 * i + 2 < xs.size → xs[2 * i + 2]? = some (.int b u)) (hz : xs.size ≤ sizeLine)
    (hc : c = if 2 * i + 2 < xs.size ∧ ¬ a < b then 2 * i + 2 else 2 * i + 1)
    (h1 : ∀ h' e, h'.get? l = some (seqObj "list" (sw xs c i y x) e) → Heap.SameBut l s.heap h' → R (.again (SC l true c res)) { s with heap := h' }) :
    wpAny (model prog w) A (Builtin.«_heapq.heapify.sift» ⟨[.ref l, .bool false, .bool true, rawInt (i : Nat), rawInt (0 : Nat), res, rawInt (-1)], []⟩) R E s := by
  unfold Builtin.«_heapq.heapify.sift»
  wp_walk
  simp only [Int.toNat_natCast]
  by_cases h2 : 2 * i + 2 < xs.size
  · rw [if_pos (show 2 * i + 1 + 1 < xs.size from h2)]
    have hb' : xs[2 * i + 1 + 1]? = some (.int b u) := hb h2
    wp_walk
    simp only [ha]
    refine wpAny_pure ?_
    wp_walk
    simp only [hb']
    refine wpAny_pure ?_
    simp only [Bool.false_eq_true, if_false]
    wp_walk using rc_lt
    by_cases hab : a < b
    · have hc' : c = 2 * i + 1 := by rw [hc, if_neg (fun z => z.2 hab)]
      subst hc'
      rw [if_neg (by simpa using hab)]
      wp_walk
      simp only [hx, hy]
      refine wpAny_pure ?_
      wp_walk
      simp only [hx, hy]
      refine wpAny_pure ?_
      wp_walk
      rw [past_sw hz]
      refine wpAny_pure ?_
      wp_walk
      obtain ⟨e, he⟩ := swap_at (i := 2 * i + 1) (j := i) (x := y) (y := x) hl
      exact h1 _ e he (Heap.SameBut.update ..)
    · have hc' : c = 2 * i + 2 := by rw [hc, if_pos ⟨h2, hab⟩]
      subst hc'
      rw [if_pos (by simpa using hab)]
      have hy' : xs[2 * i + 1 + 1]? = some y := hy
      wp_walk
      simp only [hx, hy']
      refine wpAny_pure ?_
      wp_walk
      simp only [hx, hy']
      refine wpAny_pure ?_
      wp_walk
      rw [past_sw hz]
      refine wpAny_pure ?_
      wp_walk
      obtain ⟨e, he⟩ := swap_at (i := 2 * i + 2) (j := i) (x := y) (y := x) hl
      exact h1 _ e he (Heap.SameBut.update ..)
  · rw [if_neg (show ¬ 2 * i + 1 + 1 < xs.size from h2)]
    have hc' : c = 2 * i + 1 := by rw [hc, if_neg (fun z => h2 z.1)]
    subst hc'
    wp_walk
    simp only [hx, hy]
    refine wpAny_pure ?_
    wp_walk
    simp only [hx, hy]
    refine wpAny_pure ?_
    wp_walk
    rw [past_sw hz]
    refine wpAny_pure ?_
    wp_walk
    obtain ⟨e, he⟩ := swap_at (i := 2 * i + 1) (j := i) (x := y) (y := x) hl
    exact h1 _ e he (Heap.SameBut.update ..)
theorem pop_one {l : Addr} {n : Nat} {x : Value} {R : Fin → Shared → Prop} (hl : s.heap.get? l = some (seqObj "list" #[x] n))
    (h : ∀ h' e, h'.get? l = some (seqObj "list" #[] e) → Heap.SameBut l s.heap h' → R (.done (.ret x)) { s with heap := h' }) :
    wpAny (model prog w) A (Builtin.«_heapq.heappop» ⟨[.ref l], []⟩) R E s := by
  have hsub := sub_list_list
  unfold Builtin.«_heapq.heappop»
  wp_walk
  exact h _ _ (get?_update_seq hl _) (Heap.SameBut.update ..)
theorem pop_code {l : Addr} {xs : Array Value} {n : Nat} {x y : Value} {R : Fin → Shared → Prop} (hl : s.heap.get? l = some (seqObj "list" (xs.push y) n)) (hx : xs[0]? = some x) (hz : xs.size ≤ sizeLine)
    (h : ∀ h' e, h'.get? l = some (seqObj "list" (xs.setIfInBounds 0 y) e) → Heap.SameBut l s.heap h' → R (.again (SC l true 0 x)) { s with heap := h' }) :
    wpAny (model prog w) A (Builtin.«_heapq.heappop» ⟨[.ref l], []⟩) R E s := by
  have hsub := sub_list_list
  unfold Builtin.«_heapq.heappop»
  wp_walk
  have e1 : (xs.push y).back? = some y := by simp
  have h0 : 0 < xs.size := by
    rcases Nat.lt_or_ge 0 xs.size with z | z
    · exact z
    · rw [Array.getElem?_eq_none z] at hx; cases hx
  have e2 : ((xs.push y).size == 1) = false := by
    rw [Array.size_push]
    exact beq_eq_false_iff_ne.mpr (by omega)
  have e3 : (xs.push y)[0]? = some x := by
    rw [Array.getElem?_push_lt h0]
    rw [Array.getElem?_eq_getElem h0] at hx
    exact hx
  simp only [e1, e2, e3]
  wp_walk
  have hp : (Obj.mapSeq (fun x => x.pop) (seqObj "list" (xs.push y) n)).data.pastItsLine = none := by
    show Data.pastItsLine (.seq _ _) = none
    exact pastItsLine_seq (by simp; omega)
  rw [hp]
  refine wpAny_pure ?_
  have h1 : ∃ e, (s.heap.update l (Obj.mapSeq fun x => x.pop)).get? l = some (seqObj "list" xs e) := ⟨_, by rw [get?_update_seq hl _, Array.pop_push]⟩
  have h2 : Heap.SameBut l s.heap (s.heap.update l (Obj.mapSeq fun x => x.pop)) := Heap.SameBut.update ..
  generalize s.heap.update l (Obj.mapSeq fun x => x.pop) = h3 at h1 h2
  obtain ⟨e, h1⟩ := h1
  simp only [Bool.false_eq_true, if_false]
  wp_walk
  simp only [e3]
  refine wpAny_pure ?_
  wp_walk
  have hp2 : (Obj.mapSeq (fun x => x.setIfInBounds 0 y) (seqObj "list" xs e)).data.pastItsLine = none := by
    show Data.pastItsLine (.seq _ _) = none
    exact pastItsLine_seq (by simp; omega)
  rw [hp2]
  refine wpAny_pure ?_
  wp_walk
  exact h _ _ (get?_update_seq h1 _) (h2.trans (Heap.SameBut.update ..))
/-! ### the whole -/
def Ints (xs : Array Value) (f : Nat → Int) : Prop := ∀ i, i < xs.size → ∃ t, xs[i]? = some (.int (f i) t)
def HeapF (n : Nat) (f : Nat → Int) : Prop := ∀ j, 0 < j → j < n → f ((j - 1) / 2) ≤ f j
def HeapA (xs : Array Value) : Prop := ∃ f, Ints xs f ∧ HeapF xs.size f
def UpOk (n : Nat) (f : Nat → Int) (i : Nat) : Prop := (∀ j, 0 < j → j < n → j ≠ i → f ((j - 1) / 2) ≤ f j) ∧ (0 < i → ∀ c, 0 < c → c < n → (c - 1) / 2 = i → f ((i - 1) / 2) ≤ f c)
def DownOk (n : Nat) (f : Nat → Int) (i : Nat) : Prop := (∀ j, 0 < j → j < n → j ≠ i → (j - 1) / 2 ≠ i → f ((j - 1) / 2) ≤ f j) ∧ (0 < i → ∀ c, 0 < c → c < n → (c - 1) / 2 = i → f ((i - 1) / 2) ≤ f c)
def swF (f : Nat → Int) (i j : Nat) : Nat → Int := fun k => if k = i then f j else if k = j then f i else f k
theorem sw_size {xs : Array Value} {i j : Nat} {x y : Value} : (sw xs i j x y).size = xs.size := by simp [sw]
theorem sw_ints {xs : Array Value} {f : Nat → Int} {i j : Nat} {x y : Value} (h : Ints xs f) (hx : xs[i]? = some x) (hy : xs[j]? = some y) : Ints (sw xs i j x y) (swF f i j) := by
  intro k hk
  rw [sw_size] at hk
  have hi : i < xs.size := by
    rcases Nat.lt_or_ge i xs.size with z | z
    · exact z
    · rw [Array.getElem?_eq_none z] at hx; cases hx
  have hj : j < xs.size := by
    rcases Nat.lt_or_ge j xs.size with z | z
    · exact z
    · rw [Array.getElem?_eq_none z] at hy; cases hy
  obtain ⟨ti, ei⟩ := h i hi
  obtain ⟨tj, ej⟩ := h j hj
  obtain ⟨tk, ek⟩ := h k hk
  rw [hx] at ei
  rw [hy] at ej
  cases ei
  cases ej
  unfold sw swF
  rw [Array.getElem?_setIfInBounds, Array.getElem?_setIfInBounds]
  by_cases e1 : j = k
  · subst e1
    rw [if_pos rfl]
    by_cases e2 : j = i
    · subst e2
      refine ⟨ti, ?_⟩
      simp [hj]
    · refine ⟨ti, ?_⟩
      simp [hj, e2]
  · rw [if_neg e1]
    by_cases e2 : i = k
    · subst e2
      refine ⟨tj, ?_⟩
      simp [hi]
    · refine ⟨tk, ?_⟩
      rw [if_neg e2, if_neg (fun z => e2 z.symm), if_neg (fun z => e1 z.symm), ek]
theorem sw_perm {xs : Array Value} {i j : Nat} {x y : Value} (hx : xs[i]? = some x) (hy : xs[j]? = some y) : (sw xs i j x y).toList.Perm xs.toList := by
  have hi : i < xs.size := by
    rcases Nat.lt_or_ge i xs.size with z | z
    · exact z
    · rw [Array.getElem?_eq_none z] at hx; cases hx
  have hj : j < xs.size := by
    rcases Nat.lt_or_ge j xs.size with z | z
    · exact z
    · rw [Array.getElem?_eq_none z] at hy; cases hy
  have e : sw xs i j x y = xs.swap i j := by
    rw [Array.getElem?_eq_getElem hi] at hx
    rw [Array.getElem?_eq_getElem hj] at hy
    cases hx
    cases hy
    unfold sw
    rw [Array.swap_def]
    simp [Array.setIfInBounds, hi, hj]
  rw [e]
  exact Array.perm_iff_toList_perm.mp (Array.swap_perm hi hj)
theorem ints_lt {xs : Array Value} {i : Nat} {v : Value} (h : xs[i]? = some v) : i < xs.size := by
  rcases Nat.lt_or_ge i xs.size with z | z
  · exact z
  · rw [Array.getElem?_eq_none z] at h; cases h
theorem up_swap {n i : Nat} {f : Nat → Int} (hi : 0 < i) (hn : i < n) (h : UpOk n f i) (hlt : f i < f ((i - 1) / 2)) : UpOk n (swF f ((i - 1) / 2) i) ((i - 1) / 2) := by
  have hp : (i - 1) / 2 < i := by omega
  refine ⟨fun j h0 hj hne => ?_, fun h0 c hc0 hc hce => ?_⟩
  · unfold swF
    by_cases e1 : j = i
    · subst e1
      rw [if_pos rfl, if_neg (by omega), if_pos rfl]
      omega
    · rw [if_neg hne, if_neg e1]
      by_cases e2 : (j - 1) / 2 = (i - 1) / 2
      · rw [if_pos e2]
        have := h.1 j h0 hj e1
        rw [e2] at this
        omega
      · rw [if_neg e2]
        by_cases e3 : (j - 1) / 2 = i
        · rw [if_pos e3]
          exact h.2 hi j h0 hj e3
        · rw [if_neg e3]
          exact h.1 j h0 hj e1
  · unfold swF
    have hpp : ((i - 1) / 2 - 1) / 2 < (i - 1) / 2 := by omega
    rw [if_neg (show ¬ ((i - 1) / 2 - 1) / 2 = (i - 1) / 2 by omega), if_neg (show ¬ ((i - 1) / 2 - 1) / 2 = i by omega)]
    have a1 := h.1 ((i - 1) / 2) h0 (by omega) (by omega)
    by_cases e1 : c = i
    · rw [if_neg (by omega), if_pos e1]
      exact a1
    · rw [if_neg (by omega), if_neg e1]
      have a2 := h.1 c hc0 hc e1
      rw [hce] at a2
      omega
theorem up_done {n i : Nat} {f : Nat → Int} (h : UpOk n f i) (hge : 0 < i → f ((i - 1) / 2) ≤ f i) : HeapF n f := fun j h0 hj => by
  by_cases e : j = i
  · subst e
    exact hge h0
  · exact h.1 j h0 hj e
theorem up_run {l : Addr} {res : Value} {R : Result → Shared → Prop} : ∀ (i : Nat) {s : Shared} {xs : Array Value} {n : Nat} {f : Nat → Int}, s.heap.get? l = some (seqObj "list" xs n) → xs.size ≤ sizeLine → Ints xs f → (0 < i → i < xs.size) → UpOk xs.size f i →
    (∀ h' e ys, h'.get? l = some (seqObj "list" ys e) → Heap.SameBut l s.heap h' → ys.toList.Perm xs.toList → HeapA ys → R (.ok (.ret res)) { s with heap := h' }) →
    codeAny (model prog w) A (SC l false i res) R s := by
  intro i
  induction i using Nat.strongRecOn with
  | _ i ih =>
    intro s xs n f hl hz hI hn hU hR
    refine codeAny_builtin entry_sift ?_
    rw [Around.under_plainId plain_sift _]
    rcases Nat.eq_zero_or_pos i with e | h0
    · subst e
      refine top_code hl ?_
      exact hR s.heap n xs hl (Heap.SameBut.refl l s.heap) (List.Perm.refl _) ⟨f, hI, up_done hU fun z => absurd z (Nat.lt_irrefl 0)⟩
    · have hp : (i - 1) / 2 < i := by omega
      obtain ⟨t, hx⟩ := hI i (hn h0)
      obtain ⟨u, hy⟩ := hI ((i - 1) / 2) (Nat.lt_trans hp (hn h0))
      refine up_code hl h0 hx hy hz (fun hlt h' e he hs => ⟨plainId_quiet plain_sift _, ?_⟩) fun hge => ?_
      · refine ih ((i - 1) / 2) hp (s := { s with heap := h' }) he (by rw [sw_size]; exact hz) (sw_ints hI hy hx) (fun _ => by rw [sw_size]; exact Nat.lt_trans hp (hn h0)) (by rw [sw_size]; exact up_swap h0 (hn h0) hU hlt) fun h2 e2 ys he2 hs2 pm hh => ?_
        exact hR h2 e2 ys he2 (hs.trans hs2) (pm.trans (sw_perm hy hx)) hh
      · exact hR s.heap n xs hl (Heap.SameBut.refl l s.heap) (List.Perm.refl _) ⟨f, hI, up_done hU fun _ => by omega⟩
theorem down_leaf {n i : Nat} {f : Nat → Int} (h : DownOk n f i) (hi : ¬ i < n / 2) : UpOk n f i :=
  ⟨fun j h0 hj hne => h.1 j h0 hj hne (by omega), h.2⟩
theorem down_swF {n i c : Nat} {f : Nat → Int} (h : DownOk n f i) (hi : i < n / 2) (hc : c = if 2 * i + 2 < n ∧ ¬ f (2 * i + 1) < f (2 * i + 2) then 2 * i + 2 else 2 * i + 1) : DownOk n (swF f c i) c := by
  have hci : (c - 1) / 2 = i ∧ i < c ∧ c < n ∧ (∀ d, 0 < d → d < n → (d - 1) / 2 = i → f c ≤ f d) := by
    split at hc
    · rename_i q
      subst hc
      refine ⟨by omega, by omega, q.1, fun d h0 hd hde => ?_⟩
      have : d = 2 * i + 1 ∨ d = 2 * i + 2 := by omega
      rcases this with e | e
      · rw [e]; omega
      · rw [e]; omega
    · rename_i q
      subst hc
      refine ⟨by omega, by omega, by omega, fun d h0 hd hde => ?_⟩
      have : d = 2 * i + 1 ∨ d = 2 * i + 2 := by omega
      rcases this with e | e
      · rw [e]; omega
      · rw [e]
        have : f (2 * i + 1) < f (2 * i + 2) := by
          rcases Int.lt_or_le (f (2 * i + 1)) (f (2 * i + 2)) with z | z
          · exact z
          · exact absurd ⟨by omega, by omega⟩ q
        omega
  obtain ⟨c1, c2, c3, c4⟩ := hci
  refine ⟨fun j h0 hj hne hpe => ?_, fun hc0 d hd0 hd hde => ?_⟩
  · unfold swF
    rw [if_neg hpe, if_neg hne]
    by_cases e1 : j = i
    · subst e1
      rw [if_pos rfl, if_neg (by omega)]
      exact h.2 h0 c (by omega) c3 c1
    · rw [if_neg e1]
      by_cases e2 : (j - 1) / 2 = i
      · rw [if_pos e2]
        exact c4 j h0 hj e2
      · rw [if_neg e2]
        exact h.1 j h0 hj e1 e2
  · unfold swF
    rw [c1, if_neg (show ¬ i = c by omega), if_pos rfl, if_neg (by omega), if_neg (by omega)]
    have := h.1 d hd0 hd (by omega) (by omega)
    rw [hde] at this
    exact this
theorem down_run {l : Addr} {res : Value} {R : Result → Shared → Prop} : ∀ (k i : Nat) {s : Shared} {xs : Array Value} {n : Nat} {f : Nat → Int}, xs.size - i ≤ k → s.heap.get? l = some (seqObj "list" xs n) → xs.size ≤ sizeLine → Ints xs f → i < xs.size → DownOk xs.size f i →
    (∀ h' e ys, h'.get? l = some (seqObj "list" ys e) → Heap.SameBut l s.heap h' → ys.toList.Perm xs.toList → HeapA ys → R (.ok (.ret res)) { s with heap := h' }) →
    codeAny (model prog w) A (SC l true i res) R s := by
  intro k
  induction k with
  | zero => intro i s xs n f hk hl hz hI hn; omega
  | succ k ih =>
    intro i s xs n f hk hl hz hI hn hD hR
    refine codeAny_builtin entry_sift ?_
    rw [Around.under_plainId plain_sift _]
    by_cases hi : i < xs.size / 2
    · obtain ⟨t, hx⟩ := hI i hn
      obtain ⟨ta, ha⟩ := hI (2 * i + 1) (by omega)
      have hb : ∃ tb : Tok, 2 * i + 2 < xs.size → xs[2 * i + 2]? = some (.int (f (2 * i + 2)) tb) := by
        by_cases q : 2 * i + 2 < xs.size
        · obtain ⟨tb, hb⟩ := hI _ q
          exact ⟨tb, fun _ => hb⟩
        · exact ⟨ta, fun z => absurd z q⟩
      obtain ⟨tb, hb⟩ := hb
      obtain ⟨c, hc⟩ : ∃ c, c = if 2 * i + 2 < xs.size ∧ ¬ f (2 * i + 1) < f (2 * i + 2) then 2 * i + 2 else 2 * i + 1 := ⟨_, rfl⟩
      have hcn : i < c ∧ c < xs.size := by
        split at hc
        · rename_i q; omega
        · omega
      obtain ⟨tc, hy⟩ := hI c hcn.2
      refine down_code hl hi hx hy ha hb hz hc fun h' e he hs => ⟨plainId_quiet plain_sift _, ?_⟩
      refine ih c (s := { s with heap := h' }) (by rw [sw_size]; omega) he (by rw [sw_size]; exact hz) (sw_ints hI hy hx) (by rw [sw_size]; exact hcn.2) (by rw [sw_size]; exact down_swF hD hi hc) fun h2 e2 ys he2 hs2 pm hh => ?_
      exact hR h2 e2 ys he2 (hs.trans hs2) (pm.trans (sw_perm hy hx)) hh
    · refine leaf_code hl hi ⟨plainId_quiet plain_sift _, ?_⟩
      exact up_run i hl hz hI (fun _ => hn) (down_leaf hD hi) hR
end
end HQ
namespace DV
open PySem PySem.Spec PyProof.Rows L2
/-! ### heappush, heappop of whole numbers -/
def HeapL (ns : List Int) : Prop := HQ.HeapF ns.length fun i => ns.getD i 0
theorem ints_at : ∀ {its : List Value} {ns : List Int}, IntsAre its ns → ∀ i, i < its.length → ∃ t, its[i]? = some (.int (ns.getD i 0) t)
  | _, _, .nil, i, h => by simp at h
  | _, _, .cons n t r, 0, h => ⟨t, rfl⟩
  | _, _, .cons n t r, i + 1, h => by
    obtain ⟨u, e⟩ := ints_at r i (by simpa using h)
    exact ⟨u, by simpa using e⟩
theorem ints_len : ∀ {its : List Value} {ns : List Int}, IntsAre its ns → its.length = ns.length
  | _, _, .nil => rfl
  | _, _, .cons n t r => by rw [List.length_cons, List.length_cons, ints_len r]
theorem ints_arr {its : List Value} {ns : List Int} (h : IntsAre its ns) : HQ.Ints its.toArray fun i => ns.getD i 0 := fun i hi => by
  obtain ⟨t, e⟩ := ints_at h i (by simpa using hi)
  exact ⟨t, by simpa using e⟩
theorem heapA_of {its : List Value} {ns : List Int} (h : IntsAre its ns) (k : HeapL ns) : HQ.HeapA its.toArray :=
  ⟨_, ints_arr h, by rw [List.size_toArray, ints_len h]; exact k⟩
theorem heapL_of {ys : Array Value} {ms : List Int} (h : IntsAre ys.toList ms) (k : HQ.HeapA ys) : HeapL ms := by
  obtain ⟨f, h1, h2⟩ := k
  have hl := ints_len h
  rw [Array.length_toList] at hl
  have e : ∀ j, j < ms.length → ms.getD j 0 = f j := fun j hj => by
    obtain ⟨t, e1⟩ := h1 j (by omega)
    obtain ⟨u, e2⟩ := ints_at h j (by rw [Array.length_toList]; omega)
    rw [Array.getElem?_toList, e1] at e2
    injection e2 with e2
    injection e2 with e2
    exact e2.symm
  intro j h0 hj
  show ms.getD ((j - 1) / 2) 0 ≤ ms.getD j 0
  rw [e j hj, e _ (by omega)]
  exact h2 j h0 (by omega)
theorem heap_min {n : Nat} {f : Nat → Int} (h : HQ.HeapF n f) : ∀ j, j < n → f 0 ≤ f j := by
  intro j
  induction j using Nat.strongRecOn with
  | _ j ih =>
    intro hj
    rcases Nat.eq_zero_or_pos j with e | h0
    · subst e; exact Int.le_refl _
    · exact Int.le_trans (ih ((j - 1) / 2) (by omega) (by omega)) (h j h0 hj)
section
variable {prog : Program} {w : World} {A : Around} {E : Value → Shared → Prop} {s : Shared}
theorem call_push {l : Addr} {xs : Array Value} {n : Nat} {x : Int} {t : Tok} {Q : Value → Shared → Prop} (hl : s.heap.get? l = some (seqObj "list" xs n)) (hz : xs.size < sizeLine) (hh : HQ.HeapA xs)
    (h : ∀ h' e ys, h'.get? l = some (seqObj "list" ys e) → Heap.SameBut l s.heap h' → ys.toList.Perm (xs.push (.int x t)).toList → HQ.HeapA ys → Q .none { s with heap := h' }) :
    wpAny (model prog w) A (call (.builtin "_heapq.heappush") [.ref l, .int x t]) Q E s := by
  refine call_function_tree HQ.kind_push HQ.plain_push HQ.entry_push (HQ.args_push _ _) (HQ.push_code hl hz fun h' e he hs => ⟨plainId_quiet HQ.plain_sift _, ?_⟩)
  obtain ⟨f, hI, hF⟩ := hh
  have hsz : (xs.push (.int x t)).size = xs.size + 1 := Array.size_push ..
  refine HQ.up_run xs.size (s := { s with heap := h' }) (f := fun k => if k = xs.size then x else f k) he (by omega) (fun k hk => ?_) (fun _ => by omega) ⟨fun j h0 hj hne => ?_, fun h0 c hc0 hc hce => by omega⟩ fun h2 e2 ys he2 hs2 pm hh => ?_
  · rw [hsz] at hk
    by_cases e : k = xs.size
    · subst e
      refine ⟨t, ?_⟩
      simp
    · obtain ⟨u, eu⟩ := hI k (by omega)
      refine ⟨u, ?_⟩
      show _ = some (Value.int (if k = xs.size then x else f k) u)
      rw [if_neg e, Array.getElem?_push_lt (by omega)]
      rw [Array.getElem?_eq_getElem (by omega)] at eu
      exact eu
  · show (if (j - 1) / 2 = xs.size then x else f ((j - 1) / 2)) ≤ (if j = xs.size then x else f j)
    rw [hsz] at hj
    rw [if_neg hne, if_neg (by omega)]
    exact hF j h0 (by omega)
  · exact h h2 e2 ys he2 (hs.trans hs2) pm hh
theorem call_pop {l : Addr} {xs : Array Value} {n : Nat} {Q : Value → Shared → Prop} (hl : s.heap.get? l = some (seqObj "list" xs n)) (h0 : 0 < xs.size) (hz : xs.size ≤ sizeLine) (hh : HQ.HeapA xs)
    (h : ∀ h' e ys v, xs[0]? = some v → h'.get? l = some (seqObj "list" ys e) → Heap.SameBut l s.heap h' → (v :: ys.toList).Perm xs.toList → HQ.HeapA ys → Q v { s with heap := h' }) :
    wpAny (model prog w) A (call (.builtin "_heapq.heappop") [.ref l]) Q E s := by
  obtain ⟨ys, y, rfl⟩ : ∃ ys y, xs = Array.push ys y := Array.eq_push_of_size_ne_zero (by omega)
  refine call_function_tree HQ.kind_pop HQ.plain_pop HQ.entry_pop (HQ.args_pop _) ?_
  obtain ⟨f, hI, hF⟩ := hh
  have hsz : (ys.push y).size = ys.size + 1 := Array.size_push ..
  rcases Nat.eq_zero_or_pos ys.size with e0 | hp
  · have e : ys = #[] := Array.eq_empty_of_size_eq_zero e0
    subst e
    refine HQ.pop_one hl fun h' e he hs => ?_
    exact h h' e #[] y rfl he hs (List.Perm.refl _) ⟨fun _ => 0, fun i hi => absurd hi (Nat.not_lt_zero _), fun j h0 hj => absurd hj (Nat.not_lt_zero _)⟩
  · obtain ⟨t, ex⟩ := hI 0 (by omega)
    have ex1 : ys[0]? = some (.int (f 0) t) := by
      rw [Array.getElem?_push_lt hp] at ex
      rw [Array.getElem?_eq_getElem hp]
      exact ex
    obtain ⟨ty, ey⟩ := hI ys.size (by omega)
    have ey1 : y = .int (f ys.size) ty := by
      rw [Array.getElem?_push_size] at ey
      injection ey
    refine HQ.pop_code hl ex1 (by omega) fun h' e he hs => ⟨plainId_quiet HQ.plain_sift _, ?_⟩
    have hss : (ys.setIfInBounds 0 y).size = ys.size := by simp
    refine HQ.down_run (ys.setIfInBounds 0 y).size 0 (s := { s with heap := h' }) (f := fun k => if k = 0 then f ys.size else f k) (by omega) he (by rw [hss]; omega) (fun k hk => ?_) (by rw [hss]; exact hp) ⟨fun j h0 hj hne hpe => ?_, fun z => absurd z (Nat.lt_irrefl 0)⟩ fun h2 e2 zs he2 hs2 pm hh => ?_
    · rw [hss] at hk
      by_cases e : k = 0
      · subst e
        refine ⟨ty, ?_⟩
        simp [hp, ey1]
      · obtain ⟨u, eu⟩ := hI k (by omega)
        refine ⟨u, ?_⟩
        show _ = some (Value.int (if k = 0 then f ys.size else f k) u)
        rw [if_neg e, Array.getElem?_setIfInBounds, if_neg (fun z => e z.symm)]
        rw [Array.getElem?_push_lt hk] at eu
        rw [Array.getElem?_eq_getElem hk]
        exact eu
    · show (if (j - 1) / 2 = 0 then f ys.size else f ((j - 1) / 2)) ≤ (if j = 0 then f ys.size else f j)
      rw [hss] at hj
      rw [if_neg hne, if_neg hpe]
      exact hF j h0 (by omega)
    · refine h h2 e2 zs (.int (f 0) t) ex he2 (hs.trans hs2) ?_ hh
      refine (List.Perm.cons _ pm).trans ?_
      have hl2 : ys.toList = .int (f 0) t :: ys.toList.tail := by
        cases q : ys.toList with
        | nil => exact absurd (show ys.size = 0 by rw [← Array.length_toList, q]; rfl) (by omega)
        | cons a as =>
          have : ys.toList[0]? = some (.int (f 0) t) := by rw [Array.getElem?_toList]; exact ex1
          rw [q] at this
          injection this with this
          rw [this]; rfl
      rw [Array.toList_setIfInBounds, Array.toList_push, hl2]
      show (Value.int (f 0) t :: (y :: ys.toList.tail)).Perm (Value.int (f 0) t :: (ys.toList.tail ++ [y]))
      exact List.Perm.cons _ (List.perm_append_singleton y _).symm
end
section
variable {X : Cx}
def rPush : List V → Hp → VK → Prop := fun vs H Q => ∃ (a : Addr) (ns : List Int) (x : Int), vs = [V.ref a, .int x] ∧ H a = some (.lst (ns.map V.int)) ∧ ns.length < sizeLine ∧ HeapL ns ∧
  ∀ ms, ms.Perm (x :: ns) → HeapL ms → Q .non (upd H a (.lst (ms.map V.int)))
def rPopH : List V → Hp → VK → Prop := fun vs H Q => ∃ (a : Addr) (ns : List Int), vs = [V.ref a] ∧ H a = some (.lst (ns.map V.int)) ∧ 0 < ns.length ∧ HeapL ns ∧
  ∀ v ms, (v :: ms).Perm ns → (∀ y ∈ ns, v ≤ y) → HeapL ms → Q (.int v) (upd H a (.lst (ms.map V.int)))
theorem perm_iv {ys its : List Value} {ns : List Int} (h : IntsAre its ns) (p : ys.Perm its) : IntsAre ys (ys.map SrtO.iv) ∧ (ys.map SrtO.iv).Perm ns := by
  refine ⟨SrtO.ints_iv fun v hv => SrtO.ints_mem h v (p.mem_iff.mp hv), ?_⟩
  have := p.map SrtO.iv
  rw [SrtO.iv_ints h] at this
  exact this
theorem ints_snoc {its : List Value} {ns : List Int} {x : Int} {t : Tok} : IntsAre its ns → IntsAre (its ++ [.int x t]) (ns ++ [x])
  | .nil => .cons x t .nil
  | .cons n u r => .cons n u (ints_snoc r)
theorem cr_push : CallR X (.builtin "_heapq.heappush") rPush := by
  intro pins s σ H vs us Q I r h
  obtain ⟨a, ns, x, rfl, ha, hz, hh, q⟩ := h
  obtain ⟨_, _, rfl, ra, rx⟩ := vals2 r
  cases ra
  obtain ⟨t, rfl⟩ := rx
  obtain ⟨_, its, n, rv, hl, e⟩ := I.lstM ha
  have hi := rv.ints
  refine call_push e (by rw [List.size_toArray, ints_len hi]; exact hz) (heapA_of hi hh) fun h' e' ys he hs pm hA => ?_
  have pm2 : ys.toList.Perm (its ++ [.int x t]) := by
    have : (its.toArray.push (.int x t)).toList = its ++ [.int x t] := by simp
    rw [← this]; exact pm
  obtain ⟨k1, k2⟩ := perm_iv (ints_snoc (x := x) (t := t) hi) pm2
  have k3 : (ys.toList.map SrtO.iv).Perm (x :: ns) := k2.trans (List.perm_append_singleton x ns)
  have hlen : ((ys.toList.map SrtO.iv).map V.int).length ≤ sizeLine := by
    rw [List.length_map, k3.length_eq, List.length_cons]
    exact hz
  exact ⟨.non, upd H a (.lst ((ys.toList.map SrtO.iv).map V.int)), I.write (e := a) (t' := s.toks) (by rw [ha]; trivial) (.inl rfl) (fun b u hb hu => (hs.2 b hb).trans hu) ⟨_, he⟩ ⟨hlen, ys.toList, e', vals_of_ints k1, he⟩, rfl, q _ k3 (heapL_of k1 hA)⟩
theorem cr_popH : CallR X (.builtin "_heapq.heappop") rPopH := by
  intro pins s σ H vs us Q I r h
  obtain ⟨a, ns, rfl, ha, h0, hh, q⟩ := h
  rw [Vals.ref1 r]
  obtain ⟨hz, its, n, rv, hl, e⟩ := I.lstM ha
  have hi := rv.ints
  have hlen0 := ints_len hi
  refine call_pop e (by rw [List.size_toArray]; omega) (by rw [List.size_toArray, ← hl]; exact hz) (heapA_of hi hh) fun h' e' ys v hv he hs pm hA => ?_
  have pm2 : (v :: ys.toList).Perm its := by simpa using pm
  obtain ⟨k1, k2⟩ := perm_iv hi pm2
  obtain ⟨i, t, rfl⟩ := SrtO.ints_mem hi v (pm2.mem_iff.mp (List.mem_cons_self ..))
  rw [List.map_cons] at k1 k2
  have k0 : IntsAre ys.toList (ys.toList.map SrtO.iv) := by
    cases k1 with
    | cons _ _ r => exact r
  have k2 : (i :: ys.toList.map SrtO.iv).Perm ns := k2
  have hlen : ((ys.toList.map SrtO.iv).map V.int).length ≤ sizeLine := by
    have := k2.length_eq
    rw [List.length_cons] at this
    rw [List.length_map] at hz
    rw [List.length_map]
    omega
  refine ⟨.int i, upd H a (.lst ((ys.toList.map SrtO.iv).map V.int)), I.write (e := a) (t' := s.toks) (by rw [ha]; trivial) (.inl rfl) (fun b u hb hu => (hs.2 b hb).trans hu) ⟨_, he⟩ ⟨hlen, ys.toList, e', vals_of_ints k0, he⟩, ⟨t, rfl⟩, q _ _ k2 (fun y hy => ?_) (heapL_of k0 hA)⟩
  obtain ⟨t0, e0⟩ := ints_at hi 0 (by omega)
  have hv : its[0]? = some (.int i t) := by simpa using hv
  rw [e0] at hv
  injection hv with hv
  injection hv with hv
  have hv : ns.getD 0 0 = i := hv
  obtain ⟨j, hj, ej⟩ := List.mem_iff_getElem.mp hy
  have := heap_min hh j hj
  have e9 : ns.getD j 0 = y := by rw [List.getD_eq_getElem?_getD, List.getElem?_eq_getElem hj, ej]; rfl
  rw [← e9, ← hv]
  exact this
end
end DV
namespace DV
open PySem PySem.Spec PyProof.Rows L2
section
variable {X : Cx} {F : Fm} {e e2 : Expr} {es : List Expr} {t : TA} {d : TDA} {pos p : Pos} {te : TE} {de : TDE}
/-! ### heappush, heappop of an own list -/
def dHPush (t : TDA) : TDE := fun ρ Q => t ρ fun rs ρ1 => match rs with
  | [.o i, s] => onOwn ρ1 i fun xs => onInt ρ1 s fun x => ∃ ns, asInts xs = some ns ∧ Few (ns.length + 1) ∧ HeapL ns ∧ ∀ ms, ms.Perm (x :: ns) → HeapL ms → Q (.d .none) (ρ1.set i (some (.own (ms.map .int))))
  | _ => False
def dHPop (t : TDA) : TDE := fun ρ Q => t ρ fun rs ρ1 => match rs with
  | [.o i] => onOwn ρ1 i fun xs => ∃ ns, asInts xs = some ns ∧ 0 < ns.length ∧ HeapL ns ∧ ∀ v ms, (v :: ms).Perm ns → (∀ y ∈ ns, v ≤ y) → HeapL ms → Q (.d (.int v)) (ρ1.set i (some (.own (ms.map .int))))
  | _ => False
theorem pd_heappush {x : Str} (hg : Gl X x) (hm : X.mg x = some (.builtin "_heapq.heappush")) (ha : PDA X F (e :: es) t d) (hdb : (x == ("__debug__" : Str)) = false := by decide)
    (he : starEach (e :: es) X.env = (false, eval e X.env) :: starEach es X.env := by rfl) (hpl : (backTo pos (starEach es X.env)).any (·.1) = false := by rfl) : PD X F (.Call (.Name x p) (e :: es) [] pos) (tCB rPush t) (dHPush d) := by
  refine ⟨pe_callBfun cr_push hg hm ha.pa hdb he hpl, fun pins ρ σ H Q O h => ?_, fun ρ Q Q' hq h => ?_⟩
  · refine ha.da.run pins ρ σ H _ O (ha.da.mono _ _ _ (fun rs ρ1 h1 vs H1 O1 R1 => ?_) h)
    split at h1
    · rename_i i s
      simp only [ROks] at R1
      obtain ⟨v, _, rfl, r1, w, _, rfl, r2, rfl⟩ := R1
      obtain ⟨xs, e1, h2⟩ := onOwn_of h1
      obtain ⟨x, e2, ns, e3, hf, hh, q⟩ := onInt_of h2
      obtain ⟨a, us, g1, g2, g3, g4⟩ := O1.ownGet e1
      have r1 := r1.1
      rw [g1] at r1
      cases r1
      cases dp_int (val_dp O1 r2 e2)
      cases asInts_dp g3.dp e3
      exact ⟨a, ns, x, rfl, g2, hf, hh, fun ms pm hm => q ms pm hm _ _ (O1.setOwn g4 (ImAll.ints ms)) (.sc .none)⟩
    · exact h1.elim
  · refine ha.da.mono _ _ _ (fun rs ρ1 h1 => ?_) h
    revert h1
    split
    · exact fun h1 => onOwn_mono h1 fun xs h2 => onInt_mono h2 fun x ⟨ns, a, b, c, q⟩ => ⟨ns, a, b, c, fun ms pm hm => hq _ _ (q ms pm hm)⟩
    · exact fun h1 => h1
theorem pd_heappop {x : Str} (hg : Gl X x) (hm : X.mg x = some (.builtin "_heapq.heappop")) (ha : PDA X F (e :: es) t d) (hdb : (x == ("__debug__" : Str)) = false := by decide)
    (he : starEach (e :: es) X.env = (false, eval e X.env) :: starEach es X.env := by rfl) (hpl : (backTo pos (starEach es X.env)).any (·.1) = false := by rfl) : PD X F (.Call (.Name x p) (e :: es) [] pos) (tCB rPopH t) (dHPop d) := by
  refine ⟨pe_callBfun cr_popH hg hm ha.pa hdb he hpl, fun pins ρ σ H Q O h => ?_, fun ρ Q Q' hq h => ?_⟩
  · refine ha.da.run pins ρ σ H _ O (ha.da.mono _ _ _ (fun rs ρ1 h1 vs H1 O1 R1 => ?_) h)
    split at h1
    · rename_i i
      simp only [ROks] at R1
      obtain ⟨v, _, rfl, r1, rfl⟩ := R1
      obtain ⟨xs, e1, ns, e3, h0, hh, q⟩ := onOwn_of h1
      obtain ⟨a, us, g1, g2, g3, g4⟩ := O1.ownGet e1
      have r1 := r1.1
      rw [g1] at r1
      cases r1
      cases asInts_dp g3.dp e3
      exact ⟨a, ns, rfl, g2, h0, hh, fun v ms pm hv hm => q v ms pm hv hm _ _ (O1.setOwn g4 (ImAll.ints ms)) (.sc .int)⟩
    · exact h1.elim
  · refine ha.da.mono _ _ _ (fun rs ρ1 h1 => ?_) h
    revert h1
    split
    · exact fun h1 => onOwn_mono h1 fun xs ⟨ns, a, b, c, q⟩ => ⟨ns, a, b, c, fun v ms pm hv hm => hq _ _ (q v ms pm hv hm)⟩
    · exact fun h1 => h1
end
end DV
namespace DV
open PySem PySem.Spec PyProof.Rows L2
section
variable {X : Cx} {F : Fm} {e e2 : Expr} {es : List Expr} {t : TA} {d : TDA} {pos p vpos apos cpos : Pos} {te : TE} {de : TDE} {i : Nat} {x : Str}
/-! ### pop, extend of an own list -/
def dPopL (i : Nat) : TDE := fun ρ Q => onOwn ρ i fun xs => match xs[xs.length - 1]? with
  | some y => Q (.d y) (ρ.set i (some (.own xs.dropLast)))
  | _ => False
theorem ImAll.dropLast {K : PySem.W.Frag} {N : Addr → Prop} {H : Hp} {xs : List PyData} {vs : List V} (h : ImAll K N H xs vs) : ImAll K N H xs.dropLast vs.dropLast := by
  rw [List.dropLast_eq_take, List.dropLast_eq_take, h.length]
  exact h.take _
theorem own_go {pins : List Pin} {ρ : Rho} {σ : L2.St} {H : Hp} {a : Addr} {xs : List PyData} {o : HO} (h : OwnAt ρ σ i a) : Go (Av F pins ρ σ) (Av F pins (ρ.set i (some (.own xs))) σ) H (upd H a o) := by
  have oe := setOwn_iff (xs := xs) h
  have ae : Av F pins (ρ.set i (some (.own xs))) σ = Av F pins ρ σ := by
    funext b
    unfold Av
    simp only [oe]
  rw [ae]
  exact ⟨fun b o n e => by
    have hb : b ≠ a := fun z => n (by rw [z]; exact .inr (.inl ⟨i, h⟩))
    rw [upd_ne hb]; exact e, fun b z => .inl z⟩
theorem pd_pop (hK : X.K = F.K := by rfl) (hN : X.N[i]? = some x := by rfl) (hv : Vis X.env.scope x := by first | exact Or.inl rfl | exact Or.inr (Or.inl rfl) | exact Or.inr (Or.inr rfl)) (hd : (x == ("__debug__" : Str)) = false := by decide)
    (hcd : (x == ("__classdict__" : Str)) = false := by decide)
    (hbase : attributeBase (.Name x vpos) "pop" X.env (eval (.Name x vpos) X.env) = eval (.Name x vpos) X.env := by rfl)
    (hline : (apos.endLine == cpos.line) = true := by rfl) :
    PD X F (.Call (.Attribute (.Name x vpos) "pop" apos) [] [] cpos) (tBM0 F.K "list" rPop (tVar i)) (dPopL i) := by
  refine ⟨?_, fun pins ρ σ H Q O h => ?_, fun ρ Q Q' hq h => ?_⟩
  · have := pe_bm0 (cpos := cpos) (apos := apos) PySem.F.plainAttrs_list PySem.F.slot_list_pop PySem.F.type_list_pop mt_pop (pe_var (pos := vpos) hN hv hd hcd) hbase hline
    rw [hK] at this
    exact this
  · obtain ⟨xs, e1, h⟩ := onOwn_of h
    obtain ⟨a, vs, g1, g2, g3, g4⟩ := O.ownGet e1
    split at h
    · rename_i y ey
      obtain ⟨v, ev, iv⟩ := g3.get ey
      refine ⟨.ref a, g1, .inl ⟨rfl, vs, .of g2⟩, a, vs, v, rfl, rfl, g2, by rw [g3.length]; exact ev, ?_⟩
      exact h v _ (O.setOwn g4 g3.dropLast) (iv.go (own_go g4))
    · exact h.elim
  · refine onOwn_mono h fun xs h => ?_
    revert h
    split
    · exact hq _ _
    · exact fun h => h
def dExtend (i : Nat) (t : TDA) : TDE := fun ρ Q => onOwn ρ i fun _ => t ρ fun rs ρ1 => match rs with
  | [r] => onM ρ1 r fun zs => onOwn ρ1 i fun xs => Few (xs.length + zs.length) ∧ Q (.d .none) (ρ1.set i (some (.own (xs ++ zs))))
  | _ => False
theorem pd_extend (ha : PDA X F [e] t d) (hK : X.K = F.K := by rfl) (hN : X.N[i]? = some x := by rfl) (hv : Vis X.env.scope x := by first | exact Or.inl rfl | exact Or.inr (Or.inl rfl) | exact Or.inr (Or.inr rfl)) (hd : (x == ("__debug__" : Str)) = false := by decide)
    (hcd : (x == ("__classdict__" : Str)) = false := by decide)
    (hbase : attributeBase (.Name x vpos) "extend" X.env (eval (.Name x vpos) X.env) = eval (.Name x vpos) X.env := by rfl)
    (hfew : ((backTo cpos (starEach [e] X.env)).all (fun x => !x.1) && (backToKw cpos (keywordEach [] X.env)).all (fun x => x.1.isSome)
      && decide (([e] : List Expr).length + ([] : List Keyword).length + (if ([] : List Keyword).isEmpty then 0 else 1) < 30)) = true := by rfl)
    (hline : (apos.endLine == cpos.line) = true := by rfl) (hs : starEach [e] X.env = (false, eval e X.env) :: starEach [] X.env := by rfl) (hplain : (backTo cpos (starEach [] X.env)).any (·.1) = false := by rfl) :
    PD X F (.Call (.Attribute (.Name x vpos) "extend" apos) [e] [] cpos) (tBM F.K "list" rExtend (tVar i) t) (dExtend i d) := by
  refine ⟨?_, fun pins ρ σ H Q O h => ?_, fun ρ Q Q' hq h => ?_⟩
  · have := pe_bm (cpos := cpos) (apos := apos) PySem.F.plainAttrs_list PySem.F.slot_list_extend PySem.F.type_list_extend mt_extend (pe_var (pos := vpos) hN hv hd hcd) ha.pa hbase hfew hline hs hplain
    rw [hK] at this
    exact this
  · obtain ⟨xs0, e0, h⟩ := onOwn_of h
    obtain ⟨a, vs0, g1, g2, _, _⟩ := O.ownGet e0
    refine ⟨.ref a, g1, .inl ⟨rfl, vs0, .of g2⟩, ?_⟩
    refine ha.da.run pins ρ σ H _ O (ha.da.mono _ _ _ (fun rs ρ1 h1 us H1 O1 R1 => ?_) h)
    split at h1
    · rename_i r
      simp only [ROks] at R1
      obtain ⟨v, _, rfl, r1, rfl⟩ := R1
      obtain ⟨zs, e1, h2⟩ := onM_of h1
      obtain ⟨xs, e2, hf, q⟩ := onOwn_of h2
      obtain ⟨b, ws, rfl, gb, imb⟩ := mitems_ok O1 r1 e1
      obtain ⟨a', vs, k1, k2, k3, k4⟩ := O1.ownGet e2
      rw [g1] at k1
      cases k1
      refine ⟨a, b, vs, ws, rfl, rfl, k2, gb, by rw [k3.length, imb.length]; exact hf, ?_⟩
      exact q _ _ (O1.setOwn k4 (k3.append imb)) (.sc .none)
    · exact h1.elim
  · refine onOwn_mono h fun xs0 h => ha.da.mono _ _ _ (fun rs ρ1 h1 => ?_) h
    revert h1
    split
    · exact fun h1 => onM_mono h1 fun zs h2 => onOwn_mono h2 fun xs h3 => ⟨h3.1, hq _ _ h3.2⟩
    · exact fun h1 => h1
end
end DV
namespace DV
open PySem PySem.Spec PyProof.Rows L2
/-! ### sorted of data that can be compared -/
abbrev sortD (ds : List PyData) : List PyData := ds.mergeSort (PySem.W.dataLe false id)
def rSortD (K : PySem.W.Frag) : List V → Hp → VK → Prop := fun vs H Q => ∃ (a : Addr) (xs : List V) (ds : List PyData), vs = [V.ref a] ∧ SqL K H a xs ∧ DpAll K H xs ds ∧ PySem.W.AllAlike ds ∧ PySem.W.Sortable ds ∧ (∀ d ∈ ds, d.depth ≤ 50) ∧
  ∀ (L : List (V × PyData)) (p : Addr), (∀ x ∈ L, x ∈ xs.zip ds) → L.map (·.2) = sortD ds → H p = none → Q (.ref p) (upd H p (.lst (L.map (·.1))))
theorem each_zip {xs : List V} {us : List Value} {ds : List PyData} : Vals xs us → xs.length = ds.length → PySem.W.EachIs (fun u d => ∃ v, RelV v u ∧ (v, d) ∈ xs.zip ds) us ds := by
  have key : ∀ (xs : List V) (us : List Value) (ds : List PyData) (Z : List (V × PyData)), Vals xs us → xs.length = ds.length → (∀ z ∈ xs.zip ds, z ∈ Z) → PySem.W.EachIs (fun u d => ∃ v, RelV v u ∧ (v, d) ∈ Z) us ds := by
    intro xs
    induction xs with
    | nil =>
      intro us ds Z r hl _
      cases r
      cases ds with
      | nil => exact .nil
      | cons d ds => cases hl
    | cons x xs ih =>
      intro us ds Z r hl hz
      cases ds with
      | nil => cases hl
      | cons d ds =>
        cases r with
        | cons r1 r2 =>
          refine .cons ⟨x, r1, hz _ (by rw [List.zip_cons_cons]; exact List.mem_cons_self ..)⟩ (ih _ _ _ r2 (by simpa using hl) fun z hm => hz z (by rw [List.zip_cons_cons]; exact List.mem_cons_of_mem _ hm))
  exact fun r hl => key xs us ds _ r hl fun z h => h
theorem back_zip {Z : List (V × PyData)} : ∀ {us : List Value} {ds : List PyData}, PySem.W.EachIs (fun u d => ∃ v, RelV v u ∧ (v, d) ∈ Z) us ds → ∃ L : List (V × PyData), (∀ x ∈ L, x ∈ Z) ∧ L.map (·.2) = ds ∧ Vals (L.map (·.1)) us
  | _, _, .nil => ⟨[], (fun x h => absurd h List.not_mem_nil), rfl, Paired.nil⟩
  | _, _, .cons (b := d) ⟨v, h1, h2⟩ t => by
    obtain ⟨L, a, b, c⟩ := back_zip t
    refine ⟨(v, d) :: L, fun x hx => ?_, by rw [List.map_cons, b], by rw [List.map_cons]; exact .cons h1 c⟩
    rcases List.mem_cons.mp hx with e | hx
    · rw [e]; exact h2
    · exact a x hx
theorem dpAll_len {K : PySem.W.Frag} {H : Hp} : ∀ {vs : List V} {ds : List PyData}, DpAll K H vs ds → vs.length = ds.length
  | _, _, .nil => rfl
  | _, _, .cons _ h => by rw [List.length_cons, List.length_cons, dpAll_len h]
section
variable {X : Cx} {pins : List (Addr × Obj)} {σ : L2.St} {H : Hp} {s : Shared}
theorem each_reads (I : L2.Inv X pins σ H s) : ∀ {xs : List V} {us : List Value} {ds : List PyData}, DpAll X.K H xs ds → Vals xs us → PySem.W.EachIs (fun u d => ∃ as, Reads s.heap u d as) us ds
  | _, _, _, .nil, r => by cases r; exact .nil
  | _, _, _, .cons h1 h2, r => by
    cases r with
    | cons r1 r2 => exact .cons (Dp.reads I _ _ _ h1 r1) (each_reads I h2 r2)
theorem cr_sortD (hu : X.A.units + 64 < cLine) : CallR X (.builtin "sorted") (rSortD X.K) := by
  intro pins s σ H vs us Q I r h
  obtain ⟨a, xs, ds, rfl, hs, hd, hal, hk, hdp, q⟩ := h
  obtain ⟨its, rv, hl, hz⟩ := I.list hs
  rw [Vals.ref1 r]
  have hlen := dpAll_len hd
  refine PySem.W.sorted_data (enc := id) hl.isList (each_zip rv hlen) (each_reads I hd rv) (by rw [List.map_id]; exact hal) (by rw [List.map_id]; exact hk) (by rw [← hlen]; exact hz) (fun b hb => by have := hdp b hb; show X.A.units + 2 + b.depth < cLine; omega) fun out ho he => ?_
  obtain ⟨L, h1, h2, h3⟩ := back_zip he
  obtain ⟨ep, he'⟩ := PyProof.Rows.sortedAll_at s.heap its out.toArray
  have hll : (L.map (·.1)).length ≤ sizeLine := by
    rw [h3.length, ho, ← hlen]
    exact hz
  exact ⟨.ref _, upd H (s.heap.objs.size + 1) (.lst (L.map (·.1))), I.laid (t' := s.toks) (fun _ _ => PyProof.Rows.sortedAll_old) (Nat.le_succ _) ⟨hll, out, ep, h3, he'⟩, rfl, q L _ h1 h2 (I.hok.fresh (Nat.le_succ _))⟩
end
theorem im_zipD {K : PySem.W.Frag} {N : Addr → Prop} {H : Hp} : ∀ {ds : List PyData} {vs : List V}, ImAll K N H ds vs → ∀ x ∈ vs.zip ds, Im K N H x.2 x.1
  | [], _, h, x, hx => by simp only [ImAll] at h; subst h; cases hx
  | p :: ps, _, h, x, hx => by
    simp only [ImAll] at h
    obtain ⟨v, vs, rfl, h1, h2⟩ := h
    rw [List.zip_cons_cons] at hx
    rcases List.mem_cons.mp hx with e | hx
    · rw [e]; exact h1
    · exact im_zipD h2 x hx
theorem im_of_zipD {K : PySem.W.Frag} {N : Addr → Prop} {H : Hp} : ∀ {L : List (V × PyData)}, (∀ x ∈ L, Im K N H x.2 x.1) → ImAll K N H (L.map (·.2)) (L.map (·.1))
  | [], _ => .nil
  | x :: L, h => by
    rw [List.map_cons, List.map_cons]
    exact .cons (h x (List.mem_cons_self ..)) (im_of_zipD fun y hy => h y (List.mem_cons_of_mem _ hy))
/-- what can be sorted -/
structure CanSort (ds : List PyData) : Prop where
  al : PySem.W.AllAlike ds
  so : PySem.W.Sortable ds
  dp : ∀ d ∈ ds, d.depth ≤ 50
section
variable {X : Cx} {F : Fm} {e : Expr} {t : TA} {d : TDA} {pos : Pos}
def dSortD (t : TDA) : TDL := fun ρ Q => t ρ fun rs ρ1 => match rs with
  | [r] => onL ρ1 r fun xs => CanSort xs ∧ Q (sortD xs) ρ1
  | _ => False
theorem pl_sortD {p : Pos} (hu : X.A.units + 64 < cLine) (hg : Gl X "sorted") (hm : X.mg "sorted" = none) (ha : PDA X F [e] t d) (hK : X.K = F.K := by rfl) (he : starEach [e] X.env = (false, eval e X.env) :: starEach [] X.env := by rfl) (hpl : (backTo pos (starEach [] X.env)).any (·.1) = false := by rfl) :
    PDL X F (.Call (.Name "sorted" p) [e] [] pos) (tCB (rSortD F.K) t) (dSortD d) := by
  refine ⟨?_, fun pins ρ σ H Q O h => ?_, fun ρ Q Q' hq h => ?_⟩
  · have := pe_callB (p := p) (pos := pos) (cr_sortD hu) hg hm (by decide +kernel) ha.pa (by decide) (by decide) he hpl
    rw [hK] at this
    exact this
  · refine ha.da.run pins ρ σ H _ O (ha.da.mono _ _ _ (fun rs ρ1 h1 vs H1 O1 R1 => ?_) h)
    split at h1
    · rename_i r
      simp only [ROks] at R1
      obtain ⟨v, _, rfl, r1, rfl⟩ := R1
      obtain ⟨xs, e1, cs, q⟩ := onL_of h1
      obtain ⟨p, us, rfl, l, im⟩ := litems_ok O1 r1 e1
      refine ⟨p, us, xs, rfl, l, im.dp, cs.al, cs.so, cs.dp, fun L p' hL e2 hp => ?_⟩
      have hz : ∀ x ∈ L, Im F.K (Av F pins ρ1 σ) H1 x.2 x.1 := fun x hx => im_zipD im x (hL x hx)
      refine q _ _ ?_
      rw [← e2]
      exact O1.pushL hp (im_of_zipD hz)
    · exact h1.elim
  · refine ha.da.mono _ _ _ (fun rs ρ1 h1 => ?_) h
    revert h1
    split
    · exact fun h1 => onL_mono h1 fun xs h2 => ⟨h2.1, hq _ _ h2.2⟩
    · exact fun h1 => h1
end
end DV
namespace DV
open PySem PySem.Spec PyProof.Rows L2
/-! ### max(xs, default=d) of whole numbers -/
def rMaxDf (K : PySem.W.Frag) : List V → List V → Hp → VK → Prop := fun xs zs H Q => ∃ (a : Addr) (ns : List Int) (d : V), xs = [V.ref a] ∧ zs = [d] ∧ (SqL K H a (ns.map V.int) ∨ SqT K H a (ns.map V.int)) ∧ (ns = [] → Q d H) ∧ ∀ m, m ∈ ns → (∀ y ∈ ns, y ≤ m) → Q (.int m) H
theorem foldl_max : ∀ (ns : List Int) (n : Int), ns.foldl max n ∈ n :: ns ∧ ∀ y ∈ n :: ns, y ≤ ns.foldl max n
  | [], n => ⟨List.mem_cons_self .., fun y hy => by
    rcases List.mem_cons.mp hy with e | e
    · exact Int.le_of_eq e
    · cases e⟩
  | m :: ns, n => by
    obtain ⟨h1, h2⟩ := foldl_max ns (max n m)
    refine ⟨?_, fun y hy => ?_⟩
    · show ns.foldl max (max n m) ∈ _
      rcases List.mem_cons.mp h1 with e | h1
      · rw [e]
        rcases Int.le_total n m with z | z
        · rw [Int.max_eq_right z]; simp
        · rw [Int.max_eq_left z]; simp
      · simp [h1]
    · show y ≤ ns.foldl max (max n m)
      have hm := h2 _ (List.mem_cons_self ..)
      rcases List.mem_cons.mp hy with e | hy
      · rw [e]; omega
      · rcases List.mem_cons.mp hy with e | hy
        · rw [e]; omega
        · exact h2 y (List.mem_cons_of_mem _ hy)
theorem alikeInts (ns : List Int) : PySem.W.AlikeAll (ns.map .int) := by
  refine ⟨fun x hx y hy => ?_, fun x hx => ?_⟩
  · obtain ⟨i, _, rfl⟩ := List.mem_map.mp hx
    obtain ⟨j, _, rfl⟩ := List.mem_map.mp hy
    simp [PySem.W.alike]
  · obtain ⟨i, _, rfl⟩ := List.mem_map.mp hx
    exact fun h => by cases h
theorem depthInts : ∀ ns : List Int, PyData.depthAll (ns.map .int) ≤ 1
  | [] => by simp [PyData.depthAll]
  | n :: ns => by
    have := depthInts ns
    simp only [List.map_cons, PyData.depthAll, PyData.depth]
    omega
section
variable {X : Cx} {pins : List (Addr × Obj)} {σ : L2.St} {H : Hp} {s : Shared}
theorem readsInts {h : Heap} : ∀ {its : List Value} {ns : List Int}, IntsAre its ns → ∃ as, ReadsAll h its (ns.map .int) as
  | _, _, .nil => ⟨_, .nil⟩
  | _, _, .cons n t r => by
    obtain ⟨as, q⟩ := readsInts (h := h) r
    exact ⟨_, .cons (.int n t) q⟩
theorem cr_maxDf (hc : X.calm = true) (hu : X.A.units + 64 < cLine) : CallRK X (.builtin "max") [Str.ofString "default"] (rMaxDf X.K) := by
  intro pins s σ H xs zs us ws Q I r rz h
  obtain ⟨a, ns, d, rfl, rfl, hs, h0, q⟩ := h
  rw [Vals.ref1 r]
  obtain ⟨u, rfl, ru⟩ := vals1 rz
  have fin : ∀ (y : PyData) (ys : List PyData) (v : Value) (h' : Heap) (tk : Nat) bs, ns.map PyData.int = y :: ys → Reads h' v (PySem.W.maxD y ys) bs → (∀ b o, s.heap.get? b = some o → h'.get? b = some o) → EP X pins σ Q v { s with heap := h', toks := tk } := by
    intro y ys v h' tk bs e rd k
    cases ns with
    | nil => cases e
    | cons n ns =>
      rw [List.map_cons] at e
      injection e with e1 e2
      subst e1 e2
      rw [PySem.W.maxD_ints] at rd
      cases rd with
      | int _ t =>
        obtain ⟨m1, m2⟩ := foldl_max ns n
        exact ⟨.int _, H, I.kept (t' := tk) k, ⟨t, rfl⟩, q _ m1 m2⟩
  have dep : X.A.units + 1 + PyData.depthAll (ns.map .int) < cLine := by have := depthInts ns; omega
  rcases hs with hs | hs
  · obtain ⟨its, rv, hl, hz⟩ := I.list hs
    obtain ⟨as, rd⟩ := readsInts (h := s.heap) rv.ints
    refine PySem.W.max_list_default (I.ok.hd hc) hl.isList (by simpa using rd) (alikeInts ns) dep (fun e h' tk k => ?_) fun y ys i v h' tk bs e hv r1 k => fin y ys v h' tk bs e r1 k
    exact ⟨d, H, I.kept (t' := tk) k, ru, h0 (by cases ns with | nil => rfl | cons n ns => cases e)⟩
  · obtain ⟨its, rv, hl, hz⟩ := I.tuple hs
    obtain ⟨as, rd⟩ := readsInts (h := s.heap) rv.ints
    refine PySem.W.max_tuple_default (I.ok.hd hc) (show s.heap.IsTuple a its.toArray from hl) (by simpa using rd) (alikeInts ns) dep (fun e h' tk k => ?_) fun y ys i v h' tk bs e hv r1 k => fin y ys v h' tk bs e r1 k
    exact ⟨d, H, I.kept (t' := tk) k, ru, h0 (by cases ns with | nil => rfl | cons n ns => cases e)⟩
end
section
variable {X : Cx} {F : Fm} {e e2 : Expr} {t : TA} {d : TDA} {pos p kpos : Pos} {te : TE} {de : TDE}
def dMaxDf (t : TDA) (te : TDE) : TDE := fun ρ Q => t ρ fun rs ρ1 => match rs with
  | [r] => te ρ1 fun s ρ2 => match s, seqs ρ2 r with
    | .d (.int k), some (_, xs) => ∃ ns, asInts xs = some ns ∧ (ns = [] → Q (.d (.int k)) ρ2) ∧ ∀ m, m ∈ ns → (∀ y ∈ ns, y ≤ m) → Q (.d (.int m)) ρ2
    | _, _ => False
  | _ => False
theorem pd_maxDf (hc : X.calm = true) (hu : X.A.units + 64 < cLine) (hg : Gl X "max") (hm : X.mg "max" = none) (ha : PDA X F [e] t d) (hb : PD X F e2 te de) (hK : X.K = F.K := by rfl)
    (he : backTo pos (starEach [e] X.env) = (false, eval e X.env) :: backTo pos (starEach [] X.env) := by rfl) (hpl : (backTo pos (starEach [e] X.env)).any (·.1) = false := by rfl)
    (hall : (backToKw pos (keywordEach [⟨some (Str.ofString "default"), e2, kpos⟩] X.env)).all (·.1.isSome) = true := by rfl) (hnone : (backToKw pos (keywordEach [⟨some (Str.ofString "default"), e2, kpos⟩] X.env)).any (·.1.isNone) = false := by rfl) (hks : (backToKw pos (keywordEach [⟨some (Str.ofString "default"), e2, kpos⟩] X.env)).filterMap (·.1) = [Str.ofString "default"] := by rfl) :
    PD X F (.Call (.Name "max" p) [e] [⟨some (Str.ofString "default"), e2, kpos⟩] pos) (tCKw (rMaxDf F.K) t (tCons te tNil)) (dMaxDf d de) := by
  refine ⟨?_, fun pins ρ σ H Q O h => ?_, fun ρ Q Q' hq h => ?_⟩
  · have := pe_callBK (p := p) (pos := pos) (cr_maxDf hc hu) hg hm (by decide +kernel) ha.pa (pk_cons hb.pe pk_nil) (by decide) (by decide) he hpl hall hnone hks
    rw [hK] at this
    exact this
  · refine ha.da.run pins ρ σ H _ O (ha.da.mono _ _ _ (fun rs ρ1 h1 vs H1 O1 R1 => ?_) h)
    split at h1
    · rename_i r
      simp only [ROks] at R1
      obtain ⟨v, _, rfl, r1, rfl⟩ := R1
      refine hb.de.run (.val v r :: pins) ρ1 σ H1 _ (O1.push r1) (hb.de.mono _ _ _ (fun s ρ2 h2 w H2 O2 R2 => ?_) h1)
      obtain ⟨O3, r3⟩ := O2.popV
      split at h2
      · rename_i k kk xs e3
        obtain ⟨ns, e2, q0, q⟩ := h2
        obtain ⟨a, pl, rfl, d1, O4, av, k1⟩ := seqs_ok O3 r3 e3
        have in1 : ∀ q ∈ pl, q ∈ pl ++ pins := fun q hq => List.mem_append_left _ hq
        have hsq : SqL F.K H2 a (ns.map V.int) ∨ SqT F.K H2 a (ns.map V.int) := by
          cases kk with
          | false =>
            obtain ⟨us, a1, a2⟩ := (show LstAt F pl a xs by simpa using k1) _ _ _ _ in1 O4
            cases asInts_dp a2.dp e2
            exact .inl a1
          | true =>
            obtain ⟨us, a1, a2⟩ := (show TupAt F pl a xs by simpa using k1) _ _ _ _ in1 O4
            cases asInts_dp a2.dp e2
            exact .inr a1
        exact ⟨a, ns, w, rfl, rfl, hsq, fun e => q0 e _ _ O3 (by
          have r2 : Im F.K (Av F (.val (.ref a) r :: pins) ρ2 σ) H2 (.int k) w := R2
          exact r2), fun m hm hle => q m hm hle _ _ O3 (.sc .int)⟩
      · exact h2.elim
    · exact h1.elim
  · refine ha.da.mono _ _ _ (fun rs ρ1 h1 => ?_) h
    revert h1
    split
    · refine fun h1 => hb.de.mono _ _ _ (fun s ρ2 h2 => ?_) h1
      revert h2
      split
      · exact fun ⟨ns, a, b, c⟩ => ⟨ns, a, fun e => hq _ _ (b e), fun m hm hle => hq _ _ (c m hm hle)⟩
      · exact fun h2 => h2
    · exact fun h1 => h1
end
end DV
namespace DV
open PySem PySem.Spec PyProof.Rows L2
open AutoSeq1 (wpAny_loadPart')
/-! ### tuple * int, text * int -/
theorem tuple_mul1 (l : Addr) (items : Array Value) (n : Nat) (dd : Option Addr) (sl : Array (Option Value)) (u : Tok) :
    Meets (Builtin.«tuple.__mul__» ⟨[.ref l, .int 1 u], []⟩) (fun _ R s => s.heap.get? l = some { cls := .type "tuple", dict := dd, data := .seq items n, slots := sl } ∧ R (.ok (.ret (Value.ref l))) s) :=
  .of_wp fun prog w A R s h => by
    obtain ⟨hp, g, d, tk, os⟩ := s
    obtain ⟨hl, h⟩ := h
    have f1 := AutoSeq1.idx_int
    have c1 : (items.isEmpty || (1 : Int) == 1) = true := by simp
    wp_walk using wpAny_loadPart' hl
    repeat (first
      | (refine wpAny_ite_true (by rw [c1]) ?_; wp_walk using wpAny_loadPart' hl)
      | (refine wpAny_ite_true c1 ?_; wp_walk using wpAny_loadPart' hl))
    exact ⟨_, rfl, h⟩
def rRepT1 (K : PySem.W.Frag) : R2 := fun x y H Q => ∃ l k xs, x = .ref l ∧ y = .int k ∧ SqT K H l xs ∧ xs ≠ [] ∧ 1 ≤ k ∧ k ≤ 1000 ∧ xs.length ≤ 1000 ∧ (k = 1 → Q (.ref l) H) ∧ ∀ p, 2 ≤ k → H p = none → Q (.ref p) (upd H p (.tup (List.replicate k.toNat xs).flatten))
section
variable {X : Cx} {F : Fm} {a b : Expr} {ta tb : TE} {da db : TDE} {pos : Pos}
theorem op_repT1 : OpR X (binaryOp .Mult) (rRepT1 X.K) := by
  intro pins s σ H x y v u Q I rx ry h
  obtain ⟨l, k, xs, rfl, rfl, hT, hne, h1, h2, hz, q1, q⟩ := h
  by_cases e : k = 1
  · subst e
    cases rx
    obtain ⟨t, rfl⟩ := ry
    obtain ⟨its, r, ⟨⟨cls, dd, data, sl⟩, ho, hc, n, hd⟩, hs⟩ := I.tuple hT
    simp only at hc hd
    subst hc hd
    refine wpAny_binaryOp_repeat_ref (T := "tuple") (U := "int") (by decide) ⟨_, ho, rfl⟩ (fun s' => typeIs_int s' 1 t) noFill_tuple_mul F.fills_int_mul F.slot_int_rmul repeat_tuple F.slot_int_index.lookup
      (call_meets F.slot_int_rmul (typeIs_int s 1 t) F.entry_int_rmul (F.args_int_rmul_2 _ _) (int_rmul_tuple 1 t l its.toArray n dd sl)
        ⟨ho, rfl, ⟨_, ho, rfl⟩, call_meets F.slot_tuple_mul ⟨_, ho, rfl⟩ F.entry_tuple_mul (F.args_tuple_mul_2 _ _) (tuple_mul1 l its.toArray n dd sl t) ⟨ho, ?_⟩⟩)
    exact ⟨.ref l, H, I, rfl, q1 rfl⟩
  · exact op_repT pins s σ H _ _ v u Q I rx ry ⟨l, k, xs, rfl, rfl, hT, hne, by omega, h2, hz, fun p hp => q p (by omega) hp⟩
def repD (k : Int) (xs : List PyData) : List PyData := (List.replicate k.toNat xs).flatten
theorem ImAll.rep {K : PySem.W.Frag} {N : Addr → Prop} {H : Hp} {xs : List PyData} {vs : List V} (h : ImAll K N H xs vs) : ∀ n, ImAll K N H (List.replicate n xs).flatten (List.replicate n vs).flatten
  | 0 => .nil
  | n + 1 => by
    rw [List.replicate_succ, List.replicate_succ, List.flatten_cons, List.flatten_cons]
    exact h.append (ImAll.rep h n)
def dRepT (ta tb : TDE) : TDE := dBin ta tb fun r s ρ Q => onT r fun xs => onInt ρ s fun k => (xs ≠ [] ∧ 1 ≤ k ∧ k ≤ 1000 ∧ xs.length ≤ 1000) ∧ Q (.d (.tuple (repD k xs))) ρ
theorem pd_repT (ha : PD X F a ta da) (hb : PD X F b tb db) (hK : X.K = F.K := by rfl) : PD X F (.BinOp a .Mult b pos) (tOp (rRepT1 F.K) ta tb) (dRepT da db) := by
  refine ⟨?_, de_bin ha.de hb.de (fun pins ρ σ H x y r s Q O R1 R2 h => ?_) fun r s ρ Q Q' hq h => onT_mono h fun xs h => onInt_mono h fun k h => ⟨h.1, hq _ _ h.2⟩⟩
  · have := pe_op (pos := pos) op_repT1 ha.pe hb.pe
    rw [hK] at this
    exact this
  obtain ⟨xs, e1, h2⟩ := onT_of h
  subst e1
  obtain ⟨k, e2, ⟨c1, c2, c3, c4⟩, q⟩ := onInt_of h2
  cases dp_int (val_dp O R2 e2)
  have i1 : Im F.K (Av F pins ρ σ) H (.tuple xs) x := R1
  obtain ⟨p, vs, rfl, l1, im1⟩ := im_tup i1
  refine ⟨p, k, vs, rfl, rfl, l1, fun z => c1 ?_, c2, c3, by rw [im1.length]; exact c4, fun e => ?_, fun p' h2 hp => ?_⟩
  · exact List.length_eq_zero_iff.mp (by rw [← im1.length, z]; rfl)
  · subst e
    have : repD 1 xs = xs := by simp [repD]
    rw [this] at q
    exact q _ _ O i1
  · obtain ⟨O2, i3⟩ := newTup O hp (im1.rep k.toNat)
    exact q _ _ O2 i3
def rRepS : R2 := fun x y H Q => ∃ (z : Str) (k : Int), x = .str z ∧ y = .int k ∧ MulOk z k ∧ Q (.str (Txt.mul z k)) H
theorem op_repS : OpR X (binaryOp .Mult) rRepS := by
  intro pins s σ H x y v u Q I rx ry h
  obtain ⟨z, k, rfl, rfl, hok, q⟩ := h
  obtain ⟨t, rfl⟩ := rx
  obtain ⟨t2, rfl⟩ := ry
  exact SB.mul hok fun t' k' => ⟨.str _, H, I.tok _, ⟨t', rfl⟩, q⟩
def fRepS : F2
  | .str z, .int k, Q => MulOk z k ∧ Q (.str (Txt.mul z k))
  | _, _, _ => False
theorem so_RepS {K : PySem.W.Frag} : SO K rRepS fRepS := by
  constructor
  · intro H x y dx dy Q h1 h2 q
    cases dx <;> first | exact q.elim | skip
    cases dy <;> first | exact q.elim | skip
    cases h1
    cases h2
    exact ⟨_, _, rfl, rfl, q.1, q.2 _ .str⟩
  · intro x y Q Q' hq q
    cases x <;> first | exact q.elim | skip
    cases y <;> first | exact q.elim | skip
    exact ⟨q.1, hq _ q.2⟩
theorem pd_repS (ha : PD X F a ta da) (hb : PD X F b tb db) : PD X F (.BinOp a .Mult b pos) (tOp rRepS ta tb) (dOp fRepS da db) := pd_op op_repS so_RepS ha hb
end
end DV
namespace DV
open PySem PySem.Spec PyProof.Rows L2
/-! ### list(range(..)), tuple(range(..)) -/
section
variable {X : Cx} {F : Fm} {e e2 : Expr} {te te2 : TE} {de de2 : TDE} {pos p p2 pos2 : Pos}
theorem im_rg {K : PySem.W.Frag} {N : Addr → Prop} {H : Hp} (a b : Int) : ImAll K N H (rng a (b - a).toNat) (rgV a b) := by
  unfold rng rgV
  have : ∀ l : List Nat, ImAll K N H (l.map fun k => PyData.int (a + (k : Nat))) (l.map fun i => V.int (a + (i : Nat))) := by
    intro l
    induction l with
    | nil => exact .nil
    | cons k l ih => rw [List.map_cons, List.map_cons]; exact .cons .int ih
  exact this _
def dRg1 (te : TDE) (k : Int → Int → Rho → Prop) : Rho → Prop := fun ρ => te ρ fun r ρ1 => onInt ρ1 r fun n => RgOk 0 n ∧ k 0 n ρ1
def dRg2 (te te2 : TDE) (k : Int → Int → Rho → Prop) : Rho → Prop := fun ρ => te ρ fun r ρ1 => te2 ρ1 fun s ρ2 => onInt ρ2 r fun a => onInt ρ2 s fun b => RgOk a b ∧ k a b ρ2
theorem rg1 (he : DE F te de) {pins : List Pin} {ρ : Rho} {σ : L2.St} {H : Hp} {k : Int → Int → Rho → Prop} {Q : Int → Int → Hp → Prop} (O : Ok F pins ρ σ H) (h : dRg1 de k ρ)
    (hk : ∀ a b ρ1 H1, RgOk a b → Ok F pins ρ1 σ H1 → k a b ρ1 → Q a b H1) : tRg1 te σ H Q := by
  refine he.run pins ρ σ H _ O (he.mono _ _ _ (fun r ρ1 h1 v H1 O1 R1 => ?_) h)
  obtain ⟨n, e1, ok, q⟩ := onInt_of h1
  cases dp_int (val_dp O1 R1 e1)
  exact ⟨n, rfl, hk _ _ _ _ ok O1 q⟩
theorem rg2 (he : DE F te de) (he2 : DE F te2 de2) {pins : List Pin} {ρ : Rho} {σ : L2.St} {H : Hp} {k : Int → Int → Rho → Prop} {Q : Int → Int → Hp → Prop} (O : Ok F pins ρ σ H) (h : dRg2 de de2 k ρ)
    (hk : ∀ a b ρ1 H1, RgOk a b → Ok F pins ρ1 σ H1 → k a b ρ1 → Q a b H1) : tRg2 te te2 σ H Q := by
  refine he.run pins ρ σ H _ O (he.mono _ _ _ (fun r ρ1 h1 v H1 O1 R1 => ?_) h)
  refine he2.run (.val v r :: pins) ρ1 σ H1 _ (O1.push R1) (he2.mono _ _ _ (fun s ρ2 h2 w H2 O2 R2 => ?_) h1)
  obtain ⟨O3, R3⟩ := O2.popV
  obtain ⟨a, e1, h3⟩ := onInt_of h2
  obtain ⟨b, e2, ok, q⟩ := onInt_of h3
  cases dp_int (val_dp O3 R3 e1)
  cases dp_int (val_dp O3 R2 e2)
  exact ⟨a, b, rfl, rfl, hk _ _ _ _ ok O3 q⟩
theorem rg1_mono (he : DE F te de) {ρ : Rho} {k k' : Int → Int → Rho → Prop} (hq : ∀ a b ρ, k a b ρ → k' a b ρ) (h : dRg1 de k ρ) : dRg1 de k' ρ := he.mono _ _ _ (fun r ρ1 h1 => onInt_mono h1 fun n h2 => ⟨h2.1, hq _ _ _ h2.2⟩) h
theorem rg2_mono (he : DE F te de) (he2 : DE F te2 de2) {ρ : Rho} {k k' : Int → Int → Rho → Prop} (hq : ∀ a b ρ, k a b ρ → k' a b ρ) (h : dRg2 de de2 k ρ) : dRg2 de de2 k' ρ :=
  he.mono _ _ _ (fun r ρ1 h1 => he2.mono _ _ _ (fun s ρ2 h2 => onInt_mono h2 fun a h3 => onInt_mono h3 fun b h4 => ⟨h4.1, hq _ _ _ h4.2⟩) h1) h
def dLstRg (d : (Int → Int → Rho → Prop) → Rho → Prop) : TDL := fun ρ Q => d (fun a b ρ1 => Q (rng a (b - a).toNat) ρ1) ρ
def dTupRg (d : (Int → Int → Rho → Prop) → Rho → Prop) : TDE := fun ρ Q => d (fun a b ρ1 => Q (.d (.tuple (rng a (b - a).toNat))) ρ1) ρ
theorem pl_listRg1 (hc : X.calm = true) (hg : Gl X "list") (hm : X.mg "list" = none) (hg2 : Gl X "range") (hm2 : X.mg "range" = none) (he : PD X F e te de) (na : starEach [e] X.env = (false, eval e X.env) :: starEach [] X.env := by rfl)
    (na2 : starEach [.Call (.Name "range" p2) [e] [] pos2] X.env = (false, eval (.Call (.Name "range" p2) [e] [] pos2) X.env) :: starEach [] X.env := by rfl) :
    PDL X F (.Call (.Name "list" p) [.Call (.Name "range" p2) [e] [] pos2] [] pos) (tLstRg (tRg1 te)) (dLstRg (dRg1 de)) :=
  ⟨pe_listRg hc hg hm (prg_1 hg2 hm2 he.pe na) na2, fun pins ρ σ H Q O h => rg1 he.de O h fun a b ρ1 H1 ok O1 q => ⟨ok, fun l hl => q _ _ (O1.pushL hl (im_rg a b))⟩, fun ρ Q Q' hq h => rg1_mono he.de (fun a b ρ1 => hq _ _) h⟩
theorem pl_listRg2 (hc : X.calm = true) (hg : Gl X "list") (hm : X.mg "list" = none) (hg2 : Gl X "range") (hm2 : X.mg "range" = none) (he : PD X F e te de) (he2 : PD X F e2 te2 de2) (na : starEach [e, e2] X.env = (false, eval e X.env) :: starEach [e2] X.env := by rfl)
    (nb : starEach [e2] X.env = (false, eval e2 X.env) :: starEach [] X.env := by rfl) (hp : (backTo pos2 (starEach [e2] X.env)).any (·.1) = false := by rfl)
    (na2 : starEach [.Call (.Name "range" p2) [e, e2] [] pos2] X.env = (false, eval (.Call (.Name "range" p2) [e, e2] [] pos2) X.env) :: starEach [] X.env := by rfl) :
    PDL X F (.Call (.Name "list" p) [.Call (.Name "range" p2) [e, e2] [] pos2] [] pos) (tLstRg (tRg2 te te2)) (dLstRg (dRg2 de de2)) :=
  ⟨pe_listRg hc hg hm (prg_2 hg2 hm2 he.pe he2.pe na nb hp) na2, fun pins ρ σ H Q O h => rg2 he.de he2.de O h fun a b ρ1 H1 ok O1 q => ⟨ok, fun l hl => q _ _ (O1.pushL hl (im_rg a b))⟩, fun ρ Q Q' hq h => rg2_mono he.de he2.de (fun a b ρ1 => hq _ _) h⟩
theorem pd_tupRg1 (hc : X.calm = true) (hg : Gl X "tuple") (hm : X.mg "tuple" = none) (hg2 : Gl X "range") (hm2 : X.mg "range" = none) (he : PD X F e te de) (na : starEach [e] X.env = (false, eval e X.env) :: starEach [] X.env := by rfl)
    (na2 : starEach [.Call (.Name "range" p2) [e] [] pos2] X.env = (false, eval (.Call (.Name "range" p2) [e] [] pos2) X.env) :: starEach [] X.env := by rfl) :
    PD X F (.Call (.Name "tuple" p) [.Call (.Name "range" p2) [e] [] pos2] [] pos) (tTupRg (tRg1 te)) (dTupRg (dRg1 de)) :=
  ⟨pe_tupRg hc hg hm (prg_1 hg2 hm2 he.pe na) na2, fun pins ρ σ H Q O h => rg1 he.de O h fun a b ρ1 H1 ok O1 q => ⟨ok, fun l hl => by
    obtain ⟨O2, i⟩ := newTup O1 hl (im_rg a b)
    exact q _ _ O2 i⟩, fun ρ Q Q' hq h => rg1_mono he.de (fun a b ρ1 => hq _ _) h⟩
theorem pd_tupRg2 (hc : X.calm = true) (hg : Gl X "tuple") (hm : X.mg "tuple" = none) (hg2 : Gl X "range") (hm2 : X.mg "range" = none) (he : PD X F e te de) (he2 : PD X F e2 te2 de2) (na : starEach [e, e2] X.env = (false, eval e X.env) :: starEach [e2] X.env := by rfl)
    (nb : starEach [e2] X.env = (false, eval e2 X.env) :: starEach [] X.env := by rfl) (hp : (backTo pos2 (starEach [e2] X.env)).any (·.1) = false := by rfl)
    (na2 : starEach [.Call (.Name "range" p2) [e, e2] [] pos2] X.env = (false, eval (.Call (.Name "range" p2) [e, e2] [] pos2) X.env) :: starEach [] X.env := by rfl) :
    PD X F (.Call (.Name "tuple" p) [.Call (.Name "range" p2) [e, e2] [] pos2] [] pos) (tTupRg (tRg2 te te2)) (dTupRg (dRg2 de de2)) :=
  ⟨pe_tupRg hc hg hm (prg_2 hg2 hm2 he.pe he2.pe na nb hp) na2, fun pins ρ σ H Q O h => rg2 he.de he2.de O h fun a b ρ1 H1 ok O1 q => ⟨ok, fun l hl => by
    obtain ⟨O2, i⟩ := newTup O1 hl (im_rg a b)
    exact q _ _ O2 i⟩, fun ρ Q Q' hq h => rg2_mono he.de he2.de (fun a b ρ1 => hq _ _) h⟩
end
end DV
namespace DV
open PySem PySem.Spec PyProof.Rows L2
open scoped Rat
/-! ## fractions as Lean's own rational numbers -/
def Bd (k : Nat) (i : Int) : Prop := i.natAbs < 2 ^ k
theorem Bd.up {j k : Nat} {i : Int} (h : Bd j i) (z : j ≤ k) : Bd k i := Nat.lt_of_lt_of_le h (Nat.pow_le_pow_right (by decide) z)
theorem Bd.mul {j k : Nat} {x y : Int} (h : Bd j x) (h2 : Bd k y) : Bd (j + k) (x * y) := wide_lt h h2
theorem two_le_pow {k : Nat} : 1 ≤ 2 ^ k := Nat.one_le_two_pow
theorem Bd.add {j k : Nat} {x y : Int} (h : Bd j x) (h2 : Bd k y) : Bd (j + k + 1) (x + y) := by
  have h := h.up (show j ≤ j + k by omega)
  have h2 := h2.up (show k ≤ j + k by omega)
  unfold Bd at *
  have := Int.natAbs_add_le x y
  rw [Nat.pow_succ]; omega
theorem Bd.neg {k : Nat} {x : Int} (h : Bd k x) : Bd k (-x) := by unfold Bd at *; omega
theorem Bd.sub {j k : Nat} {x y : Int} (h : Bd j x) (h2 : Bd k y) : Bd (j + k + 1) (x - y) := by
  rw [Int.sub_eq_add_neg]; exact h.add h2.neg
/-- of one size -/
theorem Bd.add1 {k : Nat} {x y : Int} (h : Bd k x) (h2 : Bd k y) : Bd (k + 1) (x + y) := by
  unfold Bd at *
  have := Int.natAbs_add_le x y
  rw [Nat.pow_succ]; omega
theorem Bd.sub1 {k : Nat} {x y : Int} (h : Bd k x) (h2 : Bd k y) : Bd (k + 1) (x - y) := by
  rw [Int.sub_eq_add_neg]; exact h.add1 h2.neg
theorem Bd.of {k : Nat} {i : Int} (h : -(2 ^ k) < i) (h2 : i < 2 ^ k) : Bd k i := by
  unfold Bd
  have e : ((2 ^ k : Nat) : Int) = 2 ^ k := by simp
  omega
theorem cmb {j k : Nat} {x y : Int} (h : Bd j x) (h2 : Bd k y) (h3 : j + k < 999000 := by decide) : CMulW x y :=
  wide_mul (h.up (Nat.le_succ j)) (h2.up (Nat.le_max_left k 1)) (Nat.succ_pos _) (by omega) (by rcases Nat.le_total k 1 with z | z <;> omega)
theorem cdz {k : Nat} {x y : Int} (h : y ≠ 0) (h2 : Bd k y) (h3 : k ≤ 9000 := by decide) : CDivZ x y := by
  refine ⟨h, ?_⟩
  have h0 : y.natAbs ≠ 0 := by omega
  exact Nat.lt_of_lt_of_le ((Nat.log2_lt h0).mpr h2) h3
theorem cdwB {x y : Int} {k : Nat} (h : 0 < y) (hb : Bd k y) (h9 : k ≤ 8999 := by decide) : CDivW x y := wide_div h (hb.up (Nat.le_succ k)) (Nat.succ_pos _) (by omega)
def fr (q : Rat) : PyData := .tuple [.int q.num, .int (q.den : Int)]
theorem fr_int (a : Int) : PyData.tuple [.int a, .int 1] = fr (a : Rat) := rfl
theorem fr_inj {p q : Rat} (h : fr p = fr q) : p = q := by
  unfold fr at h
  simp only [PyData.tuple.injEq, List.cons.injEq, PyData.int.injEq, and_true] at h
  exact Rat.ext h.1 (by omega)
theorem den_pos (q : Rat) : (0 : Int) < q.den := by have := q.den_nz; omega
structure Sz (k : Nat) (q : Rat) : Prop where
  n : Bd k q.num
  d : Bd k (q.den : Int)
theorem Sz.up {j k : Nat} {q : Rat} (h : Sz j q) (z : j ≤ k) : Sz k q := ⟨h.n.up z, h.d.up z⟩
theorem Sz.pos {k : Nat} {q : Rat} (h : Sz k q) : 0 < k := by
  have := h.d; unfold Bd at this
  rcases Nat.eq_zero_or_pos k with rfl | z
  · have := q.den_nz; omega
  · exact z
theorem ediv_bd {k : Nat} {x : Int} {g : Int} (h : Bd k x) (hg : 0 ≤ g) : Bd k (x / g) := by
  unfold Bd at *
  exact Nat.lt_of_le_of_lt (Int.natAbs_ediv_le_natAbs x g) h
theorem sz_divInt {j k : Nat} {n d : Int} (h : Bd j n) (h2 : Bd k d) (hd : d ≠ 0) : Sz (max j k) (n /. d) := by
  constructor
  · rw [Rat.num_divInt]
    refine (ediv_bd (k := j) ?_ (by omega)).up (Nat.le_max_left ..)
    unfold Bd at *
    rw [Int.natAbs_mul]
    have : d.sign.natAbs = 1 := by rw [Int.natAbs_sign_of_ne_zero hd]
    rw [this]; omega
  · rw [Rat.den_divInt, if_neg hd]
    refine Bd.up (j := k) ?_ (Nat.le_max_right ..)
    unfold Bd at *
    rw [Int.natAbs_natCast]
    exact Nat.lt_of_le_of_lt (Nat.div_le_self _ _) h2
theorem rat_ndi (q : Rat) : q = q.num /. (q.den : Int) := (Rat.num_divInt_den q).symm
theorem add_ndi (p q : Rat) : p + q = (p.num * q.den + q.num * p.den) /. (p.den * q.den) := by
  conv => lhs; rw [rat_ndi p, rat_ndi q]
  exact Rat.divInt_add_divInt _ _ (Int.ne_of_gt (den_pos p)) (Int.ne_of_gt (den_pos q))
theorem sub_ndi (p q : Rat) : p - q = (p.num * q.den - q.num * p.den) /. (p.den * q.den) := by
  conv => lhs; rw [rat_ndi p, rat_ndi q]
  exact Rat.divInt_sub_divInt _ _ (Int.ne_of_gt (den_pos p)) (Int.ne_of_gt (den_pos q))
theorem mul_ndi (p q : Rat) : p * q = (p.num * q.num) /. (p.den * q.den) := by
  conv => lhs; rw [rat_ndi p, rat_ndi q]
  exact Rat.divInt_mul_divInt _ _
theorem div_ndi (p q : Rat) : p / q = (p.num * q.den) /. (p.den * q.num) := by
  rw [Rat.div_def]
  conv => lhs; rw [rat_ndi p, rat_ndi q, Rat.inv_divInt]
  exact Rat.divInt_mul_divInt _ _
theorem dd_ne (p q : Rat) : (p.den : Int) * q.den ≠ 0 := Int.ne_of_gt (Int.mul_pos (den_pos p) (den_pos q))
theorem num_ne {q : Rat} (h : q ≠ 0) : q.num ≠ 0 := fun e => h (Rat.num_eq_zero.mp e)
theorem Sz.add {j k : Nat} {p q : Rat} (h : Sz j p) (h2 : Sz k q) : Sz (j + k + 1) (p + q) := by
  rw [add_ndi]
  refine (sz_divInt ((h.n.mul h2.d).add1 ((h2.n.mul h.d).up (show k + j ≤ j + k by omega))) (h.d.mul h2.d) (dd_ne p q)).up (by omega)
theorem Sz.sub {j k : Nat} {p q : Rat} (h : Sz j p) (h2 : Sz k q) : Sz (j + k + 1) (p - q) := by
  rw [sub_ndi]
  refine (sz_divInt ((h.n.mul h2.d).sub1 ((h2.n.mul h.d).up (show k + j ≤ j + k by omega))) (h.d.mul h2.d) (dd_ne p q)).up (by omega)
theorem Sz.mul {j k : Nat} {p q : Rat} (h : Sz j p) (h2 : Sz k q) : Sz (j + k) (p * q) := by
  rw [mul_ndi]
  refine (sz_divInt (h.n.mul h2.n) (h.d.mul h2.d) (dd_ne p q)).up (by omega)
theorem Sz.div {j k : Nat} {p q : Rat} (h : Sz j p) (h2 : Sz k q) (hq : q ≠ 0) : Sz (j + k) (p / q) := by
  rw [div_ndi]
  exact (sz_divInt (h.n.mul h2.d) (h.d.mul h2.n) (Int.mul_ne_zero (Int.ne_of_gt (den_pos p)) (num_ne hq))).up (by omega)
theorem Sz.neg {k : Nat} {p : Rat} (h : Sz k p) : Sz k (-p) := ⟨h.n.neg, h.d⟩
theorem Sz.int {k : Nat} {a : Int} (h : Bd k a) : Sz (max k 1) (a : Rat) := ⟨h.up (Nat.le_max_left ..), Bd.up (j := 1) (by unfold Bd; show (1 : Int).natAbs < 2 ^ 1; decide) (Nat.le_max_right ..)⟩
theorem Sz.int1 {k : Nat} {a : Int} (h : Bd k a) (hk : 0 < k := by decide) : Sz k (a : Rat) := (Sz.int h).up (by omega)
/-- what gcd and // make -/
theorem red_num {n d g : Int} (hd : d ≠ 0) (hg : g = if d < 0 then -((Nat.gcd n.natAbs d.natAbs : Nat) : Int) else ((Nat.gcd n.natAbs d.natAbs : Nat) : Int)) : n.fdiv g = (n /. d).num ∧ d.fdiv g = ((n /. d).den : Int) ∧ g ≠ 0 ∧ g.natAbs ≤ d.natAbs := by
  have hgp : 0 < Nat.gcd n.natAbs d.natAbs := Nat.gcd_pos_of_pos_right _ (by omega)
  have hgl : Nat.gcd n.natAbs d.natAbs ≤ d.natAbs := Nat.gcd_le_right _ (by omega)
  have e : d.gcd n = Nat.gcd n.natAbs d.natAbs := by rw [Int.gcd_comm]; rfl
  have dn : ((Nat.gcd n.natAbs d.natAbs : Nat) : Int) ∣ n := Int.natAbs_dvd_natAbs.mp (Nat.gcd_dvd_left _ _)
  have dd : ((Nat.gcd n.natAbs d.natAbs : Nat) : Int) ∣ d := Int.natAbs_dvd_natAbs.mp (Nat.gcd_dvd_right _ _)
  rw [Rat.num_divInt, Rat.den_divInt, if_neg hd, e]
  have fneg : ∀ {x c : Int}, 0 < c → c ∣ x → x.fdiv (-c) = -x / c := by
    intro x c hc ⟨k, hk⟩
    have e1 : x = (-c) * (-k) := by rw [hk, Int.neg_mul_neg]
    have e2 : -x = c * (-k) := by rw [hk, Int.mul_neg]
    rw [e2, Int.mul_ediv_cancel_left _ (by omega)]
    conv => lhs; rw [e1]
    rw [Int.mul_fdiv_cancel_left _ (by omega)]
  generalize hG : Nat.gcd n.natAbs d.natAbs = G at *
  by_cases hn : d < 0
  · rw [if_pos hn] at hg
    subst hg
    refine ⟨?_, ?_, by omega, by omega⟩
    · rw [fneg (by omega) dn, Int.sign_eq_neg_one_of_neg hn, Int.neg_mul, Int.one_mul]
    · rw [fneg (by omega) dd, Int.natCast_ediv]
      congr 1; omega
  · rw [if_neg hn] at hg
    subst hg
    refine ⟨?_, ?_, by omega, by omega⟩
    · rw [Int.fdiv_eq_ediv_of_nonneg _ (by omega), Int.sign_eq_one_of_pos (by omega), Int.one_mul]
    · rw [Int.fdiv_eq_ediv_of_nonneg _ (by omega), Int.natCast_ediv]
      congr 1; omega
/-! ## promises -/
def SpE {α : Type} (arg : α → List PyData) (pre : α → Prop) (res : α → PyData) : Sd := fun xs Q => ∃ a, xs = arg a ∧ pre a ∧ Q (res a)
theorem m_SpE {α : Type} {arg : α → List PyData} {pre : α → Prop} {res : α → PyData} : MonoP (SpE arg pre res) := fun xs Q Q' hq ⟨a, h1, h2, h3⟩ => ⟨a, h1, h2, hq _ h3⟩
def SpR {α : Type} (arg : α → List PyData) (pre : α → Prop) (post : α → PyData → Prop) : Sd := fun xs Q => ∃ a, xs = arg a ∧ pre a ∧ ∀ z, post a z → Q z
theorem m_SpR {α : Type} {arg : α → List PyData} {pre : α → Prop} {post : α → PyData → Prop} : MonoP (SpR arg pre post) := fun xs Q Q' hq ⟨a, h1, h2, h3⟩ => ⟨a, h1, h2, fun z hz => hq _ (h3 z hz)⟩
/-- with draws: at most n of them -/
def SpB {α : Type} (n : Nat) (arg : α → List PyData) (pre : α → Prop) (post : α → PyData → Prop) : Sb := fun bag xs Q => ∃ a m, Bag m bag ∧ m + n < 2 ^ 60 ∧ xs = arg a ∧ pre a ∧ ∀ z bag', post a z → Bag (m + n) bag' → Q z bag'
theorem m_SpB {α : Type} {n : Nat} {arg : α → List PyData} {pre : α → Prop} {post : α → PyData → Prop} : MonoB (SpB n arg pre post) := fun bag xs Q Q' hq ⟨a, m, h1, h2, h3, h4, h5⟩ => ⟨a, m, h1, h2, h3, h4, fun z b hz hb => hq _ _ (h5 z b hz hb)⟩
theorem SpE.mk {α : Type} {arg : α → List PyData} {pre : α → Prop} {res : α → PyData} {xs : List PyData} {Q : PyData → Prop} (a : α) (h1 : xs = arg a) (h2 : pre a) (h3 : Q (res a)) : SpE arg pre res xs Q := ⟨a, h1, h2, h3⟩
theorem SpR.mk {α : Type} {arg : α → List PyData} {pre : α → Prop} {post : α → PyData → Prop} {xs : List PyData} {Q : PyData → Prop} (a : α) (h1 : xs = arg a) (h2 : pre a) (h3 : ∀ z, post a z → Q z) : SpR arg pre post xs Q := ⟨a, h1, h2, h3⟩
def cmpR (p q : Rat) : Int := if p < q then -1 else if q < p then 1 else 0
def clipR (p : Rat) : Rat := if p < 0 then 0 else if 1 < p then 1 else p
theorem lt_fr {p q : Rat} : p.num * (q.den : Int) < q.num * (p.den : Int) ↔ p < q := (Rat.lt_iff p q).symm
theorem num_neg {q : Rat} : q.num < 0 ↔ q < 0 := by
  rw [Rat.lt_iff]; simp
theorem den_lt_num {q : Rat} : (q.den : Int) < q.num ↔ 1 < q := by
  rw [Rat.lt_iff]; simp
theorem lt_trich {p q : Rat} (h : ¬ p < q) (h2 : ¬ q < p) : p = q := Rat.le_antisymm (Rat.not_lt.mp h2) (Rat.not_lt.mp h)
end DV
namespace DV
open PySem PySem.Spec PyProof.Rows L2
open scoped Rat
/-! ## two legs -/
structure Lg where
  ax : Int
  ay : Int
  bx : Int
  by' : Int
def pr (a b : Int) : PyData := .tuple [.int a, .int b]
def eL (l : Lg) : PyData := .tuple [pr l.ax l.ay, pr l.bx l.by']
structure LB (k : Nat) (l : Lg) : Prop where
  ax : Bd k l.ax
  ay : Bd k l.ay
  bx : Bd k l.bx
  by' : Bd k l.by'
def px (l : Lg) (s : Rat) : Rat := (l.ax : Rat) + s * ((l.bx - l.ax : Int) : Rat)
def py (l : Lg) (s : Rat) : Rat := (l.ay : Rat) + s * ((l.by' - l.ay : Int) : Rat)
def gx (l o : Lg) (s t : Rat) : Rat := px o t - px l s
def gy (l o : Lg) (s t : Rat) : Rat := py o t - py l s
def gsq (l o : Lg) (s t : Rat) : Rat := gx l o s t * gx l o s t + gy l o s t * gy l o s t
abbrev Cn := Rat × Rat
def pf (c : Cn) : PyData := .tuple [fr c.1, fr c.2]
def lexLt (a b : Cn) : Prop := if a.1 ≠ b.1 then a.1 < b.1 else a.2 < b.2
instance (a b : Cn) : Decidable (lexLt a b) := by unfold lexLt; infer_instance
theorem px_sz {j k : Nat} {l : Lg} {s : Rat} (h : LB j l) (hs : Sz k s) (hj : 0 < j) : Sz (j + (k + (j + 1)) + 1) (px l s) := (Sz.int1 h.ax hj).add (hs.mul (Sz.int1 (h.bx.sub1 h.ax) (by omega)))
theorem py_sz {j k : Nat} {l : Lg} {s : Rat} (h : LB j l) (hs : Sz k s) (hj : 0 < j) : Sz (j + (k + (j + 1)) + 1) (py l s) := (Sz.int1 h.ay hj).add (hs.mul (Sz.int1 (h.by'.sub1 h.ay) (by omega)))
def crn (rho : Rat) : List Cn := [(0, 0), (rho, 0), (1, 1 - rho), (1, 1), (1 - rho, 1), (0, rho)]
def clipP (l o : Lg) (a b : Cn) : Rat :=
  let f1 := gx l o a.1 a.2
  let f2 := gy l o a.1 a.2
  let r1 := gx l o b.1 b.2 - f1
  let r2 := gy l o b.1 b.2 - f2
  let st := r1 * r1 + r2 * r2
  clipR (if st ≠ 0 then ((-1 : Int) : Rat) * (f1 * r1 + f2 * r2) / st else if lexLt b a then 1 else 0)
def onS (l o : Lg) (a b : Cn) : Rat := a.1 + clipP l o a b * (b.1 - a.1)
def onT' (l o : Lg) (a b : Cn) : Rat := a.2 + clipP l o a b * (b.2 - a.2)
abbrev Row3 := Rat × Rat × Rat
def edge (l o : Lg) (a b : Cn) : Row3 := (gsq l o (onS l o a b) (onT' l o a b), onS l o a b, onT' l o a b)
def turnI (l o : Lg) : Int := (l.bx - l.ax) * (o.by' - o.ay) - (l.by' - l.ay) * (o.bx - o.ax)
def inS (l o : Lg) : Rat := ((o.ax - l.ax) * (o.by' - o.ay) - (o.ay - l.ay) * (o.bx - o.ax)) /. turnI l o
def inT (l o : Lg) : Rat := ((o.ax - l.ax) * (l.by' - l.ay) - (o.ay - l.ay) * (l.bx - l.ax)) /. turnI l o
def rabs (q : Rat) : Rat := if q < 0 then -q else q
def okIn (s t rho : Rat) : Prop := ¬ (s < 0 ∨ t < 0 ∨ 1 < s ∨ 1 < t ∨ rho < rabs (s - t))
instance (s t rho : Rat) : Decidable (okIn s t rho) := by unfold okIn; infer_instance
def inner (l o : Lg) (rho : Rat) : List Row3 := if turnI l o = 0 then [] else if okIn (inS l o) (inT l o) rho then [(0, inS l o, inT l o)] else []
def rowLt (a b : Row3) : Prop := a.1 < b.1 ∨ (a.1 = b.1 ∧ lexLt a.2 b.2)
instance (a b : Row3) : Decidable (rowLt a b) := by unfold rowLt; infer_instance
def bestOf : List Row3 → Option Row3
  | rows => rows.foldl (fun best row => match best with
    | none => some row
    | some b => if rowLt row b then some row else some b) none
def edges (l o : Lg) (rho : Rat) : List Row3 := List.zipWith (edge l o) (crn rho) ((crn rho).drop 1 ++ (crn rho).take 1)
def rowsL (l o : Lg) (rho : Rat) : List Row3 := inner l o rho ++ edges l o rho
def best1 (b row : Row3) : Row3 := if rowLt row b then row else b
theorem bestOf_cons (r : Row3) (rs : List Row3) : bestOf (r :: rs) = some (rs.foldl best1 r) := by
  show rs.foldl _ (some r) = _
  induction rs generalizing r with
  | nil => rfl
  | cons x xs ih =>
    rw [List.foldl_cons, List.foldl_cons]
    show xs.foldl _ (if rowLt x r then some x else some r) = _
    unfold best1
    by_cases h : rowLt x r
    · rw [if_pos h, if_pos h]; exact ih x
    · rw [if_neg h, if_neg h]; exact ih r
theorem best_mem : ∀ (rs : List Row3) (r : Row3), rs.foldl best1 r = r ∨ rs.foldl best1 r ∈ rs
  | [], r => .inl rfl
  | x :: xs, r => by
    rw [List.foldl_cons]
    rcases best_mem xs (best1 r x) with h | h
    · unfold best1 at h ⊢
      by_cases hx : rowLt x r
      · rw [if_pos hx] at h ⊢; exact .inr (by rw [h]; exact List.mem_cons_self ..)
      · rw [if_neg hx] at h ⊢; exact .inl h
    · exact .inr (List.mem_cons_of_mem _ h)
def nearL (l o : Lg) (rho : Rat) : Row3 := (bestOf (rowsL l o rho)).getD (0, 0, 0)
/-! ### sizes -/
structure CnOk (d : Int) (c : Cn) : Prop where
  ex : ∃ x y : Int, c = (x /. d, y /. d) ∧ Bd 21 x ∧ Bd 21 y
structure DOk (d : Int) : Prop where
  pos : 0 < d
  bd : Bd 20 d
theorem CnOk.s {d : Int} {c : Cn} (h : CnOk d c) (hd : DOk d) : Sz 21 c.1 := by
  obtain ⟨x, y, rfl, hx, hy⟩ := h.ex
  exact (sz_divInt hx hd.bd (Int.ne_of_gt hd.pos)).up (by decide)
theorem CnOk.t {d : Int} {c : Cn} (h : CnOk d c) (hd : DOk d) : Sz 21 c.2 := by
  obtain ⟨x, y, rfl, hx, hy⟩ := h.ex
  exact (sz_divInt hy hd.bd (Int.ne_of_gt hd.pos)).up (by decide)
theorem rat_ne {d : Int} (h : d ≠ 0) : (d : Rat) ≠ 0 := fun e => h (by
  have := congrArg Rat.num e
  simpa using this)
theorem divInt_of {n d : Int} {q : Rat} (hd : d ≠ 0) (h : q * (d : Rat) = (n : Rat)) : q = n /. d := by
  rw [Rat.divInt_eq_div]
  have := rat_ne hd
  grind
/-- what leads from one to the other at a corner, d times as great -/
def gI (u v m d x y : Int) : Int := d * u + y * v - x * m
theorem gI_eq {u v m d x y : Int} (hd : d ≠ 0) : ((u : Int) : Rat) + (y /. d) * (v : Rat) - (x /. d) * (m : Rat) = gI u v m d x y /. d := by
  refine divInt_of hd ?_
  have := rat_ne hd
  unfold gI
  simp only [Rat.divInt_eq_div, Rat.intCast_add, Rat.intCast_sub, Rat.intCast_mul]
  grind
theorem clip_sz {k : Nat} {q : Rat} (h : Sz k q) : Sz k (clipR q) := by
  have hk := h.pos
  unfold clipR
  split
  · exact (Sz.int1 (a := 0) (k := k) (by unfold Bd; simpa using Nat.two_pow_pos k) hk)
  · split
    · refine (Sz.int1 (a := 1) (k := k) ?_ hk)
      unfold Bd
      exact Nat.one_lt_two_pow (by omega)
    · exact h
theorem part_eq {F1 F2 R1 R2 d : Int} (hd : d ≠ 0) (hs : ((R1 /. d) * (R1 /. d) + (R2 /. d) * (R2 /. d)) ≠ 0) :
    ((-1 : Int) : Rat) * ((F1 /. d) * (R1 /. d) + (F2 /. d) * (R2 /. d)) / ((R1 /. d) * (R1 /. d) + (R2 /. d) * (R2 /. d)) = (-(F1 * R1 + F2 * R2)) /. (R1 * R1 + R2 * R2) ∧ R1 * R1 + R2 * R2 ≠ 0 := by
  have hd' := rat_ne hd
  have e : (R1 /. d) * (R1 /. d) + (R2 /. d) * (R2 /. d) = (((R1 * R1 + R2 * R2 : Int)) : Rat) / ((d : Rat) * d) := by
    simp only [Rat.divInt_eq_div, Rat.intCast_add, Rat.intCast_mul]
    grind
  have hne : R1 * R1 + R2 * R2 ≠ 0 := by
    intro z
    rw [e, z] at hs
    exact hs (by rw [Rat.intCast_zero, Rat.div_def, Rat.zero_mul])
  refine ⟨?_, hne⟩
  have hne' := rat_ne hne
  refine divInt_of hne ?_
  rw [e]
  simp only [Rat.divInt_eq_div, Rat.intCast_add, Rat.intCast_mul, Rat.intCast_neg] at hne' ⊢
  rw [show ((1 : Int) : Rat) = 1 from rfl]
  generalize ((R1 : Rat) * R1 + R2 * R2) = N at hne' ⊢
  grind
end DV
namespace DV
open PySem PySem.Spec PyProof.Rows L2
open scoped Rat
theorem g_form {l o : Lg} {d x y : Int} (hd : d ≠ 0) : gx l o (x /. d) (y /. d) = gI (o.ax - l.ax) (o.bx - o.ax) (l.bx - l.ax) d x y /. d ∧ gy l o (x /. d) (y /. d) = gI (o.ay - l.ay) (o.by' - o.ay) (l.by' - l.ay) d x y /. d := by
  constructor
  · rw [← gI_eq hd]; unfold gx px; rw [Rat.intCast_sub (a := o.ax) (b := l.ax)]; grind
  · rw [← gI_eq hd]; unfold gy py; rw [Rat.intCast_sub (a := o.ay) (b := l.ay)]; grind
theorem gI_bd {u v m d x y : Int} (hu : Bd 21 u) (hv : Bd 21 v) (hm : Bd 21 m) (hd : Bd 20 d) (hx : Bd 21 x) (hy : Bd 21 y) : Bd 45 (gI u v m d x y) :=
  (((hd.mul hu).up (by decide : 41 ≤ 42) |>.add1 (hy.mul hv)).up (by decide : 43 ≤ 43) |>.sub1 ((hx.mul hm).up (by decide : 42 ≤ 43))).up (by decide)
theorem sub_divInt {A B d : Int} (hd : d ≠ 0) : A /. d - B /. d = (A - B) /. d := by
  refine divInt_of hd ?_
  have := rat_ne hd
  simp only [Rat.divInt_eq_div, Rat.intCast_sub]
  grind
theorem clipP_sz {l o : Lg} {a b : Cn} {d : Int} (h1 : LB 20 l) (h2 : LB 20 o) (hd : DOk d) (ha : CnOk d a) (hb : CnOk d b) : Sz 100 (clipP l o a b) := by
  have d0 : d ≠ 0 := Int.ne_of_gt hd.pos
  obtain ⟨x, y, rfl, hx, hy⟩ := ha.ex
  obtain ⟨z, w, rfl, hz, hw⟩ := hb.ex
  have u1 := h2.ax.sub1 h1.ax
  have v1 := h2.bx.sub1 h2.ax
  have m1 := h1.bx.sub1 h1.ax
  have u2 := h2.ay.sub1 h1.ay
  have v2 := h2.by'.sub1 h2.ay
  have m2 := h1.by'.sub1 h1.ay
  unfold clipP
  simp only [(g_form (l := l) (o := o) d0).1, (g_form (l := l) (o := o) d0).2, sub_divInt d0]
  have f1 := gI_bd u1 v1 m1 hd.bd hx hy
  have f2 := gI_bd u2 v2 m2 hd.bd hx hy
  have e1 := gI_bd u1 v1 m1 hd.bd hz hw
  have e2 := gI_bd u2 v2 m2 hd.bd hz hw
  generalize gI (o.ax - l.ax) (o.bx - o.ax) (l.bx - l.ax) d x y = F1 at *
  generalize gI (o.ay - l.ay) (o.by' - o.ay) (l.by' - l.ay) d x y = F2 at *
  have r1 := e1.sub1 f1
  have r2 := e2.sub1 f2
  generalize gI (o.ax - l.ax) (o.bx - o.ax) (l.bx - l.ax) d z w - F1 = R1 at *
  generalize gI (o.ay - l.ay) (o.by' - o.ay) (l.by' - l.ay) d z w - F2 = R2 at *
  refine clip_sz ?_
  split
  · rename_i hs
    obtain ⟨e, hne⟩ := part_eq (F1 := F1) (F2 := F2) d0 hs
    rw [e]
    exact (sz_divInt ((f1.mul r1).add1 (f2.mul r2)).neg ((r1.mul r1).add1 (r2.mul r2)) hne).up (by decide)
  · split
    · exact Sz.int1 (a := 1) (by unfold Bd; decide)
    · exact Sz.int1 (a := 0) (by unfold Bd; decide)
theorem onS_sz {l o : Lg} {a b : Cn} {d : Int} (h1 : LB 20 l) (h2 : LB 20 o) (hd : DOk d) (ha : CnOk d a) (hb : CnOk d b) : Sz 165 (onS l o a b) :=
  (((ha.s hd).add ((clipP_sz h1 h2 hd ha hb).mul ((hb.s hd).sub (ha.s hd))))).up (by decide)
theorem onT_sz {l o : Lg} {a b : Cn} {d : Int} (h1 : LB 20 l) (h2 : LB 20 o) (hd : DOk d) (ha : CnOk d a) (hb : CnOk d b) : Sz 165 (onT' l o a b) :=
  (((ha.t hd).add ((clipP_sz h1 h2 hd ha hb).mul ((hb.t hd).sub (ha.t hd))))).up (by decide)
theorem gx_sz {l o : Lg} {s t : Rat} (h1 : LB 20 l) (h2 : LB 20 o) (hs : Sz 165 s) (ht : Sz 165 t) : Sz 415 (gx l o s t) := ((px_sz h2 ht (by decide)).sub (px_sz h1 hs (by decide))).up (by decide)
theorem gy_sz {l o : Lg} {s t : Rat} (h1 : LB 20 l) (h2 : LB 20 o) (hs : Sz 165 s) (ht : Sz 165 t) : Sz 415 (gy l o s t) := ((py_sz h2 ht (by decide)).sub (py_sz h1 hs (by decide))).up (by decide)
theorem gsq_sz {l o : Lg} {s t : Rat} (h1 : LB 20 l) (h2 : LB 20 o) (hs : Sz 165 s) (ht : Sz 165 t) : Sz 1661 (gsq l o s t) := (((gx_sz h1 h2 hs ht).mul (gx_sz h1 h2 hs ht)).add ((gy_sz h1 h2 hs ht).mul (gy_sz h1 h2 hs ht))).up (by decide)
theorem crn_ok {rho : Rat} (h : Sz 20 rho) : DOk rho.den ∧ ∀ c ∈ crn rho, CnOk rho.den c := by
  have hd := den_pos rho
  have d0 : (rho.den : Int) ≠ 0 := Int.ne_of_gt hd
  refine ⟨⟨hd, h.d⟩, fun c hc => ?_⟩
  have e0 : (0 : Rat) = (0 : Int) /. (rho.den : Int) := (Rat.zero_divInt _).symm
  have e1 : (1 : Rat) = (rho.den : Int) /. (rho.den : Int) := (Rat.divInt_self' d0).symm
  have er : rho = rho.num /. (rho.den : Int) := rat_ndi rho
  have es : 1 - rho = ((rho.den : Int) - rho.num) /. (rho.den : Int) := by
    rw [← sub_divInt d0, ← e1, ← er]
  have b0 : Bd 21 0 := by unfold Bd; decide
  have bd : Bd 21 (rho.den : Int) := h.d.up (by decide)
  have bn : Bd 21 rho.num := h.n.up (by decide)
  have bs : Bd 21 ((rho.den : Int) - rho.num) := h.d.sub1 h.n
  simp only [crn, List.mem_cons, List.not_mem_nil, or_false] at hc
  rcases hc with rfl | rfl | rfl | rfl | rfl | rfl
  · exact ⟨0, 0, by rw [← e0], b0, b0⟩
  · exact ⟨rho.num, 0, by rw [← er, ← e0], bn, b0⟩
  · exact ⟨rho.den, rho.den - rho.num, by rw [← es, ← e1], bd, bs⟩
  · exact ⟨rho.den, rho.den, by rw [← e1], bd, bd⟩
  · exact ⟨rho.den - rho.num, rho.den, by rw [← es, ← e1], bs, bd⟩
  · exact ⟨0, rho.num, by rw [← er, ← e0], b0, bn⟩
structure Sz3 (r : Row3) : Prop where
  q : Sz 1661 r.1
  s : Sz 165 r.2.1
  t : Sz 165 r.2.2
theorem edge_sz {l o : Lg} {a b : Cn} {d : Int} (h1 : LB 20 l) (h2 : LB 20 o) (hd : DOk d) (ha : CnOk d a) (hb : CnOk d b) : Sz3 (edge l o a b) :=
  ⟨gsq_sz h1 h2 (onS_sz h1 h2 hd ha hb) (onT_sz h1 h2 hd ha hb), onS_sz h1 h2 hd ha hb, onT_sz h1 h2 hd ha hb⟩
theorem turn_bd {l o : Lg} (h1 : LB 20 l) (h2 : LB 20 o) : Bd 43 (turnI l o) := (((h1.bx.sub1 h1.ax).mul (h2.by'.sub1 h2.ay)).sub1 ((h1.by'.sub1 h1.ay).mul (h2.bx.sub1 h2.ax))).up (by decide)
theorem inS_sz {l o : Lg} (h1 : LB 20 l) (h2 : LB 20 o) (h : turnI l o ≠ 0) : Sz 43 (inS l o) := (sz_divInt (((h2.ax.sub1 h1.ax).mul (h2.by'.sub1 h2.ay)).sub1 ((h2.ay.sub1 h1.ay).mul (h2.bx.sub1 h2.ax))) (turn_bd h1 h2) h).up (by decide)
theorem inT_sz {l o : Lg} (h1 : LB 20 l) (h2 : LB 20 o) (h : turnI l o ≠ 0) : Sz 43 (inT l o) := (sz_divInt (((h2.ax.sub1 h1.ax).mul (h1.by'.sub1 h1.ay)).sub1 ((h2.ay.sub1 h1.ay).mul (h1.bx.sub1 h1.ax))) (turn_bd h1 h2) h).up (by decide)
theorem sz_zero {k : Nat} (hk : 0 < k := by decide) : Sz k (0 : Rat) := Sz.int1 (a := 0) (by unfold Bd; simpa using Nat.two_pow_pos k) hk
theorem sz_one {k : Nat} (hk : 0 < k := by decide) : Sz k (1 : Rat) := Sz.int1 (a := 1) (by unfold Bd; exact Nat.one_lt_two_pow (by omega)) hk
theorem inner_sz {l o : Lg} {rho : Rat} (h1 : LB 20 l) (h2 : LB 20 o) : ∀ r ∈ inner l o rho, Sz3 r := fun r hr => by
  unfold inner at hr
  split at hr
  · cases hr
  · rename_i ht
    split at hr
    · simp only [List.mem_cons, List.not_mem_nil, or_false] at hr
      subst hr
      exact ⟨sz_zero, (inS_sz h1 h2 ht).up (by decide), (inT_sz h1 h2 ht).up (by decide)⟩
    · cases hr
theorem edges_sz {l o : Lg} {rho : Rat} (h1 : LB 20 l) (h2 : LB 20 o) (h : Sz 20 rho) : ∀ r ∈ edges l o rho, Sz3 r := fun r hr => by
  obtain ⟨hd, hc⟩ := crn_ok h
  have hm : ∀ c, c = (0, 0) ∨ c = (rho, 0) ∨ c = (1, 1 - rho) ∨ c = (1, 1) ∨ c = (1 - rho, 1) ∨ c = (0, rho) → CnOk rho.den c := fun c h => hc c (by simpa only [crn, List.mem_cons, List.not_mem_nil, or_false] using h)
  simp only [edges, crn, List.drop_succ_cons, List.drop_zero, List.take_succ_cons, List.take_zero, List.cons_append, List.nil_append, List.zipWith_cons_cons, List.zipWith_nil_left, List.mem_cons, List.not_mem_nil, or_false] at hr
  rcases hr with rfl | rfl | rfl | rfl | rfl | rfl
  all_goals exact edge_sz h1 h2 hd (hm _ (by simp)) (hm _ (by simp))
theorem rows_sz {l o : Lg} {rho : Rat} (h1 : LB 20 l) (h2 : LB 20 o) (h : Sz 20 rho) : ∀ r ∈ rowsL l o rho, Sz3 r := fun r hr => by
  rcases List.mem_append.mp hr with hr | hr
  · exact inner_sz h1 h2 r hr
  · exact edges_sz h1 h2 h r hr
theorem best_of_mem {rs : List Row3} (h : rs ≠ []) : ∃ r, bestOf rs = some r ∧ r ∈ rs := by
  cases rs with
  | nil => exact absurd rfl h
  | cons r rs =>
    refine ⟨_, bestOf_cons r rs, ?_⟩
    rcases best_mem rs r with z | z
    · rw [z]; exact List.mem_cons_self ..
    · exact List.mem_cons_of_mem _ z
theorem rows_ne {l o : Lg} {rho : Rat} : rowsL l o rho ≠ [] := by
  unfold rowsL edges crn
  simp
theorem near_sz {l o : Lg} {rho : Rat} (h1 : LB 20 l) (h2 : LB 20 o) (h : Sz 20 rho) : Sz3 (nearL l o rho) ∧ nearL l o rho ∈ rowsL l o rho := by
  obtain ⟨r, e, hr⟩ := best_of_mem (rows_ne (l := l) (o := o) (rho := rho))
  unfold nearL
  rw [e]
  exact ⟨rows_sz h1 h2 h r hr, hr⟩
end DV
namespace DV
open PySem PySem.Spec PyProof.Rows L2
/-! ### xs[::-1] of a tuple -/
section
variable {prog : Program} {w : World} {A : Around} {E : Value → Shared → Prop} {s : Shared}
theorem sliceApplied_rev {sl : Addr} {n : Nat} {tk : Tok} {vs : Value} {Q : Int × Int × Nat → Shared → Prop} (hs : s.heap.IsSliceOf sl .none .none vs) (ps : IsPart vs (some (-1)))
    (h : Q ((n : Int) - 1, -1, n) s) : wpAny (model prog w) A (Builtin.Slice.sliceApplied (.ref sl) (pure (n : Int))) Q E s := by
  obtain ⟨os, hos, hcs, hds⟩ := id hs
  unfold Builtin.Slice.sliceApplied Builtin.Slice.sliceFields
  refine wpAny_bind (wpAny_bind (wpAny_field hos hds (x := .none) rfl (wpAny_bind (wpAny_field hos hds (x := .none) rfl (wpAny_bind (wpAny_field hos hds (x := vs) rfl (wpAny_pure ?_)))))))
  refine wpAny_bind (HT.slicePart_ ps ?_)
  show wpAny _ _ (if ((-1 : Int) == 0) = true then _ else _) _ _ s
  rw [if_neg (by decide)]
  refine wpAny_bind (HT.slicePart_ .none (wpAny_bind (HT.slicePart_ .none (wpAny_bind (wpAny_pure ?_)))))
  show wpAny _ _ (match Builtin.Slice.sliceAdjust none none (-1) (n : Int) with | (lo, hi) => pure (lo, (-1 : Int), Builtin.Slice.slicePlaces lo hi (-1))) _ _ s
  have e1 : Builtin.Slice.sliceAdjust none none (-1) (n : Int) = ((n : Int) - 1, -1) := by
    unfold Builtin.Slice.sliceAdjust
    simp
  rw [e1]
  show wpAny _ _ (pure ((n : Int) - 1, (-1 : Int), Builtin.Slice.slicePlaces ((n : Int) - 1) (-1) (-1))) _ _ s
  have e2 : Builtin.Slice.slicePlaces ((n : Int) - 1) (-1) (-1) = n := by
    unfold Builtin.Slice.slicePlaces
    simp only [show ¬ ((-1 : Int) > 0) by decide, if_false]
    split
    · rw [show (-(-1) : Int) = 1 by decide, Int.ediv_one]; omega
    · omega
  rw [e2]
  exact wpAny_pure h
theorem fm_congr {α β : Type} {f g : α → Option β} : ∀ {l : List α}, (∀ k ∈ l, f k = g k) → l.filterMap f = l.filterMap g
  | [], _ => rfl
  | x :: l, h => by
    rw [List.filterMap_cons, List.filterMap_cons, h x (List.mem_cons_self ..), fm_congr fun k hk => h k (List.mem_cons_of_mem _ hk)]
theorem pick_rev (xs : Array Value) : ((List.range xs.size).filterMap fun (k : Nat) => xs[((xs.size : Int) - 1 + (k : Int) * -1).toNat]?).toArray = xs.toList.reverse.toArray := by
  congr 1
  have h : ∀ k ∈ List.range xs.size, xs[((xs.size : Int) - 1 + (k : Int) * -1).toNat]? = xs.toList.reverse[k]? := by
    intro k hk
    have hk : k < xs.size := List.mem_range.mp hk
    rw [List.getElem?_reverse (by simpa using hk), Array.length_toList, show ((xs.size : Int) - 1 + (k : Int) * -1).toNat = xs.size - 1 - k by omega, Array.getElem?_toList]
  have : (List.range xs.size).filterMap (fun (k : Nat) => xs[((xs.size : Int) - 1 + (k : Int) * -1).toNat]?) = (List.range xs.size).filterMap (fun k => xs.toList.reverse[k]?) := fm_congr h
  rw [this]
  have e : xs.size = xs.toList.reverse.length := by simp
  rw [e]
  generalize xs.toList.reverse = ys
  apply List.ext_getElem?
  intro i
  have : (List.range ys.length).filterMap (fun k => ys[k]?) = ys := by
    clear i e this h
    induction ys with
    | nil => rfl
    | cons y ys ih =>
      rw [List.length_cons, List.range_succ_eq_map, List.filterMap_cons]
      simp only [List.getElem?_cons_zero, List.filterMap_map]
      congr 1
  rw [this]
theorem getItem_tuple_rev {t sl : Addr} {items : Array Value} {vs : Value} {Q : Value → Shared → Prop} (ht : IsTup s.heap t items) (hs : s.heap.IsSliceOf sl .none .none vs) (ps : IsPart vs (some (-1)))
    (h : Q (.ref s.heap.objs.size) { s with heap := s.heap.push { cls := .type "tuple", data := .seq items.toList.reverse.toArray } }) (hsz : items.size ≤ sizeLine) : wpAny (model prog w) A (getItem (.ref t) (.ref sl)) Q E s := by
  have htake : sizeOk (.seq items.toList.reverse.toArray) := by
    show items.toList.reverse.toArray.size ≤ sizeLine
    rw [List.size_toArray, List.length_reverse, Array.length_toList]
    exact hsz
  obtain ⟨os, hos, hcs, hds⟩ := id hs
  have hTs : s.TypeIs (.ref sl) "slice" := ⟨os, hos, hcs⟩
  unfold getItem
  try with_reducible refine wpAny_holding ?_
  first | refine wpAny_bind (wpAny_pure ?_) | skip
  refine wpAny_bind (wpAny_sequenceKey ht.typeIs (by decide) ?_)
  refine wpAny_bind (wpAny_callSpecial?_slot (name := Str.ofString "__getitem__") ht.typeIs PyProof.Rows.slot_tuple_getitem
    (wpAny_call_entry PyProof.Rows.slot_tuple_getitem ht.typeIs entry_tuple_getitem ?_ (args_tuple_getitem _ _)))
  show wpAny _ _ (Builtin.Tuple.tupleItemsOf (.ref t) >>= _) _ _ s
  refine wpAny_bind (tupleItemsOf_ ht ?_)
  refine wpAny_bind (wpAny_typeOf hTs ?_)
  rw [if_pos (by decide)]
  refine wpAny_bind (sliceApplied_rev (tk := 0) hs ps ?_)
  have hno : ¬ ((((items.size : Int) - 1) == 0 && (-1 : Int) == 1 && items.size == items.size) = true) := by
    intro q
    rw [Bool.and_eq_true, Bool.and_eq_true] at q
    exact absurd q.1.2 (by decide)
  show wpAny _ _ (if (((items.size : Int) - 1) == 0 && (-1 : Int) == 1 && items.size == items.size) = true then _ else _) _ _ s
  rw [if_neg hno, pick_rev]
  first
    | exact wpAny_bind (m := Builtin.Tuple.tupleExact _) (wpAny_newObj_type (wpAny_pure ⟨_, rfl, wpAny_pure h⟩) htake)
    | exact wpAny_bind (m := Builtin.Tuple.tupleExact _) (wpAny_newObj_type (wpAny_bind (wpAny_pure (wpAny_pure ⟨_, rfl, wpAny_pure h⟩))) htake)
    | exact wpAny_bind (wpAny_bind (m := Builtin.Tuple.tupleExact _) (wpAny_newObj_type (wpAny_pure (wpAny_pure ⟨_, rfl, wpAny_pure h⟩)) htake))
    | exact wpAny_bind (wpAny_bind (m := Builtin.Tuple.tupleExact _) (wpAny_newObj_type (wpAny_pure ⟨_, rfl, wpAny_pure h⟩) htake))
end
section
variable {X : Cx} {F : Fm} {a b c e : Expr} {es : List Expr} {ta tb tc te : TE} {da db dc de : TDE} {pos : Pos} {t : TA} {d : TDA}
def tRevT (K : PySem.W.Frag) (te : TE) : TE := fun σ H Q => te σ H fun x H1 => ∃ a xs, x = .ref a ∧ SqT K H1 a xs ∧ ∀ p, H1 p = none → Q (.ref p) (upd H1 p (.tup xs.reverse))
theorem pe_revT {k : Nat} {p1 p2 p3 : Pos} (he : PE X e te) : PE X (.Subscript e (.Slice none none (some (.UnaryOp .USub (.Constant (.int 1) k p1) p2)) p3) pos) (tRevT X.K te) := by
  refine ⟨fun pins s σ H Q I h => ?_⟩
  refine Subscript_ (thn (he.run pins s σ H _ I h) fun v s1 ⟨x, H1, I1, r1, q1⟩ => ?_)
  obtain ⟨a, xs, ex, hx, q⟩ := q1
  subst ex
  cases r1
  have hst : PO X (some (.UnaryOp .USub (.Constant (.int 1) k p1) p2)) (tPart (tUn (rU fun i => .int (-i)) (tC (.int 1)))) := po_some (pe_un un_neg pe_int)
  refine wpAny_Slice (thn (po_none.run pins s1 σ H1 (fun o H2 => o = none ∧ H2 = H1) I1 ⟨rfl, rfl⟩) fun vl s2 ⟨l, H2, I2, pl, el, e2⟩ => ?_)
  subst el e2
  refine thn (po_none.run pins s2 σ H2 (fun o H3 => o = none ∧ H3 = H2) I2 ⟨rfl, rfl⟩) fun vu s3 ⟨u, H3, I3, pu, eu, e3⟩ => ?_
  subst eu e3
  refine thn (hst.run pins s3 σ H3 (fun o H4 => o = some (-1) ∧ H4 = H3) I3 ⟨1, rfl, -1, rfl, rfl, rfl⟩) fun vs s4 ⟨o, H4, I4, ps, eo, e4⟩ => ?_
  subst eo e4
  cases pl; cases pu
  have I5 : Inv X pins σ H4 { s4 with heap := s4.heap.push { cls := .type "slice", data := .fields #[.none, .none, vs] } } := I4.kept (t' := s4.toks) fun b ob q => Heap.get?_push_of_some _ q
  obtain ⟨its, r, ht, hz⟩ := I5.tuple hx
  have hlen := r.length
  show wpAny (model X.prog X.w) X.A (subscriptTail e (.Slice none none (some (.UnaryOp .USub (.Constant (.int 1) k p1) p2)) p3) (.ref a) (.ref s4.heap.objs.size)) (EP X pins σ Q) X.xe { s4 with heap := s4.heap.push { cls := .type "slice", data := .fields #[.none, .none, vs] } }
  refine tail_any (ops := [.ref a, .ref s4.heap.objs.size]) ht.typeIs (PyProof.Rows.slot_tuple_getitem.lookup) ?_ (by with_unfolding_all rfl)
  refine getItem_tuple_rev ht (Heap.IsSliceOf.new _ .none .none vs) ps ?_ (by rw [List.size_toArray]; omega)
  refine ⟨.ref _, _, I5.laid (t' := s4.toks) (o := .tup xs.reverse) (fun b ob q => Heap.get?_push_of_some _ q) (Nat.le_refl _) ?_, rfl, q _ (I5.hok.fresh (Nat.le_refl _))⟩
  refine ⟨by rw [List.length_reverse]; exact hz, its.reverse, r.reverse, ?_⟩
  have : its.toArray.toList.reverse.toArray = its.reverse.toArray := by simp
  rw [this]
  exact IsTup.new _ _
theorem ImAll.reverse {K : PySem.W.Frag} {N : Addr → Prop} {H : Hp} : ∀ {ds : List PyData} {vs : List V}, ImAll K N H ds vs → ImAll K N H ds.reverse vs.reverse
  | [], _, h => by simp only [ImAll] at h; subst h; exact .nil
  | d :: ds, _, h => by
    simp only [ImAll] at h
    obtain ⟨x, xs, rfl, l, t⟩ := h
    rw [List.reverse_cons, List.reverse_cons]
    exact t.reverse.append (.cons l .nil)
def dRevT (te : TDE) : TDE := fun ρ Q => te ρ fun r ρ1 => onT r fun xs => Q (.d (.tuple xs.reverse)) ρ1
theorem pd_revT {k : Nat} {p1 p2 p3 : Pos} (he : PD X F e te de) (hK : X.K = F.K := by rfl) : PD X F (.Subscript e (.Slice none none (some (.UnaryOp .USub (.Constant (.int 1) k p1) p2)) p3) pos) (tRevT F.K te) (dRevT de) := by
  refine ⟨by have := pe_revT (pos := pos) (k := k) (p1 := p1) (p2 := p2) (p3 := p3) he.pe; rw [hK] at this; exact this, ?_, ?_⟩
  · intro pins ρ σ H Q O h
    refine he.de.run pins ρ σ H _ O (he.de.mono _ _ _ (fun r ρ1 h1 v H1 O1 R1 => ?_) h)
    cases r with
    | o i => exact h1.elim
    | raw u => exact h1.elim
    | d x =>
      cases x <;> first | exact h1.elim | skip
      rename_i xs
      have R1 : Im F.K (Av F pins ρ1 σ) H1 (.tuple xs) v := R1
      simp only [Im] at R1
      obtain ⟨a, vs, rfl, l, im⟩ := R1
      refine ⟨a, vs, rfl, l.sq, fun p hp => ?_⟩
      obtain ⟨O2, i2⟩ := newTup O1 hp im.reverse
      exact h1 _ _ O2 i2
  · intro ρ Q Q' hq h
    refine he.de.mono _ _ _ (fun r ρ1 h1 => ?_) h
    cases r with
    | o i => exact h1.elim
    | raw u => exact h1.elim
    | d x =>
      cases x <;> first | exact h1.elim | skip
      exact hq _ _ h1
/-! ### constants of the module -/
theorem pd_glob {x : Str} {v : V} {u : Value} {z : PyData} (hg : Gl X x) (hm : X.mg x = some u) (r : RelV v u) (hz : Sc z v) (hd : (x == ("__debug__" : Str)) = false := by decide) : PD X F (.Name x pos) (tC v) (dC z) := ⟨pe_glob hg hm r hd, de_c hz⟩
theorem pd_globI {x : Str} {i : Int} (hg : Gl X x) (hm : ∃ tk, X.mg x = some (.int i tk)) (hd : (x == ("__debug__" : Str)) = false := by decide) : PD X F (.Name x pos) (tC (.int i)) (dC (.int i)) := pd_glob hg hm.choose_spec ⟨_, rfl⟩ .int hd
theorem op_eqI : OpR X (compareOp .Eq) (rI0 fun i j => .bl (decide (i = j))) := by
  intro pins s σ H x y v u Q I rx ry h
  obtain ⟨i, j, rfl, rfl, q⟩ := h
  refine op_eq pins s σ H _ _ v u Q I rx ry ⟨rfl, ?_⟩
  rw [show decide (V.int i = V.int j) = decide (i = j) by rw [dec_int, Bool.beq_eq_decide_eq]]
  exact q
end
end DV
namespace DV
open PySem PySem.Spec PyProof.Rows L2
open scoped Rat
theorem u_take {m : Nat} {n : Int} {bag : List PyData} {Q : PyData → List PyData → Prop} (hb : Bag m bag) (hm : m + 1 < 2 ^ 60) (h0 : 0 < n) (h1 : n ≤ 1000000000) (q : ∀ v bag', 0 ≤ v → v < n → Bag (m + 1) bag' → Q (.int v) bag') : S_take bag [.int n] Q :=
  ⟨m, n, hb, by omega, rfl, h0, Nat.lt_of_lt_of_le (show n.natAbs < 2 ^ 30 by omega) (Nat.pow_le_pow_right (by decide) (by decide)), q⟩
theorem u_some {m : Nat} {ys : List PyData} {bag : List PyData} {Q : PyData → List PyData → Prop} (hb : Bag m bag) (hm : m + 1 < 2 ^ 60) (h0 : 0 < ys.length) (h1 : ys.length ≤ 100000) (q : ∀ y ∈ ys, ∀ bag', Bag (m + 1) bag' → Q y bag') : S_some bag [.list ys] Q :=
  ⟨m, ys, hb, by omega, .inl rfl, h0, h1, fun y b h => q y h b⟩
theorem u_alike {x : PyData} {Q : PyData → Prop} (h : Fine x) (q : Q (.bool true)) : S_alike [x, x] Q := ⟨⟨rfl, h⟩, q⟩
def isI (lo hi : Int) : PyData → Bool
  | .int d => decide (lo ≤ d) && decide (d ≤ hi)
  | _ => false
theorem of_isI {lo hi : Int} {y : PyData} (h : isI lo hi y = true) : ∃ d : Int, y = .int d ∧ lo ≤ d ∧ d ≤ hi := by
  cases y <;> first | cases h | skip
  rename_i d
  simp only [isI, Bool.and_eq_true, decide_eq_true_eq] at h
  exact ⟨d, rfl, h⟩
theorem of_all {lo hi : Int} {ys : List PyData} (h : ys.all (isI lo hi) = true) : ∀ y ∈ ys, ∃ d : Int, y = .int d ∧ lo ≤ d ∧ d ≤ hi := fun y hy => of_isI (List.all_eq_true.mp h y hy)
theorem bd_of {k : Nat} {i : Int} (b : Int) (h1 : -b ≤ i) (h2 : i ≤ b) (hb : b.natAbs < 2 ^ k := by decide) : Bd k i := by unfold Bd; omega
/-! ### order of data in comparisons -/
theorem eqv_fr {p q : Rat} : PyData.eqv (fr p) (fr q) = decide (p = q) := by
  unfold fr
  simp only [PyData.eqv, PyData.eqvAll, Bool.and_true]
  rw [Bool.beq_eq_decide_eq, Bool.beq_eq_decide_eq, ← Bool.decide_and, decide_eq_decide]
  exact ⟨fun ⟨h1, h2⟩ => Rat.ext h1 (by omega), fun h => by subst h; exact ⟨rfl, rfl⟩⟩
theorem sh_two {i j : Int} : SeqAt.shaped (.tuple [.int i, .int j]) = true := by
  simp [SeqAt.shaped, PyData.canLay0, PyData.canLayAll0, PyData.depth, PyData.depthAll]
theorem sh_fr {p : Rat} : SeqAt.shaped (fr p) = true := sh_two
theorem eqv_pr {a b c d : Int} : PyData.eqv (pr a b) (pr c d) = decide (a = c ∧ b = d) := by
  unfold pr
  simp only [PyData.eqv, PyData.eqvAll, Bool.and_true]
  rw [Bool.beq_eq_decide_eq, Bool.beq_eq_decide_eq, ← Bool.decide_and]
theorem mul_den (s : Rat) : s * ((s.den : Int) : Rat) = (s.num : Rat) := by
  have e2 : s.num /. (s.den : Int) = s := Rat.num_divInt_den s
  have hn := rat_ne (Int.ne_of_gt (den_pos s))
  rw [Rat.divInt_eq_div] at e2
  grind
end DV
namespace DV
open PySem PySem.Spec PyProof.Rows L2
open scoped Rat
/-! ## loops and comprehensions, read by what they make -/
def lcIn (g : TDGt) (tt : TDT) (te : TDE) (vs : List Nat) (Q : List PyData → Rho → Prop) (xs : List PyData) (ρ1 : Rho) : Prop :=
  (∀ i ∈ vs, ρ1[i]? = some none) ∧ ∃ I : Nat → List PyData → Rho → Prop, I 0 [] ρ1 ∧
  (∀ i x acc ρ, xs[i]? = some x → I i acc ρ → g (.d x) ρ fun ρ2 => tt ρ2 fun k ρ3 => if k = true then te ρ3 fun r ρ4 => onDat r fun y => Few (acc.length + 1) ∧ I (i + 1) (acc ++ [y]) (wipeR ρ4 vs) else I (i + 1) acc (wipeR ρ3 vs)) ∧
  ∀ acc ρ, I xs.length acc ρ → Q acc (wipeR ρ vs)
theorem dLc_eq {wi : TDI} {g : TDGt} {tt : TDT} {te : TDE} {vs : List Nat} : dLc wi g tt te vs = fun ρ Q => wi ρ fun xs ρ1 => lcIn g tt te vs Q xs ρ1 := rfl
def forIn1 (g : TDGt) (tb : TDS) (DD : DEnds) (xs : List PyData) (ρ1 : Rho) : Prop := ∃ I : Nat → Rho → Prop, I 0 ρ1 ∧
  (∀ i x ρ, xs[i]? = some x → I i ρ → g (.d x) ρ fun ρ2 => tb { DD with nx := I (i + 1), ct := I (i + 1), bk := DD.nx } ρ2) ∧ ∀ ρ, I xs.length ρ → DD.nx ρ
theorem dFor_eq {wi : TDI} {g : TDGt} {tb : TDS} : dFor wi g tb = fun DD ρ => wi ρ fun xs ρ1 => forIn1 g tb DD xs ρ1 := rfl
section
variable {g : TDGt} {tt : TDT} {te : TDE} {tb : TDS} {DD : DEnds} {vs : List Nat} {Q : List PyData → Rho → Prop} {ρ : Rho}
theorem take_succ_some {α : Type} {as : List α} {i : Nat} {a : α} (h : as[i]? = some a) : as.take (i + 1) = as.take i ++ [a] := by
  rw [List.take_succ, h]; rfl
/-- every item is tested and made; nothing else changes -/
theorem lc_fm {α : Type} (as : List α) (enc : α → PyData) (f : α → Option PyData) (hv : ∀ i ∈ vs, ρ[i]? = some none) (hl : as.length ≤ 100000)
    (turn : ∀ (i : Nat) (a : α), as[i]? = some a → ∀ (C1 : PyData → Rho → Prop) (C2 : Rho → Prop) (n : Nat), Few n → (∀ y, f a = some y → C1 y ρ) → (f a = none → C2 ρ) →
      g (.d (enc a)) ρ fun ρ2 => tt ρ2 fun k ρ3 => if k = true then te ρ3 fun r ρ4 => onDat r fun y => Few n ∧ C1 y (wipeR ρ4 vs) else C2 (wipeR ρ3 vs))
    (q : Q (as.filterMap f) (wipeR ρ vs)) : lcIn g tt te vs Q (as.map enc) ρ := by
  refine ⟨hv, fun i acc ρ' => ρ' = ρ ∧ acc = (as.take i).filterMap f, ⟨rfl, rfl⟩, ?_, ?_⟩
  · rintro i x acc _ hx ⟨rfl, rfl⟩
    rw [List.getElem?_map] at hx
    cases ha : as[i]? with
    | none => rw [ha] at hx; cases hx
    | some a =>
      rw [ha] at hx
      cases hx
      have hi := (List.getElem?_eq_some_iff.mp ha).1
      refine turn i a ha (fun y ρ2 => ρ2 = _ ∧ _ = (as.take (i + 1)).filterMap f) (fun ρ2 => ρ2 = _ ∧ _ = (as.take (i + 1)).filterMap f) _ ?_ (fun y hy => ⟨rfl, ?_⟩) fun hn => ⟨rfl, ?_⟩
      · refine few_le ?_
        have := List.length_filterMap_le f (as.take i)
        rw [List.length_take] at this
        omega
      · rw [take_succ_some ha, List.filterMap_append, List.filterMap_cons, hy]; rfl
      · rw [take_succ_some ha, List.filterMap_append, List.filterMap_cons, hn]; exact (List.append_nil _).symm
  · rintro acc _ ⟨rfl, rfl⟩
    rw [List.length_map, List.take_length]
    exact q
theorem lc_map {α : Type} (as : List α) (enc : α → PyData) (f : α → PyData) (hv : ∀ i ∈ vs, ρ[i]? = some none) (hl : as.length ≤ 100000)
    (turn : ∀ (i : Nat) (a : α), as[i]? = some a → ∀ (C1 : PyData → Rho → Prop) (C2 : Rho → Prop) (n : Nat), Few n → C1 (f a) ρ →
      g (.d (enc a)) ρ fun ρ2 => tt ρ2 fun k ρ3 => if k = true then te ρ3 fun r ρ4 => onDat r fun y => Few n ∧ C1 y (wipeR ρ4 vs) else C2 (wipeR ρ3 vs))
    (q : Q (as.map f) (wipeR ρ vs)) : lcIn g tt te vs Q (as.map enc) ρ := by
  refine lc_fm as enc (fun a => some (f a)) hv hl (fun i a ha C1 C2 n hn h1 _ => turn i a ha C1 C2 n hn (h1 _ rfl)) ?_
  rw [show as.filterMap (fun a => some (f a)) = as.map f from by rw [← List.filterMap_eq_map]; rfl]
  exact q
/-- every item is drawn anew -/
theorem lc_draw {n : Nat} (xs : List PyData) (st : List PyData → Rho) (P : PyData → Prop) (bag : List PyData) (m : Nat) (hb : Bag m bag) (e : ρ = st bag) (hv : ∀ bag, ∀ i ∈ vs, (st bag)[i]? = some none) (hl : xs.length ≤ 100000)
    (turn : ∀ (i : Nat) (x : PyData), xs[i]? = some x → ∀ (m' : Nat) (bag' : List PyData), m ≤ m' → m' + n ≤ m + n * xs.length → Bag m' bag' → ∀ (C1 : PyData → Rho → Prop) (C2 : Rho → Prop) (k : Nat), Few k → (∀ y bag2, P y → Bag (m' + n) bag2 → C1 y (st bag2)) →
      g (.d x) (st bag') fun ρ2 => tt ρ2 fun k' ρ3 => if k' = true then te ρ3 fun r ρ4 => onDat r fun y => Few k ∧ C1 y (wipeR ρ4 vs) else C2 (wipeR ρ3 vs))
    (q : ∀ zs bag', zs.length = xs.length → (∀ z ∈ zs, P z) → Bag (m + n * xs.length) bag' → Q zs (wipeR (st bag') vs)) : lcIn g tt te vs Q xs ρ := by
  subst e
  refine ⟨hv bag, fun i acc ρ' => acc.length = i ∧ i ≤ xs.length ∧ (∀ z ∈ acc, P z) ∧ ∃ bag', Bag (m + n * i) bag' ∧ ρ' = st bag', ⟨rfl, Nat.zero_le _, (by intro z hz; cases hz), bag, by simpa using hb, rfl⟩, ?_, ?_⟩
  · rintro i x acc _ hx ⟨hal, hi0, hP, bag', hb', rfl⟩
    have hi := (List.getElem?_eq_some_iff.mp hx).1
    have hmul : n * i + n ≤ n * xs.length := by
      have := Nat.mul_le_mul_left n (show i + 1 ≤ xs.length by omega)
      rwa [Nat.mul_succ] at this
    refine turn i x hx _ bag' (Nat.le_add_right ..) (by omega) hb' (fun y ρ2 => (acc ++ [y]).length = i + 1 ∧ i + 1 ≤ xs.length ∧ (∀ z ∈ acc ++ [y], P z) ∧ ∃ bag', Bag (m + n * (i + 1)) bag' ∧ ρ2 = st bag') (fun ρ2 => acc.length = i + 1 ∧ i + 1 ≤ xs.length ∧ (∀ z ∈ acc, P z) ∧ ∃ bag', Bag (m + n * (i + 1)) bag' ∧ ρ2 = st bag') (acc.length + 1) (few_le (by omega)) (fun y bag2 hy hb2 => ⟨by rw [List.length_append, hal]; rfl, by omega, fun z hz => ?_, bag2, by rw [Nat.mul_succ]; exact hb2.up (by omega), rfl⟩)
    rcases List.mem_append.mp hz with hz | hz
    · exact hP z hz
    · have : z = y := by simpa using hz
      rw [this]; exact hy
  · rintro acc _ ⟨hal, _, hP, bag', hb', rfl⟩
    exact q acc bag' hal hP hb'
/-- a loop by what holds between its turns: the state is made of s -/
theorem for_st {α S : Type} (as : List α) (enc : α → PyData) (mk : S → Rho) (I : Nat → S → Prop) (s0 : S) (e : ρ = mk s0) (h0 : I 0 s0)
    (turn : ∀ (i : Nat) (a : α) (s : S), as[i]? = some a → I i s → ∀ C : Rho → Prop, (∀ s', I (i + 1) s' → C (mk s')) → g (.d (enc a)) (mk s) fun ρ2 => tb { DD with nx := C, ct := C, bk := DD.nx } ρ2)
    (fin : ∀ s, I as.length s → DD.nx (mk s)) : forIn1 g tb DD (as.map enc) ρ := by
  refine ⟨fun i ρ' => ∃ s, ρ' = mk s ∧ I i s, ⟨s0, e, h0⟩, ?_, ?_⟩
  · rintro i x _ hx ⟨s, rfl, hI⟩
    rw [List.getElem?_map] at hx
    cases ha : as[i]? with
    | none => rw [ha] at hx; cases hx
    | some a =>
      rw [ha] at hx
      cases hx
      exact turn i a s ha hI _ fun s' h' => ⟨s', rfl, h'⟩
  · rintro _ ⟨s, rfl, hI⟩
    rw [List.length_map] at hI
    exact fin s hI
theorem map_id' {xs : List PyData} : xs.map (fun x => x) = xs := List.map_id' xs
theorem rng_map {lo : Int} {n : Nat} : rng lo n = (List.range n).map fun k => PyData.int (lo + (k : Nat)) := rfl
theorem for_rng {S : Type} (lo : Int) (n : Nat) (mk : S → Rho) (I : Nat → S → Prop) (s0 : S) (e : ρ = mk s0) (h0 : I 0 s0)
    (turn : ∀ (i : Nat) (s : S), i < n → I i s → ∀ C : Rho → Prop, (∀ s', I (i + 1) s' → C (mk s')) → g (.d (.int (lo + (i : Nat)))) (mk s) fun ρ2 => tb { DD with nx := C, ct := C, bk := DD.nx } ρ2)
    (fin : ∀ s, I n s → DD.nx (mk s)) : forIn1 g tb DD (rng lo n) ρ := by
  rw [rng_map]
  refine for_st (List.range n) _ mk I s0 e h0 (fun i a s ha hI C hC => ?_) fun s hs => fin s (by rwa [List.length_range] at hs)
  obtain ⟨hi, e⟩ := List.getElem?_eq_some_iff.mp ha
  rw [List.getElem_range] at e
  subst e
  rw [List.length_range] at hi
  exact turn _ s hi hI C hC
end
end DV
namespace DV
open PySem PySem.Spec PyProof.Rows L2
open scoped Rat
def within (s t rho : Rat) : Prop := 0 ≤ s ∧ s ≤ 1 ∧ 0 ≤ t ∧ t ≤ 1 ∧ rabs (s - t) ≤ rho
instance (s t rho : Rat) : Decidable (within s t rho) := by unfold within; infer_instance
theorem fr_abs {q : Rat} : PyData.tuple [.int (if q.num < 0 then -q.num else q.num), .int (q.den : Int)] = fr (rabs q) := by
  unfold rabs
  by_cases h : q < 0
  · rw [if_pos h, if_pos (num_neg.mpr h)]; rfl
  · rw [if_neg h, if_neg (fun z => h (num_neg.mp z))]; rfl
theorem rabs_sz {k : Nat} {q : Rat} (h : Sz k q) : Sz k (rabs q) := by unfold rabs; split; exact h.neg; exact h
theorem clip_same {s : Rat} : clipR s = s ↔ 0 ≤ s ∧ s ≤ 1 := by
  unfold clipR
  constructor
  · intro h
    by_cases h1 : s < 0
    · rw [if_pos h1] at h; rw [← h] at h1; exact absurd h1 (by decide)
    · rw [if_neg h1] at h
      by_cases h2 : 1 < s
      · rw [if_pos h2] at h; rw [← h] at h2; exact absurd h2 (by decide)
      · exact ⟨Rat.not_lt.mp h1, Rat.not_lt.mp h2⟩
  · rintro ⟨h1, h2⟩
    rw [if_neg (Rat.not_lt.mpr h1), if_neg (Rat.not_lt.mpr h2)]
theorem cmp_le {p q : Rat} : cmpR p q ≤ 0 ↔ p ≤ q := by
  unfold cmpR
  by_cases h : p < q
  · rw [if_pos h]; exact ⟨fun _ => Rat.le_of_lt h, fun _ => by decide⟩
  · rw [if_neg h]
    by_cases h2 : q < p
    · rw [if_pos h2]; exact ⟨fun z => absurd z (by decide), fun z => absurd z (Rat.not_le.mpr h2)⟩
    · rw [if_neg h2]; exact ⟨fun _ => Rat.not_lt.mp h2, fun _ => by decide⟩
theorem not_within {s t rho : Rat} : okIn s t rho ↔ within s t rho := by
  unfold okIn within
  simp only [not_or, Rat.not_lt]
  exact ⟨fun ⟨a, b, c, d, e⟩ => ⟨a, c, b, d, e⟩, fun ⟨a, c, b, d, e⟩ => ⟨a, b, c, d, e⟩⟩
def cpairs (n d : Int) : List (Int × Int) := [(0, 0), (n, 0), (d, d - n), (d, d), (d - n, d), (0, n)]
def toCn (d : Int) (p : Int × Int) : Cn := (p.1 /. d, p.2 /. d)
/-! ### the corners in their order -/
theorem lexLt_irr {a : Cn} : ¬ lexLt a a := by unfold lexLt; simp [Rat.lt_irrefl]
theorem lexLt_iff {a b : Cn} : lexLt a b ↔ a.1 < b.1 ∨ (a.1 = b.1 ∧ a.2 < b.2) := by
  unfold lexLt
  by_cases h : a.1 = b.1
  · rw [if_neg (not_not_intro h)]
    exact ⟨fun z => .inr ⟨h, z⟩, fun z => by
      rcases z with z | z
      · rw [h] at z; exact absurd z Rat.lt_irrefl
      · exact z.2⟩
  · rw [if_pos h]
    exact ⟨fun z => .inl z, fun z => by
      rcases z with z | z
      · exact z
      · exact absurd z.1 h⟩
theorem rlt_trans {a b c : Rat} (h : a < b) (k : b < c) : a < c := by grind
theorem lexLt_trans {a b c : Cn} (h : lexLt a b) (k : lexLt b c) : lexLt a c := by
  rw [lexLt_iff] at *
  grind
theorem lexLt_tri {a b : Cn} (h : ¬ lexLt a b) (k : a ≠ b) : lexLt b a := by
  rw [lexLt_iff] at *
  have k : ¬ (a.1 = b.1 ∧ a.2 = b.2) := fun z => k (Prod.ext z.1 z.2)
  grind
theorem lexLt_asym {a b : Cn} (h : lexLt a b) : ¬ lexLt b a := fun k => lexLt_irr (lexLt_trans h k)
/-- two ascending lists with the same members are the same -/
theorem asc_unique : ∀ {xs ys : List Cn}, xs.Pairwise lexLt → ys.Pairwise lexLt → (∀ c, c ∈ xs ↔ c ∈ ys) → xs = ys
  | [], [], _, _, _ => rfl
  | [], y :: ys, _, _, h => absurd ((h y).mpr (List.mem_cons_self ..)) (by simp)
  | x :: xs, [], _, _, h => absurd ((h x).mp (List.mem_cons_self ..)) (by simp)
  | x :: xs, y :: ys, hx, hy, h => by
    rw [List.pairwise_cons] at hx hy
    have e : x = y := by
      by_cases e : x = y
      · exact e
      · have h1 : x ∈ ys := ((List.mem_cons.mp ((h x).mp (List.mem_cons_self ..))).resolve_left e)
        have h2 : y ∈ xs := ((List.mem_cons.mp ((h y).mpr (List.mem_cons_self ..))).resolve_left (fun z => e z.symm))
        exact absurd (hx.1 y h2) (lexLt_asym (hy.1 x h1))
    subst e
    congr 1
    refine asc_unique hx.2 hy.2 fun c => ⟨fun hc => ?_, fun hc => ?_⟩
    · rcases List.mem_cons.mp ((h c).mp (List.mem_cons_of_mem _ hc)) with z | z
      · subst z; exact absurd (hx.1 _ hc) lexLt_irr
      · exact z
    · rcases List.mem_cons.mp ((h c).mpr (List.mem_cons_of_mem _ hc)) with z | z
      · subst z; exact absurd (hy.1 _ hc) lexLt_irr
      · exact z
theorem div_lt {x y d : Int} (hd : 0 < d) : x /. d < y /. d ↔ x < y := by
  rw [Rat.divInt_eq_div, Rat.divInt_eq_div]
  have h : (0 : Rat) < (d : Rat) := Rat.intCast_pos.mpr hd
  have hne := Rat.ne_of_gt h
  rw [Rat.div_lt_iff h]
  have e : (y : Rat) / d * d = y := by grind
  rw [e, Rat.intCast_lt_intCast]
theorem div_eq {x y d : Int} (hd : 0 < d) : x /. d = y /. d ↔ x = y := by
  constructor
  · intro h
    have h1 := (not_congr (div_lt (x := x) (y := y) hd)).mp (by rw [h]; exact Rat.lt_irrefl)
    have h2 := (not_congr (div_lt (x := y) (y := x) hd)).mp (by rw [h]; exact Rat.lt_irrefl)
    omega
  · intro h; rw [h]
theorem lex_pairs {d : Int} (hd : 0 < d) {p q : Int × Int} (h : lle p q) (hne : p ≠ q) : lexLt (toCn d p) (toCn d q) := by
  rw [lexLt_iff]
  unfold toCn
  rw [div_lt hd, div_eq hd, div_lt hd]
  rcases h with h | ⟨h1, h2⟩
  · exact .inl h
  · refine .inr ⟨h1, ?_⟩
    have : p.2 ≠ q.2 := fun z => hne (Prod.ext h1 z)
    omega
/-- what the law makes: each one not yet there is put behind those that are less -/
def insAt (found : List Cn) (c : Cn) : List Cn := if c ∈ found then found else found.insertIdx (found.filter fun o => decide (lexLt o c)).length c
def worthOf (cs : List Cn) : List Cn := cs.foldl insAt []
theorem asc_split : ∀ {found : List Cn} {c : Cn}, found.Pairwise lexLt → c ∉ found → ∃ l r, found = l ++ r ∧ (found.filter fun o => decide (lexLt o c)).length = l.length ∧ (∀ x ∈ l, lexLt x c) ∧ ∀ x ∈ r, lexLt c x
  | [], c, _, _ => ⟨[], [], rfl, rfl, (by intro x h; cases h), (by intro x h; cases h)⟩
  | x :: xs, c, h, hc => by
    rw [List.pairwise_cons] at h
    have hx : x ≠ c := fun z => hc (by rw [z]; exact List.mem_cons_self ..)
    by_cases hl : lexLt x c
    · obtain ⟨l, r, e, h1, h2, h3⟩ := asc_split (found := xs) (c := c) h.2 (fun z => hc (List.mem_cons_of_mem _ z))
      refine ⟨x :: l, r, by rw [e]; rfl, ?_, fun y hy => ?_, h3⟩
      · rw [List.filter_cons, if_pos (by simpa using hl), List.length_cons, List.length_cons, h1]
      · rcases List.mem_cons.mp hy with rfl | hy
        · exact hl
        · exact h2 y hy
    · have hg := lexLt_tri hl hx
      refine ⟨[], x :: xs, rfl, ?_, (by intro y h; cases h), fun y hy => ?_⟩
      · rw [List.length_nil, List.length_eq_zero_iff, List.filter_eq_nil_iff]
        intro y hy
        rw [decide_eq_true_eq]
        rcases List.mem_cons.mp hy with rfl | hy
        · exact hl
        · exact lexLt_asym (lexLt_trans hg (h.1 y hy))
      · rcases List.mem_cons.mp hy with rfl | hy
        · exact hg
        · exact lexLt_trans hg (h.1 y hy)
theorem insertIdx_append {α : Type} (l r : List α) (c : α) : (l ++ r).insertIdx l.length c = l ++ c :: r := by
  induction l with
  | nil => rfl
  | cons x l ih => rw [List.cons_append, List.length_cons, List.insertIdx_succ_cons, ih]; rfl
theorem insAt_asc {found : List Cn} {c : Cn} (h : found.Pairwise lexLt) : (insAt found c).Pairwise lexLt ∧ ∀ x, x ∈ insAt found c ↔ x = c ∨ x ∈ found := by
  unfold insAt
  split
  · rename_i hc
    exact ⟨h, fun x => ⟨fun z => .inr z, fun z => by rcases z with rfl | z; exact hc; exact z⟩⟩
  · rename_i hc
    obtain ⟨l, r, e, h1, h2, h3⟩ := asc_split h hc
    rw [h1, e, insertIdx_append]
    rw [e, List.pairwise_append] at h
    refine ⟨?_, fun x => by simp only [List.mem_append, List.mem_cons]; constructor <;> (intro z; rcases z with z | z | z <;> simp [z])⟩
    rw [List.pairwise_append]
    refine ⟨h.1, List.pairwise_cons.mpr ⟨h3, h.2.1⟩, fun a ha b hb => ?_⟩
    rcases List.mem_cons.mp hb with rfl | hb
    · exact h2 a ha
    · exact h.2.2 a ha b hb
theorem worth_asc : ∀ (cs found : List Cn), found.Pairwise lexLt → (cs.foldl insAt found).Pairwise lexLt ∧ ∀ x, x ∈ cs.foldl insAt found ↔ x ∈ cs ∨ x ∈ found
  | [], found, h => ⟨h, fun x => by simp⟩
  | c :: cs, found, h => by
    obtain ⟨h1, h2⟩ := insAt_asc (c := c) h
    obtain ⟨h3, h4⟩ := worth_asc cs _ h1
    refine ⟨h3, fun x => ?_⟩
    rw [List.foldl_cons, h4, h2, List.mem_cons]
    constructor
    · rintro (z | z | z) <;> simp [z]
    · rintro ((z | z) | z) <;> simp [z]
/-- the corners of the program are those of the law -/
theorem corners_same {rho : Rat} {qs : List (Int × Int)} (h : SortdS (cpairs rho.num rho.den) qs) : qs.map (toCn rho.den) = worthOf (crn rho) := by
  have hd := den_pos rho
  obtain ⟨w1, w2⟩ := worth_asc (crn rho) [] .nil
  obtain ⟨s1, s2, s3⟩ := h
  refine asc_unique ?_ w1 fun c => ?_
  · rw [List.pairwise_map]
    exact (s1.and s2).imp fun ⟨h1, h2⟩ => lex_pairs hd h2 h1
  · unfold worthOf
    rw [w2]
    have e0 : (0 : Rat) = (0 : Int) /. (rho.den : Int) := (Rat.zero_divInt _).symm
    have e1 : (1 : Rat) = (rho.den : Int) /. (rho.den : Int) := (Rat.divInt_self' (Int.ne_of_gt hd)).symm
    have er : rho.num /. (rho.den : Int) = rho := (rat_ndi rho).symm
    have es : ((rho.den : Int) - rho.num) /. (rho.den : Int) = 1 - rho := by rw [← sub_divInt (Int.ne_of_gt hd), ← e1, er]
    have hm : crn rho = (cpairs rho.num rho.den).map (toCn rho.den) := by
      unfold crn cpairs toCn
      simp only [List.map_cons, List.map_nil, er, es, ← e0, ← e1]
    rw [hm]
    simp only [List.mem_map, List.not_mem_nil, or_false, s3]
end DV
namespace DV
open PySem PySem.Spec PyProof.Rows L2
/-! ## comprehensions of two fors -/
section
variable {F : Fm} {tt tt1 : TT} {dt dt1 : TDT} {te : TE} {de : TDE}
def dLc2 (wi : TDI) (g : TDGt) (tt : TDT) (wi1 : TDI) (g1 : TDGt) (tt1 : TDT) (te : TDE) (vs vs1 : List Nat) : TDL := fun ρ Q => wi ρ fun xs ρ1 => (∀ i ∈ vs, ρ1[i]? = some none) ∧ ∃ I : Nat → List PyData → Rho → Prop, I 0 [] ρ1 ∧
  (∀ i x acc ρ, xs[i]? = some x → I i acc ρ → g (.d x) ρ fun ρ2 => tt ρ2 fun k ρ3 => if k = true then wi1 ρ3 fun ys ρ4 => (∀ i ∈ vs1, ρ4[i]? = some none) ∧ ∃ J : Nat → List PyData → Rho → Prop, J 0 acc ρ4 ∧
      (∀ j y acc ρ, ys[j]? = some y → J j acc ρ → g1 (.d y) ρ fun ρ5 => tt1 ρ5 fun k ρ6 => if k = true then te ρ6 fun r ρ7 => onDat r fun z => Few (acc.length + 1) ∧ J (j + 1) (acc ++ [z]) (wipeR ρ7 vs1) else J (j + 1) acc (wipeR ρ6 vs1)) ∧
      ∀ acc ρ, J ys.length acc ρ → I (i + 1) acc (wipeR ρ vs)
    else I (i + 1) acc (wipeR ρ3 vs)) ∧
  ∀ acc ρ, I xs.length acc ρ → Q acc (wipeR ρ vs)
theorem wipeR_id {ρ : Rho} : ∀ {vs : List Nat}, (∀ i ∈ vs, ρ[i]? = some none) → wipeR ρ vs = ρ
  | [], _ => rfl
  | k :: ks, hk => by
    show (wipeR ρ ks).set k none = ρ
    rw [wipeR_id fun i hi => hk i (List.mem_cons_of_mem _ hi)]
    apply List.ext_getElem?
    intro n
    by_cases e : k = n
    · subst e
      have := hk k (List.mem_cons_self ..)
      have hl : k < ρ.length := by
        rcases Nat.lt_or_ge k ρ.length with z | z
        · exact z
        · rw [List.getElem?_eq_none z] at this; cases this
      rw [List.getElem?_set_self hl, this]
    · rw [List.getElem?_set_ne e]
theorem wipe_at {σ : L2.St} {k : Nat} : ∀ {ws : List Nat}, k ∈ ws → k < σ.length → (wipe σ ws)[k]? = some none
  | [], h, _ => by cases h
  | w :: ws, h, hl => by
    show ((wipe σ ws).set w none)[k]? = some none
    by_cases e : w = k
    · subst e
      rw [List.getElem?_set_self (by rw [wipe_length]; exact hl)]
    · rw [List.getElem?_set_ne e]
      rcases List.mem_cons.mp h with z | z
      · exact absurd z.symm e
      · exact wipe_at z hl
theorem set_id {σ : L2.St} {k : Nat} (h : σ[k]? = some none ∨ σ.length ≤ k) : σ.set k none = σ := by
  apply List.ext_getElem?
  intro n
  by_cases e : k = n
  · subst e
    rcases h with h | h
    · have hl := (List.getElem?_eq_some_iff.mp h).1
      rw [List.getElem?_set_self hl, h]
    · rw [List.getElem?_eq_none (by rw [List.length_set]; exact h), List.getElem?_eq_none h]
  · rw [List.getElem?_set_ne e]
/-- what is wiped in the outer list may be wiped ahead or behind -/
theorem wipe_sub {σ : L2.St} {vs : List Nat} : ∀ {us : List Nat}, (∀ i ∈ us, i ∈ vs) → wipe (wipe σ vs) us = wipe σ vs
  | [], _ => rfl
  | k :: ks, hk => by
    show (wipe (wipe σ vs) ks).set k none = wipe σ vs
    rw [wipe_sub fun i hi => hk i (List.mem_cons_of_mem _ hi)]
    refine set_id ?_
    by_cases hl : k < σ.length
    · exact .inl (wipe_at (hk k (List.mem_cons_self ..)) hl)
    · exact .inr (by rw [wipe_length]; omega)
theorem wipe_nth {σ : L2.St} {vs : List Nat} {n : Nat} : (wipe σ vs)[n]? = if n ∈ vs ∧ n < σ.length then some none else σ[n]? := by
  induction vs with
  | nil => simp [wipe]
  | cons k ks ih =>
    show ((wipe σ ks).set k none)[n]? = _
    by_cases e : k = n
    · subst e
      by_cases hl : k < σ.length
      · rw [List.getElem?_set_self (by rw [wipe_length]; exact hl), if_pos ⟨List.mem_cons_self .., hl⟩]
      · rw [List.getElem?_eq_none (by rw [List.length_set, wipe_length]; omega), if_neg (fun z => hl z.2), List.getElem?_eq_none (by omega)]
    · rw [List.getElem?_set_ne e, ih]
      have : (n ∈ k :: ks) ↔ n ∈ ks := by simp [List.mem_cons, Ne.symm e]
      simp only [this]
theorem wipe_behind {σ : L2.St} {vs us : List Nat} (h : ∀ i ∈ us, i ∈ vs) : wipe (wipe σ us) vs = wipe σ vs := by
  apply List.ext_getElem?
  intro n
  rw [wipe_nth, wipe_nth, wipe_nth, wipe_length]
  by_cases h1 : n ∈ vs ∧ n < σ.length
  · rw [if_pos h1, if_pos h1]
  · rw [if_neg h1, if_neg h1]
    by_cases h2 : n ∈ us ∧ n < σ.length
    · exact absurd ⟨h n h2.1, h2.2⟩ h1
    · rw [if_neg h2]
theorem dl_lc2 {wi wi1 : TI} {dw dw1 : TDI} {g g1 : TG} {dg dg1 : TDGt} {vs vs1 : List Nat} (hi : DI F wi dw) (hg : DG F g dg vs) (ht : DT F tt dt) (hi1 : DI F wi1 dw1) (hg1 : DG F g1 dg1 vs1) (ht1 : DT F tt1 dt1) (he : DE F te de) (hv : ∀ i ∈ vs1, i ∈ vs) :
    DL F (tLc2 wi g tt wi1 g1 tt1 te vs vs1) (dLc2 dw dg dt dw1 dg1 dt1 de vs vs1) := by
  constructor
  · intro pins ρ σ H Q O h
    refine hi.run pins ρ σ H _ O (hi.mono _ _ _ (fun xs ρ1 h1 J H1 pl W hpl O1 D hD => ?_) h)
    obtain ⟨hno, I, h0, hturn, hend⟩ := h1
    have hfr : ∀ {p : List Pin}, (∀ q ∈ p, q ∈ pl ++ pins ∨ ∃ a ys, q = .acc a ys) → ∀ i ∈ vs, Fr p i := fun {p} hp i hi v j hm e => by
      subst e
      rcases hp _ hm with z | ⟨a, ys, z⟩
      · obtain ⟨_, x, hx⟩ := O1.pin _ z
        unfold slot at hx
        rw [hno j hi] at hx
        cases hx
      · cases z
    have hin : ∀ acc, ∀ p ∈ pl, p ∈ (Pin.acc D acc :: (pl ++ pins)) := fun acc p hp => List.mem_cons_of_mem _ (List.mem_append_left _ hp)
    have hfr2 : ∀ acc, ∀ i ∈ vs, Fr (Pin.acc D acc :: (pl ++ pins)) i := fun acc => hfr fun q hq => by
      rcases List.mem_cons.mp hq with z | z
      · exact .inr ⟨_, _, z⟩
      · exact .inl z
    have start : Ok F (.acc D [] :: (pl ++ pins)) ρ1 σ (upd H1 D (.lst [])) := O1.pushL hD .nil
    have start2 : Ok F (.acc D [] :: (pl ++ pins)) ρ1 (wipe σ vs) (upd H1 D (.lst [])) := by
      have := start.wipe (hfr2 [])
      rw [wipeR_id hno] at this
      exact this
    refine ⟨fun i m H => ∃ acc ρ, Ok F (.acc D acc :: (pl ++ pins)) ρ (wipe σ vs) H ∧ I i acc ρ ∧ i ≤ xs.length ∧ m = xs.length - i, ⟨_, [], ρ1, start2, h0, Nat.zero_le _, rfl⟩, ?_⟩
    rintro i m H2 ⟨acc, ρ2, O2, i2, hle, rfl⟩
    by_cases hlt : i < xs.length
    · refine .inr ⟨W.goes i _ ρ2 _ H2 (hin acc) hlt O2, fun H' => ∃ acc ρ, Ok F (.acc D acc :: (pl ++ pins)) ρ (wipe σ vs) H' ∧ I (i + 1) acc ρ, fun H' ⟨acc', ρ', O', i'⟩ => ⟨xs.length - (i + 1), by omega, acc', ρ', O', i', by omega, rfl⟩, fun x H3 hy => ?_⟩
      obtain ⟨y, ey, O3, im⟩ := W.yld i _ ρ2 _ H2 x H3 (hin acc) hlt O2 hy
      refine hg.run _ ρ2 _ H3 x (.d y) _ _ O3 (hfr2 acc) im (hturn i y acc ρ2 ey i2) fun ρ4 σ4 H4 O4 so q => ?_
      have hw4 : wipe σ4 vs = wipe σ vs := by
        have := so vs fun _ h => h
        rw [this]
        exact wipe_sub fun _ h => h
      refine ⟨hw4, ?_⟩
      refine ht.run _ ρ4 σ4 H4 _ O4 (ht.mono _ _ _ (fun k ρ5 h5 H5 O5 => ?_) q)
      cases k with
      | false =>
        have := O5.wipe (hfr2 acc)
        rw [hw4] at this
        exact ⟨acc, _, this, h5⟩
      | true =>
        refine hi1.run _ ρ5 σ4 H5 _ O5 (hi1.mono _ _ _ (fun ys ρ6 h6 J1 H6 pm W1 hpm O6 => ?_) h5)
        obtain ⟨hno1, I1, h01, hturn1, hend1⟩ := h6
        -- the new list stands ahead again
        have ahead : ∀ {acc : List PyData} {ρ : Rho} {σ : L2.St} {H : Hp}, Ok F (pm ++ Pin.acc D acc :: (pl ++ pins)) ρ σ H → Ok F (.acc D acc :: (pm ++ (pl ++ pins))) ρ σ H := fun {acc ρ σ H} O => by
          refine O.sub (fun p hp => ?_) ?_
          · rcases List.mem_cons.mp hp with z | z
            · exact List.mem_append_right _ (z ▸ List.mem_cons_self ..)
            · rcases List.mem_append.mp z with z | z
              · exact List.mem_append_left _ z
              · exact List.mem_append_right _ (List.mem_cons_of_mem _ z)
          · rw [accs_app hpm]
            show D :: accs (pm ++ (pl ++ pins)) = D :: accs (pl ++ pins)
            rw [accs_app hpm]
        have hfr1 : ∀ acc, ∀ i ∈ vs1, Fr (Pin.acc D acc :: (pm ++ (pl ++ pins))) i := fun acc i hi v j hm e => by
          subst e
          rcases List.mem_cons.mp hm with z | z
          · cases z
          · have : Pin.val v (.o j) ∈ (pm ++ Pin.acc D acc :: (pl ++ pins)) := by
              rcases List.mem_append.mp z with z | z
              · exact List.mem_append_left _ z
              · exact List.mem_append_right _ (List.mem_cons_of_mem _ z)
            have this2 : Pin.val v (.o j) ∈ (pm ++ Pin.acc D acc :: (pl ++ pins)) := this
            have hm2 : ∀ acc', Pin.val v (.o j) ∈ (pm ++ Pin.acc D acc' :: (pl ++ pins)) := fun acc' => by
              rcases List.mem_append.mp z with z | z
              · exact List.mem_append_left _ z
              · exact List.mem_append_right _ (List.mem_cons_of_mem _ z)
            obtain ⟨_, x, hx⟩ := O6.pin _ (hm2 _)
            unfold slot at hx
            rw [hno1 j hi] at hx
            cases hx
        have hin1 : ∀ acc, ∀ p ∈ pm, p ∈ (Pin.acc D acc :: (pm ++ (pl ++ pins))) := fun acc p hp => List.mem_cons_of_mem _ (List.mem_append_left _ hp)
        have O6s : Ok F (.acc D acc :: (pm ++ (pl ++ pins))) ρ6 (wipe σ4 vs1) H6 := by
          have := (ahead O6).wipe (hfr1 acc)
          rw [wipeR_id hno1] at this
          exact this
        refine ⟨fun j m H => ∃ acc ρ, Ok F (.acc D acc :: (pm ++ (pl ++ pins))) ρ (wipe σ4 vs1) H ∧ I1 j acc ρ ∧ j ≤ ys.length ∧ m = ys.length - j, ⟨_, acc, ρ6, O6s, h01, Nat.zero_le _, rfl⟩, ?_⟩
        rintro j m1 H7 ⟨acc1, ρ7, O7, i7, hle1, rfl⟩
        by_cases hlt1 : j < ys.length
        · refine .inr ⟨W1.goes j _ ρ7 _ H7 (hin1 acc1) hlt1 O7, fun H' => ∃ acc ρ, Ok F (.acc D acc :: (pm ++ (pl ++ pins))) ρ (wipe σ4 vs1) H' ∧ I1 (j + 1) acc ρ, fun H' ⟨acc', ρ', O', i'⟩ => ⟨ys.length - (j + 1), by omega, acc', ρ', O', i', by omega, rfl⟩, fun x1 H8 hy1 => ?_⟩
          obtain ⟨y1, ey1, O8, im1⟩ := W1.yld j _ ρ7 _ H7 x1 H8 (hin1 acc1) hlt1 O7 hy1
          refine hg1.run _ ρ7 _ H8 x1 (.d y1) _ _ O8 (hfr1 acc1) im1 (hturn1 j y1 acc1 ρ7 ey1 i7) fun ρ9 σ9 H9 O9 so9 q9 => ?_
          have hw9 : wipe σ9 vs1 = wipe σ4 vs1 := by
            have := so9 vs1 fun _ h => h
            rw [this]
            exact wipe_sub fun _ h => h
          refine ⟨hw9, ?_⟩
          refine ht1.run _ ρ9 σ9 H9 _ O9 (ht1.mono _ _ _ (fun k ρ10 h10 H10 O10 => ?_) q9)
          cases k with
          | false =>
            have := O10.wipe (hfr1 acc1)
            rw [hw9] at this
            exact ⟨acc1, _, this, h10⟩
          | true =>
            refine he.run _ ρ10 σ9 H10 _ O10 (he.mono _ _ _ (fun r ρ11 h11 w H11 O11 R11 => ?_) h10)
            cases r with
            | o j => exact h11.elim
            | raw u => exact h11.elim
            | d z =>
              obtain ⟨vsD, hHD, hiD, _, _⟩ := O11.pin _ (List.mem_cons_self ..)
              refine ⟨vsD, hHD, ?_, acc1 ++ [z], wipeR ρ11 vs1, ?_, h11.2⟩
              · have := h11.1
                unfold Few at this
                rw [hiD.length]; omega
              · have O12 := (O11.setAcc (hiD.append (.cons R11 .nil))).wipe (hfr1 (acc1 ++ [z]))
                rw [hw9] at O12
                exact O12
        · have e : j = ys.length := by omega
          subst e
          refine .inl ⟨W1.stops _ ρ7 _ H7 (hin1 acc1) O7, acc1, wipeR ρ7 vs, ?_, hend1 acc1 ρ7 i7⟩
          have O8 : Ok F (.acc D acc1 :: (pl ++ pins)) ρ7 (wipe σ4 vs1) H7 := by
            refine O7.sub (fun p hp => ?_) (by show D :: accs (pl ++ pins) = D :: accs (pm ++ (pl ++ pins)); rw [accs_app hpm])
            rcases List.mem_cons.mp hp with z | z
            · exact z ▸ List.mem_cons_self ..
            · exact List.mem_cons_of_mem _ (List.mem_append_right _ z)
          have := O8.wipe (hfr2 acc1)
          rw [wipe_behind hv, hw4] at this
          exact this
    · have e : i = xs.length := by omega
      subst e
      refine .inl ⟨W.stops _ ρ2 _ H2 (hin acc) O2, ?_⟩
      have hq := hend acc ρ2 i2
      refine hq D H2 ?_
      have O3 := O2.wipe (hfr2 acc)
      have O4 : Ok F (.acc D acc :: (pl ++ pins)) (wipeR ρ2 vs) σ H2 := by
        refine Ok.unwipe (vs := vs) (Ok.unwipe (vs := vs) O3 ?_) ?_
        all_goals
          intro i hi
          by_cases hl : i < ρ2.length
          · exact .inl (wipeR_none hi hl)
          · exact .inr (List.getElem?_eq_none (by rw [wipeR_len]; omega))
      refine O4.sub (fun p hp => ?_) (by show D :: accs pins = D :: accs (pl ++ pins); rw [accs_app hpl])
      rcases List.mem_cons.mp hp with z | z
      · exact z ▸ List.mem_cons_self ..
      · exact List.mem_cons_of_mem _ (List.mem_append_right _ z)
  · intro ρ Q Q' hq h
    refine hi.mono _ _ _ (fun xs ρ1 h1 => ?_) h
    obtain ⟨hno, I, h0, hturn, hend⟩ := h1
    exact ⟨hno, I, h0, hturn, fun acc ρ i => hq _ _ (hend acc ρ i)⟩
end
theorem DG.up {F : Fm} {g : TG} {dg : TDGt} {sl sm : List Nat} (h : DG F g dg sl) (k : ∀ i ∈ sl, i ∈ sm) : DG F g dg sm :=
  ⟨fun pins ρ σ H v r Q P O fr ro d q => h.run pins ρ σ H v r Q P O (fun i hi => fr i (k i hi)) ro d fun ρ' σ' H' O' so p => q ρ' σ' H' O' (fun vs hv => so vs fun i hi => hv i (k i hi)) p, h.mono⟩
theorem pl_lc2 {X : Cx} {F : Fm} {elt tg iter tg1 iter1 : Expr} {ifs ifs1 : List Expr} {scope : Scope} {own : List (Str × Nat)} {pos : Pos} {wi wi1 : TI} {dw dw1 : TDI} {g g1 : TG} {dg dg1 : TDGt} {tt tt1 : TT} {dt dt1 : TDT} {te : TE} {de : TDE} {vs0 vs1 : List Nat} (hc : X.calm = true) (hN : X.N.Nodup) (hi : PDI X F tg iter wi dw) (ok : BlkOk X.N X.env.scope scope own) (hu : ∀ i ∈ vs0, i ∈ own.map (·.2)) (hv : ∀ i ∈ vs1, i ∈ own.map (·.2))
    (hg : ∀ (s : Shared) (H : Hp) (C : Addr) (cl : List (Str × Addr)) (fp : List Addr), PDG (X.blk s H scope (compEnvC scope cl C X.env) fp) F tg g dg vs0) (ht : ∀ (s : Shared) (H : Hp) (C : Addr) (cl : List (Str × Addr)) (fp : List Addr), PDTs (X.blk s H scope (compEnvC scope cl C X.env) fp) F ifs tt dt)
    (hi1 : ∀ (s : Shared) (H : Hp) (C : Addr) (cl : List (Str × Addr)) (fp : List Addr), PDI (X.blk s H scope (compEnvC scope cl C X.env) fp) F tg1 iter1 wi1 dw1)
    (hg1 : ∀ (s : Shared) (H : Hp) (C : Addr) (cl : List (Str × Addr)) (fp : List Addr), PDG (X.blk s H scope (compEnvC scope cl C X.env) fp) F tg1 g1 dg1 vs1) (ht1 : ∀ (s : Shared) (H : Hp) (C : Addr) (cl : List (Str × Addr)) (fp : List Addr), PDTs (X.blk s H scope (compEnvC scope cl C X.env) fp) F ifs1 tt1 dt1)
    (he : ∀ (s : Shared) (H : Hp) (C : Addr) (cl : List (Str × Addr)) (fp : List Addr), PD (X.blk s H scope (compEnvC scope cl C X.env) fp) F elt te de) (hs : ∀ x, foldedSetIterable iter X.env x = pure x := by intro _; rfl) (hs1 : ∀ env x, foldedSetIterable iter1 env x = pure x := by intro _ _; rfl) :
    PDL X F (.ListComp elt [⟨tg, iter, ifs, 0⟩, ⟨tg1, iter1, ifs1, 0⟩] scope pos) (tLc2 wi g tt wi1 g1 tt1 te (own.map (·.2)) vs1) (dLc2 dw dg dt dw1 dg1 dt1 de (own.map (·.2)) vs1) := by
  refine ⟨pe_lc2 hc hN hi.pi ok hv (fun s H C cl fp => (hg s H C cl fp).pg) (fun s H C cl fp => (ht s H C cl fp).pts) (fun s H C cl fp => (hi1 s H C cl fp).pi) (fun s H C cl fp => (hg1 s H C cl fp).pg) (fun s H C cl fp => (ht1 s H C cl fp).pts) (fun s H C cl fp => (he s H C cl fp).pe) hs hs1, ?_⟩
  let s0 := (PySem.start X.prog).1
  exact dl_lc2 hi.di ((hg s0 (fun _ => none) 0 [] []).dg.up hu) (ht s0 (fun _ => none) 0 [] []).dt (hi1 s0 (fun _ => none) 0 [] []).di (hg1 s0 (fun _ => none) 0 [] []).dg (ht1 s0 (fun _ => none) 0 [] []).dt (he s0 (fun _ => none) 0 [] []).de hv
end DV
namespace DV
open PySem PySem.Spec PyProof.Rows L2
open scoped Rat
/-! ## more readings: fresh lists, short loops turn by turn -/
def SpF {α : Type} (arg : α → List PyData) (pre : α → Prop) (post : α → List PyData → Prop) : SdL := fun xs Q => ∃ a, xs = arg a ∧ pre a ∧ ∀ zs, post a zs → Q zs
theorem m_SpF {α : Type} {arg : α → List PyData} {pre : α → Prop} {post : α → List PyData → Prop} : MonoF (SpF arg pre post) := fun xs Q Q' hq ⟨a, h1, h2, h3⟩ => ⟨a, h1, h2, fun z hz => hq _ (h3 z hz)⟩
section
variable {g : TDGt} {tt : TDT} {te : TDE} {tb : TDS} {DD : DEnds} {vs : List Nat} {Q : List PyData → Rho → Prop} {ρ : Rho}
def forU (g : TDGt) (tb : TDS) (DD : DEnds) : List PyData → Rho → Prop
  | [], ρ => DD.nx ρ
  | x :: xs, ρ => g (.d x) ρ fun ρ2 => tb { DD with nx := forU g tb DD xs, ct := forU g tb DD xs, bk := DD.nx } ρ2
theorem for_unroll {xs : List PyData} (h : forU g tb DD xs ρ) : forIn1 g tb DD xs ρ := by
  refine ⟨fun i ρ => forU g tb DD (xs.drop i) ρ, h, fun i x ρ hx hu => ?_, fun ρ hu => ?_⟩
  · obtain ⟨hi, e⟩ := List.getElem?_eq_some_iff.mp hx
    dsimp only at hu ⊢
    rw [List.drop_eq_getElem_cons hi, e] at hu
    exact hu
  · dsimp only at hu
    rw [List.drop_length] at hu
    exact hu
def lcU (g : TDGt) (tt : TDT) (te : TDE) (vs : List Nat) (Q : List PyData → Rho → Prop) : List PyData → List PyData → Rho → Prop
  | [], acc, ρ => Q acc (wipeR ρ vs)
  | x :: xs, acc, ρ => g (.d x) ρ fun ρ2 => tt ρ2 fun k ρ3 => if k = true then te ρ3 fun r ρ4 => onDat r fun y => Few (acc.length + 1) ∧ lcU g tt te vs Q xs (acc ++ [y]) (wipeR ρ4 vs) else lcU g tt te vs Q xs acc (wipeR ρ3 vs)
theorem lc_unroll {xs : List PyData} (hv : ∀ i ∈ vs, ρ[i]? = some none) (h : lcU g tt te vs Q xs [] ρ) : lcIn g tt te vs Q xs ρ := by
  refine ⟨hv, fun i acc ρ => lcU g tt te vs Q (xs.drop i) acc ρ, h, fun i x acc ρ hx hu => ?_, fun acc ρ hu => ?_⟩
  · obtain ⟨hi, e⟩ := List.getElem?_eq_some_iff.mp hx
    dsimp only at hu ⊢
    rw [List.drop_eq_getElem_cons hi, e] at hu
    exact hu
  · dsimp only at hu
    rw [List.drop_length] at hu
    exact hu
end
theorem nodup_le {α : Type} : ∀ {xs ys : List α}, xs.Nodup → (∀ x ∈ xs, x ∈ ys) → xs.length ≤ ys.length
  | [], _, _, _ => Nat.zero_le _
  | x :: xs, ys, h, k => by
    obtain ⟨l, r, rfl⟩ := List.append_of_mem (k x (List.mem_cons_self ..))
    obtain ⟨h1, h2⟩ := List.nodup_cons.mp h
    have := nodup_le (xs := xs) (ys := l ++ r) h2 fun y hy => by
      have hm := k y (List.mem_cons_of_mem _ hy)
      simp only [List.mem_append, List.mem_cons] at hm ⊢
      rcases hm with z | z | z
      · exact .inl z
      · subst z; exact absurd hy h1
      · exact .inr z
    simp only [List.length_append, List.length_cons] at this ⊢
    omega
def pf3 (r : DV.Row3) : PyData := .tuple [fr r.1, fr r.2.1, fr r.2.2]
/-! sizes of written tuples and lists -/
theorem fw_of {n : Nat} (h : n ≤ 100000) : (n ≤ sizeLine) = True := eq_true (few_le h)
theorem fw0 : ((0 : Nat) ≤ sizeLine) = True := fw_of (by decide)
theorem fw1 : ((0 : Nat) + 1 ≤ sizeLine) = True := fw_of (by decide)
theorem fw2 : ((0 : Nat) + 1 + 1 ≤ sizeLine) = True := fw_of (by decide)
theorem fw3 : ((0 : Nat) + 1 + 1 + 1 ≤ sizeLine) = True := fw_of (by decide)
theorem fw4 : ((0 : Nat) + 1 + 1 + 1 + 1 ≤ sizeLine) = True := fw_of (by decide)
theorem fw5 : ((0 : Nat) + 1 + 1 + 1 + 1 + 1 ≤ sizeLine) = True := fw_of (by decide)
theorem fw6 : ((0 : Nat) + 1 + 1 + 1 + 1 + 1 + 1 ≤ sizeLine) = True := fw_of (by decide)
theorem fw7 : ((0 : Nat) + 1 + 1 + 1 + 1 + 1 + 1 + 1 ≤ sizeLine) = True := fw_of (by decide)
theorem fw8 : ((0 : Nat) + 1 + 1 + 1 + 1 + 1 + 1 + 1 + 1 ≤ sizeLine) = True := fw_of (by decide)
theorem fw9 : ((0 : Nat) + 1 + 1 + 1 + 1 + 1 + 1 + 1 + 1 + 1 ≤ sizeLine) = True := fw_of (by decide)
theorem fw10 : ((0 : Nat) + 1 + 1 + 1 + 1 + 1 + 1 + 1 + 1 + 1 + 1 ≤ sizeLine) = True := fw_of (by decide)
theorem fw11 : ((0 : Nat) + 1 + 1 + 1 + 1 + 1 + 1 + 1 + 1 + 1 + 1 + 1 ≤ sizeLine) = True := fw_of (by decide)
theorem fw12 : ((0 : Nat) + 1 + 1 + 1 + 1 + 1 + 1 + 1 + 1 + 1 + 1 + 1 + 1 ≤ sizeLine) = True := fw_of (by decide)
theorem fw13 : ((0 : Nat) + 1 + 1 + 1 + 1 + 1 + 1 + 1 + 1 + 1 + 1 + 1 + 1 + 1 ≤ sizeLine) = True := fw_of (by decide)
theorem fw14 : ((0 : Nat) + 1 + 1 + 1 + 1 + 1 + 1 + 1 + 1 + 1 + 1 + 1 + 1 + 1 + 1 ≤ sizeLine) = True := fw_of (by decide)
theorem fw15 : ((0 : Nat) + 1 + 1 + 1 + 1 + 1 + 1 + 1 + 1 + 1 + 1 + 1 + 1 + 1 + 1 + 1 ≤ sizeLine) = True := fw_of (by decide)
theorem ite_nt {c : Prop} [Decidable c] {A B : Prop} (h : ¬ c) (k : A) : if (!decide c) = true then A else B := by rw [decide_eq_false h, if_pos (by rfl)]; exact k
theorem ite_nf {c : Prop} [Decidable c] {A B : Prop} (h : c) (k : B) : if (!decide c) = true then A else B := by rw [decide_eq_true h, if_neg (by decide)]; exact k
theorem ite_nb {c : Prop} [Decidable c] {A B : Prop} (k : ¬ c → A) (m : c → B) : if (!decide c) = true then A else B := by
  by_cases h : c
  · exact ite_nf h (m h)
  · exact ite_nt h (k h)
theorem hv1 {ρ : Rho} {i : Nat} (h : ρ[i]? = some none) : ∀ j ∈ [i], ρ[j]? = some none := fun j hj => by
  have : j = i := by simpa using hj
  rw [this]; exact h
theorem hv2 {ρ : Rho} {i k : Nat} (h : ρ[i]? = some none) (h2 : ρ[k]? = some none) : ∀ j ∈ [i, k], ρ[j]? = some none := fun j hj => by
  have : j = i ∨ j = k := by simpa using hj
  rcases this with e | e <;> rw [e] <;> assumption
theorem hv3 {ρ : Rho} {i k l : Nat} (h : ρ[i]? = some none) (h2 : ρ[k]? = some none) (h3 : ρ[l]? = some none) : ∀ j ∈ [i, k, l], ρ[j]? = some none := fun j hj => by
  have : j = i ∨ j = k ∨ j = l := by simpa using hj
  rcases this with e | e | e <;> rw [e] <;> assumption
theorem zipD_map {α β : Type} (f : α → PyData) (g : β → PyData) (xs : List α) (ys : List β) : zipD (xs.map f) (ys.map g) = (List.zip xs ys).map fun p => .tuple [f p.1, g p.2] := by
  unfold zipD
  rw [List.zipWith_map, List.zip, List.map_zipWith]
theorem cut_tail {xs : List PyData} : DV.cutD xs (some 1) none = xs.drop 1 := by
  cases xs with
  | nil => rfl
  | cons x xs => unfold DV.cutD HT.sIx; simp [Nat.min_def]
theorem cut_head {xs : List PyData} : DV.cutD xs none (some 1) = xs.take 1 := by
  unfold DV.cutD HT.sIx
  simp
end DV
namespace DV
open PySem PySem.Spec PyProof.Rows L2
/-! ## own lists: made data, or gone through while they stand -/
section
variable {X : Cx} {F : Fm} {st : Stmt} {ts : TS} {ds : TDS} {tt : TT} {dt : TDT} {te : TE} {de : TDE}
def dFrz (i : Nat) (t : TDS) : TDS := fun DD ρ => onOwn ρ i fun xs => t DD (ρ.set i (some (.d (.list xs))))
theorem ds_frz {i : Nat} (h : PDS X F st ts ds) (hf : ¬ F.fix i) : PDS X F st ts (dFrz i ds) := by
  refine ⟨h.ps, fun pins ρ σ H D DD O S R k => ?_⟩
  obtain ⟨xs, e, q⟩ := onOwn_of k
  exact h.ds pins _ σ H D DD (O.frz e hf) S R q
def lcO (k : Nat) (g : TDGt) (tt : TDT) (te : TDE) (vs : List Nat) (Q : List PyData → Rho → Prop) (xs : List PyData) (ρ1 : Rho) : Prop :=
  ((∀ i ∈ vs, ρ1[i]? = some none) ∧ k ∉ vs) ∧ ∃ I : Nat → List PyData → Rho → Prop, I 0 [] ρ1 ∧
  (∀ i x acc ρ, xs[i]? = some x → I i acc ρ → ρ[k]? = some (some (.own xs)) → g (.d x) ρ fun ρ2 => tt ρ2 fun b ρ3 => if b = true then te ρ3 fun r ρ4 => onDat r fun y => Few (acc.length + 1) ∧ ρ4[k]? = some (some (.own xs)) ∧ I (i + 1) (acc ++ [y]) (wipeR ρ4 vs) else ρ3[k]? = some (some (.own xs)) ∧ I (i + 1) acc (wipeR ρ3 vs)) ∧
  ∀ acc ρ, I xs.length acc ρ → ρ[k]? = some (some (.own xs)) → Q acc (wipeR ρ vs)
def dLcO (k : Nat) (g : TDGt) (tt : TDT) (te : TDE) (vs : List Nat) : TDL := fun ρ Q => onOwn ρ k fun xs => lcO k g tt te vs Q xs ρ
theorem wipeR_nth {ρ : Rho} {vs : List Nat} {n : Nat} (h : n ∉ vs) : (wipeR ρ vs)[n]? = ρ[n]? := by
  induction vs with
  | nil => rfl
  | cons k ks ih =>
    show ((wipeR ρ ks).set k none)[n]? = _
    rw [List.getElem?_set_ne (fun e => h (by rw [e]; exact List.mem_cons_self ..)), ih fun z => h (List.mem_cons_of_mem _ z)]
theorem dl_lcO {k : Nat} {g : TG} {dg : TDGt} {vs : List Nat} (hg : DG F g dg vs) (ht : DT F tt dt) (he : DE F te de) : DL F (tLc (iSeq F.K (tVar k)) g tt te vs) (dLcO k dg dt de vs) := by
  constructor
  · intro pins ρ σ H Q O h
    obtain ⟨xs, ek, h⟩ := onOwn_of h
    obtain ⟨⟨hno, hk⟩, I, h0, hturn, hend⟩ := h
    obtain ⟨v, hs, a, us0, rfl, ha, hx0, _⟩ := O.ent k _ ek
    show ∃ v, σ[k]? = some (some v) ∧ ∃ a, v = .ref a ∧ _
    refine ⟨.ref a, hs, a, rfl, .inl ⟨⟨us0, SqL.of ha⟩, fun D hD => ?_⟩⟩
    have hfr : ∀ {p : List Pin}, (∀ q ∈ p, q ∈ pins ∨ ∃ a ys, q = .acc a ys) → ∀ i ∈ vs, Fr p i := fun {p} hp i hi v j hm e => by
      subst e
      rcases hp _ hm with z | ⟨a, ys, z⟩
      · obtain ⟨_, x, hx⟩ := O.pin _ z
        unfold slot at hx
        rw [hno j hi] at hx
        cases hx
      · cases z
    have hfr2 : ∀ acc, ∀ i ∈ vs, Fr (Pin.acc D acc :: pins) i := fun acc => hfr fun q hq => by
      rcases List.mem_cons.mp hq with z | z
      · exact .inr ⟨_, _, z⟩
      · exact .inl z
    -- the list stands at a
    have hs2 : (wipe σ vs)[k]? = some (some (.ref a)) := by rw [wipe_nth, if_neg (fun z => hk z.1)]; exact hs
    have at_a : ∀ {acc : List PyData} {ρ : Rho} {H : Hp}, Ok F (.acc D acc :: pins) ρ (wipe σ vs) H → ρ[k]? = some (some (.own xs)) → ∃ us, H a = some (.lst us) ∧ ImAll F.K (Av F (.acc D acc :: pins) ρ (wipe σ vs)) H xs us := fun {acc ρ H} O e => by
      obtain ⟨v, h1, b, us, rfl, hb, hx, _⟩ := O.ent k _ e
      rw [hs2] at h1
      cases h1
      exact ⟨us, hb, hx⟩
    have start : Ok F (.acc D [] :: pins) ρ σ (upd H D (.lst [])) := O.pushL hD .nil
    have start2 : Ok F (.acc D [] :: pins) ρ (wipe σ vs) (upd H D (.lst [])) := by
      have := start.wipe (hfr2 [])
      rw [wipeR_id hno] at this
      exact this
    refine ⟨fun i m H => ∃ acc ρ, Ok F (.acc D acc :: pins) ρ (wipe σ vs) H ∧ I i acc ρ ∧ ρ[k]? = some (some (.own xs)) ∧ i ≤ xs.length ∧ m = xs.length - i, ⟨_, [], ρ, start2, h0, ek, Nat.zero_le _, rfl⟩, ?_⟩
    rintro i m H2 ⟨acc, ρ2, O2, i2, e2, hle, rfl⟩
    obtain ⟨us, hu, hx⟩ := at_a O2 e2
    have hlen := hx.length
    by_cases hlt : i < xs.length
    · refine .inr ⟨⟨us, us[i]'(by omega), SqL.of hu, by simp⟩, fun H' => ∃ acc ρ, Ok F (.acc D acc :: pins) ρ (wipe σ vs) H' ∧ I (i + 1) acc ρ ∧ ρ[k]? = some (some (.own xs)), fun H' ⟨acc', ρ', O', i', e'⟩ => ⟨xs.length - (i + 1), by omega, acc', ρ', O', i', e', by omega, rfl⟩, fun x H3 hy => ?_⟩
      obtain ⟨rfl, hy⟩ := hy
      obtain ⟨y, ey, im⟩ := hx.getV (hy us (SqL.of hu))
      refine hg.run _ ρ2 _ H3 x (.d y) _ _ O2 (hfr2 acc) im (hturn i y acc ρ2 ey i2 e2) fun ρ4 σ4 H4 O4 so q => ?_
      have hw4 : wipe σ4 vs = wipe σ vs := by
        have := so vs fun _ h => h
        rw [this]
        exact wipe_sub fun _ h => h
      refine ⟨hw4, ?_⟩
      refine ht.run _ ρ4 σ4 H4 _ O4 (ht.mono _ _ _ (fun b ρ5 h5 H5 O5 => ?_) q)
      cases b with
      | false =>
        have := O5.wipe (hfr2 acc)
        rw [hw4] at this
        exact ⟨acc, _, this, h5.2, by rw [wipeR_nth hk]; exact h5.1⟩
      | true =>
        refine he.run _ ρ5 σ4 H5 _ O5 (he.mono _ _ _ (fun r ρ6 h6 w H6 O6 R6 => ?_) h5)
        cases r with
        | o j => exact h6.elim
        | raw u => exact h6.elim
        | d z =>
          obtain ⟨vsD, hHD, hiD, _, _⟩ := O6.pin _ (List.mem_cons_self ..)
          refine ⟨vsD, hHD, ?_, acc ++ [z], wipeR ρ6 vs, ?_, h6.2.2, by rw [wipeR_nth hk]; exact h6.2.1⟩
          · have := h6.1
            unfold Few at this
            rw [hiD.length]; omega
          · have O7 := (O6.setAcc (hiD.append (.cons R6 .nil))).wipe (hfr2 (acc ++ [z]))
            rw [hw4] at O7
            exact O7
    · have e : i = xs.length := by omega
      subst e
      refine .inl ⟨⟨us, SqL.of hu, by rw [hlen]; exact Nat.le_refl _⟩, ?_⟩
      have hq := hend acc ρ2 i2 e2
      refine hq D H2 ?_
      have O3 := O2.wipe (hfr2 acc)
      refine Ok.unwipe (vs := vs) (Ok.unwipe (vs := vs) O3 ?_) ?_
      all_goals
        intro i hi
        by_cases hl : i < ρ2.length
        · exact .inl (wipeR_none hi hl)
        · exact .inr (List.getElem?_eq_none (by rw [wipeR_len]; omega))
  · intro ρ Q Q' hq h
    refine onOwn_mono h fun xs h => ?_
    obtain ⟨hno, I, h0, hturn, hend⟩ := h
    exact ⟨hno, I, h0, hturn, fun acc ρ i e => hq _ _ (hend acc ρ i e)⟩
end
theorem pl_lcO {X : Cx} {F : Fm} {elt tg : Expr} {ifs : List Expr} {scope : Scope} {own : List (Str × Nat)} {pos : Pos} {k : Nat} {x : Str} {g : TG} {dg : TDGt} {tt : TT} {dt : TDT} {te : TE} {de : TDE} {p2 : Pos} (hc : X.calm = true) (hN : X.N.Nodup) (ok : BlkOk X.N X.env.scope scope own)
    (hg : ∀ (s : Shared) (H : Hp) (C : Addr) (cl : List (Str × Addr)) (fp : List Addr), PDG (X.blk s H scope (compEnvC scope cl C X.env) fp) F tg g dg (own.map (·.2))) (ht : ∀ (s : Shared) (H : Hp) (C : Addr) (cl : List (Str × Addr)) (fp : List Addr), PDTs (X.blk s H scope (compEnvC scope cl C X.env) fp) F ifs tt dt)
    (he : ∀ (s : Shared) (H : Hp) (C : Addr) (cl : List (Str × Addr)) (fp : List Addr), PD (X.blk s H scope (compEnvC scope cl C X.env) fp) F elt te de) (hK : X.K = F.K := by rfl)
    (hi : X.N[k]? = some x := by rfl) (hv : Vis X.env.scope x := by first | exact Or.inl rfl | exact Or.inr (Or.inl rfl) | exact Or.inr (Or.inr rfl)) (hd : (x == ("__debug__" : Str)) = false := by decide) (hcd : (x == ("__classdict__" : Str)) = false := by decide) (hs : ∀ v, foldedSetIterable (.Name x p2) X.env v = pure v := by intro _; rfl) :
    PDL X F (.ListComp elt [⟨tg, .Name x p2, ifs, 0⟩] scope pos) (tLc (iSeq F.K (tVar k)) g tt te (own.map (·.2))) (dLcO k dg dt de (own.map (·.2))) := by
  refine ⟨?_, ?_⟩
  · have := pe_lc (pos := pos) hc hN (pi_seq (tg := tg) (pe_var (pos := p2) hi hv hd hcd)) ok (fun s H C cl fp => (hg s H C cl fp).pg) (fun s H C cl fp => (ht s H C cl fp).pts) (fun s H C cl fp => (he s H C cl fp).pe) hs
    rw [hK] at this
    exact this
  · exact dl_lcO (hg (PySem.start X.prog).1 (fun _ => none) 0 [] []).dg (ht (PySem.start X.prog).1 (fun _ => none) 0 [] []).dt (he (PySem.start X.prog).1 (fun _ => none) 0 [] []).de
open scoped Rat
def oR : Option DV.Row3 → PyData
  | none => .none
  | some r => pf3 r
theorem bestOf_snoc (xs : List DV.Row3) (a : DV.Row3) : bestOf (xs ++ [a]) = match bestOf xs with
    | none => some a
    | some b => if rowLt a b then some a else some b := by
  unfold bestOf
  rw [List.foldl_append]
  rfl
theorem cut_row {a b c : PyData} : DV.cutD [a, b, c] (some 1) none = [b, c] := by rw [cut_tail]; rfl
end DV
namespace DV
open PySem PySem.Spec PyProof.Rows L2
open scoped Rat
/-! ## shapes and sizes of data, put together -/
structure Shp (k : Nat) (d : PyData) : Prop where
  lay : d.canLay0 = true
  deep : d.depth ≤ k
theorem Shp.up {j k : Nat} {d : PyData} (h : Shp j d) (z : j ≤ k) : Shp k d := ⟨h.lay, Nat.le_trans h.deep z⟩
theorem Shp.shaped {k : Nat} {d : PyData} (h : Shp k d) (z : k ≤ 64 := by decide) : SeqAt.shaped d = true := by
  unfold SeqAt.shaped
  rw [Bool.and_eq_true, decide_eq_true_eq]
  exact ⟨h.lay, Nat.le_trans h.deep z⟩
theorem Shp.int {i : Int} : Shp 0 (.int i) := ⟨by simp [PyData.canLay0], by simp [PyData.depth]⟩
theorem Shp.bool {i : Bool} : Shp 0 (.bool i) := ⟨by simp [PyData.canLay0], by simp [PyData.depth]⟩
theorem Shp.none : Shp 0 .none := ⟨by simp [PyData.canLay0], by simp [PyData.depth]⟩
theorem shps {k : Nat} : ∀ {xs : List PyData}, (∀ x ∈ xs, Shp k x) → PyData.canLayAll0 xs = true ∧ PyData.depthAll xs ≤ k
  | [], _ => ⟨by simp [PyData.canLayAll0], by simp [PyData.depthAll]⟩
  | x :: xs, h => by
    have a := h x (List.mem_cons_self ..)
    have b := shps (xs := xs) fun y hy => h y (List.mem_cons_of_mem _ hy)
    simp only [PyData.canLayAll0, PyData.depthAll, Bool.and_eq_true]
    exact ⟨⟨a.lay, b.1⟩, Nat.max_le.mpr ⟨a.deep, b.2⟩⟩
theorem Shp.tuple {k : Nat} {xs : List PyData} (h : ∀ x ∈ xs, Shp k x) : Shp (k + 1) (.tuple xs) := by
  have := shps h
  exact ⟨by simp only [PyData.canLay0]; exact this.1, by simp only [PyData.depth]; omega⟩
theorem Shp.list {k : Nat} {xs : List PyData} (h : ∀ x ∈ xs, Shp k x) : Shp (k + 1) (.list xs) := by
  have := shps h
  exact ⟨by simp only [PyData.canLay0]; exact this.1, by simp only [PyData.depth]; omega⟩
theorem Shp.map {α : Type} {k : Nat} {f : α → PyData} {xs : List α} (h : ∀ x ∈ xs, Shp k (f x)) : ∀ y ∈ xs.map f, Shp k y := fun y hy => by
  obtain ⟨x, hx, rfl⟩ := List.mem_map.mp hy
  exact h x hx
theorem all2 {P : PyData → Prop} {a b : PyData} (h : P a) (k : P b) : ∀ x ∈ [a, b], P x := fun x hx => by
  have : x = a ∨ x = b := by simpa using hx
  rcases this with e | e <;> rw [e] <;> assumption
theorem all1 {P : PyData → Prop} {a : PyData} (h : P a) : ∀ x ∈ [a], P x := fun x hx => by
  have : x = a := by simpa using hx
  rw [this]; assumption
theorem all3 {P : PyData → Prop} {a b c : PyData} (h : P a) (k : P b) (l : P c) : ∀ x ∈ [a, b, c], P x := fun x hx => by
  have : x = a ∨ x = b ∨ x = c := by simpa using hx
  rcases this with e | e | e <;> rw [e] <;> assumption
theorem all4 {P : PyData → Prop} {a b c d : PyData} (h : P a) (k : P b) (l : P c) (m : P d) : ∀ x ∈ [a, b, c, d], P x := fun x hx => by
  have : x = a ∨ x = b ∨ x = c ∨ x = d := by simpa using hx
  rcases this with e | e | e | e <;> rw [e] <;> assumption
theorem shp_pr {a b : Int} : Shp 1 (pr a b) := .tuple (all2 .int .int)
theorem shp_fr {q : Rat} : Shp 1 (fr q) := .tuple (all2 .int .int)
theorem shp_pf {c : Cn} : Shp 2 (pf c) := .tuple (all2 shp_fr shp_fr)
/-- as Fine, with numbers -/
structure Fn (k c : Nat) (d : PyData) : Prop where
  ok : okd d = true
  deep : d.depth ≤ k
  few : cost d ≤ c
theorem Fn.up {j k b c : Nat} {d : PyData} (h : Fn j b d) (z : j ≤ k) (y : b ≤ c) : Fn k c d := ⟨h.ok, Nat.le_trans h.deep z, Nat.le_trans h.few y⟩
theorem Fn.fine {k c : Nat} {d : PyData} (h : Fn k c d) (z : k ≤ 60 := by decide) (y : c ≤ 16000000 := by decide) : Fine d := ⟨h.ok, Nat.le_trans h.deep z, Nat.le_trans h.few y⟩
theorem Fn.int {i : Int} {k : Nat} (h : Bd k i) (z : k ≤ 1000 := by decide) : Fn 0 1001 (.int i) := by
  refine ⟨?_, by simp [PyData.depth], by simp [cost]⟩
  simp only [okd, decide_eq_true_eq]
  by_cases h0 : i.natAbs = 0
  · rw [h0]; decide
  · exact Nat.lt_of_lt_of_le ((Nat.log2_lt h0).mpr h) z
theorem Fn.bool {b : Bool} : Fn 0 5 (.bool b) := ⟨by simp [okd], by simp [PyData.depth], by simp [cost]⟩
theorem Fn.none : Fn 0 5 .none := ⟨by simp [okd], by simp [PyData.depth], by simp [cost]⟩
theorem fas {k c : Nat} : ∀ {xs : List PyData}, (∀ x ∈ xs, Fn k c x) → okds xs = true ∧ PyData.depthAll xs ≤ k ∧ costs xs ≤ xs.length * (c + 2)
  | [], _ => ⟨by simp [okds], by simp [PyData.depthAll], by simp [costs]⟩
  | x :: xs, h => by
    have a := h x (List.mem_cons_self ..)
    have b := fas (xs := xs) fun y hy => h y (List.mem_cons_of_mem _ hy)
    simp only [okds, PyData.depthAll, costs, Bool.and_eq_true, List.length_cons]
    have := a.few
    refine ⟨⟨a.ok, b.1⟩, Nat.max_le.mpr ⟨a.deep, b.2.1⟩, ?_⟩
    rw [Nat.succ_mul]
    omega
theorem Fn.tuple {k c n : Nat} {xs : List PyData} (h : ∀ x ∈ xs, Fn k c x) (hn : xs.length ≤ n) : Fn (k + 1) (n * (c + 2) + 3) (.tuple xs) := by
  obtain ⟨a, b, d⟩ := fas h
  have := Nat.mul_le_mul_right (c + 2) hn
  exact ⟨by simp only [okd]; exact a, by simp only [PyData.depth]; omega, by simp only [cost]; omega⟩
theorem Fn.list {k c n : Nat} {xs : List PyData} (h : ∀ x ∈ xs, Fn k c x) (hn : xs.length ≤ n) : Fn (k + 1) (n * (c + 2) + 3) (.list xs) := by
  obtain ⟨a, b, d⟩ := fas h
  have := Nat.mul_le_mul_right (c + 2) hn
  exact ⟨by simp only [okd]; exact a, by simp only [PyData.depth]; omega, by simp only [cost]; omega⟩
theorem Fn.map {α : Type} {k c : Nat} {f : α → PyData} {xs : List α} (h : ∀ x ∈ xs, Fn k c (f x)) : ∀ y ∈ xs.map f, Fn k c y := fun y hy => by
  obtain ⟨x, hx, rfl⟩ := List.mem_map.mp hy
  exact h x hx
theorem fa_fr {q : Rat} {k : Nat} (h : Sz k q) (z : k ≤ 1000 := by decide) : Fn 1 2009 (fr q) := Fn.tuple (n := 2) (all2 (Fn.int h.n z) (Fn.int h.d z)) (Nat.le_refl _)
theorem fa_pf {c : Cn} {k : Nat} (h : Sz k c.1) (h2 : Sz k c.2) (z : k ≤ 1000 := by decide) : Fn 2 4025 (pf c) := Fn.tuple (n := 2) (all2 (fa_fr h z) (fa_fr h2 z)) (Nat.le_refl _)
theorem eqv_pf {a b : Cn} : PyData.eqv (pf a) (pf b) = decide (a = b) := by
  unfold pf
  simp only [PyData.eqv, PyData.eqvAll, Bool.and_true, eqv_fr]
  rw [← Bool.decide_and, decide_eq_decide]
  exact ⟨fun ⟨h1, h2⟩ => Prod.ext h1 h2, fun h => by subst h; exact ⟨rfl, rfl⟩⟩
theorem any_mem {α : Type} [DecidableEq α] {f : α → PyData} (he : ∀ x y, PyData.eqv (f x) (f y) = decide (x = y)) (xs : List α) (a : α) : ((xs.map f).any fun z => PyData.eqv z (f a)) = decide (a ∈ xs) := by
  rw [Bool.eq_iff_iff, List.any_eq_true, decide_eq_true_eq]
  constructor
  · rintro ⟨z, hz, e⟩
    obtain ⟨x, hx, rfl⟩ := List.mem_map.mp hz
    rw [he, decide_eq_true_eq] at e
    exact e ▸ hx
  · exact fun h => ⟨f a, List.mem_map_of_mem h, by rw [he, decide_eq_true_eq]⟩
section
variable {g : TDGt} {tt : TDT} {te : TDE} {vs : List Nat} {Q : List PyData → Rho → Prop} {ρ : Rho} {k : Nat}
theorem lcO_fm {α : Type} (as : List α) (enc : α → PyData) (f : α → Option PyData) (hv : ∀ i ∈ vs, ρ[i]? = some none) (hk : k ∉ vs) (ek : ρ[k]? = some (some (.own (as.map enc)))) (hl : as.length ≤ 100000)
    (turn : ∀ (i : Nat) (a : α), as[i]? = some a → ∀ (C1 : PyData → Rho → Prop) (C2 : Rho → Prop) (n : Nat), Few n → (∀ y, f a = some y → C1 y ρ) → (f a = none → C2 ρ) →
      g (.d (enc a)) ρ fun ρ2 => tt ρ2 fun b ρ3 => if b = true then te ρ3 fun r ρ4 => onDat r fun y => Few n ∧ ρ4[k]? = some (some (.own (as.map enc))) ∧ C1 y (wipeR ρ4 vs) else ρ3[k]? = some (some (.own (as.map enc))) ∧ C2 (wipeR ρ3 vs))
    (q : Q (as.filterMap f) (wipeR ρ vs)) : lcO k g tt te vs Q (as.map enc) ρ := by
  refine ⟨⟨hv, hk⟩, fun i acc ρ' => ρ' = ρ ∧ acc = (as.take i).filterMap f, ⟨rfl, rfl⟩, ?_, ?_⟩
  · rintro i x acc _ hx ⟨rfl, rfl⟩ _
    rw [List.getElem?_map] at hx
    cases ha : as[i]? with
    | none => rw [ha] at hx; cases hx
    | some a =>
      rw [ha] at hx
      cases hx
      have hi := (List.getElem?_eq_some_iff.mp ha).1
      refine turn i a ha (fun y ρ2 => ρ2 = _ ∧ _ = (as.take (i + 1)).filterMap f) (fun ρ2 => ρ2 = _ ∧ _ = (as.take (i + 1)).filterMap f) _ ?_ (fun y hy => ⟨rfl, ?_⟩) fun hn => ⟨rfl, ?_⟩
      · refine few_le ?_
        have := List.length_filterMap_le f (as.take i)
        rw [List.length_take] at this
        omega
      · rw [take_succ_some ha, List.filterMap_append, List.filterMap_cons, hy]; rfl
      · rw [take_succ_some ha, List.filterMap_append, List.filterMap_cons, hn]; exact (List.append_nil _).symm
  · rintro acc _ ⟨rfl, rfl⟩ _
    rw [List.length_map, List.take_length]
    exact q
end
theorem fm_len {α β : Type} {p : α → Prop} [DecidablePred p] {f : α → β} : ∀ xs : List α, (xs.filterMap fun o => if p o then some (f o) else none).length = (xs.filter fun o => decide (p o)).length
  | [] => rfl
  | x :: xs => by
    by_cases h : p x
    · simp only [List.filterMap_cons, List.filter_cons, if_pos h, decide_eq_true h, if_true, List.length_cons, fm_len xs]
    · simp only [List.filterMap_cons, List.filter_cons, if_neg h, decide_eq_false h, Bool.false_eq_true, if_false, fm_len xs]
theorem insertIdx_td {α : Type} {n : Nat} {xs : List α} (c : α) (h : n ≤ xs.length) : xs.insertIdx n c = xs.take n ++ c :: xs.drop n := by
  have := insertIdx_append (xs.take n) (xs.drop n) c
  rw [List.take_append_drop, List.length_take, Nat.min_eq_left h] at this
  exact this
theorem any_mem_iff {α : Type} {f : α → PyData} (he : ∀ x y, PyData.eqv (f x) (f y) = true ↔ x = y) (xs : List α) (a : α) : ((xs.map f).any fun z => PyData.eqv z (f a)) = true ↔ a ∈ xs := by
  rw [List.any_eq_true]
  constructor
  · rintro ⟨z, hz, e⟩
    obtain ⟨x, hx, rfl⟩ := List.mem_map.mp hz
    rw [he] at e
    exact e ▸ hx
  · exact fun h => ⟨f a, List.mem_map_of_mem h, by rw [he]⟩
theorem pf_eqv {a b : Cn} : PyData.eqv (pf a) (pf b) = true ↔ a = b := by rw [eqv_pf, decide_eq_true_eq]
theorem pr_eqv {a b : Int × Int} : PyData.eqv (pr a.1 a.2) (pr b.1 b.2) = true ↔ a = b := by
  rw [eqv_pr, decide_eq_true_eq]
  exact ⟨fun ⟨h1, h2⟩ => Prod.ext h1 h2, fun h => by subst h; exact ⟨rfl, rfl⟩⟩
section
variable {g : TDGt} {tt : TDT} {te : TDE} {vs : List Nat} {Q : List PyData → Rho → Prop} {ρ : Rho} {k : Nat}
theorem lcO_map {α : Type} (as : List α) (enc : α → PyData) (f : α → PyData) (hv : ∀ i ∈ vs, ρ[i]? = some none) (hk : k ∉ vs) (ek : ρ[k]? = some (some (.own (as.map enc)))) (hl : as.length ≤ 100000)
    (turn : ∀ (i : Nat) (a : α), as[i]? = some a → ∀ (C1 : PyData → Rho → Prop) (C2 : Rho → Prop) (n : Nat), Few n → C1 (f a) ρ →
      g (.d (enc a)) ρ fun ρ2 => tt ρ2 fun b ρ3 => if b = true then te ρ3 fun r ρ4 => onDat r fun y => Few n ∧ ρ4[k]? = some (some (.own (as.map enc))) ∧ C1 y (wipeR ρ4 vs) else ρ3[k]? = some (some (.own (as.map enc))) ∧ C2 (wipeR ρ3 vs))
    (q : Q (as.map f) (wipeR ρ vs)) : lcO k g tt te vs Q (as.map enc) ρ := by
  refine lcO_fm as enc (fun a => some (f a)) hv hk ek hl (fun i a ha C1 C2 n hn h1 _ => turn i a ha C1 C2 n hn (h1 _ rfl)) ?_
  rw [show as.filterMap (fun a => some (f a)) = as.map f from by rw [← List.filterMap_eq_map]; rfl]
  exact q
end
abbrev P2 := Int × Int
def enc2 (p : P2) : PyData := pr p.1 p.2
/-- within so much of 0 -/
def Inb (b : Int) (p : P2) : Prop := -b ≤ p.1 ∧ p.1 ≤ b ∧ -b ≤ p.2 ∧ p.2 ≤ b
theorem lb14 {a b c d : Int} (a0 : -16000 ≤ a) (a1 : a ≤ 16000) (b0 : -16000 ≤ b) (b1 : b ≤ 16000) (c0 : -16000 ≤ c) (c1 : c ≤ 16000) (d0 : -16000 ≤ d) (d1 : d ≤ 16000) : LB 14 ⟨a, b, c, d⟩ :=
  ⟨bd_of 16000 a0 a1, bd_of 16000 b0 b1, bd_of 16000 c0 c1, bd_of 16000 d0 d1⟩
theorem fr_eq {q : Rat} {n d : Int} (h1 : q.num = n) (h2 : (q.den : Int) = d) : PyData.tuple [.int n, .int d] = fr q := by subst h1; subst h2; rfl
end DV
namespace DV
open PySem PySem.Spec PyProof.Rows L2
/-! ## min(x, y) of two data that compare -/
section
variable {prog : Program} {w : World} {A : Around} {E : Value → Shared → Prop} {s : Shared}
theorem call_min_twoH {a b : Value} {Q : Value → Shared → Prop}
    (h : wpAny (model prog w) A.in1 (pyIter (.ref s.heap.objs.size)) (fun it s₂ => ∃ I fp wr G n P St H bt, it = .ref I ∧ WalksS prog w A.in1 I fp wr G n P St ∧ St 0 s₂ ∧ (∀ b ∈ fp, b < s₂.heap.objs.size) ∧ 0 < n ∧
      (∀ b o, H.get? b = some o → b ∉ wr) ∧ (∀ b o, H.get? b = some o → s₂.heap.get? b = some o) ∧ PySem.CmpIn prog w A.in1 .Lt H P bt ∧ ∀ v s', P (argBest bt (n - 1)) v → Moved wr G s₂ s' → Q v s') E { s with heap := s.heap.push { cls := .type "tuple", data := .seq #[a, b] } }) :
    wpAny (model prog w) A (call (.builtin "min") [a, b]) Q E s := by
  have hname : (toString "min" ++ toString ".loop" : String) = "min.loop" := by decide
  refine call_function_tree F.kind_min F.plain_min F.entry_min (F.args_min2 _ _) ?_
  show wpAny _ A.in1 (Builtin.Builtins.bindParams "min" ["key", "default"] 0 ⟨[], []⟩ >>= _) _ _ s
  refine wpAny_bind (wpAny_of_eq (show Builtin.Builtins.bindParams "min" ["key", "default"] 0 ⟨[], []⟩ = pure [none, none] from rfl) ?_)
  show wpAny _ A.in1 (newTuple [a, b] >>= _) _ _ s
  refine wpAny_bind (wpAny_newObj_type ?_)
  refine wpAny_bind (wpAny_mono h (fun it s₂ h₂ => ?_) fun _ _ e => e)
  obtain ⟨I, fp, wr, G, n, P, St, H, bt, rfl, W, hst, hfp, hn, hw, hkeep, hcmp, hQ⟩ := h₂
  refine wpAny_bind (wpAny_newObj_type ?_)
  have hSf : s₂.heap.objs.size ∉ fp := fun hm => Nat.lt_irrefl _ (hfp _ hm)
  rw [hname]
  refine wpAny_pure ⟨plainId_quiet F.plain_min_loop _, PySem.codeAny_min_loop_firstH W H hw bt hcmp s₂.heap.objs.size hSf (PySem.fresh_in hkeep) _ hn (fun b o e => Heap.get?_push_of_some _ (hkeep b o e)) (W.frame 0 s₂ _ s₂.toks hst (Nat.le_refl _) fun b _ o e => Heap.get?_push_of_some _ e) (Heap.get?_push_size _ rfl) fun v s' hP hm => ?_⟩
  exact hQ v s' hP (Moved.drop_new (tk := s₂.toks) hm (Nat.le_refl _))
theorem min_two_data {a b : Value} {x y : PyData} {as : List Addr} {Q : Value → Shared → Prop} (hh : A.handled = none) (hr : ReadsAll s.heap [a, b] [x, y] as) (ha : PySem.W.AlikeAll [x, y]) (hu : A.units + 1 + PyData.depthAll [x, y] < cLine)
    (h : ∀ h' tk, (∀ b o, s.heap.get? b = some o → h'.get? b = some o) → Q (if PySem.W.dataLt y x = true then b else a) { s with heap := h', toks := tk }) :
    wpAny (model prog w) A (call (.builtin "min") [a, b]) Q E s := by
  have hT : (s.heap.push { cls := .type "tuple", data := .seq #[a, b] }).IsTuple s.heap.objs.size #[a, b] := IsTup.new _ _
  have hr2 : ReadsAll (s.heap.push { cls := .type "tuple", data := .seq #[a, b] }) (#[a, b] : Array Value).toList [x, y] as := by
    exact ReadsAll.keeps (fun b o e => Heap.get?_push_of_some _ e) hr
  refine call_min_twoH (PySem.W.iter_tupleW (A := A.in1) hh hT fun s₂ e W st hfp hw hk => ?_)
  refine ⟨_, _, _, _, _, _, _, (s.heap.push { cls := .type "tuple", data := .seq #[a, b] }), _, rfl, W, st, hfp, by simp, hw, hk, PySem.W.cmpIn_lt (s := { s with heap := s.heap.push { cls := .type "tuple", data := .seq #[a, b] } }) (A := A.in1) hr2 ha (by show A.units + 1 + _ < _; exact hu), fun v s' hP m => ?_⟩
  obtain ⟨h', tk, rfl, hk'⟩ := PySem.W.moved_old e rfl m
  have hv : v = if PySem.W.dataLt y x = true then b else a := by
    have hP : (#[a, b] : Array Value)[argBest (fun i j => PySem.W.dataLt ([x, y].getD i PyData.none) ([x, y].getD j PyData.none)) 1]? = some v := hP
    have e1 : argBest (fun i j => PySem.W.dataLt ([x, y].getD i PyData.none) ([x, y].getD j PyData.none)) 1 = if PySem.W.dataLt y x = true then 1 else 0 := by
      simp only [argBest]
      rfl
    rw [e1] at hP
    by_cases hl : PySem.W.dataLt y x = true
    · rw [if_pos hl] at hP ⊢
      simpa using hP.symm
    · rw [if_neg hl] at hP ⊢
      simpa using hP.symm
  rw [hv]
  exact h h' tk fun b o e => hk' b o (Heap.get?_push_of_some _ e)
end
def rMin2D (K : PySem.W.Frag) : List V → Hp → VK → Prop := fun vs H Q => ∃ (u v : V) (x y : PyData), vs = [u, v] ∧ Dp K H u x ∧ Dp K H v y ∧ PySem.W.AlikeAll [x, y] ∧ PyData.depthAll [x, y] ≤ 50 ∧ Q (if PySem.W.dataLt y x = true then v else u) H
section
variable {X : Cx} {pins : List (Addr × Obj)} {σ : L2.St} {H : Hp} {s : Shared}
theorem cr_min2D (hc : X.calm = true) (hu : X.A.units + 64 < cLine) : CallR X (.builtin "min") (rMin2D X.K) := by
  intro pins s σ H xs us Q I r h
  obtain ⟨u, v, x, y, rfl, d1, d2, hal, hd, q⟩ := h
  obtain ⟨a, b, rfl, ra, rb⟩ := vals2 r
  obtain ⟨as, hr⟩ := Dp.readsAll I [x, y] [u, v] [a, b] (.cons d1 (.cons d2 .nil)) (.cons ra (.cons rb .nil))
  refine min_two_data (I.ok.hd hc) hr hal (by omega) fun h' tk k => ?_
  by_cases hl : PySem.W.dataLt y x = true
  · rw [if_pos hl] at q ⊢
    exact ⟨v, H, I.kept (t' := tk) k, rb, q⟩
  · rw [if_neg hl] at q ⊢
    exact ⟨u, H, I.kept (t' := tk) k, ra, q⟩
end
section
variable {X : Cx} {F : Fm} {e e2 : Expr} {t : TA} {d : TDA} {pos p : Pos}
def dMin2D (t : TDA) : TDE := fun ρ Q => t ρ fun rs ρ1 => match rs with
  | [.d x, .d y] => (PySem.W.AlikeAll [x, y] ∧ PyData.depthAll [x, y] ≤ 50) ∧ Q (.d (if PySem.W.dataLt y x = true then y else x)) ρ1
  | _ => False
theorem pd_min2D (hc : X.calm = true) (hu : X.A.units + 64 < cLine) (hg : Gl X "min") (hm : X.mg "min" = none) (ha : PDA X F [e, e2] t d) (hK : X.K = F.K := by rfl)
    (he : starEach [e, e2] X.env = (false, eval e X.env) :: starEach [e2] X.env := by rfl) (hpl : (backTo pos (starEach [e2] X.env)).any (·.1) = false := by rfl) :
    PD X F (.Call (.Name "min" p) [e, e2] [] pos) (tCB (rMin2D F.K) t) (dMin2D d) := by
  refine ⟨?_, fun pins ρ σ H Q O h => ?_, fun ρ Q Q' hq h => ?_⟩
  · have := pe_callB (p := p) (pos := pos) (cr_min2D hc hu) hg hm (by decide +kernel) ha.pa (by decide) (by decide) he hpl
    rw [hK] at this
    exact this
  · refine ha.da.run pins ρ σ H _ O (ha.da.mono _ _ _ (fun rs ρ1 h1 vs H1 O1 R1 => ?_) h)
    split at h1
    · rename_i x y
      simp only [ROks] at R1
      obtain ⟨u, _, rfl, r1, v, _, rfl, r2, rfl⟩ := R1
      have i1 : Im F.K (Av F pins ρ1 σ) H1 x u := r1
      have i2 : Im F.K (Av F pins ρ1 σ) H1 y v := r2
      refine ⟨u, v, x, y, rfl, i1.dp, i2.dp, h1.1.1, h1.1.2, ?_⟩
      by_cases hl : PySem.W.dataLt y x = true
      · rw [if_pos hl]
        refine h1.2 _ _ O1 ?_
        rw [if_pos hl]
        exact i2
      · rw [if_neg hl]
        refine h1.2 _ _ O1 ?_
        rw [if_neg hl]
        exact i1
    · exact h1.elim
  · refine ha.da.mono _ _ _ (fun rs ρ1 h1 => ?_) h
    revert h1
    split
    · exact fun h1 => ⟨h1.1, hq _ _ h1.2⟩
    · exact fun h1 => h1
end
theorem alike_pr {a b c d : Int} : PySem.W.alike (pr a b) (pr c d) = true := by
  simp [pr, PySem.W.alike, PySem.W.alikeAll]
theorem alike2_pr {a b c d : Int} : PySem.W.AlikeAll [pr a b, pr c d] := by
  constructor
  · intro x hx y hy
    simp only [List.mem_cons, List.not_mem_nil, or_false] at hx hy
    rcases hx with rfl | rfl <;> rcases hy with rfl | rfl <;> exact alike_pr
  · intro x hx
    simp only [List.mem_cons, List.not_mem_nil, or_false] at hx
    rcases hx with rfl | rfl <;> simp [pr]
theorem depth_pr {a b c d : Int} : PyData.depthAll [pr a b, pr c d] ≤ 50 := by
  simp [pr, PyData.depthAll, PyData.depth]
theorem dataLt_pr {a b c d : Int} : PySem.W.dataLt (pr a b) (pr c d) = decide (a < c ∨ (a = c ∧ b < d)) := by
  unfold pr
  rw [PySem.W.dataLt_tuple]
  have hal : ∀ i j : Int, PySem.W.alike (.int i) (.int j) = true := fun i j => by simp [PySem.W.alike]
  by_cases h : a = c
  · subst h
    rw [PySem.W.dataLt_all_yes (hal _ _) (by rw [eqv_int, decide_eq_true rfl])]
    by_cases h2 : b = d
    · subst h2
      rw [PySem.W.dataLt_all_yes (hal _ _) (by rw [eqv_int, decide_eq_true rfl])]
      rw [decide_eq_false (by omega)]
      decide
    · rw [PySem.W.dataLt_all_no (hal _ _) (by rw [eqv_int, decide_eq_false h2]), PySem.W.dataLt_int, decide_eq_decide]
      omega
  · rw [PySem.W.dataLt_all_no (hal _ _) (by rw [eqv_int, decide_eq_false h]), PySem.W.dataLt_int, decide_eq_decide]
    omega
end DV
namespace DV
open PySem PySem.Spec PyProof.Rows L2
open scoped Rat
/-! ## how near two legs come: the mathematics -/
theorem sq_nonneg (a : Rat) : 0 ≤ a * a := by
  rcases (Rat.le_total : 0 ≤ a ∨ a ≤ 0) with h | h
  · exact Rat.mul_nonneg h h
  · have : a * a = (-a) * (-a) := by grind
    rw [this]
    exact Rat.mul_nonneg (by grind) (by grind)
theorem sum_sq_zero {a b : Rat} (h : a * a + b * b = 0) : a = 0 ∧ b = 0 := by
  have ha := sq_nonneg a
  have hb := sq_nonneg b
  have h1 : a * a = 0 := by grind
  have h2 : b * b = 0 := by grind
  constructor
  · rcases Rat.mul_eq_zero.mp h1 with z | z <;> exact z
  · rcases Rat.mul_eq_zero.mp h2 with z | z <;> exact z
/-- what leads from one place to the other, as it depends on both parts -/
structure Lin (l o : Lg) (ux uy vx vy mx my : Rat) : Prop where
  x : ∀ s t, gx l o s t = ux + t * vx - s * mx
  y : ∀ s t, gy l o s t = uy + t * vy - s * my
  D : ((turnI l o : Int) : Rat) = mx * vy - my * vx
  S : turnI l o ≠ 0 → inS l o * (mx * vy - my * vx) = ux * vy - uy * vx
  T : turnI l o ≠ 0 → inT l o * (mx * vy - my * vx) = ux * my - uy * mx
theorem lin (l o : Lg) : ∃ ux uy vx vy mx my, Lin l o ux uy vx vy mx my := by
  refine ⟨(o.ax : Rat) - l.ax, (o.ay : Rat) - l.ay, (o.bx : Rat) - o.ax, (o.by' : Rat) - o.ay, (l.bx : Rat) - l.ax, (l.by' : Rat) - l.ay, ?_, ?_, ?_, ?_, ?_⟩
  · intro s t; unfold gx px; simp only [Rat.intCast_sub]; grind
  · intro s t; unfold gy py; simp only [Rat.intCast_sub]; grind
  · unfold turnI; simp only [Rat.intCast_sub, Rat.intCast_mul]
  · intro h
    have h' := rat_ne h
    have e : ((turnI l o : Int) : Rat) = ((l.bx : Rat) - l.ax) * ((o.by' : Rat) - o.ay) - ((l.by' : Rat) - l.ay) * ((o.bx : Rat) - o.ax) := by unfold turnI; simp only [Rat.intCast_sub, Rat.intCast_mul]
    rw [← e]
    unfold inS
    rw [Rat.divInt_eq_div]
    simp only [Rat.intCast_sub, Rat.intCast_mul]
    grind
  · intro h
    have h' := rat_ne h
    have e : ((turnI l o : Int) : Rat) = ((l.bx : Rat) - l.ax) * ((o.by' : Rat) - o.ay) - ((l.by' : Rat) - l.ay) * ((o.bx : Rat) - o.ax) := by unfold turnI; simp only [Rat.intCast_sub, Rat.intCast_mul]
    rw [← e]
    unfold inT
    rw [Rat.divInt_eq_div]
    simp only [Rat.intCast_sub, Rat.intCast_mul]
    grind
theorem gsq_nonneg {l o : Lg} {s t : Rat} : 0 ≤ gsq l o s t := by
  unfold gsq
  have := sq_nonneg (gx l o s t)
  have := sq_nonneg (gy l o s t)
  grind
/-- the part at which a side is nearest -/
theorem clip_range {q : Rat} : 0 ≤ clipR q ∧ clipR q ≤ 1 := by
  unfold clipR
  by_cases h : q < 0
  · rw [if_pos h]; exact ⟨Rat.le_refl, by decide⟩
  · rw [if_neg h]
    by_cases h2 : 1 < q
    · rw [if_pos h2]; exact ⟨by decide, Rat.le_refl⟩
    · rw [if_neg h2]; exact ⟨Rat.not_lt.mp h, Rat.not_lt.mp h2⟩
theorem clipP_range {l o : Lg} {a b : Cn} : 0 ≤ clipP l o a b ∧ clipP l o a b ≤ 1 := by
  unfold clipP
  exact clip_range
theorem quad_min {f1 f2 r1 r2 raw x : Rat} (hs : r1 * r1 + r2 * r2 ≠ 0) (hr : raw = ((-1 : Int) : Rat) * (f1 * r1 + f2 * r2) / (r1 * r1 + r2 * r2)) (h0 : 0 ≤ x) (h1 : x ≤ 1) :
    (f1 + clipR raw * r1) * (f1 + clipR raw * r1) + (f2 + clipR raw * r2) * (f2 + clipR raw * r2) ≤ (f1 + x * r1) * (f1 + x * r1) + (f2 + x * r2) * (f2 + x * r2) := by
  have sp : 0 ≤ r1 * r1 + r2 * r2 := by
    have := sq_nonneg r1
    have := sq_nonneg r2
    grind
  have e : raw * (r1 * r1 + r2 * r2) = -(f1 * r1 + f2 * r2) := by
    rw [hr]
    rw [show ((-1 : Int) : Rat) = -1 from rfl]
    generalize r1 * r1 + r2 * r2 = N at *
    grind
  generalize hN : r1 * r1 + r2 * r2 = N at *
  have key : ∀ c : Rat, 0 ≤ N * ((x - c) * (x + c - 2 * raw)) → (f1 + c * r1) * (f1 + c * r1) + (f2 + c * r2) * (f2 + c * r2) ≤ (f1 + x * r1) * (f1 + x * r1) + (f2 + x * r2) * (f2 + x * r2) := fun c h => by
    have : (f1 + x * r1) * (f1 + x * r1) + (f2 + x * r2) * (f2 + x * r2) - ((f1 + c * r1) * (f1 + c * r1) + (f2 + c * r2) * (f2 + c * r2)) = N * ((x - c) * (x + c - 2 * raw)) := by
      have e1 : N * ((x - c) * (x + c - 2 * raw)) = N * (x * x - c * c) - 2 * (raw * N) * (x - c) := by grind
      rw [e1, e, ← hN]
      grind
    grind
  unfold clipR
  by_cases h : raw < 0
  · rw [if_pos h]
    refine key 0 (Rat.mul_nonneg sp (Rat.mul_nonneg (by grind) (by grind)))
  · rw [if_neg h]
    by_cases h2 : 1 < raw
    · rw [if_pos h2]
      refine key 1 (Rat.mul_nonneg sp ?_)
      have : (x - 1) * (x + 1 - 2 * raw) = (1 - x) * (2 * raw - 1 - x) := by grind
      rw [this]
      exact Rat.mul_nonneg (by grind) (by grind)
    · rw [if_neg h2]
      refine key raw (Rat.mul_nonneg sp ?_)
      have : (x - raw) * (x + raw - 2 * raw) = (x - raw) * (x - raw) := by grind
      rw [this]
      exact sq_nonneg _
/-- the side's row is the least along it -/
theorem edge_le {l o : Lg} {a b : Cn} {x : Rat} (h0 : 0 ≤ x) (h1 : x ≤ 1) : (edge l o a b).1 ≤ gsq l o (a.1 + x * (b.1 - a.1)) (a.2 + x * (b.2 - a.2)) := by
  obtain ⟨ux, uy, vx, vy, mx, my, L⟩ := lin l o
  have ex : ∀ c : Rat, gx l o (a.1 + c * (b.1 - a.1)) (a.2 + c * (b.2 - a.2)) = gx l o a.1 a.2 + c * (gx l o b.1 b.2 - gx l o a.1 a.2) := fun c => by simp only [L.x]; grind
  have ey : ∀ c : Rat, gy l o (a.1 + c * (b.1 - a.1)) (a.2 + c * (b.2 - a.2)) = gy l o a.1 a.2 + c * (gy l o b.1 b.2 - gy l o a.1 a.2) := fun c => by simp only [L.y]; grind
  show gsq l o (a.1 + clipP l o a b * (b.1 - a.1)) (a.2 + clipP l o a b * (b.2 - a.2)) ≤ _
  unfold gsq
  simp only [ex, ey]
  by_cases hs : (gx l o b.1 b.2 - gx l o a.1 a.2) * (gx l o b.1 b.2 - gx l o a.1 a.2) + (gy l o b.1 b.2 - gy l o a.1 a.2) * (gy l o b.1 b.2 - gy l o a.1 a.2) ≠ 0
  · have hc : clipP l o a b = clipR (((-1 : Int) : Rat) * (gx l o a.1 a.2 * (gx l o b.1 b.2 - gx l o a.1 a.2) + gy l o a.1 a.2 * (gy l o b.1 b.2 - gy l o a.1 a.2)) / ((gx l o b.1 b.2 - gx l o a.1 a.2) * (gx l o b.1 b.2 - gx l o a.1 a.2) + (gy l o b.1 b.2 - gy l o a.1 a.2) * (gy l o b.1 b.2 - gy l o a.1 a.2))) := by
      unfold clipP
      simp only [if_pos hs]
    rw [hc]
    exact quad_min hs rfl h0 h1
  · obtain ⟨z1, z2⟩ := sum_sq_zero (Decidable.not_not.mp hs)
    rw [z1, z2]
    simp only [Rat.mul_zero, Rat.add_zero]
    exact Rat.le_refl
end DV
namespace DV
open PySem PySem.Spec PyProof.Rows L2
open scoped Rat
/-! ### the best of rows -/
theorem rowLt_irr {a : DV.Row3} : ¬ rowLt a a := fun h => by
  rcases h with h | h
  · exact Rat.lt_irrefl h
  · exact lexLt_irr h.2
theorem rowLt_trans {a b c : DV.Row3} (h : rowLt a b) (k : rowLt b c) : rowLt a c := by
  unfold rowLt at *
  rcases h with h | ⟨h, h2⟩ <;> rcases k with k | ⟨k, k2⟩
  · exact .inl (rlt_trans h k)
  · exact .inl (k ▸ h)
  · exact .inl (h ▸ k)
  · exact .inr ⟨h.trans k, lexLt_trans h2 k2⟩
theorem rowLt_tri {a b : DV.Row3} (h : ¬ rowLt a b) (k : ¬ rowLt b a) : a = b := by
  unfold rowLt at *
  have h1 : ¬ a.1 < b.1 := fun z => h (.inl z)
  have h2 : ¬ b.1 < a.1 := fun z => k (.inl z)
  have e := lt_trich h1 h2
  have h3 : ¬ lexLt a.2 b.2 := fun z => h (.inr ⟨e, z⟩)
  have h4 : ¬ lexLt b.2 a.2 := fun z => k (.inr ⟨e.symm, z⟩)
  refine Prod.ext e ?_
  by_cases e2 : a.2 = b.2
  · exact e2
  · exact absurd (lexLt_tri h3 e2) h4
def IsBest (rs : List DV.Row3) (r : DV.Row3) : Prop := r ∈ rs ∧ ∀ x ∈ rs, ¬ rowLt x r
theorem fold_best : ∀ (rs : List DV.Row3) (r : DV.Row3), IsBest (r :: rs) (rs.foldl best1 r)
  | [], r => ⟨List.mem_cons_self .., fun x hx => by
      have : x = r := by simpa using hx
      rw [this]; exact rowLt_irr⟩
  | y :: rs, r => by
    rw [List.foldl_cons]
    obtain ⟨h1, h2⟩ := fold_best rs (best1 r y)
    have hb : best1 r y = r ∨ best1 r y = y := by unfold best1; split; exact .inr rfl; exact .inl rfl
    have hy : ¬ rowLt y (best1 r y) := by
      unfold best1
      split
      · exact rowLt_irr
      · rename_i h; exact h
    have hr : ¬ rowLt r (best1 r y) := by
      unfold best1
      split
      · rename_i h; exact fun z => rowLt_irr (rowLt_trans z h)
      · exact rowLt_irr
    refine ⟨?_, fun x hx => ?_⟩
    · rcases List.mem_cons.mp h1 with z | z
      · rw [z]
        rcases hb with e | e <;> rw [e] <;> simp
      · exact List.mem_cons_of_mem _ (List.mem_cons_of_mem _ z)
    · have hbb := h2 _ (List.mem_cons_self ..)
      rcases List.mem_cons.mp hx with rfl | hx
      · intro z
        by_cases e : rs.foldl best1 (best1 x y) = best1 x y
        · rw [e] at z; exact hr z
        · by_cases q : rowLt x (best1 x y)
          · exact hr q
          · -- x is not below best1; best1 is not below the fold
            by_cases w : rowLt (best1 x y) x
            · exact hbb (rowLt_trans w z)
            · have := rowLt_tri q w
              exact hbb (Eq.subst (motive := fun w => rowLt w (rs.foldl best1 (best1 x y))) this z)
      · rcases List.mem_cons.mp hx with rfl | hx
        · intro z
          by_cases q : rowLt (best1 r x) x
          · exact hbb (rowLt_trans q z)
          · have := rowLt_tri hy q
            exact hbb (Eq.subst (motive := fun w => rowLt w (rs.foldl best1 (best1 r x))) this z)
        · exact h2 x (List.mem_cons_of_mem _ hx)
theorem best_spec {rs : List DV.Row3} {r : DV.Row3} (h : bestOf rs = some r) : IsBest rs r := by
  cases rs with
  | nil => cases h
  | cons x xs =>
    rw [bestOf_cons] at h
    rw [← Option.some.inj h]
    exact fold_best xs x
theorem best_unique {rs ss : List DV.Row3} {r q : DV.Row3} (hm : ∀ x, x ∈ rs ↔ x ∈ ss) (h : IsBest rs r) (k : IsBest ss q) : r = q :=
  rowLt_tri (k.2 r ((hm r).mp h.1)) (h.2 q ((hm q).mpr k.1))
theorem near_best {l o : Lg} {rho : Rat} : IsBest (rowsL l o rho) (nearL l o rho) := by
  obtain ⟨r, e, _⟩ := best_of_mem (rows_ne (l := l) (o := o) (rho := rho))
  unfold nearL
  rw [e]
  exact best_spec e
theorem near_eq {l o : Lg} {rho : Rat} {r : DV.Row3} (h : IsBest (rowsL l o rho) r) : nearL l o rho = r := best_unique (fun _ => Iff.rfl) near_best h
theorem near_le {l o : Lg} {rho : Rat} {r : DV.Row3} (h : r ∈ rowsL l o rho) : (nearL l o rho).1 ≤ r.1 := by
  have := near_best.2 r h
  exact Rat.not_lt.mp fun z => this (.inl z)
/-! ### where one leaves what is allowed -/
theorem exit_of : ∀ L : List (Rat × Rat), (∀ p ∈ L, p.1 ≤ 0) → (∃ p ∈ L, 0 < p.1 + p.2) → ∃ x : Rat, 0 ≤ x ∧ x ≤ 1 ∧ (∀ p ∈ L, p.1 + p.2 * x ≤ 0) ∧ ∃ p ∈ L, p.1 + p.2 * x = 0
  | [], _, ⟨p, h, _⟩ => by cases h
  | p :: L, h0, h1 => by
    have hp := h0 p (List.mem_cons_self ..)
    have hL : ∀ q ∈ L, q.1 ≤ 0 := fun q hq => h0 q (List.mem_cons_of_mem _ hq)
    -- the root of p, below some x at which p is above 0
    have root : ∀ x : Rat, 0 ≤ x → x ≤ 1 → 0 < p.1 + p.2 * x → (∀ q ∈ L, q.1 + q.2 * x ≤ 0) → ∃ x : Rat, 0 ≤ x ∧ x ≤ 1 ∧ (∀ q ∈ p :: L, q.1 + q.2 * x ≤ 0) ∧ ∃ q ∈ p :: L, q.1 + q.2 * x = 0 := fun x x0 x1 hx hq => by
      have hpx : 0 < p.2 * x := by grind
      have hb : 0 < p.2 := by
        refine Rat.not_le.mp fun z => ?_
        have : 0 ≤ (-p.2) * x := Rat.mul_nonneg (by grind) x0
        grind
      have hne : p.2 ≠ 0 := Rat.ne_of_gt hb
      have hxp : 0 < x := by
        refine Rat.not_le.mp fun z => ?_
        have : x = 0 := Rat.le_antisymm z x0
        rw [this] at hpx
        grind
      -- y = -p.1 / p.2
      have hy : ∃ y : Rat, p.2 * y = -p.1 := ⟨-p.1 / p.2, by grind⟩
      obtain ⟨y, hy⟩ := hy
      have y0 : 0 ≤ y := by
        refine Rat.not_lt.mp fun z => ?_
        have : 0 < p.2 * (-y) := Rat.mul_pos hb (by grind)
        grind
      have yx : y < x := by
        refine Rat.not_le.mp fun z => ?_
        have : 0 ≤ p.2 * (y - x) := Rat.mul_nonneg (Rat.le_of_lt hb) (by grind)
        grind
      refine ⟨y, y0, by grind, fun q hqm => ?_, p, List.mem_cons_self .., by grind⟩
      rcases List.mem_cons.mp hqm with rfl | hqm
      · grind
      · have a0 := hL q hqm
        have a1 := hq q hqm
        -- x * (q.1 + q.2 y) = (x - y) q.1 + y (q.1 + q.2 x)
        have e : x * (q.1 + q.2 * y) = (x - y) * q.1 + y * (q.1 + q.2 * x) := by grind
        have b1 : 0 ≤ (x - y) * (-q.1) := Rat.mul_nonneg (by grind) (by grind)
        have b2 : 0 ≤ y * (-(q.1 + q.2 * x)) := Rat.mul_nonneg y0 (by grind)
        refine Rat.not_lt.mp fun z => ?_
        have : 0 < x * (q.1 + q.2 * y) := Rat.mul_pos hxp z
        grind
    by_cases hv : ∃ q ∈ L, 0 < q.1 + q.2
    · obtain ⟨x, x0, x1, hx, q, hq, e⟩ := exit_of L hL hv
      by_cases hpx : p.1 + p.2 * x ≤ 0
      · refine ⟨x, x0, x1, fun r hr => ?_, q, List.mem_cons_of_mem _ hq, e⟩
        rcases List.mem_cons.mp hr with rfl | hr
        · exact hpx
        · exact hx r hr
      · exact root x x0 x1 (Rat.not_le.mp hpx) hx
    · obtain ⟨q, hq, hq1⟩ := h1
      rcases List.mem_cons.mp hq with rfl | hq
      · refine root 1 (by decide) Rat.le_refl (by grind) fun r hr => ?_
        have : ¬ 0 < r.1 + r.2 := fun z => hv ⟨r, hr, z⟩
        grind
      · exact absurd ⟨q, hq, hq1⟩ hv
end DV
namespace DV
open PySem PySem.Spec PyProof.Rows L2
open scoped Rat
/-! ### what is allowed, its sides and its corners -/
theorem rabs_le {q r : Rat} : rabs q ≤ r ↔ -r ≤ q ∧ q ≤ r := by
  unfold rabs
  by_cases h : q < 0
  · rw [if_pos h]
    constructor
    · intro z; exact ⟨by grind, by grind⟩
    · intro z; grind
  · rw [if_neg h]
    constructor
    · intro z; exact ⟨by grind, z⟩
    · intro z; exact z.2
theorem within_iff {s t rho : Rat} : within s t rho ↔ 0 ≤ s ∧ s ≤ 1 ∧ 0 ≤ t ∧ t ≤ 1 ∧ s - t ≤ rho ∧ t - s ≤ rho := by
  unfold within
  rw [rabs_le]
  constructor
  · rintro ⟨a, b, c, d, e, f⟩; exact ⟨a, b, c, d, f, by grind⟩
  · rintro ⟨a, b, c, d, e, f⟩; exact ⟨a, b, c, d, by grind, e⟩
/-- the sides, from corner to corner -/
def sides (rho : Rat) : List (Cn × Cn) := [((0, 0), (rho, 0)), ((rho, 0), (1, 1 - rho)), ((1, 1 - rho), (1, 1)), ((1, 1), (1 - rho, 1)), ((1 - rho, 1), (0, rho)), ((0, rho), (0, 0))]
theorem edges_sides {l o : Lg} {rho : Rat} : edges l o rho = (sides rho).map fun p => edge l o p.1 p.2 := rfl
/-- on a side -/
def onSide (p : Cn × Cn) (x s t : Rat) : Prop := 0 ≤ x ∧ x ≤ 1 ∧ s = p.1.1 + x * (p.2.1 - p.1.1) ∧ t = p.1.2 + x * (p.2.2 - p.1.2)
theorem side_within {rho : Rat} (r0 : 0 ≤ rho) (r1 : rho ≤ 1) {p : Cn × Cn} (hp : p ∈ sides rho) {x s t : Rat} (h : onSide p x s t) : within s t rho := by
  obtain ⟨x0, x1, hs, ht⟩ := h
  rw [within_iff]
  have a1 : 0 ≤ x * rho := Rat.mul_nonneg x0 r0
  have a2 : 0 ≤ (1 - x) * rho := Rat.mul_nonneg (by grind) r0
  have a3 : 0 ≤ x * (1 - rho) := Rat.mul_nonneg x0 (by grind)
  have a4 : 0 ≤ (1 - x) * (1 - rho) := Rat.mul_nonneg (by grind) (by grind)
  simp only [sides, List.mem_cons, List.not_mem_nil, or_false] at hp
  rcases hp with rfl | rfl | rfl | rfl | rfl | rfl
  all_goals
    simp only at hs ht
    refine ⟨?_, ?_, ?_, ?_, ?_, ?_⟩ <;> grind
/-- at a bound one is on a side -/
theorem on_side {rho s t : Rat} (r0 : 0 ≤ rho) (r1 : rho ≤ 1) (h : within s t rho) (k : s = 0 ∨ t = 0 ∨ s = 1 ∨ t = 1 ∨ s - t = rho ∨ t - s = rho) : ∃ p ∈ sides rho, ∃ x, onSide p x s t := by
  rw [within_iff] at h
  obtain ⟨s0, s1, t0, t1, d1, d2⟩ := h
  have dv : ∀ a b : Rat, 0 ≤ a → a ≤ b → ∃ x : Rat, 0 ≤ x ∧ x ≤ 1 ∧ x * b = a := fun a b a0 ab => by
    by_cases hb : b = 0
    · exact ⟨0, Rat.le_refl, by decide, by grind⟩
    · have hbp : 0 < b := by grind
      refine ⟨a / b, ?_, ?_, by grind⟩
      · rw [Rat.div_def]; exact Rat.mul_nonneg a0 (Rat.le_of_lt (Rat.inv_pos.mpr hbp))
      · refine Rat.not_lt.mp fun z => ?_
        rw [Rat.lt_div_iff hbp, Rat.one_mul] at z
        exact absurd ab (Rat.not_le.mpr z)
  have mem : ∀ p, p = ((0, 0), (rho, 0)) ∨ p = ((rho, 0), (1, 1 - rho)) ∨ p = ((1, 1 - rho), (1, 1)) ∨ p = ((1, 1), (1 - rho, 1)) ∨ p = ((1 - rho, 1), (0, rho)) ∨ p = ((0, rho), (0, 0)) → p ∈ sides rho := fun p h => by
    simp only [sides, List.mem_cons, List.not_mem_nil, or_false]; exact h
  rcases k with k | k | k | k | k | k
  · obtain ⟨x, x0, x1, e⟩ := dv (rho - t) rho (by grind) (by grind)
    exact ⟨((0, rho), (0, 0)), mem _ (by simp), x, x0, x1, by simp only; grind, by simp only; grind⟩
  · obtain ⟨x, x0, x1, e⟩ := dv s rho (by grind) (by grind)
    exact ⟨((0, 0), (rho, 0)), mem _ (by simp), x, x0, x1, by simp only; grind, by simp only; grind⟩
  · obtain ⟨x, x0, x1, e⟩ := dv (t - (1 - rho)) rho (by grind) (by grind)
    exact ⟨((1, 1 - rho), (1, 1)), mem _ (by simp), x, x0, x1, by simp only; grind, by simp only; grind⟩
  · obtain ⟨x, x0, x1, e⟩ := dv (1 - s) rho (by grind) (by grind)
    exact ⟨((1, 1), (1 - rho, 1)), mem _ (by simp), x, x0, x1, by simp only; grind, by simp only; grind⟩
  · obtain ⟨x, x0, x1, e⟩ := dv t (1 - rho) (by grind) (by grind)
    exact ⟨((rho, 0), (1, 1 - rho)), mem _ (by simp), x, x0, x1, by simp only; grind, by simp only; grind⟩
  · obtain ⟨x, x0, x1, e⟩ := dv (1 - rho - s) (1 - rho) (by grind) (by grind)
    exact ⟨((1 - rho, 1), (0, rho)), mem _ (by simp), x, x0, x1, by simp only; grind, by simp only; grind⟩
/-- going on, one leaves it at a side -/
theorem leaves {rho s t a b : Rat} (r0 : 0 ≤ rho) (r1 : rho ≤ 1) (h : within s t rho) (k : ¬ within (s + a) (t + b) rho) : ∃ x : Rat, 0 ≤ x ∧ x ≤ 1 ∧ ∃ p ∈ sides rho, ∃ y, onSide p y (s + x * a) (t + x * b) := by
  have hh := within_iff.mp h
  obtain ⟨s0, s1, t0, t1, d1, d2⟩ := hh
  obtain ⟨x, x0, x1, hx, p, hp, e⟩ := exit_of [(-s, -a), (s - 1, a), (-t, -b), (t - 1, b), (s - t - rho, a - b), (t - s - rho, b - a)] (fun p hp => by
    simp only [List.mem_cons, List.not_mem_nil, or_false] at hp
    rcases hp with rfl | rfl | rfl | rfl | rfl | rfl <;> simp only <;> grind) (by
    apply Classical.byContradiction
    intro hn
    apply k
    rw [within_iff]
    have q : ∀ p ∈ [(-s, -a), (s - 1, a), (-t, -b), (t - 1, b), (s - t - rho, a - b), (t - s - rho, b - a)], p.1 + p.2 ≤ 0 := fun p hp => Rat.not_lt.mp fun z => hn ⟨p, hp, z⟩
    have q1 := q (-s, -a) (by simp)
    have q2 := q (s - 1, a) (by simp)
    have q3 := q (-t, -b) (by simp)
    have q4 := q (t - 1, b) (by simp)
    have q5 := q (s - t - rho, a - b) (by simp)
    have q6 := q (t - s - rho, b - a) (by simp)
    simp only at q1 q2 q3 q4 q5 q6
    refine ⟨?_, ?_, ?_, ?_, ?_, ?_⟩ <;> grind)
  have q1 := hx (-s, -a) (by simp)
  have q2 := hx (s - 1, a) (by simp)
  have q3 := hx (-t, -b) (by simp)
  have q4 := hx (t - 1, b) (by simp)
  have q5 := hx (s - t - rho, a - b) (by simp)
  have q6 := hx (t - s - rho, b - a) (by simp)
  simp only at q1 q2 q3 q4 q5 q6
  refine ⟨x, x0, x1, on_side r0 r1 (within_iff.mpr ⟨by grind, by grind, by grind, by grind, by grind, by grind⟩) ?_⟩
  simp only [List.mem_cons, List.not_mem_nil, or_false] at hp
  rcases hp with rfl | rfl | rfl | rfl | rfl | rfl <;> simp only at e
  · exact .inl (by grind)
  · exact .inr (.inr (.inl (by grind)))
  · exact .inr (.inl (by grind))
  · exact .inr (.inr (.inr (.inl (by grind))))
  · exact .inr (.inr (.inr (.inr (.inl (by grind)))))
  · exact .inr (.inr (.inr (.inr (.inr (by grind)))))
end DV
namespace DV
open PySem PySem.Spec PyProof.Rows L2
open scoped Rat
/-! ### the nearest is the least of all -/
theorem sq_scale {a x : Rat} (h0 : 0 ≤ x) (h1 : x ≤ 1) : (x * a) * (x * a) ≤ a * a := by
  have e : a * a - (x * a) * (x * a) = (1 - x) * ((1 + x) * (a * a)) := by grind
  have : 0 ≤ (1 - x) * ((1 + x) * (a * a)) := Rat.mul_nonneg (by grind) (Rat.mul_nonneg (by grind) (sq_nonneg a))
  grind
theorem zero_at {l o : Lg} (h : turnI l o ≠ 0) : gx l o (inS l o) (inT l o) = 0 ∧ gy l o (inS l o) (inT l o) = 0 := by
  obtain ⟨ux, uy, vx, vy, mx, my, L⟩ := lin l o
  have hD : mx * vy - my * vx ≠ 0 := by rw [← L.D]; exact rat_ne h
  have hS := L.S h
  have hT := L.T h
  simp only [L.x, L.y]
  generalize inS l o = s at *
  generalize inT l o = t at *
  constructor
  · have : (ux + t * vx - s * mx) * (mx * vy - my * vx) = 0 := by
      have e : (ux + t * vx - s * mx) * (mx * vy - my * vx) = ux * (mx * vy - my * vx) + (t * (mx * vy - my * vx)) * vx - (s * (mx * vy - my * vx)) * mx := by grind
      rw [e, hS, hT]; grind
    rcases Rat.mul_eq_zero.mp this with z | z
    · exact z
    · exact absurd z hD
  · have : (uy + t * vy - s * my) * (mx * vy - my * vx) = 0 := by
      have e : (uy + t * vy - s * my) * (mx * vy - my * vx) = uy * (mx * vy - my * vx) + (t * (mx * vy - my * vx)) * vy - (s * (mx * vy - my * vx)) * my := by grind
      rw [e, hS, hT]; grind
    rcases Rat.mul_eq_zero.mp this with z | z
    · exact z
    · exact absurd z hD
theorem zero_only {l o : Lg} {s t : Rat} (h : turnI l o ≠ 0) (k : gsq l o s t = 0) : s = inS l o ∧ t = inT l o := by
  obtain ⟨z1, z2⟩ := zero_at h
  obtain ⟨k1, k2⟩ := sum_sq_zero (show gx l o s t * gx l o s t + gy l o s t * gy l o s t = 0 from k)
  obtain ⟨ux, uy, vx, vy, mx, my, L⟩ := lin l o
  have hD : mx * vy - my * vx ≠ 0 := by rw [← L.D]; exact rat_ne h
  simp only [L.x, L.y] at *
  generalize inS l o = p at *
  generalize inT l o = q at *
  have a1 : (t - q) * vx = (s - p) * mx := by grind
  have a2 : (t - q) * vy = (s - p) * my := by grind
  constructor
  · have : (s - p) * (mx * vy - my * vx) = 0 := by
      have e : (s - p) * (mx * vy - my * vx) = ((s - p) * mx) * vy - ((s - p) * my) * vx := by grind
      rw [e, ← a1, ← a2]; grind
    rcases Rat.mul_eq_zero.mp this with z | z
    · grind
    · exact absurd z hD
  · have : (t - q) * (mx * vy - my * vx) = 0 := by
      have e : (t - q) * (mx * vy - my * vx) = ((t - q) * vy) * mx - ((t - q) * vx) * my := by grind
      rw [e, a1, a2]; grind
    rcases Rat.mul_eq_zero.mp this with z | z
    · grind
    · exact absurd z hD
theorem side_le {l o : Lg} {rho : Rat} {p : Cn × Cn} (hp : p ∈ sides rho) {x s t : Rat} (h : onSide p x s t) : (nearL l o rho).1 ≤ gsq l o s t := by
  have hm : edge l o p.1 p.2 ∈ rowsL l o rho := List.mem_append_right _ (by rw [edges_sides]; exact List.mem_map_of_mem hp)
  obtain ⟨x0, x1, rfl, rfl⟩ := h
  exact Rat.le_trans (near_le hm) (edge_le x0 x1)
theorem near_least {l o : Lg} {rho s t : Rat} (r0 : 0 ≤ rho) (r1 : rho ≤ 1) (h : within s t rho) : (nearL l o rho).1 ≤ gsq l o s t := by
  by_cases ht : turnI l o = 0
  · obtain ⟨ux, uy, vx, vy, mx, my, L⟩ := lin l o
    have hD : mx * vy - my * vx = 0 := by rw [← L.D, ht]; rfl
    have dir : ∃ a b : Rat, b * vx - a * mx = 0 ∧ b * vy - a * my = 0 ∧ ¬ within (s + a) (t + b) rho := by
      have hw := within_iff.mp h
      by_cases hm : mx = 0 ∧ my = 0
      · refine ⟨2, 0, by rw [hm.1]; grind, by rw [hm.2]; grind, fun z => ?_⟩
        have := (within_iff.mp z).2.1
        have := hw.1
        grind
      · have hN : mx * mx + my * my ≠ 0 := fun z => hm (sum_sq_zero z)
        have hq : ∃ a : Rat, a * (mx * mx + my * my) = 2 * (vx * mx + vy * my) := ⟨2 * (vx * mx + vy * my) / (mx * mx + my * my), by
          generalize mx * mx + my * my = N at *
          grind⟩
        obtain ⟨a, ha⟩ := hq
        refine ⟨a, 2, ?_, ?_, fun z => ?_⟩
        · have : (2 * vx - a * mx) * (mx * mx + my * my) = 0 := by
            have e : (2 * vx - a * mx) * (mx * mx + my * my) = 2 * vx * (mx * mx + my * my) - (a * (mx * mx + my * my)) * mx := by grind
            rw [e, ha]
            have e2 : 2 * vx * (mx * mx + my * my) - 2 * (vx * mx + vy * my) * mx = -2 * my * (mx * vy - my * vx) := by grind
            rw [e2, hD]; grind
          rcases Rat.mul_eq_zero.mp this with z | z
          · exact z
          · exact absurd z hN
        · have : (2 * vy - a * my) * (mx * mx + my * my) = 0 := by
            have e : (2 * vy - a * my) * (mx * mx + my * my) = 2 * vy * (mx * mx + my * my) - (a * (mx * mx + my * my)) * my := by grind
            rw [e, ha]
            have e2 : 2 * vy * (mx * mx + my * my) - 2 * (vx * mx + vy * my) * my = 2 * mx * (mx * vy - my * vx) := by grind
            rw [e2, hD]; grind
          rcases Rat.mul_eq_zero.mp this with z | z
          · exact z
          · exact absurd z hN
        · have := (within_iff.mp z).2.2.2.1
          have := hw.2.2.1
          grind
    obtain ⟨a, b, e1, e2, hn⟩ := dir
    obtain ⟨x, x0, x1, p, hp, y, hy⟩ := leaves r0 r1 h hn
    refine Rat.le_trans (side_le hp hy) ?_
    have g1 : gx l o (s + x * a) (t + x * b) = gx l o s t := by
      simp only [L.x]
      have : x * (b * vx - a * mx) = 0 := by rw [e1]; grind
      grind
    have g2 : gy l o (s + x * a) (t + x * b) = gy l o s t := by
      simp only [L.y]
      have : x * (b * vy - a * my) = 0 := by rw [e2]; grind
      grind
    unfold gsq
    rw [g1, g2]
    exact Rat.le_refl
  · by_cases hw : within (inS l o) (inT l o) rho
    · have hm : ((0, inS l o, inT l o) : DV.Row3) ∈ rowsL l o rho := by
        refine List.mem_append_left _ ?_
        unfold inner
        rw [if_neg ht, if_pos (not_within.mpr hw)]
        exact List.mem_cons_self ..
      exact Rat.le_trans (near_le hm) gsq_nonneg
    · obtain ⟨z1, z2⟩ := zero_at ht
      have hn : ¬ within (s + (inS l o - s)) (t + (inT l o - t)) rho := by
        rw [show s + (inS l o - s) = inS l o by grind, show t + (inT l o - t) = inT l o by grind]
        exact hw
      obtain ⟨x, x0, x1, p, hp, y, hy⟩ := leaves r0 r1 h hn
      refine Rat.le_trans (side_le hp hy) ?_
      obtain ⟨ux, uy, vx, vy, mx, my, L⟩ := lin l o
      have g1 : gx l o (s + x * (inS l o - s)) (t + x * (inT l o - t)) = (1 - x) * gx l o s t := by
        simp only [L.x] at *
        have : x * (ux + inT l o * vx - inS l o * mx) = 0 := by rw [z1]; grind
        grind
      have g2 : gy l o (s + x * (inS l o - s)) (t + x * (inT l o - t)) = (1 - x) * gy l o s t := by
        simp only [L.y] at *
        have : x * (uy + inT l o * vy - inS l o * my) = 0 := by rw [z2]; grind
        grind
      unfold gsq
      rw [g1, g2]
      have a1 := sq_scale (a := gx l o s t) (x := 1 - x) (by grind) (by grind)
      have a2 := sq_scale (a := gy l o s t) (x := 1 - x) (by grind) (by grind)
      grind
theorem row_at {l o : Lg} {rho : Rat} (r0 : 0 ≤ rho) (r1 : rho ≤ 1) : ∀ r ∈ rowsL l o rho, within r.2.1 r.2.2 rho ∧ r.1 = gsq l o r.2.1 r.2.2 := fun r hr => by
  rcases List.mem_append.mp hr with hr | hr
  · unfold inner at hr
    split at hr
    · cases hr
    · rename_i ht
      split at hr
      · rename_i hk
        have : r = (0, inS l o, inT l o) := by simpa using hr
        rw [this]
        obtain ⟨z1, z2⟩ := zero_at ht
        refine ⟨not_within.mp hk, ?_⟩
        show (0 : Rat) = gsq l o (inS l o) (inT l o)
        unfold gsq
        rw [z1, z2]; grind
      · cases hr
  · rw [edges_sides] at hr
    obtain ⟨p, hp, rfl⟩ := List.mem_map.mp hr
    obtain ⟨c0, c1⟩ := clipP_range (l := l) (o := o) (a := p.1) (b := p.2)
    exact ⟨side_within r0 r1 hp (x := clipP l o p.1 p.2) ⟨c0, c1, rfl, rfl⟩, rfl⟩
theorem near_at {l o : Lg} {rho : Rat} (r0 : 0 ≤ rho) (r1 : rho ≤ 1) : within (nearL l o rho).2.1 (nearL l o rho).2.2 rho ∧ (nearL l o rho).1 = gsq l o (nearL l o rho).2.1 (nearL l o rho).2.2 := row_at r0 r1 _ near_best.1
theorem gsq_swap {l o : Lg} {s t : Rat} : gsq o l t s = gsq l o s t := by
  unfold gsq gx gy
  grind
theorem within_swap {s t rho : Rat} : within t s rho ↔ within s t rho := by
  rw [within_iff, within_iff]
  constructor <;> rintro ⟨a, b, c, d, e, f⟩ <;> exact ⟨c, d, a, b, f, e⟩
theorem near_swap {l o : Lg} {rho : Rat} (r0 : 0 ≤ rho) (r1 : rho ≤ 1) : (nearL o l rho).1 = (nearL l o rho).1 := by
  obtain ⟨w1, e1⟩ := near_at (l := l) (o := o) r0 r1
  obtain ⟨w2, e2⟩ := near_at (l := o) (o := l) r0 r1
  refine Rat.le_antisymm ?_ ?_
  · rw [e1, ← gsq_swap]; exact near_least r0 r1 (within_swap.mpr w1)
  · rw [e2, ← gsq_swap]; exact near_least r0 r1 (within_swap.mpr w2)
/-- where the lines meet at an allowed couple, that is the nearest -/
theorem near_inner {l o : Lg} {rho : Rat} (r0 : 0 ≤ rho) (r1 : rho ≤ 1) (ht : turnI l o ≠ 0) (hw : within (inS l o) (inT l o) rho) : nearL l o rho = (0, inS l o, inT l o) := by
  refine near_eq ⟨?_, fun x hx z => ?_⟩
  · refine List.mem_append_left _ ?_
    unfold inner
    rw [if_neg ht, if_pos (not_within.mpr hw)]
    exact List.mem_cons_self ..
  · obtain ⟨_, e⟩ := row_at r0 r1 x hx
    rcases z with z | ⟨z, z2⟩
    · rw [e] at z
      exact absurd gsq_nonneg (Rat.not_le.mpr z)
    · rw [e] at z
      obtain ⟨h1, h2⟩ := zero_only ht z
      rw [show x.2 = (inS l o, inT l o) from Prod.ext h1 h2] at z2
      exact lexLt_irr z2
theorem inner_none {l o : Lg} {rho : Rat} : inner l o rho = [] ↔ turnI l o = 0 ∨ ¬ within (inS l o) (inT l o) rho := by
  unfold inner
  by_cases ht : turnI l o = 0
  · rw [if_pos ht]; simp [ht]
  · rw [if_neg ht]
    by_cases hk : okIn (inS l o) (inT l o) rho
    · rw [if_pos hk]
      have := not_within.mp hk
      simp [ht, this]
    · rw [if_neg hk]
      have : ¬ within (inS l o) (inT l o) rho := fun z => hk (not_within.mpr z)
      simp [this]
end DV
namespace DV
open PySem PySem.Spec PyProof.Rows L2
open scoped Rat
/-! ### apart by sides and turns -/
def gpI (l o : Lg) (d : Int) (p : P2) : P2 := (gI (o.ax - l.ax) (o.bx - o.ax) (l.bx - l.ax) d p.1 p.2, gI (o.ay - l.ay) (o.by' - o.ay) (l.by' - l.ay) d p.1 p.2)
def crI (p q : P2) : Int := p.1 * q.2 - p.2 * q.1
def sideOk (p q : P2) (least : Int) : Prop :=
  let x := q.1 - p.1
  let y := q.2 - p.2
  let along := -(p.1 * x + p.2 * y)
  if along ≤ 0 then least ≤ p.1 * p.1 + p.2 * p.2 else if x * x + y * y ≤ along then least ≤ q.1 * q.1 + q.2 * q.2 else least * (x * x + y * y) ≤ crI p q * crI p q
instance (p q : P2) (least : Int) : Decidable (sideOk p q least) := by unfold sideOk; infer_instance
theorem le_cast {i j : Int} : i ≤ j ↔ (i : Rat) ≤ (j : Rat) := Rat.intCast_le_intCast.symm
theorem mul_le_pos {c a b : Rat} (h : 0 < c) : c * a ≤ c * b ↔ a ≤ b := by
  constructor
  · intro k
    refine Rat.not_lt.mp fun z => ?_
    have : 0 < c * (a - b) := Rat.mul_pos h (by grind)
    grind
  · intro k
    have : 0 ≤ c * (b - a) := Rat.mul_nonneg (Rat.le_of_lt h) (by grind)
    grind
theorem side_ok_iff {l o : Lg} {d r : Int} {c e : P2} (hd : 0 < d) : sideOk (gpI l o d c) (gpI l o d e) (r * r * d * d) ↔ ((r * r : Int) : Rat) ≤ (edge l o (toCn d c) (toCn d e)).1 := by
  have hd0 : d ≠ 0 := Int.ne_of_gt hd
  have hdr : (0 : Rat) < (d : Rat) := Rat.intCast_pos.mpr hd
  have hdn := rat_ne hd0
  -- integers as rationals
  have gx1 : ((gpI l o d c).1 : Rat) = d * gx l o (toCn d c).1 (toCn d c).2 := by
    show _ = (d : Rat) * gx l o (c.1 /. d) (c.2 /. d)
    rw [(g_form hd0).1, Rat.divInt_eq_div]
    show ((gI _ _ _ _ _ _ : Int) : Rat) = _
    generalize ((gI (o.ax - l.ax) (o.bx - o.ax) (l.bx - l.ax) d c.1 c.2 : Int) : Rat) = z
    grind
  have gy1 : ((gpI l o d c).2 : Rat) = d * gy l o (toCn d c).1 (toCn d c).2 := by
    show _ = (d : Rat) * gy l o (c.1 /. d) (c.2 /. d)
    rw [(g_form hd0).2, Rat.divInt_eq_div]
    show ((gI _ _ _ _ _ _ : Int) : Rat) = _
    generalize ((gI (o.ay - l.ay) (o.by' - o.ay) (l.by' - l.ay) d c.1 c.2 : Int) : Rat) = z
    grind
  have gx2 : ((gpI l o d e).1 : Rat) = d * gx l o (toCn d e).1 (toCn d e).2 := by
    show _ = (d : Rat) * gx l o (e.1 /. d) (e.2 /. d)
    rw [(g_form hd0).1, Rat.divInt_eq_div]
    show ((gI _ _ _ _ _ _ : Int) : Rat) = _
    generalize ((gI (o.ax - l.ax) (o.bx - o.ax) (l.bx - l.ax) d e.1 e.2 : Int) : Rat) = z
    grind
  have gy2 : ((gpI l o d e).2 : Rat) = d * gy l o (toCn d e).1 (toCn d e).2 := by
    show _ = (d : Rat) * gy l o (e.1 /. d) (e.2 /. d)
    rw [(g_form hd0).2, Rat.divInt_eq_div]
    show ((gI _ _ _ _ _ _ : Int) : Rat) = _
    generalize ((gI (o.ay - l.ay) (o.by' - o.ay) (l.by' - l.ay) d e.1 e.2 : Int) : Rat) = z
    grind
  -- the row's worth
  obtain ⟨ux, uy, vx, vy, mx, my, L⟩ := lin l o
  generalize hc : toCn d c = a at *
  generalize he : toCn d e = b at *
  have ex : ∀ k : Rat, gx l o (a.1 + k * (b.1 - a.1)) (a.2 + k * (b.2 - a.2)) = gx l o a.1 a.2 + k * (gx l o b.1 b.2 - gx l o a.1 a.2) := fun k => by simp only [L.x]; grind
  have ey : ∀ k : Rat, gy l o (a.1 + k * (b.1 - a.1)) (a.2 + k * (b.2 - a.2)) = gy l o a.1 a.2 + k * (gy l o b.1 b.2 - gy l o a.1 a.2) := fun k => by simp only [L.y]; grind
  have hrow : (edge l o a b).1 = (gx l o a.1 a.2 + clipP l o a b * (gx l o b.1 b.2 - gx l o a.1 a.2)) * (gx l o a.1 a.2 + clipP l o a b * (gx l o b.1 b.2 - gx l o a.1 a.2)) + (gy l o a.1 a.2 + clipP l o a b * (gy l o b.1 b.2 - gy l o a.1 a.2)) * (gy l o a.1 a.2 + clipP l o a b * (gy l o b.1 b.2 - gy l o a.1 a.2)) := by
    show gsq l o (a.1 + clipP l o a b * (b.1 - a.1)) (a.2 + clipP l o a b * (b.2 - a.2)) = _
    unfold gsq
    rw [ex, ey]
  rw [hrow]
  unfold clipP
  generalize gx l o a.1 a.2 = f1 at *
  generalize gy l o a.1 a.2 = f2 at *
  generalize gx l o b.1 b.2 = h1 at *
  generalize gy l o b.1 b.2 = h2 at *
  generalize gpI l o d c = p at *
  generalize gpI l o d e = q at *
  clear ex ey hrow L
  have dd : (0 : Rat) < (d : Rat) * d := Rat.mul_pos hdr hdr
  -- the integers of the program
  have i1 : ((p.1 * p.1 + p.2 * p.2 : Int) : Rat) = d * d * (f1 * f1 + f2 * f2) := by
    simp only [Rat.intCast_add, Rat.intCast_mul, gx1, gy1]; grind
  have i2 : ((q.1 * q.1 + q.2 * q.2 : Int) : Rat) = d * d * (h1 * h1 + h2 * h2) := by
    simp only [Rat.intCast_add, Rat.intCast_mul, gx2, gy2]; grind
  have i3 : ((-(p.1 * (q.1 - p.1) + p.2 * (q.2 - p.2)) : Int) : Rat) = d * d * (-(f1 * (h1 - f1) + f2 * (h2 - f2))) := by
    simp only [Rat.intCast_add, Rat.intCast_mul, Rat.intCast_neg, Rat.intCast_sub, gx1, gy1, gx2, gy2]; grind
  have i4 : (((q.1 - p.1) * (q.1 - p.1) + (q.2 - p.2) * (q.2 - p.2) : Int) : Rat) = d * d * ((h1 - f1) * (h1 - f1) + (h2 - f2) * (h2 - f2)) := by
    simp only [Rat.intCast_add, Rat.intCast_mul, Rat.intCast_sub, gx1, gy1, gx2, gy2]; grind
  have i5 : ((crI p q * crI p q : Int) : Rat) = d * d * (d * d * ((f1 * h2 - f2 * h1) * (f1 * h2 - f2 * h1))) := by
    unfold crI
    simp only [Rat.intCast_mul, Rat.intCast_sub, gx1, gy1, gx2, gy2]; grind
  have i6 : ((r * r * d * d : Int) : Rat) = d * d * ((r * r : Int) : Rat) := by
    simp only [Rat.intCast_mul]; grind
  have i7 : ((r * r * d * d * ((q.1 - p.1) * (q.1 - p.1) + (q.2 - p.2) * (q.2 - p.2)) : Int) : Rat) = d * d * (d * d * (((r * r : Int) : Rat) * ((h1 - f1) * (h1 - f1) + (h2 - f2) * (h2 - f2)))) := by
    rw [Rat.intCast_mul, i6, i4]; grind
  unfold sideOk
  simp only
  by_cases n0 : -(p.1 * (q.1 - p.1) + p.2 * (q.2 - p.2)) ≤ 0
  · have n1 : (d : Rat) * d * (-(f1 * (h1 - f1) + f2 * (h2 - f2))) ≤ ((0 : Int) : Rat) := by rw [← i3]; exact le_cast.mp n0
    rw [if_pos n0, le_cast, i6, i1, mul_le_pos dd]
    have n1' : -(f1 * (h1 - f1) + f2 * (h2 - f2)) ≤ 0 := by
      have : (d : Rat) * d * (-(f1 * (h1 - f1) + f2 * (h2 - f2))) ≤ d * d * 0 := by
        have e : ((0 : Int) : Rat) = 0 := rfl
        rw [e] at n1; grind
      exact (mul_le_pos dd).mp this
    by_cases hs : (h1 - f1) * (h1 - f1) + (h2 - f2) * (h2 - f2) ≠ 0
    · rw [if_pos hs]
      have hN : 0 < (h1 - f1) * (h1 - f1) + (h2 - f2) * (h2 - f2) := by
        have := sq_nonneg (h1 - f1)
        have := sq_nonneg (h2 - f2)
        grind
      have hcl : clipR (((-1 : Int) : Rat) * (f1 * (h1 - f1) + f2 * (h2 - f2)) / ((h1 - f1) * (h1 - f1) + (h2 - f2) * (h2 - f2))) = 0 := by
        have hq : ((-1 : Int) : Rat) * (f1 * (h1 - f1) + f2 * (h2 - f2)) / ((h1 - f1) * (h1 - f1) + (h2 - f2) * (h2 - f2)) ≤ 0 := by
          refine Rat.not_lt.mp fun z => ?_
          rw [Rat.lt_div_iff hN] at z
          have e : ((-1 : Int) : Rat) = -1 := rfl
          rw [e] at z
          grind
        unfold clipR
        generalize ((-1 : Int) : Rat) * (f1 * (h1 - f1) + f2 * (h2 - f2)) / ((h1 - f1) * (h1 - f1) + (h2 - f2) * (h2 - f2)) = raw at *
        by_cases hz : raw < 0
        · rw [if_pos hz]
        · rw [if_neg hz, if_neg (by grind)]
          exact Rat.le_antisymm hq (Rat.not_lt.mp hz)
      rw [hcl]
      have e : (f1 + 0 * (h1 - f1)) * (f1 + 0 * (h1 - f1)) + (f2 + 0 * (h2 - f2)) * (f2 + 0 * (h2 - f2)) = f1 * f1 + f2 * f2 := by grind
      rw [e]
    · obtain ⟨z1, z2⟩ := sum_sq_zero (Decidable.not_not.mp hs)
      rw [z1, z2]
      have e : ∀ k : Rat, (f1 + k * 0) * (f1 + k * 0) + (f2 + k * 0) * (f2 + k * 0) = f1 * f1 + f2 * f2 := fun k => by grind
      rw [e]
  · have n1 : ¬ (d : Rat) * d * (-(f1 * (h1 - f1) + f2 * (h2 - f2))) ≤ ((0 : Int) : Rat) := fun z => n0 (le_cast.mpr (by rw [i3]; exact z))
    rw [if_neg n0]
    have n1' : 0 < -(f1 * (h1 - f1) + f2 * (h2 - f2)) := by
      refine Rat.not_le.mp fun z => n1 ?_
      have : (d : Rat) * d * (-(f1 * (h1 - f1) + f2 * (h2 - f2))) ≤ d * d * 0 := (mul_le_pos dd).mpr z
      have e : ((0 : Int) : Rat) = 0 := rfl
      rw [e]; grind
    have hs : (h1 - f1) * (h1 - f1) + (h2 - f2) * (h2 - f2) ≠ 0 := fun z => by
      obtain ⟨z1, z2⟩ := sum_sq_zero z
      rw [z1, z2] at n1'
      grind
    have hN : 0 < (h1 - f1) * (h1 - f1) + (h2 - f2) * (h2 - f2) := by
      have := sq_nonneg (h1 - f1)
      have := sq_nonneg (h2 - f2)
      grind
    rw [if_pos hs]
    have hraw : ((-1 : Int) : Rat) * (f1 * (h1 - f1) + f2 * (h2 - f2)) / ((h1 - f1) * (h1 - f1) + (h2 - f2) * (h2 - f2)) * ((h1 - f1) * (h1 - f1) + (h2 - f2) * (h2 - f2)) = -(f1 * (h1 - f1) + f2 * (h2 - f2)) := by
      have e : ((-1 : Int) : Rat) = -1 := rfl
      rw [e]
      generalize (h1 - f1) * (h1 - f1) + (h2 - f2) * (h2 - f2) = N at *
      generalize f1 * (h1 - f1) + f2 * (h2 - f2) = M at *
      grind
    generalize ((-1 : Int) : Rat) * (f1 * (h1 - f1) + f2 * (h2 - f2)) / ((h1 - f1) * (h1 - f1) + (h2 - f2) * (h2 - f2)) = raw at *
    have rpos : 0 < raw := by
      refine Rat.not_le.mp fun z => ?_
      have : 0 ≤ (-raw) * ((h1 - f1) * (h1 - f1) + (h2 - f2) * (h2 - f2)) := Rat.mul_nonneg (by grind) (Rat.le_of_lt hN)
      grind
    have rne : ¬ raw < 0 := fun z => absurd (rlt_trans z rpos) Rat.lt_irrefl
    have n3 : (q.1 - p.1) * (q.1 - p.1) + (q.2 - p.2) * (q.2 - p.2) ≤ -(p.1 * (q.1 - p.1) + p.2 * (q.2 - p.2)) ↔ (h1 - f1) * (h1 - f1) + (h2 - f2) * (h2 - f2) ≤ -(f1 * (h1 - f1) + f2 * (h2 - f2)) := by
      rw [le_cast, i4, i3, mul_le_pos dd]
    by_cases n2 : (h1 - f1) * (h1 - f1) + (h2 - f2) * (h2 - f2) ≤ -(f1 * (h1 - f1) + f2 * (h2 - f2))
    · rw [if_pos (n3.mpr n2), le_cast, i6, i2, mul_le_pos dd]
      have hr1 : 1 ≤ raw := by
        refine Rat.not_lt.mp fun z => ?_
        have : 0 < (1 - raw) * ((h1 - f1) * (h1 - f1) + (h2 - f2) * (h2 - f2)) := Rat.mul_pos (by grind) hN
        grind
      have hcl : clipR raw = 1 := by
        unfold clipR
        rw [if_neg rne]
        by_cases hz : 1 < raw
        · rw [if_pos hz]
        · rw [if_neg hz]; exact Rat.le_antisymm (Rat.not_lt.mp hz) hr1
      rw [hcl]
      have e : (f1 + 1 * (h1 - f1)) * (f1 + 1 * (h1 - f1)) + (f2 + 1 * (h2 - f2)) * (f2 + 1 * (h2 - f2)) = h1 * h1 + h2 * h2 := by grind
      rw [e]
    · rw [if_neg fun z => n2 (n3.mp z), le_cast, i7, i5, mul_le_pos dd, mul_le_pos dd]
      have hr1 : ¬ 1 < raw := fun z => n2 (by
        have : 0 < (raw - 1) * ((h1 - f1) * (h1 - f1) + (h2 - f2) * (h2 - f2)) := Rat.mul_pos (by grind) hN
        grind)
      have hcl : clipR raw = raw := by
        unfold clipR
        rw [if_neg rne, if_neg hr1]
      rw [hcl]
      have e : ((h1 - f1) * (h1 - f1) + (h2 - f2) * (h2 - f2)) * ((f1 + raw * (h1 - f1)) * (f1 + raw * (h1 - f1)) + (f2 + raw * (h2 - f2)) * (f2 + raw * (h2 - f2))) = (f1 * h2 - f2 * h1) * (f1 * h2 - f2 * h1) := by
        have e1 : (f1 + raw * (h1 - f1)) * (f1 + raw * (h1 - f1)) + (f2 + raw * (h2 - f2)) * (f2 + raw * (h2 - f2)) = (f1 * f1 + f2 * f2) + 2 * raw * (f1 * (h1 - f1) + f2 * (h2 - f2)) + raw * (raw * ((h1 - f1) * (h1 - f1) + (h2 - f2) * (h2 - f2))) := by grind
        rw [e1, hraw]
        have e2 : ((h1 - f1) * (h1 - f1) + (h2 - f2) * (h2 - f2)) * ((f1 * f1 + f2 * f2) + 2 * raw * (f1 * (h1 - f1) + f2 * (h2 - f2)) + raw * (-(f1 * (h1 - f1) + f2 * (h2 - f2)))) = ((h1 - f1) * (h1 - f1) + (h2 - f2) * (h2 - f2)) * (f1 * f1 + f2 * f2) + (raw * ((h1 - f1) * (h1 - f1) + (h2 - f2) * (h2 - f2))) * (f1 * (h1 - f1) + f2 * (h2 - f2)) := by grind
        rw [e2, hraw]
        grind
      rw [← mul_le_pos (c := (h1 - f1) * (h1 - f1) + (h2 - f2) * (h2 - f2)) hN (a := ((r * r : Int) : Rat)), e]
      rw [Rat.mul_comm]
end DV
namespace DV
open PySem PySem.Spec PyProof.Rows L2
open scoped Rat
def crR (l o : Lg) (p : Cn × Cn) : Rat := gx l o p.1.1 p.1.2 * gy l o p.2.1 p.2.2 - gy l o p.1.1 p.1.2 * gx l o p.2.1 p.2.2
def kR (s t : Rat) (p : Cn × Cn) : Rat := (p.1.1 - s) * (p.2.2 - t) - (p.1.2 - t) * (p.2.1 - s)
/-- of both signs, or all 0 -/
def Mixed (rho : Rat) (f : Cn × Cn → Rat) : Prop := ((∃ p ∈ sides rho, f p < 0) ∧ ∃ p ∈ sides rho, 0 < f p) ∨ ∀ p ∈ sides rho, f p = 0
theorem cr_k {l o : Lg} (h : turnI l o ≠ 0) (p : Cn × Cn) : crR l o p = -((turnI l o : Int) : Rat) * kR (inS l o) (inT l o) p := by
  obtain ⟨z1, z2⟩ := zero_at h
  obtain ⟨ux, uy, vx, vy, mx, my, L⟩ := lin l o
  rw [L.D]
  unfold crR kR
  simp only [L.x, L.y] at *
  generalize inS l o = s at *
  generalize inT l o = t at *
  have e1 : ux = s * mx - t * vx := by grind
  have e2 : uy = s * my - t * vy := by grind
  rw [e1, e2]
  grind
theorem mem_sides {rho : Rat} {f : Cn × Cn → Prop} : (∀ p ∈ sides rho, f p) ↔ f ((0, 0), (rho, 0)) ∧ f ((rho, 0), (1, 1 - rho)) ∧ f ((1, 1 - rho), (1, 1)) ∧ f ((1, 1), (1 - rho, 1)) ∧ f ((1 - rho, 1), (0, rho)) ∧ f ((0, rho), (0, 0)) := by
  unfold sides
  simp only [List.mem_cons, List.not_mem_nil, or_false, forall_eq_or_imp, forall_eq]
theorem mixed_scale {rho c : Rat} {f g : Cn × Cn → Rat} (hc : c ≠ 0) (h : ∀ p, g p = c * f p) : Mixed rho g ↔ Mixed rho f := by
  have pos : 0 < c → ∀ p, (g p < 0 ↔ f p < 0) ∧ (0 < g p ↔ 0 < f p) := fun hp p => by
    rw [h p]
    refine ⟨⟨fun z => Rat.not_le.mp fun w => ?_, fun z => ?_⟩, ⟨fun z => Rat.not_le.mp fun w => ?_, fun z => Rat.mul_pos hp z⟩⟩
    · have := Rat.mul_nonneg (Rat.le_of_lt hp) w; grind
    · have := Rat.mul_pos hp (show 0 < -f p by grind); grind
    · have := Rat.mul_nonneg (Rat.le_of_lt hp) (show 0 ≤ -f p by grind); grind
  have neg : c < 0 → ∀ p, (g p < 0 ↔ 0 < f p) ∧ (0 < g p ↔ f p < 0) := fun hn p => by
    rw [h p]
    have hp : 0 < -c := by grind
    refine ⟨⟨fun z => Rat.not_le.mp fun w => ?_, fun z => ?_⟩, ⟨fun z => Rat.not_le.mp fun w => ?_, fun z => ?_⟩⟩
    · have := Rat.mul_nonneg (Rat.le_of_lt hp) (show 0 ≤ -f p by grind); grind
    · have := Rat.mul_pos hp z; grind
    · have := Rat.mul_nonneg (Rat.le_of_lt hp) w; grind
    · have := Rat.mul_pos hp (show 0 < -f p by grind); grind
  have zer : ∀ p, g p = 0 ↔ f p = 0 := fun p => by
    rw [h p]
    exact ⟨fun z => (Rat.mul_eq_zero.mp z).resolve_left hc, fun z => by rw [z]; grind⟩
  unfold Mixed
  have hz : (∀ p ∈ sides rho, g p = 0) ↔ ∀ p ∈ sides rho, f p = 0 := ⟨fun q p hp => (zer p).mp (q p hp), fun q p hp => (zer p).mpr (q p hp)⟩
  rw [hz]
  by_cases hp : 0 < c
  · have e1 : (∃ p ∈ sides rho, g p < 0) ↔ ∃ p ∈ sides rho, f p < 0 := ⟨fun ⟨p, a, b⟩ => ⟨p, a, ((pos hp p).1).mp b⟩, fun ⟨p, a, b⟩ => ⟨p, a, ((pos hp p).1).mpr b⟩⟩
    have e2 : (∃ p ∈ sides rho, 0 < g p) ↔ ∃ p ∈ sides rho, 0 < f p := ⟨fun ⟨p, a, b⟩ => ⟨p, a, ((pos hp p).2).mp b⟩, fun ⟨p, a, b⟩ => ⟨p, a, ((pos hp p).2).mpr b⟩⟩
    rw [e1, e2]
  · have hn : c < 0 := by grind
    have e1 : (∃ p ∈ sides rho, g p < 0) ↔ ∃ p ∈ sides rho, 0 < f p := ⟨fun ⟨p, a, b⟩ => ⟨p, a, ((neg hn p).1).mp b⟩, fun ⟨p, a, b⟩ => ⟨p, a, ((neg hn p).1).mpr b⟩⟩
    have e2 : (∃ p ∈ sides rho, 0 < g p) ↔ ∃ p ∈ sides rho, f p < 0 := ⟨fun ⟨p, a, b⟩ => ⟨p, a, ((neg hn p).2).mp b⟩, fun ⟨p, a, b⟩ => ⟨p, a, ((neg hn p).2).mpr b⟩⟩
    rw [e1, e2]
    exact ⟨fun z => z.imp (fun w => ⟨w.2, w.1⟩) id, fun z => z.imp (fun w => ⟨w.2, w.1⟩) id⟩
theorem neg_mul_pos {a b : Rat} (h : 0 < a) (k : b < 0) : a * b < 0 := by
  have := Rat.mul_pos h (show 0 < -b by grind)
  grind
theorem mem_side {rho : Rat} : ((0, 0), (rho, 0)) ∈ sides rho ∧ ((rho, 0), (1, 1 - rho)) ∈ sides rho ∧ ((1, 1 - rho), (1, 1)) ∈ sides rho ∧ ((1, 1), (1 - rho, 1)) ∈ sides rho ∧ ((1 - rho, 1), (0, rho)) ∈ sides rho ∧ ((0, rho), (0, 0)) ∈ sides rho := mem_sides.mp fun p hp => hp
theorem k_mixed {rho s t : Rat} (r0 : 0 ≤ rho) (r1 : rho ≤ 1) (h : ¬ within s t rho) : Mixed rho (kR s t) := by
  obtain ⟨m1, m2, m3, m4, m5, m6⟩ := mem_side (rho := rho)
  have k1 : kR s t ((0, 0), (rho, 0)) = rho * t := by unfold kR; simp only; grind
  have k2 : kR s t ((rho, 0), (1, 1 - rho)) = (1 - rho) * (rho - s + t) := by unfold kR; simp only; grind
  have k3 : kR s t ((1, 1 - rho), (1, 1)) = rho * (1 - s) := by unfold kR; simp only; grind
  have k4 : kR s t ((1, 1), (1 - rho, 1)) = rho * (1 - t) := by unfold kR; simp only; grind
  have k5 : kR s t ((1 - rho, 1), (0, rho)) = (1 - rho) * (rho + s - t) := by unfold kR; simp only; grind
  have k6 : kR s t ((0, rho), (0, 0)) = rho * s := by unfold kR; simp only; grind
  by_cases hr : rho = 0
  · by_cases hst : s = t
    · refine .inr (mem_sides.mpr ⟨?_, ?_, ?_, ?_, ?_, ?_⟩)
      · rw [k1, hr]; grind
      · rw [k2, hr, hst]; grind
      · rw [k3, hr]; grind
      · rw [k4, hr]; grind
      · rw [k5, hr, hst]; grind
      · rw [k6, hr]; grind
    · refine .inl ?_
      by_cases hl : s < t
      · exact ⟨⟨_, m5, by rw [k5, hr]; grind⟩, ⟨_, m2, by rw [k2, hr]; grind⟩⟩
      · exact ⟨⟨_, m2, by rw [k2, hr]; grind⟩, ⟨_, m5, by rw [k5, hr]; grind⟩⟩
  · have rp : 0 < rho := by grind
    refine .inl ⟨?_, ?_⟩
    · apply Classical.byContradiction
      intro hn
      have q : ∀ p ∈ sides rho, 0 ≤ kR s t p := fun p hp => Rat.not_lt.mp fun z => hn ⟨p, hp, z⟩
      have q1 := q _ m1
      have q2 := q _ m2
      have q3 := q _ m3
      have q4 := q _ m4
      have q5 := q _ m5
      have q6 := q _ m6
      rw [k1] at q1; rw [k2] at q2; rw [k3] at q3; rw [k4] at q4; rw [k5] at q5; rw [k6] at q6
      have b1 : 0 ≤ t := Rat.not_lt.mp fun z => absurd q1 (Rat.not_le.mpr (neg_mul_pos rp z))
      have b3 : 0 ≤ 1 - s := Rat.not_lt.mp fun z => absurd q3 (Rat.not_le.mpr (neg_mul_pos rp z))
      have b4 : 0 ≤ 1 - t := Rat.not_lt.mp fun z => absurd q4 (Rat.not_le.mpr (neg_mul_pos rp z))
      have b6 : 0 ≤ s := Rat.not_lt.mp fun z => absurd q6 (Rat.not_le.mpr (neg_mul_pos rp z))
      refine h (within_iff.mpr ⟨b6, by grind, b1, by grind, ?_, ?_⟩)
      · by_cases h1 : rho = 1
        · rw [h1]; grind
        · have : 0 ≤ rho - s + t := Rat.not_lt.mp fun z => absurd q2 (Rat.not_le.mpr (neg_mul_pos (by grind) z))
          grind
      · by_cases h1 : rho = 1
        · rw [h1]; grind
        · have : 0 ≤ rho + s - t := Rat.not_lt.mp fun z => absurd q5 (Rat.not_le.mpr (neg_mul_pos (by grind) z))
          grind
    · apply Classical.byContradiction
      intro hn
      have q : ∀ p ∈ sides rho, kR s t p ≤ 0 := fun p hp => Rat.not_lt.mp fun z => hn ⟨p, hp, z⟩
      have q1 := q _ m1
      have q4 := q _ m4
      rw [k1] at q1; rw [k4] at q4
      have : rho * t + rho * (1 - t) = rho := by grind
      grind
theorem mixed_of_none {l o : Lg} {rho : Rat} (r0 : 0 ≤ rho) (r1 : rho ≤ 1) (hi : inner l o rho = []) : Mixed rho (crR l o) := by
  by_cases h : turnI l o = 0
  · have sum : crR l o ((0, 0), (rho, 0)) + crR l o ((rho, 0), (1, 1 - rho)) + crR l o ((1, 1 - rho), (1, 1)) + crR l o ((1, 1), (1 - rho, 1)) + crR l o ((1 - rho, 1), (0, rho)) + crR l o ((0, rho), (0, 0)) = 0 := by
      obtain ⟨ux, uy, vx, vy, mx, my, L⟩ := lin l o
      have hD : mx * vy - my * vx = 0 := by rw [← L.D, h]; rfl
      unfold crR
      simp only [L.x, L.y]
      have e : (ux + 0 * vx - 0 * mx) * (uy + 0 * vy - rho * my) - (uy + 0 * vy - 0 * my) * (ux + 0 * vx - rho * mx) + ((ux + 0 * vx - rho * mx) * (uy + (1 - rho) * vy - 1 * my) - (uy + 0 * vy - rho * my) * (ux + (1 - rho) * vx - 1 * mx)) + ((ux + (1 - rho) * vx - 1 * mx) * (uy + 1 * vy - 1 * my) - (uy + (1 - rho) * vy - 1 * my) * (ux + 1 * vx - 1 * mx)) + ((ux + 1 * vx - 1 * mx) * (uy + 1 * vy - (1 - rho) * my) - (uy + 1 * vy - 1 * my) * (ux + 1 * vx - (1 - rho) * mx)) + ((ux + 1 * vx - (1 - rho) * mx) * (uy + rho * vy - 0 * my) - (uy + 1 * vy - (1 - rho) * my) * (ux + rho * vx - 0 * mx)) + ((ux + rho * vx - 0 * mx) * (uy + 0 * vy - 0 * my) - (uy + rho * vy - 0 * my) * (ux + 0 * vx - 0 * mx)) = -(4 * rho - 2 * rho * rho) * (mx * vy - my * vx) := by grind
      rw [e, hD]
      grind
    obtain ⟨m1, m2, m3, m4, m5, m6⟩ := mem_side (rho := rho)
    by_cases hn : ∃ p ∈ sides rho, crR l o p < 0
    · by_cases hp : ∃ p ∈ sides rho, 0 < crR l o p
      · exact .inl ⟨hn, hp⟩
      · have q : ∀ p ∈ sides rho, crR l o p ≤ 0 := fun p hm => Rat.not_lt.mp fun z => hp ⟨p, hm, z⟩
        have q1 := q _ m1
        have q2 := q _ m2
        have q3 := q _ m3
        have q4 := q _ m4
        have q5 := q _ m5
        have q6 := q _ m6
        exact .inr (mem_sides.mpr ⟨by grind, by grind, by grind, by grind, by grind, by grind⟩)
    · have q : ∀ p ∈ sides rho, 0 ≤ crR l o p := fun p hm => Rat.not_lt.mp fun z => hn ⟨p, hm, z⟩
      have q1 := q _ m1
      have q2 := q _ m2
      have q3 := q _ m3
      have q4 := q _ m4
      have q5 := q _ m5
      have q6 := q _ m6
      exact .inr (mem_sides.mpr ⟨by grind, by grind, by grind, by grind, by grind, by grind⟩)
  · rw [mixed_scale (c := -((turnI l o : Int) : Rat)) (by have := rat_ne h; grind) (cr_k h)]
    exact k_mixed r0 r1 ((inner_none.mp hi).resolve_left h)
theorem not_mixed {l o : Lg} {rho : Rat} (r0 : 0 ≤ rho) (r1 : rho ≤ 1) (hi : inner l o rho ≠ []) (he : ∀ p ∈ sides rho, 0 < (edge l o p.1 p.2).1) : ¬ Mixed rho (crR l o) := by
  have hn : ¬ (turnI l o = 0 ∨ ¬ within (inS l o) (inT l o) rho) := fun z => hi (inner_none.mpr z)
  have ht : turnI l o ≠ 0 := fun z => hn (.inl z)
  have hw : within (inS l o) (inT l o) rho := Decidable.byContradiction fun z => hn (.inr z)
  rw [mixed_scale (c := -((turnI l o : Int) : Rat)) (by have := rat_ne ht; grind) (cr_k ht)]
  obtain ⟨z1, z2⟩ := zero_at ht
  obtain ⟨m1, m2, m3, m4, m5, m6⟩ := mem_side (rho := rho)
  have hq : ∀ p ∈ sides rho, ∀ x, onSide p x (inS l o) (inT l o) → False := fun p hp x hx => by
    obtain ⟨x0, x1, hs, htt⟩ := hx
    have := edge_le (l := l) (o := o) (a := p.1) (b := p.2) x0 x1
    rw [← hs, ← htt] at this
    have e : gsq l o (inS l o) (inT l o) = 0 := by unfold gsq; rw [z1, z2]; grind
    rw [e] at this
    exact absurd (he p hp) (Rat.not_lt.mpr this)
  generalize inS l o = s at *
  generalize inT l o = t at *
  have w := within_iff.mp hw
  obtain ⟨s0, s1, t0, t1, d1, d2⟩ := w
  have k1 : kR s t ((0, 0), (rho, 0)) = rho * t := by unfold kR; simp only; grind
  have k2 : kR s t ((rho, 0), (1, 1 - rho)) = (1 - rho) * (rho - s + t) := by unfold kR; simp only; grind
  have k3 : kR s t ((1, 1 - rho), (1, 1)) = rho * (1 - s) := by unfold kR; simp only; grind
  have k4 : kR s t ((1, 1), (1 - rho, 1)) = rho * (1 - t) := by unfold kR; simp only; grind
  have k5 : kR s t ((1 - rho, 1), (0, rho)) = (1 - rho) * (rho + s - t) := by unfold kR; simp only; grind
  have k6 : kR s t ((0, rho), (0, 0)) = rho * s := by unfold kR; simp only; grind
  rintro (⟨⟨p, hp, hneg⟩, _⟩ | hz)
  · have all : ∀ p ∈ sides rho, 0 ≤ kR s t p := mem_sides.mpr ⟨by rw [k1]; exact Rat.mul_nonneg r0 t0, by rw [k2]; exact Rat.mul_nonneg (by grind) (by grind), by rw [k3]; exact Rat.mul_nonneg r0 (by grind), by rw [k4]; exact Rat.mul_nonneg r0 (by grind), by rw [k5]; exact Rat.mul_nonneg (by grind) (by grind), by rw [k6]; exact Rat.mul_nonneg r0 s0⟩
    exact absurd (all p hp) (Rat.not_le.mpr hneg)
  · obtain ⟨q1, q2, q3, q4, q5, q6⟩ := mem_sides.mp hz
    rw [k3] at q3; rw [k6] at q6
    have hr : rho = 0 := by
      have : rho * (1 - s) + rho * s = rho := by grind
      grind
    have hst : s = t := by rw [hr] at d1 d2; grind
    exact hq _ m2 s ⟨s0, s1, by simp only; rw [hr]; grind, by simp only; rw [hr, ← hst]; grind⟩
/-- apart: all sides are, and 0 is not amid them -/
theorem apart_iff {l o : Lg} {rho c : Rat} (r0 : 0 ≤ rho) (r1 : rho ≤ 1) (hc : 0 < c) : c ≤ (nearL l o rho).1 ↔ (∀ p ∈ sides rho, c ≤ (edge l o p.1 p.2).1) ∧ Mixed rho (crR l o) := by
  constructor
  · intro h
    refine ⟨fun p hp => ?_, ?_⟩
    · have hm : edge l o p.1 p.2 ∈ rowsL l o rho := List.mem_append_right _ (by rw [edges_sides]; exact List.mem_map_of_mem hp)
      exact Rat.le_trans h (near_le hm)
    · refine mixed_of_none r0 r1 (inner_none.mpr ?_)
      apply Classical.byContradiction
      intro hn
      have ht : turnI l o ≠ 0 := fun z => hn (.inl z)
      have hw : within (inS l o) (inT l o) rho := Decidable.byContradiction fun z => hn (.inr z)
      rw [near_inner r0 r1 ht hw] at h
      exact absurd hc (Rat.not_lt.mpr h)
  · rintro ⟨h1, h2⟩
    have hi : inner l o rho = [] := by
      apply Classical.byContradiction
      intro hn
      exact not_mixed r0 r1 hn (fun p hp => by have := h1 p hp; grind) h2
    have hm := (near_best (l := l) (o := o) (rho := rho)).1
    unfold rowsL at hm
    rw [hi, List.nil_append, edges_sides] at hm
    obtain ⟨p, hp, e⟩ := List.mem_map.mp hm
    rw [← e]
    exact h1 p hp
end DV
namespace DV
open PySem PySem.Spec PyProof.Rows L2
open scoped Rat
/-! ### legs led on, turned and made greater -/
def led (k dx dy : Int) (l : Lg) : Lg := ⟨-k * l.ay + dx, k * l.ax + dy, -k * l.by' + dx, k * l.bx + dy⟩
def scR (c : Rat) (r : DV.Row3) : DV.Row3 := (c * r.1, r.2)
theorem led_g {k dx dy : Int} {l o : Lg} {s t : Rat} : gx (led k dx dy l) (led k dx dy o) s t = -(k : Rat) * gy l o s t ∧ gy (led k dx dy l) (led k dx dy o) s t = (k : Rat) * gx l o s t := by
  unfold gx gy px py led
  simp only [Rat.intCast_add, Rat.intCast_sub, Rat.intCast_mul, Rat.intCast_neg]
  constructor <;> grind
theorem led_gsq {k dx dy : Int} {l o : Lg} {s t : Rat} : gsq (led k dx dy l) (led k dx dy o) s t = ((k : Rat) * k) * gsq l o s t := by
  unfold gsq
  rw [led_g.1, led_g.2]
  grind
theorem led_clip {k dx dy : Int} {l o : Lg} {a b : Cn} (hk : k ≠ 0) : clipP (led k dx dy l) (led k dx dy o) a b = clipP l o a b := by
  have hkr := rat_ne hk
  unfold clipP
  simp only [led_g.1, led_g.2]
  generalize gx l o a.1 a.2 = f1
  generalize gy l o a.1 a.2 = f2
  generalize gx l o b.1 b.2 = h1
  generalize gy l o b.1 b.2 = h2
  have e1 : (-(k : Rat) * h2 - -(k : Rat) * f2) * (-(k : Rat) * h2 - -(k : Rat) * f2) + ((k : Rat) * h1 - (k : Rat) * f1) * ((k : Rat) * h1 - (k : Rat) * f1) = ((k : Rat) * k) * ((h1 - f1) * (h1 - f1) + (h2 - f2) * (h2 - f2)) := by grind
  have e2 : -(k : Rat) * f2 * (-(k : Rat) * h2 - -(k : Rat) * f2) + (k : Rat) * f1 * ((k : Rat) * h1 - (k : Rat) * f1) = ((k : Rat) * k) * (f1 * (h1 - f1) + f2 * (h2 - f2)) := by grind
  rw [e1, e2]
  generalize hN : (h1 - f1) * (h1 - f1) + (h2 - f2) * (h2 - f2) = N
  have kk : (k : Rat) * k ≠ 0 := fun z => by rcases Rat.mul_eq_zero.mp z with w | w <;> exact hkr w
  by_cases hn : N = 0
  · rw [hn]
    simp only [Rat.mul_zero, ne_eq, not_true_eq_false, if_false]
  · have : (k : Rat) * k * N ≠ 0 := fun z => by rcases Rat.mul_eq_zero.mp z with w | w; exact kk w; exact hn w
    rw [if_pos this, if_pos hn]
    congr 1
    generalize f1 * (h1 - f1) + f2 * (h2 - f2) = M
    generalize (k : Rat) * k = c at *
    grind
theorem led_edge {k dx dy : Int} {l o : Lg} {a b : Cn} (hk : k ≠ 0) : edge (led k dx dy l) (led k dx dy o) a b = scR ((k : Rat) * k) (edge l o a b) := by
  unfold edge scR onS onT'
  rw [led_clip hk, led_gsq]
theorem divInt_scale {c n d : Int} (hc : c ≠ 0) : (c * n) /. (c * d) = n /. d := by
  rw [Rat.divInt_eq_div, Rat.divInt_eq_div, Rat.intCast_mul, Rat.intCast_mul]
  have := rat_ne hc
  by_cases hd : (d : Rat) = 0
  · rw [hd]; grind
  · grind
theorem led_inner {k dx dy : Int} {l o : Lg} {rho : Rat} (hk : k ≠ 0) : inner (led k dx dy l) (led k dx dy o) rho = (inner l o rho).map (scR ((k : Rat) * k)) := by
  have kk : k * k ≠ 0 := fun z => by rcases Int.mul_eq_zero.mp z with w | w <;> exact hk w
  have e0 : turnI (led k dx dy l) (led k dx dy o) = (k * k) * turnI l o := by unfold turnI led; simp only; grind
  have e1 : inS (led k dx dy l) (led k dx dy o) = inS l o := by
    unfold inS
    rw [e0]
    have : ((led k dx dy o).ax - (led k dx dy l).ax) * ((led k dx dy o).by' - (led k dx dy o).ay) - ((led k dx dy o).ay - (led k dx dy l).ay) * ((led k dx dy o).bx - (led k dx dy o).ax) = (k * k) * ((o.ax - l.ax) * (o.by' - o.ay) - (o.ay - l.ay) * (o.bx - o.ax)) := by unfold led; simp only; grind
    rw [this, divInt_scale kk]
  have e2 : inT (led k dx dy l) (led k dx dy o) = inT l o := by
    unfold inT
    rw [e0]
    have : ((led k dx dy o).ax - (led k dx dy l).ax) * ((led k dx dy l).by' - (led k dx dy l).ay) - ((led k dx dy o).ay - (led k dx dy l).ay) * ((led k dx dy l).bx - (led k dx dy l).ax) = (k * k) * ((o.ax - l.ax) * (l.by' - l.ay) - (o.ay - l.ay) * (l.bx - l.ax)) := by unfold led; simp only; grind
    rw [this, divInt_scale kk]
  unfold inner
  rw [e0, e1, e2]
  by_cases h : turnI l o = 0
  · rw [h, if_pos (by rw [Int.mul_zero]), if_pos rfl]; rfl
  · rw [if_neg h, if_neg (fun z => by rcases Int.mul_eq_zero.mp z with w | w; exact kk w; exact h w)]
    by_cases hw : okIn (inS l o) (inT l o) rho
    · rw [if_pos hw]
      simp only [List.map_cons, List.map_nil, scR, Rat.mul_zero]
    · rw [if_neg hw]; rfl
theorem led_near {k dx dy : Int} {l o : Lg} {rho : Rat} (hk : k ≠ 0) : nearL (led k dx dy l) (led k dx dy o) rho = scR ((k : Rat) * k) (nearL l o rho) := by
  have hkr := rat_ne hk
  have kp : 0 < (k : Rat) * k := by
    have := sq_nonneg (k : Rat)
    have : (k : Rat) * k ≠ 0 := fun z => by rcases Rat.mul_eq_zero.mp z with w | w <;> exact hkr w
    grind
  have hrows : rowsL (led k dx dy l) (led k dx dy o) rho = (rowsL l o rho).map (scR ((k : Rat) * k)) := by
    unfold rowsL
    rw [List.map_append, led_inner hk, edges_sides, edges_sides, List.map_map]
    congr 1
    refine List.map_congr_left fun p _ => ?_
    exact led_edge hk
  obtain ⟨b1, b2⟩ := near_best (l := l) (o := o) (rho := rho)
  refine near_eq ⟨?_, ?_⟩
  · rw [hrows]; exact List.mem_map_of_mem b1
  · intro x hx
    rw [hrows] at hx
    obtain ⟨y, hy, rfl⟩ := List.mem_map.mp hx
    intro z
    refine b2 y hy ?_
    unfold rowLt scR at z
    unfold rowLt
    simp only at z
    rcases z with z | ⟨z, z2⟩
    · refine .inl (Rat.not_le.mp fun w => ?_)
      exact absurd z (Rat.not_lt.mpr ((mul_le_pos kp).mpr w))
    · refine .inr ⟨?_, z2⟩
      exact Rat.le_antisymm ((mul_le_pos kp).mp (by rw [z]; exact Rat.le_refl)) ((mul_le_pos kp).mp (by rw [z]; exact Rat.le_refl))
/-! ### the program's own order of the sides -/
def psides (rho : Rat) : List (Cn × Cn) := [((0, rho), (0, 0)), ((0, 0), (rho, 0)), ((rho, 0), (1, 1 - rho)), ((1, 1 - rho), (1, 1)), ((1, 1), (1 - rho, 1)), ((1 - rho, 1), (0, rho))]
theorem psides_mem {rho : Rat} (p : Cn × Cn) : p ∈ psides rho ↔ p ∈ sides rho := by
  unfold psides sides
  simp only [List.mem_cons, List.not_mem_nil, or_false]
  constructor <;> (intro h; rcases h with h | h | h | h | h | h <;> simp [h])
theorem pnear {l o : Lg} {rho : Rat} (h : inner l o rho = []) {r : DV.Row3} (k : bestOf ((psides rho).map fun p => edge l o p.1 p.2) = some r) : r = nearL l o rho := by
  refine best_unique (fun x => ?_) (best_spec k) near_best
  unfold rowsL
  rw [h, List.nil_append, edges_sides]
  simp only [List.mem_map, psides_mem]
def meetD (l o : Lg) : PyData := if turnI l o = 0 then .none else .tuple [fr (inS l o), fr (inT l o)]
def Bd2 (k : Nat) (p : P2) : Prop := Bd k p.1 ∧ Bd k p.2
theorem Bd2.up {j k : Nat} {p : P2} (h : Bd2 j p) (z : j ≤ k) : Bd2 k p := ⟨h.1.up z, h.2.up z⟩
theorem cpairs_bd {rho : Rat} (h : Sz 20 rho) : ∀ p ∈ cpairs rho.num rho.den, Bd2 21 p := fun p hp => by
  have b0 : Bd 21 0 := by unfold Bd; decide
  have bd : Bd 21 (rho.den : Int) := h.d.up (by decide)
  have bn : Bd 21 rho.num := h.n.up (by decide)
  have bs : Bd 21 ((rho.den : Int) - rho.num) := h.d.sub1 h.n
  simp only [cpairs, List.mem_cons, List.not_mem_nil, or_false] at hp
  rcases hp with rfl | rfl | rfl | rfl | rfl | rfl
  · exact ⟨b0, b0⟩
  · exact ⟨bn, b0⟩
  · exact ⟨bd, bs⟩
  · exact ⟨bd, bd⟩
  · exact ⟨bs, bd⟩
  · exact ⟨b0, bn⟩
theorem gpI_bd {l o : Lg} {d : Int} {p : P2} (h1 : LB 20 l) (h2 : LB 20 o) (hd : Bd 20 d) (hp : Bd2 21 p) : Bd2 45 (gpI l o d p) :=
  ⟨gI_bd (h2.ax.sub1 h1.ax) (h2.bx.sub1 h2.ax) (h1.bx.sub1 h1.ax) hd hp.1 hp.2, gI_bd (h2.ay.sub1 h1.ay) (h2.by'.sub1 h2.ay) (h1.by'.sub1 h1.ay) hd hp.1 hp.2⟩
theorem dok {rho : Rat} (h : Sz 20 rho) : DOk rho.den := ⟨den_pos rho, h.d⟩
theorem cn_of {d : Int} {p : P2} (h : Bd2 21 p) : CnOk d (toCn d p) := ⟨⟨p.1, p.2, rfl, h.1, h.2⟩⟩
/-! at a place, also the last one by -1 -/
theorem on_nat {xs : List PyData} {n : Nat} {x : PyData} {f : PyData → Prop} (h : xs[n]? = some x) : onAt xs (n : Int) f = f x := by
  have hl := (List.getElem?_eq_some_iff.mp h).1
  unfold onAt
  have : atI xs (n : Int) = some x := by
    unfold atI ixN
    rw [if_pos (by omega), if_pos (by omega)]
    exact h
  rw [this]
theorem on4 {a b c d x : PyData} {xs : List PyData} {f : PyData → Prop} : onAt (a :: b :: c :: d :: x :: xs) 4 f = f x := on_nat (n := 4) rfl
theorem on5 {a b c d e x : PyData} {xs : List PyData} {f : PyData → Prop} : onAt (a :: b :: c :: d :: e :: x :: xs) 5 f = f x := on_nat (n := 5) rfl
theorem onm6 {a b c d e x : PyData} {f : PyData → Prop} : onAt [a, b, c, d, e, x] (-1) f = f x := by
  unfold onAt
  have : atI [a, b, c, d, e, x] (-1) = some x := by
    unfold atI ixN
    rw [if_neg (by decide), if_pos (by simp only [List.length_cons, List.length_nil]; omega)]
    rfl
  rw [this]
end DV
namespace DV
open PySem PySem.Spec PyProof.Rows L2
open scoped Rat
/-! ### a side, as the program reckons it -/
def lenI (p q : P2) : Int := (q.1 - p.1) * (q.1 - p.1) + (q.2 - p.2) * (q.2 - p.2)
def aloI (p q : P2) : Int := -(p.1 * (q.1 - p.1) + p.2 * (q.2 - p.2))
def lexI (p q : P2) : Prop := p.1 < q.1 ∨ (p.1 = q.1 ∧ p.2 < q.2)
instance (p q : P2) : Decidable (lexI p q) := by unfold lexI; infer_instance
theorem int_zero {i : Int} (h : (i : Rat) = 0) : i = 0 := Rat.intCast_inj.mp (show (i : Rat) = ((0 : Int) : Rat) from h)
theorem g_at {l o : Lg} {d : Int} {c : P2} (hd : d ≠ 0) : gx l o (toCn d c).1 (toCn d c).2 = (gpI l o d c).1 /. d ∧ gy l o (toCn d c).1 (toCn d c).2 = (gpI l o d c).2 /. d := g_form hd
theorem clip_is {l o : Lg} {d : Int} {c e : P2} (hd : d ≠ 0) (hN : lenI (gpI l o d c) (gpI l o d e) ≠ 0) : clipP l o (toCn d c) (toCn d e) = clipR (aloI (gpI l o d c) (gpI l o d e) /. lenI (gpI l o d c) (gpI l o d e)) := by
  unfold clipP
  simp only [(g_at hd).1, (g_at hd).2, sub_divInt hd]
  generalize gpI l o d c = p at *
  generalize gpI l o d e = q at *
  have hs : ((q.1 - p.1) /. d * ((q.1 - p.1) /. d) + (q.2 - p.2) /. d * ((q.2 - p.2) /. d)) ≠ 0 := fun z => by
    obtain ⟨z1, z2⟩ := sum_sq_zero z
    have hdr := rat_ne hd
    have w : ∀ n : Int, n /. d = 0 → n = 0 := fun n hn => by
      rw [Rat.divInt_eq_div] at hn
      have : (n : Rat) = 0 := by grind
      exact int_zero this
    have w1 := w _ z1
    have w2 := w _ z2
    apply hN
    unfold lenI
    rw [w1, w2]; rfl
  rw [if_pos hs]
  congr 1
  exact (part_eq hd hs).1
theorem den_ne (q : Rat) : (q.den : Int) ≠ 0 := Int.ne_of_gt (den_pos q)
theorem side_far {l o : Lg} {d : Int} {c e : P2} (hd : 0 < d) (hN : lenI (gpI l o d c) (gpI l o d e) ≠ 0) (part : Rat) (hp : part = clipR (aloI (gpI l o d c) (gpI l o d e) /. lenI (gpI l o d c) (gpI l o d e))) :
    edge l o (toCn d c) (toCn d e) = ((((gpI l o d c).1 * part.den + ((gpI l o d e).1 - (gpI l o d c).1) * part.num) * ((gpI l o d c).1 * part.den + ((gpI l o d e).1 - (gpI l o d c).1) * part.num) + ((gpI l o d c).2 * part.den + ((gpI l o d e).2 - (gpI l o d c).2) * part.num) * ((gpI l o d c).2 * part.den + ((gpI l o d e).2 - (gpI l o d c).2) * part.num)) /. (d * d * part.den * part.den), (c.1 * part.den + (e.1 - c.1) * part.num) /. (d * part.den), (c.2 * part.den + (e.2 - c.2) * part.num) /. (d * part.den)) := by
  have hd0 : d ≠ 0 := Int.ne_of_gt hd
  have hdr := rat_ne hd0
  have hc := clip_is (l := l) (o := o) (c := c) (e := e) hd0 hN
  rw [← hp] at hc
  have hm := mul_den part
  have hm0 := den_ne part
  have hmr := rat_ne hm0
  have d1 : d * (part.den : Int) ≠ 0 := Int.mul_ne_zero hd0 hm0
  have d2 : d * d * (part.den : Int) * (part.den : Int) ≠ 0 := Int.mul_ne_zero (Int.mul_ne_zero (Int.mul_ne_zero hd0 hd0) hm0) hm0
  obtain ⟨ux, uy, vx, vy, mx, my, L⟩ := lin l o
  have ex : ∀ k : Rat, gx l o ((toCn d c).1 + k * ((toCn d e).1 - (toCn d c).1)) ((toCn d c).2 + k * ((toCn d e).2 - (toCn d c).2)) = gx l o (toCn d c).1 (toCn d c).2 + k * (gx l o (toCn d e).1 (toCn d e).2 - gx l o (toCn d c).1 (toCn d c).2) := fun k => by simp only [L.x]; grind
  have ey : ∀ k : Rat, gy l o ((toCn d c).1 + k * ((toCn d e).1 - (toCn d c).1)) ((toCn d c).2 + k * ((toCn d e).2 - (toCn d c).2)) = gy l o (toCn d c).1 (toCn d c).2 + k * (gy l o (toCn d e).1 (toCn d e).2 - gy l o (toCn d c).1 (toCn d c).2) := fun k => by simp only [L.y]; grind
  unfold edge onS onT'
  rw [hc]
  refine Prod.ext ?_ (Prod.ext ?_ ?_)
  · show gsq l o _ _ = _
    unfold gsq
    rw [ex, ey, (g_at hd0).1, (g_at hd0).2, (g_at hd0).1, (g_at hd0).2]
    refine divInt_of d2 ?_
    generalize gpI l o d c = p at *
    generalize gpI l o d e = q at *
    simp only [Rat.divInt_eq_div, Rat.intCast_mul, Rat.intCast_add, Rat.intCast_sub]
    generalize ((part.den : Int) : Rat) = m at *
    rw [← hm]
    grind
  · show (c.1 /. d) + part * ((e.1 /. d) - (c.1 /. d)) = _
    refine divInt_of d1 ?_
    simp only [Rat.divInt_eq_div, Rat.intCast_mul, Rat.intCast_add, Rat.intCast_sub]
    generalize ((part.den : Int) : Rat) = m at *
    rw [← hm]
    grind
  · show (c.2 /. d) + part * ((e.2 /. d) - (c.2 /. d)) = _
    refine divInt_of d1 ?_
    simp only [Rat.divInt_eq_div, Rat.intCast_mul, Rat.intCast_add, Rat.intCast_sub]
    generalize ((part.den : Int) : Rat) = m at *
    rw [← hm]
    grind
theorem lex_toCn {d : Int} {c e : P2} (hd : 0 < d) : DV.lexLt (toCn d c) (toCn d e) ↔ lexI c e := by
  rw [lexLt_iff]
  unfold toCn lexI
  simp only
  rw [div_lt hd, div_eq hd, div_lt hd]
theorem side_same {l o : Lg} {d : Int} {c e : P2} (hd : 0 < d) (hN : lenI (gpI l o d c) (gpI l o d e) = 0) :
    edge l o (toCn d c) (toCn d e) = (((gpI l o d c).1 * (gpI l o d c).1 + (gpI l o d c).2 * (gpI l o d c).2) /. (d * d), (if lexI e c then e.1 else c.1) /. d, (if lexI e c then e.2 else c.2) /. d) := by
  have hd0 : d ≠ 0 := Int.ne_of_gt hd
  have hdr := rat_ne hd0
  have z : (gpI l o d e).1 = (gpI l o d c).1 ∧ (gpI l o d e).2 = (gpI l o d c).2 := by
    unfold lenI at hN
    have h1 : (((gpI l o d e).1 - (gpI l o d c).1 : Int) : Rat) * (((gpI l o d e).1 - (gpI l o d c).1 : Int) : Rat) + (((gpI l o d e).2 - (gpI l o d c).2 : Int) : Rat) * (((gpI l o d e).2 - (gpI l o d c).2 : Int) : Rat) = 0 := by
      rw [← Rat.intCast_mul, ← Rat.intCast_mul, ← Rat.intCast_add, hN]; rfl
    obtain ⟨a, b⟩ := sum_sq_zero h1
    have a' := int_zero a
    have b' := int_zero b
    omega
  have hx : gx l o (toCn d e).1 (toCn d e).2 = gx l o (toCn d c).1 (toCn d c).2 := by rw [(g_at hd0).1, (g_at hd0).1, z.1]
  have hy : gy l o (toCn d e).1 (toCn d e).2 = gy l o (toCn d c).1 (toCn d c).2 := by rw [(g_at hd0).2, (g_at hd0).2, z.2]
  have hc : clipP l o (toCn d c) (toCn d e) = if lexI e c then 1 else 0 := by
    unfold clipP
    simp only [hx, hy]
    rw [if_neg (by
      intro h
      apply h
      grind)]
    by_cases hl : lexI e c
    · rw [if_pos ((lex_toCn hd).mpr hl), if_pos hl]; decide
    · rw [if_neg (fun w => hl ((lex_toCn hd).mp w)), if_neg hl]; decide
  have gc : gsq l o (toCn d c).1 (toCn d c).2 = ((gpI l o d c).1 * (gpI l o d c).1 + (gpI l o d c).2 * (gpI l o d c).2) /. (d * d) := by
    unfold gsq
    rw [(g_at hd0).1, (g_at hd0).2]
    refine divInt_of (Int.mul_ne_zero hd0 hd0) ?_
    simp only [Rat.divInt_eq_div, Rat.intCast_mul, Rat.intCast_add]
    grind
  unfold edge onS onT'
  rw [hc]
  by_cases hl : lexI e c
  · simp only [if_pos hl]
    have e1 : (toCn d c).1 + 1 * ((toCn d e).1 - (toCn d c).1) = (toCn d e).1 := by grind
    have e2 : (toCn d c).2 + 1 * ((toCn d e).2 - (toCn d c).2) = (toCn d e).2 := by grind
    rw [e1, e2]
    refine Prod.ext ?_ rfl
    show gsq l o (toCn d e).1 (toCn d e).2 = _
    rw [← gc]
    unfold gsq
    rw [hx, hy]
  · simp only [if_neg hl]
    have e1 : (toCn d c).1 + 0 * ((toCn d e).1 - (toCn d c).1) = (toCn d c).1 := by grind
    have e2 : (toCn d c).2 + 0 * ((toCn d e).2 - (toCn d c).2) = (toCn d c).2 := by grind
    rw [e1, e2]
    exact Prod.ext gc rfl
/-! ### which sides, at the corners told in integers -/
def pcorn (n d : Int) : List (P2 × P2) := [((0, n), (0, 0)), ((0, 0), (n, 0)), ((n, 0), (d, d - n)), ((d, d - n), (d, d)), ((d, d), (d - n, d)), ((d - n, d), (0, n))]
theorem pcorn_sides {rho : Rat} : psides rho = (pcorn rho.num rho.den).map fun p => (toCn rho.den p.1, toCn rho.den p.2) := by
  have hd := den_pos rho
  have e0 : (0 : Rat) = (0 : Int) /. (rho.den : Int) := (Rat.zero_divInt _).symm
  have e1 : (1 : Rat) = (rho.den : Int) /. (rho.den : Int) := (Rat.divInt_self' (Int.ne_of_gt hd)).symm
  have er : rho.num /. (rho.den : Int) = rho := (rat_ndi rho).symm
  have es : ((rho.den : Int) - rho.num) /. (rho.den : Int) = 1 - rho := by rw [← sub_divInt (Int.ne_of_gt hd), ← e1, er]
  unfold psides pcorn toCn
  simp only [List.map_cons, List.map_nil, er, es, ← e0, ← e1]
theorem cmp_neg {p q : Rat} : cmpR p q < 0 ↔ p < q := by
  unfold cmpR
  by_cases h : p < q
  · rw [if_pos h]; exact ⟨fun _ => h, fun _ => by decide⟩
  · rw [if_neg h]
    by_cases h2 : q < p
    · rw [if_pos h2]; exact ⟨fun z => absurd z (by decide), fun z => absurd z h⟩
    · rw [if_neg h2]; exact ⟨fun z => absurd z (by decide), fun z => absurd z h⟩
theorem cmp_zero {p q : Rat} : cmpR p q = 0 ↔ p = q := by
  unfold cmpR
  by_cases h : p < q
  · rw [if_pos h]; exact ⟨fun z => absurd z (by decide), fun z => absurd h (z ▸ Rat.lt_irrefl)⟩
  · rw [if_neg h]
    by_cases h2 : q < p
    · rw [if_pos h2]; exact ⟨fun z => absurd z (by decide), fun z => absurd h2 (z ▸ Rat.lt_irrefl)⟩
    · rw [if_neg h2]; exact ⟨fun _ => lt_trich h h2, fun _ => rfl⟩
theorem as_bool {p b : Prop} {_ : Decidable p} {_ : Decidable b} {Q : PyData → Prop} (hQ : Q (.bool (decide p))) (h : p ↔ b) : Q (.bool (decide b)) := by
  rw [decide_eq_decide.mpr h] at hQ
  exact hQ
/-! ### all sides and all turns, as the program asks them -/
theorem turn_eq {l o : Lg} {d : Int} {c e : P2} (hd : d ≠ 0) : ((crI (gpI l o d c) (gpI l o d e) : Int) : Rat) = ((d : Rat) * d) * crR l o (toCn d c, toCn d e) := by
  have hdr := rat_ne hd
  unfold crI crR
  simp only [(g_at hd).1, (g_at hd).2, Rat.divInt_eq_div, Rat.intCast_sub, Rat.intCast_mul]
  generalize gpI l o d c = p
  generalize gpI l o d e = q
  grind
def turnsI (l o : Lg) (rho : Rat) : List Int := (pcorn rho.num rho.den).map fun p => crI (gpI l o rho.den p.1) (gpI l o rho.den p.2)
theorem turns_mixed {l o : Lg} {rho : Rat} : Mixed rho (crR l o) ↔ ((∃ t ∈ turnsI l o rho, t < 0) ∧ ∃ t ∈ turnsI l o rho, 0 < t) ∨ ∀ t ∈ turnsI l o rho, t = 0 := by
  have hd := den_pos rho
  have hd0 := Int.ne_of_gt hd
  have dp : (0 : Rat) < ((rho.den : Int) : Rat) * ((rho.den : Int) : Rat) := by
    have : (0 : Rat) < ((rho.den : Int) : Rat) := Rat.intCast_pos.mpr hd
    exact Rat.mul_pos this this
  have back : ∀ p ∈ sides rho, ∃ c ∈ pcorn rho.num rho.den, p = (toCn rho.den c.1, toCn rho.den c.2) := fun p hp => by
    have := (psides_mem p).mpr hp
    rw [pcorn_sides] at this
    obtain ⟨c, hc, e⟩ := List.mem_map.mp this
    exact ⟨c, hc, e.symm⟩
  have forth : ∀ c ∈ pcorn rho.num rho.den, (toCn rho.den c.1, toCn rho.den c.2) ∈ sides rho := fun c hc => by
    rw [← psides_mem, pcorn_sides]
    exact List.mem_map.mpr ⟨c, hc, rfl⟩
  have tn : ∀ c : P2 × P2, (crI (gpI l o rho.den c.1) (gpI l o rho.den c.2) < 0 ↔ crR l o (toCn rho.den c.1, toCn rho.den c.2) < 0) ∧ (0 < crI (gpI l o rho.den c.1) (gpI l o rho.den c.2) ↔ 0 < crR l o (toCn rho.den c.1, toCn rho.den c.2)) ∧ (crI (gpI l o rho.den c.1) (gpI l o rho.den c.2) = 0 ↔ crR l o (toCn rho.den c.1, toCn rho.den c.2) = 0) := fun c => by
    have e := turn_eq (l := l) (o := o) (c := c.1) (e := c.2) hd0
    generalize crI (gpI l o rho.den c.1) (gpI l o rho.den c.2) = n at *
    generalize crR l o (toCn rho.den c.1, toCn rho.den c.2) = r at *
    have n0 : (n < 0 ↔ (n : Rat) < 0) := by
      have := Rat.intCast_lt_intCast (a := n) (b := 0)
      exact this.symm
    have n1 : (0 < n ↔ (0 : Rat) < n) := Rat.intCast_pos.symm
    have n2 : (n = 0 ↔ (n : Rat) = 0) := ⟨fun h => by rw [h]; rfl, int_zero⟩
    rw [n0, n1, n2, e]
    refine ⟨⟨fun z => Rat.not_le.mp fun w => ?_, fun z => neg_mul_pos dp z⟩, ⟨fun z => Rat.not_le.mp fun w => ?_, fun z => Rat.mul_pos dp z⟩, ⟨fun z => (Rat.mul_eq_zero.mp z).resolve_left (Rat.ne_of_gt dp), fun z => by rw [z]; grind⟩⟩
    · have := Rat.mul_nonneg (Rat.le_of_lt dp) w; grind
    · have := Rat.mul_nonneg (Rat.le_of_lt dp) (show 0 ≤ -r by grind); grind
  unfold Mixed turnsI
  constructor
  · rintro (⟨⟨p, hp, a⟩, ⟨q, hq, b⟩⟩ | h)
    · obtain ⟨c, hc, rfl⟩ := back p hp
      obtain ⟨c2, hc2, rfl⟩ := back q hq
      exact .inl ⟨⟨_, List.mem_map.mpr ⟨c, hc, rfl⟩, (tn c).1.mpr a⟩, ⟨_, List.mem_map.mpr ⟨c2, hc2, rfl⟩, (tn c2).2.1.mpr b⟩⟩
    · refine .inr fun t ht => ?_
      obtain ⟨c, hc, rfl⟩ := List.mem_map.mp ht
      exact (tn c).2.2.mpr (h _ (forth c hc))
  · rintro (⟨⟨p, hp, a⟩, ⟨q, hq, b⟩⟩ | h)
    · obtain ⟨c, hc, rfl⟩ := List.mem_map.mp hp
      obtain ⟨c2, hc2, rfl⟩ := List.mem_map.mp hq
      exact .inl ⟨⟨_, forth c hc, (tn c).1.mp a⟩, ⟨_, forth c2 hc2, (tn c2).2.1.mp b⟩⟩
    · refine .inr fun p hp => ?_
      obtain ⟨c, hc, rfl⟩ := back p hp
      exact (tn c).2.2.mp (h _ (List.mem_map.mpr ⟨c, hc, rfl⟩))
theorem all_sides {l o : Lg} {rho : Rat} {r : Int} : (∀ p ∈ sides rho, ((r * r : Int) : Rat) ≤ (edge l o p.1 p.2).1) ↔ ∀ c ∈ pcorn rho.num rho.den, sideOk (gpI l o rho.den c.1) (gpI l o rho.den c.2) (r * r * rho.den * rho.den) := by
  have hd := den_pos rho
  constructor
  · intro h c hc
    rw [side_ok_iff hd]
    refine h (toCn rho.den c.1, toCn rho.den c.2) ?_
    rw [← psides_mem, pcorn_sides]
    exact List.mem_map.mpr ⟨c, hc, rfl⟩
  · intro h p hp
    have := (psides_mem p).mpr hp
    rw [pcorn_sides] at this
    obtain ⟨c, hc, rfl⟩ := List.mem_map.mp this
    exact (side_ok_iff hd).mp (h c hc)
/-- the least and the greatest tell which signs there are -/
theorem min_max_mixed {ts : List Int} {lo hi : Int} (h1 : lo ∈ ts) (h2 : ∀ y ∈ ts, lo ≤ y) (h3 : hi ∈ ts) (h4 : ∀ y ∈ ts, y ≤ hi) : ((lo < 0 ∧ 0 < hi) ∨ (lo = hi ∧ hi = 0)) ↔ ((∃ t ∈ ts, t < 0) ∧ ∃ t ∈ ts, 0 < t) ∨ ∀ t ∈ ts, t = 0 := by
  constructor
  · rintro (⟨a, b⟩ | ⟨a, b⟩)
    · exact .inl ⟨⟨lo, h1, a⟩, ⟨hi, h3, b⟩⟩
    · exact .inr fun t ht => by have := h2 t ht; have := h4 t ht; omega
  · rintro (⟨⟨t, ht, a⟩, ⟨u, hu, b⟩⟩ | h)
    · exact .inl ⟨by have := h2 t ht; omega, by have := h4 u hu; omega⟩
    · exact .inr ⟨by rw [h lo h1, h hi h3], h hi h3⟩
theorem on_m1 {a b c d e x : PyData} {f : PyData → Prop} : onAt [a, b, c, d, e, x] (0 + ((0 : Nat) : Int) - 1) f = f x := onm6
theorem at_pair {n d : Int} {i : Nat} {c : P2 × P2} (g : P2 → PyData) (k : PyData → Prop) (h : (pcorn n d)[i]? = some c) : onAt ((cpairs n d).map g) (0 + (i : Int) - 1) k = k (g c.1) ∧ onAt ((cpairs n d).map g) (0 + (i : Int)) k = k (g c.2) := by
  have hi : i < 6 := (List.getElem?_eq_some_iff.mp h).1
  have e1 : ∀ m : Nat, (0 + ((m + 1 : Nat) : Int) - 1) = (m : Int) := fun m => by omega
  have e2 : (0 + (i : Int)) = (i : Int) := by omega
  rw [e2]
  match i, hi, h with
  | 0, _, h =>
    cases h
    exact ⟨on_m1, on_nat (n := 0) rfl⟩
  | 1, _, h =>
    cases h
    exact ⟨on_nat (n := 0) rfl, on_nat (n := 1) rfl⟩
  | 2, _, h =>
    cases h
    exact ⟨on_nat (n := 1) rfl, on_nat (n := 2) rfl⟩
  | 3, _, h =>
    cases h
    exact ⟨on_nat (n := 2) rfl, on_nat (n := 3) rfl⟩
  | 4, _, h =>
    cases h
    exact ⟨on_nat (n := 3) rfl, on_nat (n := 4) rfl⟩
  | 5, _, h =>
    cases h
    exact ⟨on_nat (n := 4) rfl, on_nat (n := 5) rfl⟩
  | m + 6, hi, _ => omega
theorem pcorn_at {n d : Int} {i : Nat} (h : i < 6) : ∃ c, (pcorn n d)[i]? = some c ∧ c ∈ pcorn n d ∧ c.1 ∈ cpairs n d ∧ c.2 ∈ cpairs n d := by
  have hl : i < (pcorn n d).length := h
  refine ⟨_, List.getElem?_eq_getElem hl, List.getElem_mem hl, ?_⟩
  have hm := List.getElem_mem hl
  generalize (pcorn n d)[i] = c at hm
  simp only [pcorn, List.mem_cons, List.not_mem_nil, or_false] at hm
  rcases hm with rfl | rfl | rfl | rfl | rfl | rfl <;> simp [cpairs]
theorem f_all {bs : List Bool} {Q : PyData → Prop} (h : Q (.bool (bs.all id))) : fAllB [.list (bs.map .bool)] Q := by
  show match asBools (bs.map .bool) with
    | some ns => Q (.bool (ns.all id))
    | _ => False
  rw [asBools_map]; exact h
theorem f_any {bs : List Bool} {Q : PyData → Prop} (h : Q (.bool (bs.any id))) : fAnyB [.list (bs.map .bool)] Q := by
  show match asBools (bs.map .bool) with
    | some ns => Q (.bool (ns.any id))
    | _ => False
  rw [asBools_map]; exact h
theorem f_maxL {ns : List Int} {Q : PyData → Prop} (h0 : 0 < ns.length) (h : ∀ m, m ∈ ns → (∀ y, y ∈ ns → y ≤ m) → Q (.int m)) : fMaxL [.list (ns.map .int)] Q := by
  show match asInts (ns.map .int) with
    | some ns => 0 < ns.length ∧ ∀ m, m ∈ ns → (∀ y, y ∈ ns → y ≤ m) → Q (.int m)
    | _ => False
  rw [asInts_map]; exact ⟨h0, h⟩
theorem f_minL {ns : List Int} {Q : PyData → Prop} (h0 : 0 < ns.length) (h : ∀ m, m ∈ ns → (∀ y, y ∈ ns → m ≤ y) → Q (.int m)) : fMinL [.list (ns.map .int)] Q := by
  show match asInts (ns.map .int) with
    | some ns => 0 < ns.length ∧ ∀ m, m ∈ ns → (∀ y, y ∈ ns → m ≤ y) → Q (.int m)
    | _ => False
  rw [asInts_map]; exact ⟨h0, h⟩
end DV
namespace DV
open PySem PySem.Spec PyProof.Rows L2
open scoped Rat
/-! ### finer sizes -/
structure Sf (r : DV.Row3) : Prop where
  q : Sz 300 r.1
  s : Sz 120 r.2.1
  t : Sz 120 r.2.2
theorem edge_sf {l o : Lg} {d : Int} {c e : P2} (h1 : LB 20 l) (h2 : LB 20 o) (hd : DOk d) (hc : Bd2 21 c) (he : Bd2 21 e) : Sf (edge l o (toCn d c) (toCn d e)) := by
  have b1 := gpI_bd h1 h2 hd.bd hc
  have b2 := gpI_bd h1 h2 hd.bd he
  have x1 := b2.1.sub1 b1.1
  have x2 := b2.2.sub1 b1.2
  have hd0 : d ≠ 0 := Int.ne_of_gt hd.pos
  have d2 : d * d ≠ 0 := Int.mul_ne_zero hd0 hd0
  have dd := hd.bd.mul hd.bd
  by_cases hN : lenI (gpI l o d c) (gpI l o d e) = 0
  · rw [side_same hd.pos hN]
    refine ⟨(sz_divInt ((b1.1.mul b1.1).add1 (b1.2.mul b1.2)) dd d2).up (by decide), ?_, ?_⟩
    · by_cases hl : lexI e c
      · simp only [hl, if_true]; exact (sz_divInt he.1 hd.bd hd0).up (by decide)
      · simp only [hl, if_false]; exact (sz_divInt hc.1 hd.bd hd0).up (by decide)
    · by_cases hl : lexI e c
      · simp only [hl, if_true]; exact (sz_divInt he.2 hd.bd hd0).up (by decide)
      · simp only [hl, if_false]; exact (sz_divInt hc.2 hd.bd hd0).up (by decide)
  · have bl : Bd 93 (lenI (gpI l o d c) (gpI l o d e)) := ((x1.mul x1).add1 (x2.mul x2))
    have ba : Bd 93 (aloI (gpI l o d c) (gpI l o d e)) := (((b1.1.mul x1).add1 (b1.2.mul x2)).neg).up (by decide)
    have sc := clip_sz ((sz_divInt ba bl hN).up (show max 93 93 ≤ 93 by decide))
    rw [side_far hd.pos hN _ rfl]
    generalize clipR (aloI (gpI l o d c) (gpI l o d e) /. lenI (gpI l o d c) (gpI l o d e)) = part at *
    have y1 := (b1.1.mul sc.d).up (show _ ≤ 139 by decide) |>.add1 ((x1.mul sc.n).up (show _ ≤ 139 by decide))
    have y2 := (b1.2.mul sc.d).up (show _ ≤ 139 by decide) |>.add1 ((x2.mul sc.n).up (show _ ≤ 139 by decide))
    have ce1 := he.1.sub1 hc.1
    have ce2 := he.2.sub1 hc.2
    have m0 := den_ne part
    exact ⟨(sz_divInt ((y1.mul y1).add1 (y2.mul y2)) ((dd.mul sc.d).mul sc.d) (Int.mul_ne_zero (Int.mul_ne_zero d2 m0) m0)).up (by decide),
      (sz_divInt (((hc.1.mul sc.d).up (show _ ≤ 115 by decide)).add1 ((ce1.mul sc.n).up (show _ ≤ 115 by decide))) (hd.bd.mul sc.d) (Int.mul_ne_zero hd0 m0)).up (by decide),
      (sz_divInt (((hc.2.mul sc.d).up (show _ ≤ 115 by decide)).add1 ((ce2.mul sc.n).up (show _ ≤ 115 by decide))) (hd.bd.mul sc.d) (Int.mul_ne_zero hd0 m0)).up (by decide)⟩
theorem near_sf {l o : Lg} {rho : Rat} (h1 : LB 20 l) (h2 : LB 20 o) (h : Sz 20 rho) : Sf (nearL l o rho) := by
  have hm := (near_best (l := l) (o := o) (rho := rho)).1
  generalize nearL l o rho = r at *
  rcases List.mem_append.mp hm with hm | hm
  · unfold inner at hm
    split at hm
    · cases hm
    · rename_i ht
      split at hm
      · have : r = (0, inS l o, inT l o) := by simpa using hm
        rw [this]
        exact ⟨sz_zero, (inS_sz h1 h2 ht).up (by decide), (inT_sz h1 h2 ht).up (by decide)⟩
      · cases hm
  · rw [edges_sides] at hm
    obtain ⟨p, hp, rfl⟩ := List.mem_map.mp hm
    have := (psides_mem p).mpr hp
    rw [pcorn_sides] at this
    obtain ⟨c, hc, rfl⟩ := List.mem_map.mp this
    have hcb := cpairs_bd h
    have c1 : c.1 ∈ cpairs rho.num rho.den ∧ c.2 ∈ cpairs rho.num rho.den := by
      simp only [pcorn, List.mem_cons, List.not_mem_nil, or_false] at hc
      rcases hc with rfl | rfl | rfl | rfl | rfl | rfl <;> simp [cpairs]
    exact edge_sf h1 h2 (dok h) (hcb _ c1.1) (hcb _ c1.2)
theorem fa_pf3 {r : DV.Row3} {j k : Nat} (h : Sz j r.1) (h2 : Sz k r.2.1) (h3 : Sz k r.2.2) (z : j ≤ 1000 := by decide) (y : k ≤ 1000 := by decide) : Fn 2 6036 (pf3 r) := Fn.tuple (n := 3) (all3 (fa_fr h z) (fa_fr h2 y) (fa_fr h3 y)) (Nat.le_refl _)
theorem lb_up {j k : Nat} {l : Lg} (h : LB j l) (z : j ≤ k := by decide) : LB k l := ⟨h.ax.up z, h.ay.up z, h.bx.up z, h.by'.up z⟩
theorem led_lb {k dx dy : Int} {l : Lg} (h : LB 14 l) (k0 : -4 ≤ k) (k1 : k ≤ 4) (x0 : -100 ≤ dx) (x1 : dx ≤ 100) (y0 : -100 ≤ dy) (y1 : dy ≤ 100) : LB 20 (led k dx dy l) := by
  have hk : Bd 3 k := bd_of 4 k0 k1
  have hx : Bd 17 dx := bd_of 100 x0 x1
  have hy : Bd 17 dy := bd_of 100 y0 y1
  exact ⟨((hk.neg.mul h.ay).add1 hx).up (by decide), ((hk.mul h.ax).add1 hy).up (by decide), ((hk.neg.mul h.by').add1 hx).up (by decide), ((hk.mul h.bx).add1 hy).up (by decide)⟩
theorem not_below {a b : Rat} : (!decide (a < b)) = decide (b ≤ a) := by
  rw [← decide_not]
  exact decide_eq_decide.mpr Rat.not_lt
end DV
namespace DV
open PySem PySem.Spec PyProof.Rows L2
open scoped Rat
/-! ### papers of two legs -/
inductive Paper
  | near (p q : Rat)
  | away (a b : Int)
def encW : Paper → PyData
  | .near p q => .tuple [.str (Str.ofString "near"), fr p, fr q]
  | .away a b => .tuple [.str (Str.ofString "away"), pr a b]
/-- how far a corner lies in a direction -/
def far (l o : Lg) (a b : Int) (c : Cn) : Rat := (a : Rat) * gx l o c.1 c.2 + (b : Rat) * gy l o c.1 c.2
def farOk (l o : Lg) (r : Int) (a b : Int) (c : Cn) : Prop := 0 < far l o a b c ∧ ((r * r * (a * a + b * b) : Int) : Rat) ≤ far l o a b c * far l o a b c
instance (l o : Lg) (r a b : Int) (c : Cn) : Decidable (farOk l o r a b c) := by unfold farOk; infer_instance
def paperOk (l o : Lg) (rho : Rat) (r : Int) : Paper → Prop
  | .near p q => gsq l o p q < ((r * r : Int) : Rat) ∧ within p q rho
  | .away a b => ¬ (a = 0 ∧ b = 0) ∧ ∀ c ∈ crn rho, farOk l o r a b c
instance (l o : Lg) (rho : Rat) (r : Int) (w : Paper) : Decidable (paperOk l o rho r w) := by
  cases w <;> unfold paperOk <;> infer_instance
/-- the direction of a gap, without a common divisor -/
def dirOf (l o : Lg) (s t : Rat) : P2 :=
  let a := (gx l o s t).num * ((gy l o s t).den : Int)
  let b := (gy l o s t).num * ((gx l o s t).den : Int)
  (a / ((Nat.gcd a.natAbs b.natAbs : Nat) : Int), b / ((Nat.gcd a.natAbs b.natAbs : Nat) : Int))
theorem crn_within {rho : Rat} (r0 : 0 ≤ rho) (r1 : rho ≤ 1) : ∀ c ∈ crn rho, within c.1 c.2 rho := fun c hc => by
  rw [within_iff]
  simp only [crn, List.mem_cons, List.not_mem_nil, or_false] at hc
  rcases hc with rfl | rfl | rfl | rfl | rfl | rfl <;> simp only <;> (refine ⟨?_, ?_, ?_, ?_, ?_, ?_⟩ <;> grind)
theorem dir_spec {l o : Lg} {s t : Rat} (h : ¬ (gx l o s t = 0 ∧ gy l o s t = 0)) : ∃ k : Rat, 0 < k ∧ ((dirOf l o s t).1 : Rat) = k * gx l o s t ∧ ((dirOf l o s t).2 : Rat) = k * gy l o s t := by
  unfold dirOf
  simp only
  generalize gx l o s t = x at *
  generalize gy l o s t = y at *
  have hx := mul_den x
  have hy := mul_den y
  have dx := den_pos x
  have dy := den_pos y
  generalize ha : x.num * (y.den : Int) = a
  generalize hb : y.num * (x.den : Int) = b
  have hab : ¬ (a = 0 ∧ b = 0) := fun ⟨z1, z2⟩ => h ⟨by
    rw [← ha] at z1
    rcases Int.mul_eq_zero.mp z1 with w | w
    · exact Rat.num_eq_zero.mp w
    · omega, by
    rw [← hb] at z2
    rcases Int.mul_eq_zero.mp z2 with w | w
    · exact Rat.num_eq_zero.mp w
    · omega⟩
  have gp : 0 < Nat.gcd a.natAbs b.natAbs := by
    by_cases z1 : a = 0
    · have z2 : b ≠ 0 := fun w => hab ⟨z1, w⟩
      exact Nat.gcd_pos_of_pos_right _ (by omega)
    · exact Nat.gcd_pos_of_pos_left _ (by omega)
  have da : ((Nat.gcd a.natAbs b.natAbs : Nat) : Int) ∣ a := Int.natAbs_dvd_natAbs.mp (Nat.gcd_dvd_left _ _)
  have db : ((Nat.gcd a.natAbs b.natAbs : Nat) : Int) ∣ b := Int.natAbs_dvd_natAbs.mp (Nat.gcd_dvd_right _ _)
  generalize hg : ((Nat.gcd a.natAbs b.natAbs : Nat) : Int) = g at *
  have g0 : 0 < g := by omega
  have gr : (0 : Rat) < (g : Rat) := Rat.intCast_pos.mpr g0
  obtain ⟨u, rfl⟩ := da
  obtain ⟨v, rfl⟩ := db
  rw [Int.mul_ediv_cancel_left _ (by omega), Int.mul_ediv_cancel_left _ (by omega)]
  have px : (0 : Rat) < ((x.den : Int) : Rat) := Rat.intCast_pos.mpr dx
  have py : (0 : Rat) < ((y.den : Int) : Rat) := Rat.intCast_pos.mpr dy
  have e1 : (g : Rat) * u = ((x.den : Int) : Rat) * ((y.den : Int) : Rat) * x := by
    have := congrArg (fun n : Int => (n : Rat)) ha
    simp only [Rat.intCast_mul] at this
    rw [← hx] at this
    grind
  have e2 : (g : Rat) * v = ((x.den : Int) : Rat) * ((y.den : Int) : Rat) * y := by
    have := congrArg (fun n : Int => (n : Rat)) hb
    simp only [Rat.intCast_mul] at this
    rw [← hy] at this
    grind
  refine ⟨((x.den : Int) : Rat) * ((y.den : Int) : Rat) / g, ?_, ?_, ?_⟩
  · rw [Rat.div_def]; exact Rat.mul_pos (Rat.mul_pos px py) (Rat.inv_pos.mpr gr)
  · have gne := Rat.ne_of_gt gr
    grind
  · have gne := Rat.ne_of_gt gr
    grind
/-- all lies in front of the nearest gap -/
theorem in_front {l o : Lg} {rho : Rat} (r0 : 0 ≤ rho) (r1 : rho ≤ 1) {c : Cn} (hc : within c.1 c.2 rho) : (nearL l o rho).1 ≤ gx l o (nearL l o rho).2.1 (nearL l o rho).2.2 * gx l o c.1 c.2 + gy l o (nearL l o rho).2.1 (nearL l o rho).2.2 * gy l o c.1 c.2 := by
  obtain ⟨w, e⟩ := near_at (l := l) (o := o) r0 r1
  have least : ∀ x : Rat, 0 ≤ x → x ≤ 1 → (nearL l o rho).1 ≤ gsq l o ((nearL l o rho).2.1 + x * (c.1 - (nearL l o rho).2.1)) ((nearL l o rho).2.2 + x * (c.2 - (nearL l o rho).2.2)) := fun x x0 x1 => by
    refine near_least r0 r1 ?_
    have a := within_iff.mp w
    have b := within_iff.mp hc
    generalize (nearL l o rho).2.1 = s at *
    generalize (nearL l o rho).2.2 = t at *
    obtain ⟨a1, a2, a3, a4, a5, a6⟩ := a
    obtain ⟨b1, b2, b3, b4, b5, b6⟩ := b
    have m : ∀ p q : Rat, 0 ≤ p → 0 ≤ q → 0 ≤ (1 - x) * p + x * q := fun p q hp hq => by
      have := Rat.mul_nonneg (show 0 ≤ 1 - x by grind) hp
      have := Rat.mul_nonneg x0 hq
      grind
    have m1 := m s c.1 a1 b1
    have m2 := m (1 - s) (1 - c.1) (by grind) (by grind)
    have m3 := m t c.2 a3 b3
    have m4 := m (1 - t) (1 - c.2) (by grind) (by grind)
    have m5 := m (rho - (s - t)) (rho - (c.1 - c.2)) (by grind) (by grind)
    have m6 := m (rho - (t - s)) (rho - (c.2 - c.1)) (by grind) (by grind)
    exact within_iff.mpr ⟨by grind, by grind, by grind, by grind, by grind, by grind⟩
  obtain ⟨ux, uy, vx, vy, mx, my, L⟩ := lin l o
  rw [e] at *
  generalize (nearL l o rho).2.1 = s at *
  generalize (nearL l o rho).2.2 = t at *
  have ex : ∀ x : Rat, gx l o (s + x * (c.1 - s)) (t + x * (c.2 - t)) = gx l o s t + x * (gx l o c.1 c.2 - gx l o s t) := fun x => by simp only [L.x]; grind
  have ey : ∀ x : Rat, gy l o (s + x * (c.1 - s)) (t + x * (c.2 - t)) = gy l o s t + x * (gy l o c.1 c.2 - gy l o s t) := fun x => by simp only [L.y]; grind
  unfold gsq at *
  simp only [ex, ey] at least
  generalize gx l o s t = p1 at *
  generalize gy l o s t = p2 at *
  generalize gx l o c.1 c.2 = q1 at *
  generalize gy l o c.1 c.2 = q2 at *
  clear ex ey L
  have hD : 0 ≤ p1 * (q1 - p1) + p2 * (q2 - p2) := by
    refine Rat.not_lt.mp fun hneg => ?_
    have hN : 0 ≤ (q1 - p1) * (q1 - p1) + (q2 - p2) * (q2 - p2) := by
      have := sq_nonneg (q1 - p1)
      have := sq_nonneg (q2 - p2)
      grind
    have qe : ∀ x : Rat, (p1 + x * (q1 - p1)) * (p1 + x * (q1 - p1)) + (p2 + x * (q2 - p2)) * (p2 + x * (q2 - p2)) = (p1 * p1 + p2 * p2) + 2 * x * (p1 * (q1 - p1) + p2 * (q2 - p2)) + x * (x * ((q1 - p1) * (q1 - p1) + (q2 - p2) * (q2 - p2))) := fun x => by grind
    simp only [qe] at least
    generalize hDe : p1 * (q1 - p1) + p2 * (q2 - p2) = D at *
    generalize hNe : (q1 - p1) * (q1 - p1) + (q2 - p2) * (q2 - p2) = N at *
    by_cases h1 : -D ≤ N
    · have Np : 0 < N := by grind
      have hx : ∃ x : Rat, x * N = -D := ⟨-D / N, by grind⟩
      obtain ⟨x, hx⟩ := hx
      have x0 : 0 < x := by
        refine Rat.not_le.mp fun z => ?_
        have := Rat.mul_nonneg (show 0 ≤ -x by grind) (Rat.le_of_lt Np)
        grind
      have x1 : x ≤ 1 := by
        refine Rat.not_lt.mp fun z => ?_
        have := Rat.mul_pos (show 0 < x - 1 by grind) Np
        grind
      have l1 := least x (Rat.le_of_lt x0) x1
      rw [hx] at l1
      have := Rat.mul_pos x0 (show 0 < -D by grind)
      grind
    · have l1 := least 1 (by decide) Rat.le_refl
      grind
  grind
/-- what holds at all corners of an even measure holds all over -/
theorem even_ge {rho : Rat} (r0 : 0 ≤ rho) (r1 : rho ≤ 1) {f : Rat → Rat → Rat} {m : Rat} (hf : ∃ u v w : Rat, ∀ s t, f s t = u + s * v + t * w) (h : ∀ c ∈ crn rho, m ≤ f c.1 c.2) {s t : Rat} (hw : within s t rho) : m ≤ f s t := by
  obtain ⟨u, v, w, hf⟩ := hf
  have corner : ∀ p ∈ sides rho, p.1 ∈ crn rho ∧ p.2 ∈ crn rho := mem_sides.mpr (by simp [crn])
  have side : ∀ p ∈ sides rho, ∀ x s t, onSide p x s t → m ≤ f s t := fun p hp x s t ho => by
    obtain ⟨x0, x1, rfl, rfl⟩ := ho
    have a := h _ (corner p hp).1
    have b := h _ (corner p hp).2
    rw [hf] at a b ⊢
    have := Rat.mul_nonneg (show 0 ≤ 1 - x by grind) (show 0 ≤ u + p.1.1 * v + p.1.2 * w - m by grind)
    have := Rat.mul_nonneg x0 (show 0 ≤ u + p.2.1 * v + p.2.2 * w - m by grind)
    grind
  have hs := within_iff.mp hw
  obtain ⟨x, x0, x1, p, hp, y, hy⟩ := leaves (a := 2) (b := 0) r0 r1 hw (fun z => by have := (within_iff.mp z).2.1; grind)
  obtain ⟨x', x0', x1', p', hp', y', hy'⟩ := leaves (a := -2) (b := 0) r0 r1 hw (fun z => by have := (within_iff.mp z).1; grind)
  have a := side p hp y _ _ hy
  have b := side p' hp' y' _ _ hy'
  rw [hf] at a b ⊢
  by_cases hx : x = 0
  · rw [hx] at a; grind
  · by_cases hx' : x' = 0
    · rw [hx'] at b; grind
    · have xp : 0 < x := by grind
      have xp' : 0 < x' := by grind
      have := Rat.mul_nonneg (Rat.le_of_lt xp') (show 0 ≤ u + (s + x * 2) * v + (t + x * 0) * w - m by grind)
      have := Rat.mul_nonneg (Rat.le_of_lt xp) (show 0 ≤ u + (s + x' * -2) * v + (t + x' * 0) * w - m by grind)
      have e : (x + x') * (u + s * v + t * w - m) = x' * (u + (s + x * 2) * v + (t + x * 0) * w - m) + x * (u + (s + x' * -2) * v + (t + x' * 0) * w - m) := by grind
      refine Rat.not_lt.mp fun z => ?_
      have := Rat.mul_pos (show 0 < x + x' by grind) (show 0 < m - (u + s * v + t * w) by grind)
      grind
/-- the theorem of couples: never both -/
theorem never_both {l o : Lg} {rho : Rat} {r a b : Int} (r0 : 0 ≤ rho) (r1 : rho ≤ 1) (h : paperOk l o rho r (.away a b)) {s t : Rat} (hw : within s t rho) : ((r * r : Int) : Rat) ≤ gsq l o s t := by
  obtain ⟨hne, hc⟩ := h
  obtain ⟨ux, uy, vx, vy, mx, my, L⟩ := lin l o
  -- the least corner
  have ex : ∃ c0 ∈ crn rho, ∀ c ∈ crn rho, far l o a b c0 ≤ far l o a b c := by
    have gen : ∀ xs : List Cn, xs ≠ [] → ∃ c0 ∈ xs, ∀ c ∈ xs, far l o a b c0 ≤ far l o a b c := fun xs => by
      induction xs with
      | nil => intro z; exact absurd rfl z
      | cons x xs ih =>
        intro _
        by_cases hx : xs = []
        · subst hx
          exact ⟨x, List.mem_cons_self .., fun c hc => by
            have : c = x := by simpa using hc
            rw [this]; exact Rat.le_refl⟩
        · obtain ⟨c0, h0, h1⟩ := ih hx
          by_cases hl : far l o a b x ≤ far l o a b c0
          · exact ⟨x, List.mem_cons_self .., fun c hc => by
              rcases List.mem_cons.mp hc with rfl | hc
              · exact Rat.le_refl
              · exact Rat.le_trans hl (h1 c hc)⟩
          · exact ⟨c0, List.mem_cons_of_mem _ h0, fun c hc => by
              rcases List.mem_cons.mp hc with rfl | hc
              · grind
              · exact h1 c hc⟩
    exact gen _ (by simp [crn])
  obtain ⟨c0, h0, h1⟩ := ex
  obtain ⟨f0, f1⟩ := hc c0 h0
  have ge : far l o a b c0 ≤ far l o a b (s, t) := by
    refine even_ge (f := fun s t => far l o a b (s, t)) r0 r1 ⟨(a : Rat) * ux + b * uy, -((a : Rat) * mx + b * my), (a : Rat) * vx + b * vy, fun s t => ?_⟩ h1 hw
    unfold far
    simp only [L.x, L.y]
    grind
  have sq : far l o a b c0 * far l o a b c0 ≤ far l o a b (s, t) * far l o a b (s, t) := by
    have := Rat.mul_nonneg (show 0 ≤ far l o a b (s, t) - far l o a b c0 by grind) (show 0 ≤ far l o a b (s, t) + far l o a b c0 by grind)
    grind
  have cs : far l o a b (s, t) * far l o a b (s, t) ≤ ((a : Rat) * a + b * b) * gsq l o s t := by
    unfold far gsq
    simp only
    generalize gx l o s t = p
    generalize gy l o s t = q
    have := sq_nonneg ((a : Rat) * q - b * p)
    grind
  have N : 0 < (a : Rat) * a + (b : Rat) * b := by
    have h1 := sq_nonneg (a : Rat)
    have h2 := sq_nonneg (b : Rat)
    have : (a : Rat) * a + (b : Rat) * b ≠ 0 := fun z => hne ⟨int_zero (sum_sq_zero z).1, int_zero (sum_sq_zero z).2⟩
    grind
  have e : ((r * r * (a * a + b * b) : Int) : Rat) = ((a : Rat) * a + b * b) * ((r * r : Int) : Rat) := by
    simp only [Rat.intCast_mul, Rat.intCast_add]; grind
  rw [e] at f1
  exact (mul_le_pos N).mp (by grind)
/-- the paper that is told -/
def paperL (l o : Lg) (rho : Rat) (r : Int) : Paper := if (nearL l o rho).1 < ((r * r : Int) : Rat) then .near (nearL l o rho).2.1 (nearL l o rho).2.2 else .away (dirOf l o (nearL l o rho).2.1 (nearL l o rho).2.2).1 (dirOf l o (nearL l o rho).2.1 (nearL l o rho).2.2).2
theorem paper_ok {l o : Lg} {rho : Rat} {r : Int} (r0 : 0 ≤ rho) (r1 : rho ≤ 1) (hr : 1 ≤ r) : paperOk l o rho r (paperL l o rho r) := by
  obtain ⟨w, e⟩ := near_at (l := l) (o := o) r0 r1
  unfold paperL
  by_cases h : (nearL l o rho).1 < ((r * r : Int) : Rat)
  · rw [if_pos h]
    exact ⟨e ▸ h, w⟩
  · rw [if_neg h]
    have hr2 : (0 : Rat) < ((r * r : Int) : Rat) := Rat.intCast_pos.mpr (Int.mul_pos (by omega) (by omega))
    have hge := Rat.not_lt.mp h
    have hne : ¬ (gx l o (nearL l o rho).2.1 (nearL l o rho).2.2 = 0 ∧ gy l o (nearL l o rho).2.1 (nearL l o rho).2.2 = 0) := fun ⟨z1, z2⟩ => by
      have : (nearL l o rho).1 = 0 := by rw [e]; unfold gsq; rw [z1, z2]; grind
      grind
    obtain ⟨k, k0, e1, e2⟩ := dir_spec hne
    have kk : 0 < k * k := Rat.mul_pos k0 k0
    have front : ∀ c ∈ crn rho, k * (nearL l o rho).1 ≤ far l o (dirOf l o (nearL l o rho).2.1 (nearL l o rho).2.2).1 (dirOf l o (nearL l o rho).2.1 (nearL l o rho).2.2).2 c := fun c hc => by
      have := in_front (l := l) (o := o) r0 r1 (crn_within r0 r1 c hc)
      unfold far
      rw [e1, e2]
      have := (mul_le_pos k0).mpr this
      grind
    have np : 0 < (nearL l o rho).1 := by grind
    refine ⟨fun ⟨z1, z2⟩ => hne ?_, fun c hc => ?_⟩
    · rw [z1] at e1
      rw [z2] at e2
      have kne := Rat.ne_of_gt k0
      constructor
      · rcases Rat.mul_eq_zero.mp (show k * gx l o (nearL l o rho).2.1 (nearL l o rho).2.2 = 0 from e1.symm) with z | z
        · exact absurd z kne
        · exact z
      · rcases Rat.mul_eq_zero.mp (show k * gy l o (nearL l o rho).2.1 (nearL l o rho).2.2 = 0 from e2.symm) with z | z
        · exact absurd z kne
        · exact z
    · have f := front c hc
      have kn : 0 < k * (nearL l o rho).1 := Rat.mul_pos k0 np
      refine ⟨by grind, ?_⟩
      have sq : (k * (nearL l o rho).1) * (k * (nearL l o rho).1) ≤ far l o (dirOf l o (nearL l o rho).2.1 (nearL l o rho).2.2).1 (dirOf l o (nearL l o rho).2.1 (nearL l o rho).2.2).2 c * far l o (dirOf l o (nearL l o rho).2.1 (nearL l o rho).2.2).1 (dirOf l o (nearL l o rho).2.1 (nearL l o rho).2.2).2 c := by
        generalize far l o (dirOf l o (nearL l o rho).2.1 (nearL l o rho).2.2).1 (dirOf l o (nearL l o rho).2.1 (nearL l o rho).2.2).2 c = F at *
        have := Rat.mul_nonneg (show 0 ≤ F - k * (nearL l o rho).1 by grind) (show 0 ≤ F + k * (nearL l o rho).1 by grind)
        grind
      refine Rat.le_trans ?_ sq
      have ei : ((r * r * ((dirOf l o (nearL l o rho).2.1 (nearL l o rho).2.2).1 * (dirOf l o (nearL l o rho).2.1 (nearL l o rho).2.2).1 + (dirOf l o (nearL l o rho).2.1 (nearL l o rho).2.2).2 * (dirOf l o (nearL l o rho).2.1 (nearL l o rho).2.2).2) : Int) : Rat) = ((r * r : Int) : Rat) * ((k * k) * (nearL l o rho).1) := by
        rw [Rat.intCast_mul]
        simp only [Rat.intCast_add]
        rw [Rat.intCast_mul (a := (dirOf l o _ _).1), Rat.intCast_mul (a := (dirOf l o _ _).2), e1, e2, e]
        unfold gsq
        grind
      rw [ei]
      have := Rat.mul_nonneg (Rat.le_of_lt (Rat.mul_pos kk np)) (show 0 ≤ (nearL l o rho).1 - ((r * r : Int) : Rat) by grind)
      grind
/-- a paper's size -/
def PSz (k : Nat) : Paper → Prop
  | .near p q => Sz (min k 250) p ∧ Sz (min k 250) q
  | .away a b => Bd k a ∧ Bd k b
theorem kb_ii : kitB "int" "int" = some true := by decide +kernel
theorem kb_ib : kitB "int" "bool" = some false := by decide +kernel
theorem kb_tt : kitB "tuple" "tuple" = some true := by decide +kernel
theorem kb_ss : kitB "str" "str" = some true := by decide +kernel
abbrev dA (l o : Lg) (s t : Rat) : Int := (gx l o s t).num * ((gy l o s t).den : Int)
abbrev dB (l o : Lg) (s t : Rat) : Int := (gy l o s t).num * ((gx l o s t).den : Int)
theorem dir_ne {l o : Lg} {s t : Rat} (h : ¬ (gx l o s t = 0 ∧ gy l o s t = 0)) : ¬ (dA l o s t = 0 ∧ dB l o s t = 0) := fun ⟨z1, z2⟩ => h ⟨by
  rcases Int.mul_eq_zero.mp z1 with w | w
  · exact Rat.num_eq_zero.mp w
  · have := den_pos (gy l o s t); omega, by
  rcases Int.mul_eq_zero.mp z2 with w | w
  · exact Rat.num_eq_zero.mp w
  · have := den_pos (gx l o s t); omega⟩
theorem gcd_pos2 {a b : Int} (h : ¬ (a = 0 ∧ b = 0)) : 0 < Nat.gcd a.natAbs b.natAbs := by
  by_cases z1 : a = 0
  · have z2 : b ≠ 0 := fun w => h ⟨z1, w⟩
    exact Nat.gcd_pos_of_pos_right _ (by omega)
  · exact Nat.gcd_pos_of_pos_left _ (by omega)
theorem gcd_bd {a b : Int} {k : Nat} (h : ¬ (a = 0 ∧ b = 0)) (ha : Bd k a) (hb : Bd k b) : Bd k ((Nat.gcd a.natAbs b.natAbs : Nat) : Int) := by
  unfold Bd at *
  show Nat.gcd a.natAbs b.natAbs < _
  by_cases z1 : a = 0
  · have z2 : b ≠ 0 := fun w => h ⟨z1, w⟩
    exact Nat.lt_of_le_of_lt (Nat.gcd_le_right _ (by omega)) hb
  · exact Nat.lt_of_le_of_lt (Nat.gcd_le_left _ (by omega)) ha
theorem quo_bd {a g : Int} {k : Nat} (ha : Bd k a) : Bd k (a / g) := by
  unfold Bd at *
  exact Nat.lt_of_le_of_lt (Int.natAbs_ediv_le_natAbs a g) ha
theorem dir_bd {l o : Lg} {s t : Rat} {k : Nat} (h0 : Sz k (gx l o s t)) (h1 : Sz k (gy l o s t)) : Bd (k + k) (dirOf l o s t).1 ∧ Bd (k + k) (dirOf l o s t).2 :=
  ⟨quo_bd (h0.n.mul h1.d), quo_bd (h1.n.mul h0.d)⟩
theorem dir_b0 {l o : Lg} {s t : Rat} (h : ¬ (gx l o s t = 0 ∧ gy l o s t = 0)) (hb : dB l o s t = 0) : dirOf l o s t = (if 0 < dA l o s t then 1 else -1, 0) := by
  have ha : dA l o s t ≠ 0 := fun z => dir_ne h ⟨z, hb⟩
  show (dA l o s t / ((Nat.gcd (dA l o s t).natAbs (dB l o s t).natAbs : Nat) : Int), dB l o s t / ((Nat.gcd (dA l o s t).natAbs (dB l o s t).natAbs : Nat) : Int)) = _
  rw [hb]
  generalize dA l o s t = a at *
  rw [show Nat.gcd a.natAbs (0 : Int).natAbs = a.natAbs from Nat.gcd_zero_right _]
  by_cases hp : 0 < a
  · rw [if_pos hp, show ((a.natAbs : Nat) : Int) = a by omega, Int.ediv_self ha, Int.zero_ediv]
  · rw [if_neg hp, show ((a.natAbs : Nat) : Int) = -a by omega, Int.ediv_neg, Int.ediv_self ha, Int.zero_ediv]
theorem dir_b1 {l o : Lg} {s t : Rat} (hb : dB l o s t ≠ 0) : dirOf l o s t = if 0 < dB l o s t then ((dA l o s t /. dB l o s t).num, ((dA l o s t /. dB l o s t).den : Int)) else (-(dA l o s t /. dB l o s t).num, -((dA l o s t /. dB l o s t).den : Int)) := by
  show (dA l o s t / ((Nat.gcd (dA l o s t).natAbs (dB l o s t).natAbs : Nat) : Int), dB l o s t / ((Nat.gcd (dA l o s t).natAbs (dB l o s t).natAbs : Nat) : Int)) = _
  generalize dA l o s t = a at *
  generalize dB l o s t = b at *
  have hg := red_num (n := a) (d := b) hb rfl
  have gp : 0 < Nat.gcd a.natAbs b.natAbs := gcd_pos2 fun z => hb z.2
  have da : ((Nat.gcd a.natAbs b.natAbs : Nat) : Int) ∣ a := Int.natAbs_dvd_natAbs.mp (Nat.gcd_dvd_left _ _)
  have db : ((Nat.gcd a.natAbs b.natAbs : Nat) : Int) ∣ b := Int.natAbs_dvd_natAbs.mp (Nat.gcd_dvd_right _ _)
  generalize ((Nat.gcd a.natAbs b.natAbs : Nat) : Int) = g at *
  by_cases hp : 0 < b
  · rw [if_pos hp]
    rw [if_neg (by omega)] at hg
    rw [Int.fdiv_eq_ediv_of_dvd da, Int.fdiv_eq_ediv_of_dvd db] at hg
    rw [hg.1, hg.2.1]
  · rw [if_neg hp]
    rw [if_pos (by omega)] at hg
    rw [Int.fdiv_eq_ediv_of_dvd (Int.neg_dvd.mpr da), Int.fdiv_eq_ediv_of_dvd (Int.neg_dvd.mpr db), Int.ediv_neg, Int.ediv_neg] at hg
    rw [← hg.1, ← hg.2.1, Int.neg_neg, Int.neg_neg]
theorem away_ne {l o : Lg} {rho : Rat} {r : Int} (r0 : 0 ≤ rho) (r1 : rho ≤ 1) (hr : 1 ≤ r) (h : ¬ (nearL l o rho).1 < ((r * r : Int) : Rat)) : ¬ (gx l o (nearL l o rho).2.1 (nearL l o rho).2.2 = 0 ∧ gy l o (nearL l o rho).2.1 (nearL l o rho).2.2 = 0) := fun ⟨z1, z2⟩ => by
  obtain ⟨w, e⟩ := near_at (l := l) (o := o) r0 r1
  have hr2 : (0 : Rat) < ((r * r : Int) : Rat) := Rat.intCast_pos.mpr (Int.mul_pos (by omega) (by omega))
  have hge := Rat.not_lt.mp h
  have : (nearL l o rho).1 = 0 := by rw [e]; unfold gsq; rw [z1, z2]; grind
  grind
theorem sq_nn : (PyData.str (Str.ofString "near")).eqv (.str (Str.ofString "near")) = true := by decide +kernel
theorem sq_na : (PyData.str (Str.ofString "near")).eqv (.str (Str.ofString "away")) = false := by decide +kernel
theorem sq_an : (PyData.str (Str.ofString "away")).eqv (.str (Str.ofString "near")) = false := by decide +kernel
theorem sq_aa : (PyData.str (Str.ofString "away")).eqv (.str (Str.ofString "away")) = true := by decide +kernel
theorem sh_n : SeqAt.shaped (.str (Str.ofString "near")) = true := by decide +kernel
theorem sh_a : SeqAt.shaped (.str (Str.ofString "away")) = true := by decide +kernel
theorem num_le {q : Rat} : q.num ≤ 0 ↔ q ≤ 0 := by
  have h := num_neg (q := -q)
  rw [Rat.neg_num] at h
  constructor
  · intro z
    refine Rat.not_lt.mp fun w => ?_
    have := h.mpr (by grind)
    omega
  · intro z
    refine Int.not_lt.mp fun w => ?_
    have := h.mp (by omega)
    grind
theorem shpr {a b : Int} : SeqAt.shaped (pr a b) = true := rfl
theorem sh00 : SeqAt.shaped (.tuple [.int 0, .int 0]) = true := rfl
theorem eq00 {a b : Int} : (pr a b).eqv (.tuple [.int 0, .int 0]) = decide (a = 0 ∧ b = 0) := by
  have : (pr a b).eqv (.tuple [.int 0, .int 0]) = (decide (a = 0) && (decide (b = 0) && true)) := by
    simp only [pr, PyData.eqv, PyData.eqvAll]
    rfl
  rw [this]
  by_cases h : a = 0 <;> by_cases h' : b = 0 <;> simp [h, h']
theorem near_p {k : Nat} {p q : Rat} (h : PSz k (.near p q)) : Sz 250 p ∧ Sz 250 q := ⟨h.1.up (Nat.min_le_right ..), h.2.up (Nat.min_le_right ..)⟩
theorem shp_n : Shp 0 (.str (Str.ofString "near")) := ⟨by decide +kernel, by decide +kernel⟩
theorem shp_a : Shp 0 (.str (Str.ofString "away")) := ⟨by decide +kernel, by decide +kernel⟩
theorem shW1 {a b : Int} : SeqAt.shaped (.tuple [.str (Str.ofString "away"), pr a b]) = true := (Shp.tuple (all2 (shp_a.up (by decide : 0 ≤ 1)) shp_pr)).shaped
theorem sh0 : SeqAt.shaped (.tuple []) = true := rfl
theorem eqW1 {a b : Int} : (PyData.tuple [.str (Str.ofString "away"), pr a b]).eqv (.tuple []) = false := rfl
theorem eqW0 {p q : Rat} : (PyData.tuple [.str (Str.ofString "near"), fr p, fr q]).eqv (.tuple []) = false := rfl
theorem shW0 {p q : Rat} : SeqAt.shaped (.tuple [.str (Str.ofString "near"), fr p, fr q]) = true := (Shp.tuple (all3 (shp_n.up (by decide : 0 ≤ 1)) shp_fr shp_fr)).shaped
end DV
namespace DV
open PySem PySem.Spec PyProof.Rows L2
open scoped Rat
/-! ### is True, is not False -/
section
variable {X : Cx} {F : Fm} {a b c e : Expr} {es : List Expr} {ta tb tc te : TE} {da db dc de : TDE} {pos : Pos}
def fIsB : F2
  | .bool a, .bool b, Q => Q (.bool (decide (a = b)))
  | _, _, _ => False
def fNotB : F2
  | .bool a, .bool b, Q => Q (.bool (!decide (a = b)))
  | _, _, _ => False
theorem so_isB {K : PySem.W.Frag} : SO K rIsB fIsB := by
  constructor
  · intro H x y dx dy Q h1 h2 q
    cases dx <;> cases dy <;> first | exact q.elim | skip
    cases h1; cases h2
    exact ⟨_, _, rfl, rfl, q _ .bool⟩
  · intro x y Q Q' hq q
    cases x <;> cases y <;> first | exact q.elim | skip
    exact hq _ q
theorem so_notB {K : PySem.W.Frag} : SO K rNotB fNotB := by
  constructor
  · intro H x y dx dy Q h1 h2 q
    cases dx <;> cases dy <;> first | exact q.elim | skip
    cases h1; cases h2
    exact ⟨_, _, rfl, rfl, q _ .bool⟩
  · intro x y Q Q' hq q
    cases x <;> cases y <;> first | exact q.elim | skip
    exact hq _ q
variable {k : Bool} {j : Nat} {p2 : Pos}
theorem pd_isB {j} (he : PD X F e te de) : PD X F (.Compare e [.Is] [.Constant (.bool k) j p2] pos) (tOp rIsB te (tC (.bl k))) (dOp fIsB de (dC (.bool k))) := pd_cmp op_isBl (nomark _) so_isB he pd_bl
theorem pd_isBN {j} (he : PD X F e te de) : PD X F (.Compare e [.IsNot] [.Constant (.bool k) j p2] pos) (tOp rNotB te (tC (.bl k))) (dOp fNotB de (dC (.bool k))) := pd_cmp op_notBl (nomark _) so_notB he pd_bl
theorem pt_isB {j} (he : PD X F e te de) : PDT X F (.Compare e [.Is] [.Constant (.bool k) j p2] pos) (tTest (tOp rIsB te (tC (.bl k)))) (dTV (dOp fIsB de (dC (.bool k)))) := pt_cmpD op_isBl (nomark _) so_isB he pd_bl
theorem pt_isBN {j} (he : PD X F e te de) : PDT X F (.Compare e [.IsNot] [.Constant (.bool k) j p2] pos) (tTest (tOp rNotB te (tC (.bl k)))) (dTV (dOp fNotB de (dC (.bool k)))) := pt_cmpD op_notBl (nomark _) so_notB he pd_bl
end
/-! ### sizes of papers -/
theorem paper_sz {l o : Lg} {rho : Rat} {r : Int} (h1 : LB 20 l) (h2 : LB 20 o) (h : Sz 20 rho) : PSz 1000 (paperL l o rho r) := by
  have sf := near_sf h1 h2 h
  unfold paperL
  split
  · exact ⟨sf.s.up (by decide), sf.t.up (by decide)⟩
  · have gx := ((px_sz h2 sf.t (by decide)).sub (px_sz h1 sf.s (by decide))).up (show _ ≤ 330 by decide)
    have gy := ((py_sz h2 sf.t (by decide)).sub (py_sz h1 sf.s (by decide))).up (show _ ≤ 330 by decide)
    have d := dir_bd (l := l) (o := o) (s := (nearL l o rho).2.1) (t := (nearL l o rho).2.2) gx gy
    exact ⟨d.1.up (by decide), d.2.up (by decide)⟩
theorem fn_near : Fn 0 1001 (.str (Str.ofString "near")) := ⟨by decide +kernel, by decide +kernel, by decide +kernel⟩
theorem fn_away : Fn 0 1001 (.str (Str.ofString "away")) := ⟨by decide +kernel, by decide +kernel, by decide +kernel⟩
theorem fa_paper {w : Paper} (h : PSz 1000 w) : Fn 2 10000 (encW w) := by
  cases w with
  | near p q =>
    have h := near_p h
    exact (Fn.tuple (n := 3) (all3 (fn_near.up (by decide : 0 ≤ 1) (by decide : 1001 ≤ 2009)) (fa_fr h.1) (fa_fr h.2)) (Nat.le_refl _)).up (by decide) (by decide)
  | away a b =>
    exact (Fn.tuple (n := 2) (all2 (fn_away.up (by decide : 0 ≤ 1) (by decide : 1001 ≤ 2009)) (Fn.tuple (n := 2) (all2 (Fn.int h.1) (Fn.int h.2)) (Nat.le_refl _))) (Nat.le_refl _)).up (by decide) (by decide)
end DV
namespace DV
open PySem PySem.Spec PyProof.Rows L2
open scoped Rat
/-! ### the nearest as the share of lag grows -/
theorem within_mono {s t a b : Rat} (h : a ≤ b) (w : within s t a) : within s t b := by
  rw [within_iff] at *
  obtain ⟨h1, h2, h3, h4, h5, h6⟩ := w
  exact ⟨h1, h2, h3, h4, by grind, by grind⟩
theorem near_mono {l o : Lg} {a b : Rat} (h0 : 0 ≤ a) (h : a ≤ b) (h1 : b ≤ 1) : (nearL l o b).1 ≤ (nearL l o a).1 := by
  obtain ⟨w, e⟩ := near_at (l := l) (o := o) (rho := a) h0 (Rat.le_trans h h1)
  rw [e]
  exact near_least (Rat.le_trans h0 h) h1 (within_mono h w)
theorem within_mix {s t s' t' a b x : Rat} (w : within s t a) (w' : within s' t' b) (x0 : 0 ≤ x) (x1 : x ≤ 1) : within (s + x * (s' - s)) (t + x * (t' - t)) (a + x * (b - a)) := by
  rw [within_iff] at *
  obtain ⟨a1, a2, a3, a4, a5, a6⟩ := w
  obtain ⟨b1, b2, b3, b4, b5, b6⟩ := w'
  have m : ∀ p q : Rat, 0 ≤ p → 0 ≤ q → 0 ≤ (1 - x) * p + x * q := fun p q hp hq => by
    have := Rat.mul_nonneg (show 0 ≤ 1 - x by grind) hp
    have := Rat.mul_nonneg x0 hq
    grind
  have m1 := m s s' a1 b1
  have m2 := m (1 - s) (1 - s') (by grind) (by grind)
  have m3 := m t t' a3 b3
  have m4 := m (1 - t) (1 - t') (by grind) (by grind)
  have m5 := m (a - (s - t)) (b - (s' - t')) (by grind) (by grind)
  have m6 := m (a - (t - s)) (b - (t' - s')) (by grind) (by grind)
  exact ⟨by grind, by grind, by grind, by grind, by grind, by grind⟩
theorem gsq_mix {l o : Lg} {s t s' t' x : Rat} (x0 : 0 ≤ x) (x1 : x ≤ 1) : gsq l o (s + x * (s' - s)) (t + x * (t' - t)) ≤ gsq l o s t + x * (gsq l o s' t' - gsq l o s t) := by
  obtain ⟨ux, uy, vx, vy, mx, my, L⟩ := lin l o
  have ex : gx l o (s + x * (s' - s)) (t + x * (t' - t)) = gx l o s t + x * (gx l o s' t' - gx l o s t) := by simp only [L.x]; grind
  have ey : gy l o (s + x * (s' - s)) (t + x * (t' - t)) = gy l o s t + x * (gy l o s' t' - gy l o s t) := by simp only [L.y]; grind
  unfold gsq
  rw [ex, ey]
  generalize gx l o s t = p
  generalize gy l o s t = q
  generalize gx l o s' t' = p'
  generalize gy l o s' t' = q'
  have h := Rat.mul_nonneg x0 (show 0 ≤ 1 - x by grind)
  have h1 := Rat.mul_nonneg h (sq_nonneg (p' - p))
  have h2 := Rat.mul_nonneg h (sq_nonneg (q' - q))
  grind
theorem near_convex {l o : Lg} {a b x : Rat} (a0 : 0 ≤ a) (a1 : a ≤ 1) (b0 : 0 ≤ b) (b1 : b ≤ 1) (x0 : 0 ≤ x) (x1 : x ≤ 1) : (nearL l o (a + x * (b - a))).1 ≤ (nearL l o a).1 + x * ((nearL l o b).1 - (nearL l o a).1) := by
  obtain ⟨w, e⟩ := near_at (l := l) (o := o) (rho := a) a0 a1
  obtain ⟨w', e'⟩ := near_at (l := l) (o := o) (rho := b) b0 b1
  have m : ∀ p q : Rat, 0 ≤ p → 0 ≤ q → 0 ≤ (1 - x) * p + x * q := fun p q hp hq => by
    have := Rat.mul_nonneg (show 0 ≤ 1 - x by grind) hp
    have := Rat.mul_nonneg x0 hq
    grind
  have c0 := m a b a0 b0
  have c1 := m (1 - a) (1 - b) (by grind) (by grind)
  refine Rat.le_trans (near_least (by grind) (by grind) (within_mix w w' x0 x1)) ?_
  rw [e, e']
  exact gsq_mix x0 x1
theorem still_same {l o : Lg} : (nearL l o 0).2.1 = (nearL l o 0).2.2 := by
  obtain ⟨w, e⟩ := near_at (l := l) (o := o) (rho := 0) (by decide) (by decide)
  obtain ⟨h1, h2, h3, h4, h5, h6⟩ := within_iff.mp w
  grind
theorem paper_up {l o : Lg} {a b : Rat} {r : Int} {p q : Rat} (h : a ≤ b) (w : paperOk l o a r (.near p q)) : paperOk l o b r (.near p q) := ⟨w.1, within_mono h w.2⟩
theorem least_corner {l o : Lg} {a b : Int} {rho : Rat} : ∃ c0 ∈ crn rho, ∀ c ∈ crn rho, far l o a b c0 ≤ far l o a b c := by
  have gen : ∀ xs : List Cn, xs ≠ [] → ∃ c0 ∈ xs, ∀ c ∈ xs, far l o a b c0 ≤ far l o a b c := fun xs => by
    induction xs with
    | nil => intro z; exact absurd rfl z
    | cons x xs ih =>
      intro _
      by_cases hx : xs = []
      · subst hx
        exact ⟨x, List.mem_cons_self .., fun c hc => by
          have : c = x := by simpa using hc
          rw [this]; exact Rat.le_refl⟩
      · obtain ⟨c0, h0, h1⟩ := ih hx
        by_cases hl : far l o a b x ≤ far l o a b c0
        · exact ⟨x, List.mem_cons_self .., fun c hc => by
            rcases List.mem_cons.mp hc with rfl | hc
            · exact Rat.le_refl
            · exact Rat.le_trans hl (h1 c hc)⟩
        · exact ⟨c0, List.mem_cons_of_mem _ h0, fun c hc => by
            rcases List.mem_cons.mp hc with rfl | hc
            · grind
            · exact h1 c hc⟩
  exact gen _ (by simp [crn])
theorem paper_down {l o : Lg} {x y : Rat} {r a b : Int} (x0 : 0 ≤ x) (h : x ≤ y) (y1 : y ≤ 1) (w : paperOk l o y r (.away a b)) : paperOk l o x r (.away a b) := by
  obtain ⟨hne, hc⟩ := w
  refine ⟨hne, fun c hcm => ?_⟩
  obtain ⟨ux, uy, vx, vy, mx, my, L⟩ := lin l o
  obtain ⟨c0, h0, h1⟩ := least_corner (l := l) (o := o) (a := a) (b := b) (rho := y)
  obtain ⟨f0, f1⟩ := hc c0 h0
  have hw : within c.1 c.2 y := within_mono h (crn_within x0 (Rat.le_trans h y1) c hcm)
  have ge : far l o a b c0 ≤ far l o a b c := by
    refine even_ge (f := fun s t => far l o a b (s, t)) (Rat.le_trans x0 h) y1 ⟨(a : Rat) * ux + b * uy, -((a : Rat) * mx + b * my), (a : Rat) * vx + b * vy, fun s t => ?_⟩ h1 hw
    unfold far
    simp only [L.x, L.y]
    grind
  have sq : far l o a b c0 * far l o a b c0 ≤ far l o a b c * far l o a b c := by
    have := Rat.mul_nonneg (show 0 ≤ far l o a b c - far l o a b c0 by grind) (show 0 ≤ far l o a b c + far l o a b c0 by grind)
    grind
  exact ⟨by grind, Rat.le_trans f1 sq⟩
/-! ### shares with small denominators -/
structure Sden (q : Rat) : Prop where
  sz : Sz 7 q
  den : (q.den : Int) ≤ 100
theorem den_le {n d : Int} (h : 0 < d) : ((n /. d).den : Int) ≤ d := by
  have hg := red_num (n := n) (d := d) (by omega) rfl
  rw [if_neg (by omega)] at hg
  have gp : 0 < Nat.gcd n.natAbs d.natAbs := Nat.gcd_pos_of_pos_right _ (by omega)
  rw [← hg.2.1, Int.fdiv_eq_ediv_of_nonneg _ (by omega)]
  exact Int.ediv_le_self _ (by omega)
theorem sd_div {n d : Int} (h : 0 < d) (h1 : d ≤ 100) (n0 : 0 ≤ n) (n1 : n ≤ 100) : Sden (n /. d) :=
  ⟨(sz_divInt (bd_of 100 (by omega) (by omega) (k := 7)) (bd_of 100 (by omega) (by omega) (k := 7)) (by omega)).up (by decide), Int.le_trans (den_le h) h1⟩
theorem sd_zero : Sden 0 := ⟨sz_zero, by decide⟩
theorem sd_one : Sden 1 := ⟨sz_one, by decide⟩
theorem mid_sz {a b x : Rat} (ha : Sden a) (hb : Sden b) (hx : Sden x) (a0 : 0 ≤ a) (a1 : a ≤ 1) (b0 : 0 ≤ b) (b1 : b ≤ 1) (x0 : 0 ≤ x) (x1 : x ≤ 1) : 0 ≤ a + x * (b - a) ∧ a + x * (b - a) ≤ 1 ∧ Sz 20 (a + x * (b - a)) := by
  have m : ∀ p q : Rat, 0 ≤ p → 0 ≤ q → 0 ≤ (1 - x) * p + x * q := fun p q hp hq => by
    have := Rat.mul_nonneg (show 0 ≤ 1 - x by grind) hp
    have := Rat.mul_nonneg x0 hq
    grind
  have c0 := m a b a0 b0
  have c1 := m (1 - a) (1 - b) (by grind) (by grind)
  have g0 : 0 ≤ a + x * (b - a) := by grind
  have g1 : a + x * (b - a) ≤ 1 := by grind
  refine ⟨g0, g1, ?_⟩
  have e : a + x * (b - a) = (a.num * b.den * x.den + x.num * (b.num * a.den - a.num * b.den)) /. ((a.den : Int) * b.den * x.den) := by
    have da : ((a.den : Int) : Rat) ≠ 0 := Rat.ne_of_gt (Rat.intCast_pos.mpr (den_pos a))
    have db : ((b.den : Int) : Rat) ≠ 0 := Rat.ne_of_gt (Rat.intCast_pos.mpr (den_pos b))
    have dx : ((x.den : Int) : Rat) ≠ 0 := Rat.ne_of_gt (Rat.intCast_pos.mpr (den_pos x))
    have na := mul_den a
    have nb := mul_den b
    have nx := mul_den x
    rw [Rat.divInt_eq_div]
    simp only [Rat.intCast_mul, Rat.intCast_add, Rat.intCast_sub]
    rw [← na, ← nb, ← nx]
    grind
  have dp := den_pos a
  have dq := den_pos b
  have dr := den_pos x
  have p1 : (a.den : Int) * b.den ≤ 100 * 100 := Int.mul_le_mul ha.den hb.den (by omega) (by decide)
  have p2 : (a.den : Int) * b.den * x.den ≤ 100 * 100 * 100 := Int.mul_le_mul p1 hx.den (by omega) (by decide)
  have pp : 0 < (a.den : Int) * b.den * x.den := Int.mul_pos (Int.mul_pos dp dq) dr
  have dl : ((a + x * (b - a)).den : Int) ≤ 1000000 := by rw [e]; exact Int.le_trans (den_le pp) p2
  generalize a + x * (b - a) = q at *
  have nn : 0 ≤ q.num := Rat.num_nonneg.mpr g0
  have nl : q.num ≤ q.den := Int.not_lt.mp fun z => absurd g1 (Rat.not_le.mpr (den_lt_num.mp z))
  exact ⟨bd_of 1000000 (by omega) (by omega) (k := 20), bd_of 1000000 (by omega) (by omega) (k := 20)⟩
/-! ### a name of a comprehension that is a name of the body too -/
section
variable {X : Cx} {F : Fm} {st : Stmt} {ts : TS} {ds : TDS}
def dFgt (i : Nat) (t : TDS) : TDS := fun DD ρ => t DD (ρ.set i none)
theorem ds_fgt {i : Nat} (h : PDS X F st ts ds) (hf : ¬ F.fix i) : PDS X F st ts (dFgt i ds) := by
  refine ⟨h.ps, fun pins ρ σ H D DD O S R k => ?_⟩
  have O2 := O.wipe (vs := [i]) (fun j hj => by rw [List.mem_singleton.mp hj]; exact S.fr hf)
  have O3 : Ok F pins (wipeR ρ [i]) σ H := Ok.unwipe (vs := [i]) O2 fun j hj => by
    rw [List.mem_singleton.mp hj]
    by_cases hl : i < ρ.length
    · exact .inl (wipeR_none (List.mem_singleton.mpr rfl) hl)
    · exact .inr (List.getElem?_eq_none (by rw [wipeR_len]; omega))
  exact h.ds pins _ σ H D DD O3 S R k
end
end DV
namespace DV
open PySem PySem.Spec PyProof.Rows L2
/-! ### a zip of two lists is collected: the pairs are new, one after the other -/
structure Zp where
  z : Addr
  TI : Addr
  TO : Addr
  i1 : Addr
  i2 : Addr
  l1 : Addr
  l2 : Addr
  xs : Array Value
  ys : Array Value
def Zp.n (p : Zp) : Nat := min p.xs.size p.ys.size
structure Zp.Ap (p : Zp) (S b : Nat) : Prop where
  D : ZipApart p.z p.TI p.TO p.i1 p.i2 p.l1 p.l2
  bz : p.z < b
  bI : p.TI < b
  bO : p.TO < b
  b1 : p.i1 < b
  b2 : p.i2 < b
  c1 : p.l1 < b
  c2 : p.l2 < b
  bS : S < b
  Sz : S ≠ p.z
  SI : S ≠ p.TI
  SO : S ≠ p.TO
  S1 : S ≠ p.i1
  S2 : S ≠ p.i2
  T1 : S ≠ p.l1
  T2 : S ≠ p.l2
structure Zp.St (p : Zp) (b : Nat) (i : Nat) (h : Heap) : Prop where
  ti : PySem.IsPair h p.TI (Value.ref p.i1) (Value.ref p.i2)
  a1 : h.IsListIter p.i1 p.l1 i
  a2 : h.IsListIter p.i2 p.l2 i
  m1 : h.IsList p.l1 p.xs
  m2 : h.IsList p.l2 p.ys
  zip : (PySem.IsZip h p.z p.TI p.TO .none ∧ ∃ a c, PySem.IsPair h p.TO a c) ∨ ∃ T f oT, PySem.IsZipHeld h p.z p.TI p.TO T f ∧ h.get? T = some oT ∧ b ≤ (T : Nat)
structure Zp.Ps (p : Zp) (b : Nat) (i : Nat) (acc : Array Value) (h : Heap) : Prop where
  sz : acc.size = i
  at' : ∀ j : Nat, j < i → ∃ T x y, acc[j]? = some (Value.ref T) ∧ p.xs[j]? = some x ∧ p.ys[j]? = some y ∧ PySem.IsPair h T x y ∧ b ≤ (T : Nat)
  inc : ∀ (j k : Nat) (T U : Addr), j < k → acc[j]? = some (Value.ref T) → acc[k]? = some (Value.ref U) → (T : Nat) < (U : Nat)
/-- what a turn leaves as it was -/
def Zp.Kp (p : Zp) (S : Addr) (h h' : Heap) : Prop := ∀ c o, c ≠ p.z → c ≠ p.TO → c ≠ p.i1 → c ≠ p.i2 → c ≠ S → h.get? c = some o → h'.get? c = some o
theorem Zp.St.step {p : Zp} {b i S : Nat} {h h' : Heap} (s : p.St b i h) (A : p.Ap S b) (k : ∀ c o, c ≠ S → h.get? c = some o → h'.get? c = some o) : p.St b i h' := by
  obtain ⟨t, a1, a2, m1, m2, z⟩ := s
  refine ⟨k _ _ (Ne.symm A.SI) t, a1.at fun o e => k _ o (Ne.symm A.S1) e, a2.at fun o e => k _ o (Ne.symm A.S2) e, m1.at fun o e => k _ o (Ne.symm A.T1) e, m2.at fun o e => k _ o (Ne.symm A.T2) e, ?_⟩
  rcases z with ⟨z, a, c, o⟩ | ⟨T, f, oT, z, hT, hb⟩
  · exact .inl ⟨k _ _ (Ne.symm A.Sz) z, a, c, k _ _ (Ne.symm A.SO) o⟩
  · exact .inr ⟨T, f, oT, k _ _ (Ne.symm A.Sz) z, k _ _ (Nat.ne_of_gt (Nat.lt_of_lt_of_le A.bS hb)) hT, hb⟩
section
variable {prog : Program} {w : World} {A : Around} {R : Result → Shared → Prop}
theorem zip_loop {p : Zp} {S b : Nat} (hh : A.handled = none) (P : p.Ap S b) (hn : p.n ≤ sizeLine) (res : Value) :
    ∀ (k i : Nat) (s : Shared) (acc : Array Value) (c : Nat), p.n - i = k → i ≤ p.n → b ≤ s.heap.objs.size → p.St b i s.heap → s.heap.get? S = some { cls := .type "list", dict := none, data := .seq acc c, slots := #[] } → p.Ps b i acc s.heap →
    (∀ h' acc' c', p.Kp S s.heap h' → h'.get? S = some { cls := .type "list", dict := none, data := .seq acc' c', slots := #[] } → p.Ps b p.n acc' h' → ∀ tk, R (.ok (.ret res)) { s with heap := h', toks := tk }) →
    codeAny (model prog w) A (.builtin "list.extend.loop" ⟨[.ref S, .ref p.z, res], []⟩) R s := by
  intro k
  induction k with
  | zero =>
    intro i s acc c hk hi hb st hS hacc hR
    have hin : i = p.n := by omega
    subst hin
    refine codeAny_builtin F.entry_extend_loop ?_
    rw [Around.under_plainId F.plain_extend_loop _]
    show wpAny _ A.in1 (pyNext (.ref p.z) >>= _) _ _ s
    have hend : p.xs[p.n]? = none ∨ p.ys[p.n]? = none := by
      unfold Zp.n
      rcases Nat.le_total p.xs.size p.ys.size with z | z
      · exact .inl (by rw [Nat.min_eq_left z]; exact Array.getElem?_eq_none (Nat.le_refl _))
      · exact .inr (by rw [Nat.min_eq_right z]; exact Array.getElem?_eq_none (Nat.le_refl _))
    have hh1 : A.in1.handled = none := hh
    have fin : ∀ h', (∀ c o, c ≠ p.z → c ≠ p.TO → c ≠ p.i1 → c ≠ p.i2 → s.heap.get? c = some o → h'.get? c = some o) → R (.ok (.ret res)) { s with heap := h' } := fun h' kk => by
      refine hR h' acc c (fun c o c1 c2 c3 c4 _ e => kk c o c1 c2 c3 c4 e) (kk S _ P.Sz P.SO P.S1 P.S2 hS) ⟨hacc.sz, fun j hj => ?_, hacc.inc⟩ s.toks
      obtain ⟨T, x, y, e1, e2, e3, e4, e5⟩ := hacc.at' j hj
      exact ⟨T, x, y, e1, e2, e3, kk T _ (Nat.ne_of_gt (Nat.lt_of_lt_of_le P.bz e5)) (Nat.ne_of_gt (Nat.lt_of_lt_of_le P.bO e5)) (Nat.ne_of_gt (Nat.lt_of_lt_of_le P.b1 e5)) (Nat.ne_of_gt (Nat.lt_of_lt_of_le P.b2 e5)) e4, e5⟩
    refine wpAny_bind ?_
    rcases st.zip with ⟨hz, a, d, hO⟩ | ⟨T, f, oT, hz, hT, hbT⟩
    · exact wpAny_pyNext_zip_end hh1 P.D hz st.ti hO st.a1 st.a2 st.m1 st.m2 hend fun h' kk => wpAny_pure (fin h' kk)
    · exact wpAny_pyNext_zip_end_held hh1 P.D hz hT st.ti st.a1 st.a2 st.m1 st.m2 hend fun h' kk => wpAny_pure (fin h' fun c o c1 _ c3 c4 e => kk c o c1 c3 c4 e)
  | succ k ih =>
    intro i s acc c hk hi hb st hS hacc hR
    have hlt : i < p.n := by omega
    have hx : i < p.xs.size := Nat.lt_of_lt_of_le hlt (Nat.min_le_left ..)
    have hy : i < p.ys.size := Nat.lt_of_lt_of_le hlt (Nat.min_le_right ..)
    refine codeAny_builtin F.entry_extend_loop ?_
    rw [Around.under_plainId F.plain_extend_loop _]
    show wpAny _ A.in1 (pyNext (.ref p.z) >>= _) _ _ s
    refine wpAny_bind ?_
    have ex : p.xs[i]? = some p.xs[i] := Array.getElem?_eq_getElem hx
    have ey : p.ys[i]? = some p.ys[i] := Array.getElem?_eq_getElem hy
    have next : ∀ h', p.St b (i + 1) h' → PySem.IsPair h' s.heap.objs.size p.xs[i] p.ys[i] → h'.objs.size = s.heap.objs.size + 1 → (∀ c o, c ≠ p.z → c ≠ p.TO → c ≠ p.i1 → c ≠ p.i2 → s.heap.get? c = some o → h'.get? c = some o) →
        wpAny (model prog w) A.in1 (match some (Value.ref s.heap.objs.size) with
          | none => ret res
          | some x => do
            Builtin.List.listUpdate (Value.ref S) fun x_1 => x_1.push x
            again (Code.builtin "list.extend.loop" { pos := [Value.ref S, Value.ref p.z, res] }))
          (fun fin s' => match fin with
            | Fin.done f => R (Except.ok f) s'
            | Fin.again c' => c'.quiet = true ∧ codeAny (model prog w) A c' R s')
          (fun e s' => R (Except.error e) s') { s with heap := h' } := fun h' st' pr sz' kk => by
      have hS' := kk S _ P.Sz P.SO P.S1 P.S2 hS
      have oth : ∀ c o, c ≠ S → h'.get? c = some o → (h'.update S (Obj.mapSeq (·.push (Value.ref s.heap.objs.size)))).get? c = some o := fun c o hc e => (Heap.get?_update_other _ _ (Ne.symm hc)).trans e
      have lt : ∀ j : Nat, j < i → ∃ T : Addr, acc[j]? = some (Value.ref T) ∧ T < s.heap.objs.size := fun j hj => by
        obtain ⟨T, x, y, e1, _, _, e4, _⟩ := hacc.at' j hj
        exact ⟨T, e1, Heap.lt_size e4⟩
      show wpAny _ A.in1 (updateSeq S (·.push (Value.ref s.heap.objs.size)) >>= _) _ _ _
      refine wpAny_bind ?_
      refine wpAny_updateSeq hS' rfl (wpAny_pure ⟨plainId_quiet F.plain_extend_loop _, ih (i + 1) _ (acc.push (Value.ref s.heap.objs.size)) _ (by omega) hlt ?_ (st'.step P oth) (Heap.get?_update_self _ hS' rfl) ?_ fun h2 acc' c' kp e ps tk => hR h2 acc' c' (fun c o c1 c2 c3 c4 c5 e => kp c o c1 c2 c3 c4 c5 (oth c o c5 (kk c o c1 c2 c3 c4 e))) e ps tk⟩) ?_ ?_
      · show b ≤ (h'.update S _).objs.size
        rw [Heap.size_update, sz']
        exact Nat.le_succ_of_le hb
      · have old : ∀ (j : Nat) (v : Value), j < i → (acc.push (Value.ref s.heap.objs.size))[j]? = some v → acc[j]? = some v := fun j v hj e => by
          rw [Array.getElem?_push_lt (by rw [hacc.sz]; exact hj)] at e
          rw [Array.getElem?_eq_getElem (by rw [hacc.sz]; exact hj)]
          exact e
        refine ⟨by rw [Array.size_push, hacc.sz], fun j hj => ?_, fun j m T U hjm hT hU => ?_⟩
        · by_cases hji : j < i
          · obtain ⟨T, x, y, e1, e2, e3, e4, e5⟩ := hacc.at' j hji
            refine ⟨T, x, y, ?_, e2, e3, oth T _ (Nat.ne_of_gt (Nat.lt_of_lt_of_le P.bS e5)) (kk T _ (Nat.ne_of_gt (Nat.lt_of_lt_of_le P.bz e5)) (Nat.ne_of_gt (Nat.lt_of_lt_of_le P.bO e5)) (Nat.ne_of_gt (Nat.lt_of_lt_of_le P.b1 e5)) (Nat.ne_of_gt (Nat.lt_of_lt_of_le P.b2 e5)) e4), e5⟩
            rw [Array.getElem?_push_lt (by rw [hacc.sz]; exact hji)]
            rw [Array.getElem?_eq_getElem (by rw [hacc.sz]; exact hji)] at e1
            exact e1
          · have : j = i := by omega
            subst this
            refine ⟨s.heap.objs.size, p.xs[j], p.ys[j], ?_, ex, ey, oth _ _ (Nat.ne_of_gt (Nat.lt_of_lt_of_le P.bS hb)) pr, hb⟩
            have := Array.getElem?_push_size (xs := acc) (x := Value.ref s.heap.objs.size)
            rwa [hacc.sz] at this
        · have hm : m < i + 1 := by
            obtain ⟨z, _⟩ := Array.getElem?_eq_some_iff.mp hU
            rw [Array.size_push, hacc.sz] at z
            exact z
          by_cases hmi : m < i
          · exact hacc.inc j m T U hjm (old j _ (Nat.lt_trans hjm hmi) hT) (old m _ hmi hU)
          · have hmi : m = i := by omega
            subst hmi
            have hU2 := Array.getElem?_push_size (xs := acc) (x := Value.ref s.heap.objs.size)
            rw [hacc.sz, hU] at hU2
            cases hU2
            obtain ⟨T', e1, e2⟩ := lt j hjm
            rw [old j _ hjm hT] at e1
            cases e1
            exact e2
      · rw [hacc.sz]; omega
      · show (acc.push _).size ≤ sizeLine + 1
        rw [Array.size_push, hacc.sz]; omega
    rcases st.zip with ⟨hz, a, d, hO⟩ | ⟨T, f, oT, hz, hT, hbT⟩
    · refine wpAny_pyNext_zip_item P.D hz st.ti hO st.a1 st.a2 st.m1 st.m2 ex ey fun h' z' TO' a1' a2' pr' sz' kk => next h' ⟨kk _ _ P.D.TIz P.D.TITO P.D.TIi1 P.D.TIi2 st.ti, a1', a2', st.m1.at fun o e => kk _ o P.D.l1z P.D.l1TO P.D.l1i1 P.D.l1i2 e, st.m2.at fun o e => kk _ o P.D.l2z P.D.l2TO P.D.l2i1 P.D.l2i2 e, .inr ⟨s.heap.objs.size, false, _, z', pr', hb⟩⟩ pr' sz' kk
    · refine wpAny_pyNext_zip_item_held P.D hz hT st.ti st.a1 st.a2 st.m1 st.m2 ex ey fun h' z' a1' a2' pr' sz' kk => next h' ?_ pr' sz' fun c o c1 _ c3 c4 e => kk c o c1 c3 c4 e
      exact ⟨kk _ _ P.D.TIz P.D.TIi1 P.D.TIi2 st.ti, a1', a2', st.m1.at fun o e => kk _ o P.D.l1z P.D.l1i1 P.D.l1i2 e, st.m2.at fun o e => kk _ o P.D.l2z P.D.l2i1 P.D.l2i2 e, .inr ⟨T, true, oT, z', kk T oT (Nat.ne_of_gt (Nat.lt_of_lt_of_le P.bz hbT)) (Nat.ne_of_gt (Nat.lt_of_lt_of_le P.b1 hbT)) (Nat.ne_of_gt (Nat.lt_of_lt_of_le P.b2 hbT)) hT, hbT⟩⟩
theorem zip_no_len : typeLookup (.type "zip") "__len__" = pure none := am_miss_of_fast (by decide +kernel)
theorem zip_no_hint : typeLookup (.type "zip") "__length_hint__" = pure none := am_miss_of_fast (by decide +kernel)
set_option maxHeartbeats 1000000 in
theorem zip_collect {p : Zp} {s : Shared} {E : Value → Shared → Prop} {Q : List Value → Shared → Prop} (hh : A.handled = none) (D : ZipApart p.z p.TI p.TO p.i1 p.i2 p.l1 p.l2) (hn : p.n ≤ sizeLine)
    (hz : PySem.IsZip s.heap p.z p.TI p.TO .none) (hTI : PySem.IsPair s.heap p.TI (Value.ref p.i1) (Value.ref p.i2)) (hTO : ∃ a c, PySem.IsPair s.heap p.TO a c) (h1 : s.heap.IsListIter p.i1 p.l1 0) (h2 : s.heap.IsListIter p.i2 p.l2 0) (m1 : s.heap.IsList p.l1 p.xs) (m2 : s.heap.IsList p.l2 p.ys)
    (hQ : ∀ h' acc tk, (∀ c o, c ≠ p.z → c ≠ p.TO → c ≠ p.i1 → c ≠ p.i2 → s.heap.get? c = some o → h'.get? c = some o) → p.Ps (s.heap.objs.size + 1) p.n acc h' → Q acc.toList { s with heap := h', toks := tk }) :
    wpAny (model prog w) A (collect (.ref p.z)) Q E s := by
  have lz : p.z < s.heap.objs.size := Heap.lt_size hz
  have lI : p.TI < s.heap.objs.size := Heap.lt_size hTI
  have lO : p.TO < s.heap.objs.size := by obtain ⟨a, c, h⟩ := hTO; exact Heap.lt_size h
  have k1 : p.i1 < s.heap.objs.size := by obtain ⟨o, h, _⟩ := h1; exact Heap.lt_size h
  have k2 : p.i2 < s.heap.objs.size := by obtain ⟨o, h, _⟩ := h2; exact Heap.lt_size h
  have g1 : p.l1 < s.heap.objs.size := by obtain ⟨o, h, _⟩ := m1; exact Heap.lt_size h
  have g2 : p.l2 < s.heap.objs.size := by obtain ⟨o, h, _⟩ := m2; exact Heap.lt_size h
  have P : p.Ap s.heap.objs.size (s.heap.objs.size + 1) := ⟨D, Nat.lt_succ_of_lt lz, Nat.lt_succ_of_lt lI, Nat.lt_succ_of_lt lO, Nat.lt_succ_of_lt k1, Nat.lt_succ_of_lt k2, Nat.lt_succ_of_lt g1, Nat.lt_succ_of_lt g2, Nat.lt_succ_self _,
    Nat.ne_of_gt lz, Nat.ne_of_gt lI, Nat.ne_of_gt lO, Nat.ne_of_gt k1, Nat.ne_of_gt k2, Nat.ne_of_gt g1, Nat.ne_of_gt g2⟩
  have st0 : p.St (s.heap.objs.size + 1) 0 s.heap := ⟨hTI, h1, h2, m1, m2, .inl ⟨hz, hTO⟩⟩
  unfold collect
  refine wpAny_bind (wpAny_runValue (codeAny_builtin F.entry_proto_collect ?_))
  rw [Around.under_plainId F.plain_proto_collect _]
  show wpAny _ A.in1 (newList [] >>= fun l => again (.builtin "list.__iadd__" ⟨[l, .ref p.z], []⟩)) _ _ s
  refine wpAny_bind (wpAny_newObj_type ?_)
  refine wpAny_pure ⟨plainId_quiet F.plain_list_iadd _, codeAny_builtin F.entry_list_iadd ?_⟩
  rw [Around.under_plainId F.plain_list_iadd _]
  have hz1 : PySem.IsZip (s.heap.push { cls := .type "list", data := .seq ([] : List Value).toArray }) p.z p.TI p.TO .none := Heap.get?_push_of_some _ hz
  have hT : (({ s with heap := s.heap.push { cls := .type "list", data := .seq ([] : List Value).toArray } } : Shared)).TypeIs (.ref p.z) "zip" := ⟨_, hz1, rfl⟩
  show wpAny _ A.in1 (Builtin.List.listExtendWith (.ref s.heap.objs.size) (.ref p.z) (.ref s.heap.objs.size)) _ _ _
  unfold Builtin.List.listExtendWith
  refine wpAny_bind (wpAny_typeOf hT ?_)
  have q1 : Builtin.List.listSameRef (.ref s.heap.objs.size) (.ref p.z) = false := by simp [Builtin.List.listSameRef, P.Sz]
  have q2 : (Value.type "zip" == Value.type "list") = false := by decide
  have q3 : (Value.type "zip" == Value.type "tuple") = false := by decide
  simp only [q1, q2, q3, Bool.or_false, Bool.false_eq_true, if_false]
  refine wpAny_bind (wpAny_pyIter_zip hz1 ?_)
  refine wpAny_bind (wpAny_holding ?_)
  unfold Builtin.List.listLengthHint
  refine wpAny_bind (wpAny_specialOf hT zip_no_len ?_)
  show wpAny _ A.in1 (specialOf (Value.ref p.z) (Str.ofString "__length_hint__") >>= _) _ _ _
  refine wpAny_bind (wpAny_specialOf hT zip_no_hint ?_)
  refine wpAny_pure ?_
  show wpAny _ A.in1 (rule "list.extend.makes-room" >>= fun _ => Builtin.List.listTouch (.ref s.heap.objs.size) >>= fun _ =>
    again (.builtin "list.extend.loop" ⟨[.ref s.heap.objs.size, .ref p.z, .ref s.heap.objs.size], []⟩)) _ _ _
  refine wpAny_bind (wpAny_rule ?_)
  have hS₁ : (s.heap.push { cls := .type "list", data := .seq ([] : List Value).toArray }).get? s.heap.objs.size = some { cls := .type "list", data := .seq ([] : List Value).toArray } := Heap.get?_push_size _ rfl
  refine wpAny_bind ?_
  show wpAny _ A.in1 (updateSeq s.heap.objs.size (·.push .none) >>= fun _ => updateSeq s.heap.objs.size (·.pop)) _ _ _
  refine wpAny_bind (wpAny_updateSeq hS₁ rfl ?_)
  have hS₂ := Heap.get?_update_self (Obj.mapSeq (·.push Value.none)) hS₁ rfl
  refine wpAny_updateSeq hS₂ rfl ?_
  have hS₃ := Heap.get?_update_self (Obj.mapSeq (·.pop)) hS₂ rfl
  have oth : ∀ b o, b ≠ s.heap.objs.size → (s.heap.push { cls := .type "list", data := .seq ([] : List Value).toArray }).get? b = some o →
      (((s.heap.push { cls := .type "list", data := .seq ([] : List Value).toArray }).update s.heap.objs.size (Obj.mapSeq (·.push Value.none))).update s.heap.objs.size (Obj.mapSeq (·.pop))).get? b = some o :=
    fun b o hb e => (Heap.get?_update_other _ _ (Ne.symm hb)).trans ((Heap.get?_update_other _ _ (Ne.symm hb)).trans e)
  have oth2 : ∀ b o, b ≠ s.heap.objs.size → s.heap.get? b = some o → (((s.heap.push { cls := .type "list", data := .seq ([] : List Value).toArray }).update s.heap.objs.size (Obj.mapSeq (·.push Value.none))).update s.heap.objs.size (Obj.mapSeq (·.pop))).get? b = some o :=
    fun b o hb e => oth b o hb (Heap.get?_push_of_some _ e)
  refine wpAny_pure ⟨plainId_quiet F.plain_extend_loop _, ?_⟩
  have hsz : s.heap.objs.size + 1 ≤ (((s.heap.push { cls := .type "list", data := .seq ([] : List Value).toArray }).update s.heap.objs.size (Obj.mapSeq (·.push Value.none))).update s.heap.objs.size (Obj.mapSeq (·.pop))).objs.size := by
    rw [Heap.size_update, Heap.size_update, Heap.size_push]; exact Nat.le_refl _
  have st1 := st0.step P oth2
  obtain ⟨c, hS₄⟩ : ∃ c, (((s.heap.push { cls := .type "list", data := .seq ([] : List Value).toArray }).update s.heap.objs.size (Obj.mapSeq (·.push Value.none))).update s.heap.objs.size (Obj.mapSeq (·.pop))).get? s.heap.objs.size = some { cls := .type "list", dict := none, data := .seq #[] c, slots := #[] } := ⟨_, hS₃⟩
  show codeAny (model prog w) A _ _ { s with heap := (((s.heap.push { cls := .type "list", data := .seq ([] : List Value).toArray }).update s.heap.objs.size (Obj.mapSeq (·.push Value.none))).update s.heap.objs.size (Obj.mapSeq (·.pop))) }
  clear hS₁ hS₂ hS₃ oth hT hz1 q1 q2 q3
  generalize (((s.heap.push { cls := .type "list", data := .seq ([] : List Value).toArray }).update s.heap.objs.size (Obj.mapSeq (·.push Value.none))).update s.heap.objs.size (Obj.mapSeq (·.pop))) = hp at *
  refine zip_loop (A := A) (p := p) hh P hn _ _ 0 { s with heap := hp } #[] c rfl (Nat.zero_le _) hsz st1 hS₄ ⟨rfl, fun j hj => absurd hj (Nat.not_lt_zero j), fun j k T U _ h _ => ?_⟩ fun h' acc' c' kp e ps tk => ?_
  · simp at h
  · show wpAny _ A (load s.heap.objs.size >>= _) _ _ _
    exact wpAny_bind (wpAny_load e (wpAny_pure (hQ h' acc' tk (fun c o c1 c2 c3 c4 e => kp c o c1 c2 c3 c4 (Nat.ne_of_lt (Heap.lt_size e)) (oth2 c o (Nat.ne_of_lt (Heap.lt_size e)) e)) ps)))
end
end DV
namespace DV
open PySem PySem.Spec PyProof.Rows L2
/-! ### tuple(zip(list, list)) -/
section
variable {prog : Program} {w : World} {A : Around} {E : Value → Shared → Prop} {s : Shared}
structure Zp.In (p : Zp) (h : Heap) : Prop where
  D : ZipApart p.z p.TI p.TO p.i1 p.i2 p.l1 p.l2
  n : p.n ≤ 2 ^ 24
  z : PySem.IsZip h p.z p.TI p.TO .none
  TI : PySem.IsPair h p.TI (Value.ref p.i1) (Value.ref p.i2)
  TO : ∃ a c, PySem.IsPair h p.TO a c
  i1 : h.IsListIter p.i1 p.l1 0
  i2 : h.IsListIter p.i2 p.l2 0
  l1 : h.IsList p.l1 p.xs
  l2 : h.IsList p.l2 p.ys
/-- what stands behind it -/
def Zp.Out (p : Zp) (h h' : Heap) (acc : Array Value) : Prop := (∀ c o, c ≠ p.z → c ≠ p.TO → c ≠ p.i1 → c ≠ p.i2 → h.get? c = some o → h'.get? c = some o) ∧ p.Ps (h.objs.size + 1) p.n acc h'
theorem zip_collect2 {p : Zp} {Q : List Value → Shared → Prop} (hh : A.handled = none) (i : p.In s.heap) (hQ : ∀ h' acc tk, p.Out s.heap h' acc → Q acc.toList { s with heap := h', toks := tk }) : wpAny (model prog w) A (collect (.ref p.z)) Q E s :=
  zip_collect hh i.D (Nat.le_trans i.n (by rw [sizeLine_eq]; decide)) i.z i.TI i.TO i.i1 i.i2 i.l1 i.l2 fun h' acc tk k ps => hQ h' acc tk ⟨k, ps⟩
theorem code_tuple_new_zip {p : Zp} {Q₁ : Value → Shared → Prop} (hh : A.handled = none) (i : p.In s.heap)
    (h : ∀ (h' : Heap) (tk : Nat) (acc : Array Value), p.Out s.heap h' acc → Q₁ (.ref h'.objs.size) { s with heap := h'.push { cls := .type "tuple", data := .seq acc }, toks := tk }) :
    codeAny (model prog w) A (.call (.builtin "tuple.__new__") ⟨[.type "tuple", .ref p.z], []⟩) (wants Q₁ E) s := by
  refine codeAny_of_tree ?_
  show wpAny _ A.in1 (do checkBuiltinCall "tuple.__new__" ⟨[.type "tuple", .ref p.z], []⟩; again (.builtin "tuple.__new__" ⟨[.type "tuple", .ref p.z], []⟩)) _ _ s
  refine wpAny_bind (wpAny_of_eq (F.newCall_tuple_1 _) (wpAny_pure ⟨plainId_quiet F.plain_tuple_new _, codeAny_builtin F.entry_tuple_new ?_⟩))
  rw [Around.under_plainId F.plain_tuple_new _]
  have hsub := sub_tuple_self
  have hinit := init_tuple_lookup
  have hmh := madeHere_tuple
  have hTI : s.TypeIs (.ref p.z) "zip" := ⟨_, i.z, rfl⟩
  have hh1 : A.in1.handled = none := hh
  wp_walk using wpAny_typeOf hTI, zip_collect2 (A := A.in1) hh1 i
  intro h' acc tk ho
  show wpAny _ _ (Builtin.Tuple.tupleExact acc.toList.toArray >>= fun v => ret v) _ _ _
  unfold Builtin.Tuple.tupleExact
  refine wpAny_bind (wpAny_newObj_type ?_ (by show acc.toList.toArray.size ≤ sizeLine; simp only [Array.toArray_toList]; rw [ho.2.sz, sizeLine_eq]; have := i.n; omega))
  refine wpAny_pure ?_
  have e : acc.toList.toArray = acc := by simp
  rw [e]
  exact h h' tk acc ho
theorem call_tuple_zip {p : Zp} {Q : Value → Shared → Prop} (hh : A.handled = none) (i : p.In s.heap)
    (hQ : ∀ (h' : Heap) (tk : Nat) (acc : Array Value), p.Out s.heap h' acc → Q (.ref h'.objs.size) { s with heap := h'.push { cls := .type "tuple", data := .seq acc }, toks := tk }) :
    wpAny (model prog w) A (call (.type "tuple") [.ref p.z]) Q E s := by
  refine callType_codes (Q₁ := fun obj s₁ => s₁.TypeIs obj "tuple" ∧ Q obj s₁) F.called_tuple (F.typeCall_tuple_1 _) F.entry_object_init
    (code_tuple_new_zip (A := A.in1) hh i fun h' tk acc ho => ⟨⟨_, Heap.get?_push_size _ rfl, rfl⟩, hQ h' tk acc ho⟩) fun obj s₁ h₁ => ?_
  exact ⟨h₁.1, F.args_object_init_2 obj _, object_init_meets F.called_tuple.init.lookup F.called_tuple.made (by decide) prog w A.in1 _ s₁ ⟨h₁.1, rfl, h₁.2⟩⟩
end
/-- new pairs laid -/
def layT (H : Hp) : List (Addr × V × V) → Hp
  | [] => H
  | (T, u, v) :: r => layT (upd H T (.tup [u, v])) r
theorem layT_at : ∀ {ps : List (Addr × V × V)} {H : Hp} {b : Addr}, b ∉ ps.map (·.1) → layT H ps b = H b
  | [], _, _, _ => rfl
  | (T, u, v) :: r, H, b, h => by
    have h1 : b ≠ T := fun e => h (by simp [e])
    have h2 : b ∉ r.map (·.1) := fun e => h (by simp at e ⊢; exact .inr e)
    show layT (upd H T _) r b = _
    rw [layT_at h2, upd_ne h1]
theorem hok_new {P : Program} {w : World} {H : Hp} {h h' : Heap} {a : Addr} {o : HO} (x : HOk P w H h) (k : ∀ b u, h.get? b = some u → h'.get? b = some u) (hn : H a = none) (new : ObjOk P w (upd H a o) h' a o) : HOk P w (upd H a o) h' := fun b u e => by
  by_cases hb : b = a
  · subst hb
    rw [upd_same] at e
    cases e
    exact new
  · rw [upd_ne hb] at e
    have keep : ∀ c v, H c = some v → upd H a o c = some v := fun c v q => by
      have : c ≠ a := fun z => by rw [z, hn] at q; cases q
      rw [upd_ne this]; exact q
    exact (x b u e).stay (fun c v _ q => k c v q) (fun c q => keep c _ q) fun c xs q => keep c _ q
theorem layT_ok {P : Program} {w : World} {h : Heap} : ∀ {ps : List (Addr × V × V)} {H : Hp}, HOk P w H h → (∀ q ∈ ps, H q.1 = none ∧ ∃ x y, RelV q.2.1 x ∧ RelV q.2.2 y ∧ PySem.IsPair h q.1 x y) → (ps.map (·.1)).Nodup → HOk P w (layT H ps) h
  | [], _, ok, _, _ => ok
  | (T, u, v) :: r, H, ok, hp, nd => by
    obtain ⟨n0, x, y, rx, ry, pr⟩ := hp (T, u, v) (List.mem_cons_self ..)
    have nd2 := List.nodup_cons.mp nd
    show HOk P w (layT (upd H T (.tup [u, v])) r) h
    refine layT_ok (ps := r) (hok_new (a := T) (o := .tup [u, v]) ok (fun _ _ e => e) n0 (show ObjOk P w _ _ _ (.tup [u, v]) from ⟨by show 2 ≤ sizeLine; decide, [x, y], .cons rx (.cons ry .nil), ⟨_, pr, rfl, _, rfl⟩⟩)) (fun q hq => ?_) nd2.2
    obtain ⟨m0, r2⟩ := hp q (List.mem_cons_of_mem _ hq)
    refine ⟨?_, r2⟩
    have : q.1 ≠ T := fun e => nd2.1 (by rw [← e]; exact List.mem_map.mpr ⟨q, hq, rfl⟩)
    rw [upd_ne this]
    exact m0
def refOf : Value → Addr
  | .ref T => T
  | _ => 0
theorem Zp.Ps.list {p : Zp} {b n : Nat} {acc : Array Value} {h : Heap} (s : p.Ps b n acc h) : ∃ Ts : List Addr, acc.toList = Ts.map Value.ref ∧ Ts.length = n ∧ Ts.Nodup ∧ ∀ (j : Nat) (T : Addr), Ts[j]? = some T → ∃ x y, p.xs[j]? = some x ∧ p.ys[j]? = some y ∧ PySem.IsPair h T x y ∧ b ≤ (T : Nat) := by
  have hl : acc.toList.length = n := by rw [Array.length_toList]; exact s.sz
  have at2 : ∀ j : Nat, j < n → ∃ T x y, acc.toList[j]? = some (Value.ref T) ∧ p.xs[j]? = some x ∧ p.ys[j]? = some y ∧ PySem.IsPair h T x y ∧ b ≤ (T : Nat) := fun j hj => by
    obtain ⟨T, x, y, e1, r⟩ := s.at' j hj
    exact ⟨T, x, y, by rw [Array.getElem?_toList]; exact e1, r⟩
  refine ⟨acc.toList.map refOf, ?_, by rw [List.length_map, hl], ?_, fun j T hT => ?_⟩
  · rw [List.map_map]
    refine List.ext_getElem? fun j => ?_
    rw [List.getElem?_map]
    by_cases hj : j < n
    · obtain ⟨T, x, y, e, _⟩ := at2 j hj
      rw [e]; rfl
    · rw [List.getElem?_eq_none (by omega)]; rfl
  · refine List.nodup_iff_pairwise_ne.mpr (List.pairwise_iff_getElem.mpr fun j k hj hk hjk => ?_)
    rw [List.length_map] at hj hk
    obtain ⟨T, _, _, e, _⟩ := at2 j (by omega)
    obtain ⟨U, _, _, e', _⟩ := at2 k (by omega)
    have := s.inc j k T U hjk (by rw [← Array.getElem?_toList]; exact e) (by rw [← Array.getElem?_toList]; exact e')
    rw [List.getElem_map, List.getElem_map]
    rw [List.getElem?_eq_getElem hj] at e
    rw [List.getElem?_eq_getElem hk] at e'
    rw [Option.some.inj e, Option.some.inj e']
    exact Nat.ne_of_lt this
  · rw [List.getElem?_map] at hT
    by_cases hj : j < n
    · obtain ⟨T', x, y, e, r⟩ := at2 j hj
      rw [e] at hT
      cases hT
      exact ⟨x, y, r⟩
    · rw [List.getElem?_eq_none (by omega)] at hT; cases hT
section
variable {X : Cx} {e e2 : Expr} {ta : TA} {p p2 pos pos2 : Pos}
def tTupZip (K : PySem.W.Frag) (ta : TA) : TE := fun σ H Q => ta σ H fun vs H1 => ∃ a b xs ys, vs = [.ref a, .ref b] ∧ SqL K H1 a xs ∧ SqL K H1 b ys ∧
  ∀ (Ts : List Addr) (q : Addr), Ts.length = min xs.length ys.length → Ts.Nodup → (∀ T ∈ Ts, H1 T = none) → H1 q = none → q ∉ Ts → Q (.ref q) (upd (layT H1 (Ts.zip (xs.zip ys))) q (.tup (Ts.map .ref)))
theorem pe_tupZip (hc : X.calm = true) (hg : Gl X "tuple") (hm : X.mg "tuple" = none) (hg2 : Gl X "zip") (hm2 : X.mg "zip" = none) (ha : PA X [e, e2] ta)
    (hs : starEach [e, e2] X.env = (false, eval e X.env) :: starEach [e2] X.env := by rfl) (hpl : (backTo pos2 (starEach [e2] X.env)).any (·.1) = false := by rfl)
    (na : starEach [.Call (.Name "zip" p2) [e, e2] [] pos2] X.env = (false, eval (.Call (.Name "zip" p2) [e, e2] [] pos2) X.env) :: starEach [] X.env := by rfl) :
    PE X (.Call (.Name "tuple" p) [.Call (.Name "zip" p2) [e, e2] [] pos2] [] pos) (tTupZip X.K ta) := by
  refine ⟨fun pins s σ H Q I h => ?_⟩
  refine Call_ (ld_blt I hg hm boot_tuple (PyProof.Rows.callWith_type1 (args_cons ?_ na) na))
  refine Call_ (ld_blt I hg2 hm2 PyProof.Rows.boot_zip (PyProof.Rows.callWith_type1 (thn (ha.run pos2 pins s σ H _ I h) fun us s1 ⟨vs, H1, I1, r1, q1⟩ => ?_) hs hpl))
  obtain ⟨a, b, xs, ys, ex, hqx, hqy, q1⟩ := q1
  subst ex
  cases r1 with
  | cons r rr =>
    cases rr with
    | cons r' rr =>
      cases rr
      cases r
      cases r'
      obtain ⟨its, rv, p1, z1⟩ := I1.list hqx
      obtain ⟨its2, rv2, p2, z2⟩ := I1.list hqy
      refine call_zip_2 p1.isList p2.isList fun h' hz hTI hTO h1 h2 hsz hk => args_nil ?_
      refine call_tuple_zip (p := ⟨s1.heap.objs.size + 4, s1.heap.objs.size + 2, s1.heap.objs.size + 3, s1.heap.objs.size, s1.heap.objs.size + 1, a, b, its.toArray, its2.toArray⟩) (I1.ok.hd hc)
        ⟨PySem.W.ktu_apart s1.heap.objs.size a b p1.lt p2.lt, ?_, hz, hTI, ⟨_, _, hTO⟩, h1, h2, p1.isList.at fun o e => hk _ o e, p2.isList.at fun o e => hk _ o e⟩ fun h3 tk acc ho => ?_
      · show min its.toArray.size its2.toArray.size ≤ 2 ^ 24
        rw [List.size_toArray, ← rv.length]
        rw [sizeLine_eq] at z1
        omega
      obtain ⟨kp, ps⟩ := ho
      obtain ⟨Ts, e1, e2, e3, e4⟩ := ps.list
      dsimp only at kp e2 e4
      have hn : Ts.length = min xs.length ys.length := by
        rw [e2, rv.length, rv2.length]; rfl
      have k3 : ∀ c o, s1.heap.get? c = some o → h3.get? c = some o := fun c o e => by
        have l : c < s1.heap.objs.size := Heap.lt_size e
        exact kp c o (Nat.ne_of_lt (Nat.lt_of_lt_of_le l (Nat.le_add_right _ 4))) (Nat.ne_of_lt (Nat.lt_of_lt_of_le l (Nat.le_add_right _ 3))) (Nat.ne_of_lt l) (Nat.ne_of_lt (Nat.lt_succ_of_lt l)) (hk c o e)
      have lh : s1.heap.objs.size ≤ h3.objs.size := by
        have z : h3.get? (s1.heap.objs.size + 2) = some _ := kp _ _ (Nat.ne_of_lt (Nat.add_lt_add_left (by decide) _)) (Nat.ne_of_lt (Nat.add_lt_add_left (by decide) _)) (Nat.ne_of_gt (Nat.lt_add_of_pos_right (by decide))) (Nat.ne_of_gt (Nat.add_lt_add_left (by decide) _)) hTI
        exact Nat.le_trans (Nat.le_add_right _ 2) (Nat.le_of_lt (Heap.lt_size z))
      have at3 : ∀ T ∈ Ts, s1.heap.objs.size ≤ (T : Nat) ∧ (T : Nat) < h3.objs.size := fun T hT => by
        obtain ⟨j, hj, e⟩ := List.mem_iff_getElem.mp hT
        obtain ⟨x, y, _, _, pr, hb⟩ := e4 j T (by rw [List.getElem?_eq_getElem hj, e])
        refine ⟨?_, Heap.lt_size pr⟩
        rw [hsz] at hb
        exact Nat.le_trans (Nat.le_add_right _ 6) hb
      have nT : ∀ T ∈ Ts, H1 T = none := fun T hT => I1.hok.fresh (at3 T hT).1
      have nq : H1 h3.objs.size = none := I1.hok.fresh lh
      have qn : h3.objs.size ∉ Ts := fun hq => absurd (at3 _ hq).2 (Nat.lt_irrefl _)
      have zl : ∀ b, b ∈ (Ts.zip (xs.zip ys)).map (·.1) → b ∈ Ts := fun b hb => by
        obtain ⟨⟨T, u, v⟩, hm, e⟩ := List.mem_map.mp hb
        rw [← e]
        exact (List.of_mem_zip hm).1
      have nd : ((Ts.zip (xs.zip ys)).map (·.1)).Nodup := by
        rw [List.map_fst_zip (by rw [List.length_zip, hn]; exact Nat.le_refl _)]
        exact e3
      have ok1 : HOk X.prog X.w (layT H1 (Ts.zip (xs.zip ys))) h3 := by
        refine layT_ok (I1.hok.kept k3) (fun q hq => ?_) nd
        obtain ⟨j, hj, e⟩ := List.mem_iff_getElem.mp hq
        rw [List.length_zip, List.length_zip] at hj
        have jT : j < Ts.length := by omega
        have jx : j < xs.length := by omega
        have jy : j < ys.length := by omega
        rw [List.getElem_zip, List.getElem_zip] at e
        obtain ⟨x, y, f1, f2, pr, _⟩ := e4 j _ (List.getElem?_eq_getElem jT)
        obtain ⟨x', g1, r1⟩ := rv.get (List.getElem?_eq_getElem jx)
        obtain ⟨y', g2, r2⟩ := rv2.get (List.getElem?_eq_getElem jy)
        have hx : x' = x := by
          have : its.toArray[j]? = some x' := by simpa using g1
          rw [f1] at this; exact (Option.some.inj this).symm
        have hy : y' = y := by
          have : its2.toArray[j]? = some y' := by simpa using g2
          rw [f2] at this; exact (Option.some.inj this).symm
        rw [← e]
        exact ⟨nT _ (List.getElem_mem jT), x, y, hx ▸ r1, hy ▸ r2, pr⟩
      have lay : ∀ b, b ∉ Ts → layT H1 (Ts.zip (xs.zip ys)) b = H1 b := fun b hb => layT_at fun z => hb (zl b z)
      have lay2 : ∀ b, b ∉ Ts → b ≠ h3.objs.size → upd (layT H1 (Ts.zip (xs.zip ys))) h3.objs.size (.tup (Ts.map .ref)) b = H1 b := fun b hb hq => by
        rw [upd_ne hq]; exact lay b hb
      have old : ∀ b o, s1.heap.get? b = some o → b ∉ Ts ∧ b ≠ h3.objs.size := fun b o e => by
        have l : b < s1.heap.objs.size := Heap.lt_size e
        exact ⟨fun z => absurd l (Nat.not_lt.mpr (at3 b z).1), Nat.ne_of_lt (Nat.lt_of_lt_of_le l lh)⟩
      have told : ∀ b o, H1 b = some o → b ∉ Ts ∧ b ≠ h3.objs.size := fun b o e => ⟨fun z => (by rw [nT b z] at e; cases e), fun z => (by rw [z, nq] at e; cases e)⟩
      have k4 : ∀ c o, s1.heap.get? c = some o → (h3.push { cls := .type "tuple", data := .seq acc }).get? c = some o := fun c o e => Heap.get?_push_of_some _ (k3 c o e)
      have vals : ∀ us : List Addr, Vals (us.map V.ref) (us.map Value.ref) := fun us => by
        induction us with
        | nil => exact .nil
        | cons u us ih => exact .cons rfl ih
      have ok2 : HOk X.prog X.w (upd (layT H1 (Ts.zip (xs.zip ys))) h3.objs.size (.tup (Ts.map .ref))) (h3.push { cls := .type "tuple", data := .seq acc }) := by
        refine hok_new ok1 (fun c o e => Heap.get?_push_of_some _ e) ((lay _ qn).trans nq) (show ObjOk X.prog X.w _ _ _ (.tup (Ts.map .ref)) from ⟨?_, acc.toList, by rw [e1]; exact vals Ts, ?_⟩)
        · rw [List.length_map, hn]; omega
        · rw [Array.toArray_toList]; exact IsTup.new _ _
      have un : Un X.fs [] H1 (upd (layT H1 (Ts.zip (xs.zip ys))) h3.objs.size (.tup (Ts.map .ref))) s1.heap (h3.push { cls := .type "tuple", data := .seq acc }) := {
        keep := fun b u q _ _ _ => k4 b u q
        slot := fun b u q _ _ _ => ⟨u.slots, k4 b u q⟩
        free := fun b u q n _ => by rw [lay2 b (old b u q).1 (old b u q).2]; exact n
        there := fun b u q _ => ⟨u, k4 b u q⟩
        tups := fun b zs q => by rw [lay2 b (told b _ q).1 (told b _ q).2]; exact q
        frzs := fun b u zs q => by rw [lay2 b (told b _ q).1 (told b _ q).2]; exact q
        tbls := fun b ps q => ⟨#[], by rw [lay2 b (told b _ q).1 (told b _ q).2, q]; simp⟩ }
      exact ⟨.ref h3.objs.size, _, I1.un (t' := tk) un ok2, rfl, q1 Ts _ hn e3 nT nq qn⟩
end
end DV
namespace DV
open PySem PySem.Spec PyProof.Rows L2
/-! ### tuple(zip(list, list)) over data -/
section
variable {X : Cx} {F : Fm} {e e2 : Expr} {t : TA} {d : TDA} {p p2 pos pos2 : Pos}
theorem lay_im {pins : List Pin} {ρ : Rho} {σ : L2.St} : ∀ {Ts : List Addr} {us vs : List V} {xs ys : List PyData} {H : Hp}, Ts.length = min us.length vs.length → Ts.Nodup → (∀ T ∈ Ts, H T = none) → Ok F pins ρ σ H →
    ImAll F.K (Av F pins ρ σ) H xs us → ImAll F.K (Av F pins ρ σ) H ys vs →
    Ok F pins ρ σ (layT H (Ts.zip (us.zip vs))) ∧ ImAll F.K (Av F pins ρ σ) (layT H (Ts.zip (us.zip vs))) (zipD xs ys) (Ts.map .ref) ∧ ∀ a o, H a = some o → layT H (Ts.zip (us.zip vs)) a = some o
  | [], us, vs, xs, ys, H, hl, _, _, O, h1, h2 => by
    have e : zipD xs ys = [] := List.eq_nil_of_length_eq_zero (by rw [zipD_len, ← h1.length, ← h2.length]; exact hl.symm)
    rw [e]
    exact ⟨O, .nil, fun _ _ h => h⟩
  | T :: Ts, [], vs, xs, ys, H, hl, _, _, O, h1, h2 => by simp at hl
  | T :: Ts, u :: us, [], xs, ys, H, hl, _, _, O, h1, h2 => by simp at hl
  | T :: Ts, u :: us, v :: vs, [], ys, H, hl, _, _, O, h1, h2 => by have := h1.length; simp at this
  | T :: Ts, u :: us, v :: vs, x :: xs, [], H, hl, _, _, O, h1, h2 => by have := h2.length; simp at this
  | T :: Ts, u :: us, v :: vs, x :: xs, y :: ys, H, hl, nd, nT, O, h1, h2 => by
    have hT := nT T (List.mem_cons_self ..)
    have nd2 := List.nodup_cons.mp nd
    obtain ⟨u', eu, iu⟩ := h1.get (i := 0) rfl
    obtain ⟨v', ev, iv⟩ := h2.get (i := 0) rfl
    cases eu
    cases ev
    have nA : ¬ Av F pins ρ σ T := fun z => by
      obtain ⟨o, z⟩ := O.avH z
      rw [hT] at z; cases z
    have G : Go (Av F pins ρ σ) (Av F pins ρ σ) H (upd H T (.tup [u, v])) := ⟨fun a o _ h => grow_new hT a o h, fun a h => .inl h⟩
    have pr := im_pair hT iu iv nA
    have r := lay_im (Ts := Ts) (us := us) (vs := vs) (xs := xs) (ys := ys) (H := upd H T (.tup [u, v])) (by simpa using hl) nd2.2 (fun T' hT' => by
      have ne : T' ≠ T := fun e => nd2.1 (by rw [← e]; exact hT')
      rw [upd_ne ne]; exact nT T' (List.mem_cons_of_mem _ hT')) (O.new hT) ((h1.drop 1).go G) ((h2.drop 1).go G)
    obtain ⟨r1, r2, r3⟩ := r
    refine ⟨r1, .cons (pr.go ⟨fun a o _ h => r3 a o h, fun a h => .inl h⟩) r2, fun a o h => r3 a o (grow_new hT a o h)⟩
def dTupZip (t : TDA) : TDE := fun ρ Q => t ρ fun rs ρ1 => match rs with
  | [r, s] => match seqs ρ1 r, seqs ρ1 s with
    | some (false, xs), some (false, ys) => Q (.d (.tuple (zipD xs ys))) ρ1
    | _, _ => False
  | _ => False
theorem pd_tupZip (hc : X.calm = true) (hg : Gl X "tuple") (hm : X.mg "tuple" = none) (hg2 : Gl X "zip") (hm2 : X.mg "zip" = none) (ha : PDA X F [e, e2] t d) (hK : X.K = F.K := by rfl)
    (hs : starEach [e, e2] X.env = (false, eval e X.env) :: starEach [e2] X.env := by rfl) (hpl : (backTo pos2 (starEach [e2] X.env)).any (·.1) = false := by rfl)
    (na : starEach [.Call (.Name "zip" p2) [e, e2] [] pos2] X.env = (false, eval (.Call (.Name "zip" p2) [e, e2] [] pos2) X.env) :: starEach [] X.env := by rfl) :
    PD X F (.Call (.Name "tuple" p) [.Call (.Name "zip" p2) [e, e2] [] pos2] [] pos) (tTupZip F.K t) (dTupZip d) := by
  refine ⟨?_, ⟨fun pins ρ σ H R O h => ?_, fun ρ Q Q' hq h => ?_⟩⟩
  · have := pe_tupZip (p := p) (p2 := p2) (pos := pos) (pos2 := pos2) hc hg hm hg2 hm2 ha.pa hs hpl na
    rw [hK] at this
    exact this
  · refine ha.da.run pins ρ σ H _ O (ha.da.mono _ _ _ (fun rs ρ1 h1 vs H1 O1 R1 => ?_) h)
    split at h1
    · rename_i r s
      split at h1
      · rename_i xs ys e1 e2
        simp only [ROks] at R1
        obtain ⟨v, _, rfl, r1, w, _, rfl, r2, rfl⟩ := R1
        obtain ⟨a, pl, rfl, d1, O2, av2, k1⟩ := seqs_ok O1 r1 e1
        have r2' : ROk F (Av F (pl ++ pins) ρ1 σ) ρ1 σ H1 s w := by rw [av2]; exact r2
        obtain ⟨b, pm, rfl, d2, O3, av3, k2⟩ := seqs_ok O2 r2' e2
        have k1 : LstAt F pl a xs := by simpa using k1
        have k2 : LstAt F pm b ys := by simpa using k2
        obtain ⟨us, a1, i1⟩ := k1 _ _ _ _ (fun q hq => List.mem_append_right _ (List.mem_append_left _ hq)) O3
        obtain ⟨ws, b1, i2⟩ := k2 _ _ _ _ (fun q hq => List.mem_append_left _ hq) O3
        rw [av3, av2] at i1 i2
        refine ⟨a, b, us, ws, rfl, a1, b1, fun Ts q hl nd nT nq qn => ?_⟩
        obtain ⟨O4, im, gr⟩ := lay_im hl nd nT O1 i1 i2
        have zl : q ∉ (Ts.zip (us.zip ws)).map (·.1) := fun z => by
          obtain ⟨⟨T, u, v⟩, hm, e⟩ := List.mem_map.mp z
          exact qn (e ▸ (List.of_mem_zip hm).1)
        obtain ⟨O5, im2⟩ := newTup O4 (p := q) ((layT_at zl).trans nq) im
        exact h1 _ _ O5 im2
      · exact h1.elim
    · exact h1.elim
  · refine ha.da.mono _ _ _ (fun rs ρ1 h1 => ?_) h
    revert h1
    split
    · split
      · exact fun h1 => hq _ _ h1
      · exact fun h1 => h1
    · exact fun h1 => h1
end
end DV
namespace DV
open PySem PySem.Spec PyProof.Rows L2
/-! ### x[i], x[j] = (.., ..) -/
section
variable {X : Cx} {F : Fm} {k : Expr} {tk : TE} {dk : TDE} {i : Nat} {x : Str} {vpos spos : Pos}
def dgSet (i : Nat) (tk : TDE) : TDGt := fun r ρ P => onDat r fun y => onOwn ρ i fun _ => tk ρ fun s ρ2 => onV ρ2 s fun k => onOwn ρ2 i fun xs => match k with
  | .int k => (0 ≤ k ∧ k < xs.length) ∧ P (ρ2.set i (some (.own (xs.set k.toNat y))))
  | _ => False
theorem dg_set (hk : DE F tk dk) : DG F (gSub (tVar i) tk rSetL) (dgSet i dk) [] := by
  refine ⟨fun pins ρ σ H v r Q P O hfr R h K => ?_, fun r ρ P P' hq h => ?_⟩
  · cases r with
    | o j => exact h.elim
    | raw u => exact h.elim
    | d y =>
      have h2 : onOwn ρ i _ := h
      obtain ⟨xs0, e0, h2⟩ := onOwn_of h2
      obtain ⟨p, vs0, g1, g2, g3, _⟩ := O.ownGet e0
      refine ⟨.ref p, g1, ?_⟩
      refine hk.run (.val v (.d y) :: pins) ρ σ H _ (O.push R) (hk.mono _ _ _ (fun s ρ2 h3 u H2 O2 R2 => ?_) h2)
      obtain ⟨O3, R3⟩ := O2.popV
      obtain ⟨kk, e1, h4⟩ := onV_of h3
      obtain ⟨xs, e2, h5⟩ := onOwn_of h4
      obtain ⟨q, vs, f1, f2, f3, f4⟩ := O3.ownGet e2
      rw [g1] at f1; cases f1
      cases kk <;> first | exact h5.elim | skip
      rename_i k0
      cases dp_int (val_dp O2 R2 e1)
      refine ⟨p, vs, k0, k0.toNat, rfl, rfl, f2, ?_, K _ _ _ (O3.setOwn f4 (f3.set _ R3)) (fun _ _ => rfl) h5.2⟩
      rw [f3.length]
      exact ixN_nat h5.1.1 h5.1.2
  · cases r with
    | o j => exact h.elim
    | raw u => exact h.elim
    | d y =>
      have h2 : onOwn ρ i _ := h
      show onOwn ρ i _
      refine onOwn_mono h2 fun xs0 h2 => hk.mono _ _ _ (fun s ρ2 h3 => onV_mono h3 fun kk h4 => onOwn_mono h4 fun xs h5 => ?_) h2
      cases kk <;> first | exact h5.elim | skip
      exact ⟨h5.1, hq _ h5.2⟩
theorem pgd_sub (hk : PD X F k tk dk) (hg : PG X (.Subscript (.Name x vpos) k spos) (gSub (tVar i) tk rSetL)) : PDG X F (.Subscript (.Name x vpos) k spos) (gSub (tVar i) tk rSetL) (dgSet i dk) [] := ⟨hg, dg_set hk.de⟩
end
end DV
namespace DV
open PySem PySem.Spec PyProof.Rows L2
/-! ### an append to a new list that nobody keeps -/
section
variable {X : Cx} {F : Fm} {o e : Expr} {to : TE} {dl : TDL} {t : TA} {d : TDA} {apos cpos : Pos}
def dAppX (dl : TDL) (d : TDA) : TDE := fun ρ Q => dl ρ fun xs ρ1 => d ρ1 fun rs ρ2 => match rs with
  | [.d y] => Few (xs.length + 1) ∧ Q (.d .none) ρ2
  | _ => False
theorem de_appX (hl : DL F to dl) (ha : DA F t d) : DE F (tBM F.K "list" rAppend to t) (dAppX dl d) := by
  constructor
  · intro pins ρ σ H Q O h
    refine hl.run pins ρ σ H _ O (hl.mono _ _ _ (fun xs ρ1 h1 p H1 O1 => ?_) h)
    obtain ⟨vs0, g0, i0, _, _⟩ := O1.pin _ (List.mem_cons_self ..)
    refine ⟨?_, ha.run (.acc p xs :: pins) ρ1 σ H1 _ O1 (ha.mono _ _ _ (fun rs ρ2 h2 us H2 O2 R2 => ?_) h1)⟩
    · exact .inl ⟨rfl, vs0, .of g0⟩
    · split at h2
      · rename_i y
        simp only [ROks] at R2
        obtain ⟨v, _, rfl, r, rfl⟩ := R2
        obtain ⟨vs, g, i, _, _⟩ := O2.pin _ (List.mem_cons_self ..)
        refine ⟨p, vs, v, rfl, rfl, g, ?_, h2.2 _ _ (O2.setAcc (i.append (.cons r .nil))).popL.1 (.sc .none)⟩
        have := h2.1
        unfold Few at this
        rw [i.length]; omega
      · exact h2.elim
  · intro ρ Q Q' hq h
    refine hl.mono _ _ _ (fun xs ρ1 h1 => ha.mono _ _ _ (fun rs ρ2 h2 => ?_) h1) h
    split at h2
    · exact ⟨h2.1, hq _ _ h2.2⟩
    · exact h2.elim
theorem pd_appX (hl : PDL X F o to dl) (ha : PDA X F [e] t d) (hK : X.K = F.K := by rfl)
    (hbase : attributeBase o "append" X.env (eval o X.env) = eval o X.env := by rfl)
    (hfew : ((backTo cpos (starEach [e] X.env)).all (fun x => !x.1) && (backToKw cpos (keywordEach [] X.env)).all (fun x => x.1.isSome)
      && decide (([e] : List Expr).length + ([] : List Keyword).length + (if ([] : List Keyword).isEmpty then 0 else 1) < 30)) = true := by rfl)
    (hline : (apos.endLine == cpos.line) = true := by rfl) (hs : starEach [e] X.env = (false, eval e X.env) :: starEach [] X.env := by rfl) (hplain : (backTo cpos (starEach [] X.env)).any (·.1) = false := by rfl) :
    PD X F (.Call (.Attribute o "append" apos) [e] [] cpos) (tBM F.K "list" rAppend to t) (dAppX dl d) := by
  refine ⟨?_, de_appX hl.dl ha.da⟩
  have := pe_bm (cpos := cpos) (apos := apos) PySem.F.plainAttrs_list PySem.F.slot_list_append PySem.F.type_list_append mt_append hl.pe ha.pa hbase hfew hline hs hplain
  rw [hK] at this
  exact this
end
end DV
namespace DV
open PySem PySem.Spec PyProof.Rows L2
/-! ## comprehensions of two fors, read by what they make -/
section
variable {g g1 : TDGt} {tt tt1 : TDT} {te : TDE} {wi1 : TDI} {vs vs1 : List Nat} {Q : List PyData → Rho → Prop} {ρ : Rho}
def lc2In (g : TDGt) (tt : TDT) (wi1 : TDI) (g1 : TDGt) (tt1 : TDT) (te : TDE) (vs vs1 : List Nat) (Q : List PyData → Rho → Prop) (xs : List PyData) (ρ1 : Rho) : Prop := (∀ i ∈ vs, ρ1[i]? = some none) ∧ ∃ I : Nat → List PyData → Rho → Prop, I 0 [] ρ1 ∧
  (∀ i x acc ρ, xs[i]? = some x → I i acc ρ → g (.d x) ρ fun ρ2 => tt ρ2 fun k ρ3 => if k = true then wi1 ρ3 fun ys ρ4 => (∀ i ∈ vs1, ρ4[i]? = some none) ∧ ∃ J : Nat → List PyData → Rho → Prop, J 0 acc ρ4 ∧
      (∀ j y acc ρ, ys[j]? = some y → J j acc ρ → g1 (.d y) ρ fun ρ5 => tt1 ρ5 fun k ρ6 => if k = true then te ρ6 fun r ρ7 => onDat r fun z => Few (acc.length + 1) ∧ J (j + 1) (acc ++ [z]) (wipeR ρ7 vs1) else J (j + 1) acc (wipeR ρ6 vs1)) ∧
      ∀ acc ρ, J ys.length acc ρ → I (i + 1) acc (wipeR ρ vs)
    else I (i + 1) acc (wipeR ρ3 vs)) ∧
  ∀ acc ρ, I xs.length acc ρ → Q acc (wipeR ρ vs)
theorem dLc2_eq {wi : TDI} : dLc2 wi g tt wi1 g1 tt1 te vs vs1 = fun ρ Q => wi ρ fun xs ρ1 => lc2In g tt wi1 g1 tt1 te vs vs1 Q xs ρ1 := rfl
theorem fm_le {α β : Type} (f : α → Option β) (xs : List α) : (xs.filterMap f).length ≤ xs.length := List.length_filterMap_le f xs
theorem flat_len {α β : Type} (f : α → List β) {q : Nat} : ∀ xs : List α, (∀ a ∈ xs, (f a).length ≤ q) → (xs.flatMap f).length ≤ xs.length * q
  | [], _ => by simp
  | x :: xs, h => by
    have a := h x (List.mem_cons_self ..)
    have b := flat_len f xs fun y hy => h y (List.mem_cons_of_mem _ hy)
    rw [List.flatMap_cons, List.length_append, List.length_cons, Nat.succ_mul]
    omega
/-- the items of a and, for each, of bs a: tested and made; nothing else changes -/
theorem lc2_fm {α β : Type} (as : List α) (enc : α → PyData) (bs : α → List β) (enc1 : α → β → PyData) (f : α → β → Option PyData) (mid : α → Rho) (q : Nat)
    (hv : ∀ i ∈ vs, ρ[i]? = some none) (hm : ∀ a ∈ as, (∀ i ∈ vs1, (mid a)[i]? = some none) ∧ wipeR (mid a) vs = ρ) (hq : ∀ a ∈ as, (bs a).length ≤ q) (hl : as.length * q ≤ 100000)
    (turn : ∀ (i : Nat) (a : α), as[i]? = some a → ∀ (C : List PyData → Rho → Prop) (D : Rho → Prop), C ((bs a).map (enc1 a)) (mid a) →
      g (.d (enc a)) ρ fun ρ2 => tt ρ2 fun k ρ3 => if k = true then wi1 ρ3 C else D (wipeR ρ3 vs))
    (turn1 : ∀ (i : Nat) (a : α), as[i]? = some a → ∀ (j : Nat) (b : β), (bs a)[j]? = some b → ∀ (C1 : PyData → Rho → Prop) (C2 : Rho → Prop) (n : Nat), Few n → (∀ y, f a b = some y → C1 y (mid a)) → (f a b = none → C2 (mid a)) →
      g1 (.d (enc1 a b)) (mid a) fun ρ5 => tt1 ρ5 fun k ρ6 => if k = true then te ρ6 fun r ρ7 => onDat r fun z => Few n ∧ C1 z (wipeR ρ7 vs1) else C2 (wipeR ρ6 vs1))
    (hQ : Q (as.flatMap fun a => (bs a).filterMap (f a)) ρ) : lc2In g tt wi1 g1 tt1 te vs vs1 Q (as.map enc) ρ := by
  have hw : wipeR ρ vs = ρ := wipeR_id hv
  refine ⟨hv, fun i acc ρ' => ρ' = ρ ∧ acc = (as.take i).flatMap fun a => (bs a).filterMap (f a), ⟨rfl, by simp⟩, ?_, ?_⟩
  · rintro i x acc _ hx ⟨rfl, rfl⟩
    rw [List.getElem?_map] at hx
    cases ha : as[i]? with
    | none => rw [ha] at hx; cases hx
    | some a =>
      rw [ha] at hx
      cases hx
      have hi := (List.getElem?_eq_some_iff.mp ha).1
      have ham := List.mem_of_getElem? ha
      have hlen : ((as.take i).flatMap fun a => (bs a).filterMap (f a)).length ≤ i * q := by
        have := flat_len (fun a => (bs a).filterMap (f a)) (q := q) (as.take i) fun y hy => Nat.le_trans (fm_le ..) (hq y (List.mem_of_mem_take hy))
        rw [List.length_take, Nat.min_eq_left (by omega)] at this
        exact this
      have hiq : i * q + q ≤ 100000 := by
        have := Nat.mul_le_mul_right q (show i + 1 ≤ as.length by omega)
        rw [Nat.succ_mul] at this
        omega
      refine turn i a ha _ (fun ρ2 => ρ2 = _ ∧ _ = (as.take (i + 1)).flatMap _) ?_
      refine ⟨(hm a ham).1, fun j acc ρ' => ρ' = mid a ∧ acc = ((as.take i).flatMap fun a => (bs a).filterMap (f a)) ++ ((bs a).take j).filterMap (f a), ⟨rfl, by simp⟩, ?_, ?_⟩
      · rintro j y acc _ hy ⟨rfl, rfl⟩
        rw [List.getElem?_map] at hy
        cases hb : (bs a)[j]? with
        | none => rw [hb] at hy; cases hy
        | some b =>
          rw [hb] at hy
          cases hy
          have hj := (List.getElem?_eq_some_iff.mp hb).1
          refine turn1 i a ha j b hb (fun y ρ2 => ρ2 = _ ∧ _ = _ ++ ((bs a).take (j + 1)).filterMap (f a)) (fun ρ2 => ρ2 = _ ∧ _ = _ ++ ((bs a).take (j + 1)).filterMap (f a)) _ ?_ (fun y hy => ⟨rfl, ?_⟩) fun hn => ⟨rfl, ?_⟩
          · refine few_le ?_
            have h2 := fm_le (f a) ((bs a).take j)
            have h3 := hq a ham
            rw [List.length_take] at h2
            rw [List.length_append]
            omega
          · rw [take_succ_some hb, List.filterMap_append, List.filterMap_cons, hy, List.append_assoc]; rfl
          · rw [take_succ_some hb, List.filterMap_append, List.filterMap_cons, hn]; simp
      · rintro acc _ ⟨rfl, rfl⟩
        rw [List.length_map, List.take_length]
        refine ⟨(hm a ham).2, ?_⟩
        rw [take_succ_some ha, List.flatMap_append]
        simp
  · rintro acc _ ⟨rfl, rfl⟩
    rw [List.length_map, List.take_length, hw]
    exact hQ
end
theorem enumD_map {α : Type} (as : List α) (enc : α → PyData) : enumD (as.map enc) = as.zipIdx.map fun p => PyData.tuple [.int (p.2 : Int), enc p.1] := by
  apply List.ext_getElem?
  intro n
  cases h : as[n]? with
  | none =>
    have hl := List.getElem?_eq_none_iff.mp h
    rw [List.getElem?_eq_none (by rw [enumD_len, List.length_map]; exact hl), List.getElem?_eq_none (by rw [List.length_map, List.length_zipIdx]; exact hl)]
  | some a =>
    rw [enumD_at (x := enc a) (by rw [List.getElem?_map, h]; rfl), List.getElem?_map, List.getElem?_zipIdx, h]
    simp
section
variable {g : TDGt} {tb : TDS} {DD : DEnds} {ρ : Rho}
/-- a loop over enumerate -/
theorem for_en {α S : Type} (as : List α) (enc : α → PyData) (mk : S → Rho) (I : Nat → S → Prop) (s0 : S) (e : ρ = mk s0) (h0 : I 0 s0)
    (turn : ∀ (i : Nat) (a : α) (s : S), as[i]? = some a → I i s → ∀ C : Rho → Prop, (∀ s', I (i + 1) s' → C (mk s')) → g (.d (.tuple [.int (i : Int), enc a])) (mk s) fun ρ2 => tb { DD with nx := C, ct := C, bk := DD.nx } ρ2)
    (fin : ∀ s, I as.length s → DD.nx (mk s)) : forIn1 g tb DD (enumD (as.map enc)) ρ := by
  rw [enumD_map]
  refine for_st as.zipIdx _ mk I s0 e h0 (fun i a s ha hI C hC => ?_) fun s hs => fin s (by rwa [List.length_zipIdx] at hs)
  rw [List.getElem?_zipIdx] at ha
  cases hx : as[i]? with
  | none => rw [hx] at ha; cases ha
  | some x =>
    rw [hx] at ha
    cases ha
    have := turn i x s hx hI C hC
    simpa using this
end
theorem asInts_by {α : Type} (f : α → Int) (xs : List α) : asInts (xs.map fun x => .int (f x)) = some (xs.map f) := by
  have := asInts_map (xs.map f)
  rw [List.map_map] at this
  exact this
theorem rng_zero {n : Nat} : rng 0 n = (List.range n).map fun k : Nat => PyData.int (k : Int) := by rw [rng_map]; simp
theorem set_enc {α : Type} {f : α → PyData} {xs : List α} {n : Nat} {k : Int} {a : α} {y : PyData} (h : y = f a) (hk : k = (n : Int)) : (xs.map f).set k.toNat y = (xs.set n a).map f := by
  subst h; subst hk
  rw [List.map_set]; rfl
theorem any_pr (xs : List P2) (x y : Int) : ((xs.map enc2).any fun z => PyData.eqv z (pr x y)) = decide ((x, y) ∈ xs) := by
  rw [Bool.eq_iff_iff, decide_eq_true_eq]
  exact any_mem_iff (f := enc2) (fun _ _ => pr_eqv) xs (x, y)
theorem perm_of_map {α : Type} {f : α → PyData} {zs ws : List PyData} (h : zs.Perm ws) : ∀ {ys : List α}, ws = ys.map f → ∃ ts : List α, zs = ts.map f ∧ ts.Perm ys := by
  induction h with
  | nil => intro ys e; cases ys with
    | nil => exact ⟨[], rfl, .nil⟩
    | cons y ys => cases e
  | cons x p ih => intro ys e; cases ys with
    | nil => cases e
    | cons y ys =>
      simp only [List.map_cons, List.cons.injEq] at e
      obtain ⟨ts, e1, p1⟩ := ih e.2
      exact ⟨y :: ts, by rw [e1, e.1]; rfl, p1.cons y⟩
  | swap x y l => intro ys e; cases ys with
    | nil => cases e
    | cons a ys => cases ys with
      | nil => cases e
      | cons b ys =>
        simp only [List.map_cons, List.cons.injEq] at e
        obtain ⟨e1, e2, rfl⟩ := e
        exact ⟨b :: a :: ys, by rw [e1, e2]; rfl, .swap a b ys⟩
  | trans p q ih1 ih2 => intro ys e
                         obtain ⟨ts, e1, p1⟩ := ih2 e
                         obtain ⟨us, e2, p2⟩ := ih1 e1
                         exact ⟨us, e2, p2.trans p1⟩
theorem cut_take {xs : List PyData} {c : Int} (h : 0 ≤ c) : DV.cutD xs none (some c) = xs.take c.toNat := by
  unfold DV.cutD HT.sIx
  simp only [List.drop_zero]
  rw [if_neg (by omega)]
  apply List.ext_getElem?
  intro n
  simp only [List.getElem?_take]
  by_cases hn : n < xs.length
  · congr 1
    simp only [eq_iff_iff]
    omega
  · rw [List.getElem?_eq_none (by omega)]
    simp
/-! ## lists of legs: which two cross -/
def trn (l o : Lg) : Int := (o.ax - l.ax) * (o.bx - l.bx) + (o.ay - l.ay) * (o.by' - l.by')
theorem trn_comm (l o : Lg) : trn o l = trn l o := by unfold trn; grind
theorem trn_bd {k : Nat} {l o : Lg} (h : LB k l) (h2 : LB k o) : Bd (2 * k + 3) (trn l o) :=
  (((h2.ax.sub1 h.ax).mul (h2.bx.sub1 h.bx)).add1 ((h2.ay.sub1 h.ay).mul (h2.by'.sub1 h.by'))).up (by omega)
def cf (ls : List Lg) (i j : Nat) : Option PyData := match ls[i]?, ls[j]? with
  | some l, some o => if trn l o < 0 then some (pr i j) else none
  | _, _ => none
theorem cf_of {ls : List Lg} {i j : Nat} {l o : Lg} (h : ls[i]? = some l) (h2 : ls[j]? = some o) : cf ls i j = if trn l o < 0 then some (pr i j) else none := by
  unfold cf; rw [h, h2]
def crsI (ls : List Lg) (i m : Nat) : List PyData := (List.range m).filterMap fun k => cf ls i (i + 1 + k)
def crs (ls : List Lg) : List PyData := (List.range ls.length).flatMap fun i => crsI ls i (ls.length - (i + 1))
def crsT (ls : List Lg) (i : Nat) : List PyData := (List.range i).flatMap fun i => crsI ls i (ls.length - (i + 1))
theorem crsT_succ {ls : List Lg} {i : Nat} : crsT ls (i + 1) = crsT ls i ++ crsI ls i (ls.length - (i + 1)) := by
  unfold crsT
  rw [List.range_succ, List.flatMap_append]
  simp
theorem crsI_succ {ls : List Lg} {i m : Nat} : crsI ls i (m + 1) = crsI ls i m ++ (cf ls i (i + 1 + m)).toList := by
  unfold crsI
  rw [List.range_succ, List.filterMap_append]
  congr 1
theorem crs_mem {ls : List Lg} {i j : Nat} {l o : Lg} (h : ls[i]? = some l) (h2 : ls[j]? = some o) (hij : i < j) (ht : trn l o < 0) : crs ls ≠ [] := by
  intro e
  have hi := (List.getElem?_eq_some_iff.mp h).1
  have hj := (List.getElem?_eq_some_iff.mp h2).1
  have : pr i j ∈ crs ls := by
    unfold crs crsI
    rw [List.mem_flatMap]
    refine ⟨i, List.mem_range.mpr hi, ?_⟩
    rw [List.mem_filterMap]
    refine ⟨j - (i + 1), List.mem_range.mpr (by omega), ?_⟩
    rw [show i + 1 + (j - (i + 1)) = j by omega, cf_of h h2, if_pos ht]
  rw [e] at this
  cases this
theorem crs_size {ls : List Lg} : (crs ls).length ≤ ls.length * ls.length := by
  refine Nat.le_trans (flat_len _ (q := ls.length) _ fun a _ => ?_) (by rw [List.length_range]; exact Nat.le_refl _)
  unfold crsI
  refine Nat.le_trans (fm_le ..) ?_
  rw [List.length_range]; omega
theorem crs_fn {ls : List Lg} (h : ls.length ≤ 1000) : ∀ y ∈ crs ls, Fn 1 2009 y := fun y hy => by
  unfold crs crsI at hy
  rw [List.mem_flatMap] at hy
  obtain ⟨i, hi, hy⟩ := hy
  rw [List.mem_filterMap] at hy
  obtain ⟨k, hk, hy⟩ := hy
  have hi := List.mem_range.mp hi
  have hk := List.mem_range.mp hk
  unfold cf at hy
  split at hy
  · split at hy
    · cases hy
      exact Fn.tuple (n := 2) (all2 (Fn.int (bd_of (k := 10) 1000 (by omega) (by omega))) (Fn.int (bd_of (k := 10) 1000 (by omega) (by omega)))) (Nat.le_refl _)
    · cases hy
  · cases hy
theorem crs_shp (ls : List Lg) : ∀ y ∈ crs ls, Shp 1 y := fun y hy => by
  unfold crs crsI at hy
  rw [List.mem_flatMap] at hy
  obtain ⟨i, hi, hy⟩ := hy
  rw [List.mem_filterMap] at hy
  obtain ⟨k, hk, hy⟩ := hy
  unfold cf at hy
  split at hy
  · split at hy
    · cases hy; exact shp_pr
    · cases hy
  · cases hy
/-- tos exchanged -/
def exL (ls : List Lg) (i j : Nat) (l o : Lg) : List Lg := (ls.set i ⟨l.ax, l.ay, o.bx, o.by'⟩).set j ⟨o.ax, o.ay, l.bx, l.by'⟩
theorem exL_swap {ls : List Lg} {i j : Nat} {l o : Lg} (h : i ≠ j) : exL ls j i o l = exL ls i j l o := by
  unfold exL
  rw [List.set_comm _ _ (fun e => h e.symm)]
def sqw (l : Lg) : Int := (l.ax - l.bx) * (l.ax - l.bx) + (l.ay - l.by') * (l.ay - l.by')
def prcI (ls : List Lg) : Int := (ls.map sqw).sum
theorem sum_set : ∀ {xs : List Int} {i : Nat} {x v : Int}, xs[i]? = some x → (xs.set i v).sum = xs.sum + (v - x)
  | [], _, _, _, h => by simp at h
  | y :: ys, 0, x, v, h => by
    simp at h; subst h
    simp only [List.set_cons_zero, List.sum_cons]; omega
  | y :: ys, i + 1, x, v, h => by
    have := sum_set (xs := ys) (i := i) (x := x) (v := v) (by simpa using h)
    simp only [List.set_cons_succ, List.sum_cons, this]; omega
theorem prc_ex {ls : List Lg} {i j : Nat} {l o : Lg} (h : ls[i]? = some l) (h2 : ls[j]? = some o) (hij : i ≠ j) : prcI (exL ls i j l o) = prcI ls + 2 * trn l o := by
  unfold prcI exL
  rw [List.map_set, List.map_set]
  have e1 : (ls.map sqw)[i]? = some (sqw l) := by rw [List.getElem?_map, h]; rfl
  have e2 : ((ls.map sqw).set i (sqw ⟨l.ax, l.ay, o.bx, o.by'⟩))[j]? = some (sqw o) := by
    rw [List.getElem?_set_ne hij, List.getElem?_map, h2]; rfl
  rw [sum_set e2, sum_set e1]
  unfold sqw trn
  grind
theorem sqw_bd {k : Nat} {l : Lg} (h : LB k l) : Bd (2 * k + 3) (sqw l) :=
  (((h.ax.sub1 h.bx).mul (h.ax.sub1 h.bx)).add1 ((h.ay.sub1 h.by').mul (h.ay.sub1 h.by'))).up (by omega)
def seqD (b : Bool) (xs : List PyData) : PyData := if b = true then .tuple xs else .list xs
theorem fa_eL {l : Lg} {k : Nat} (h : LB k l) (z : k ≤ 1000 := by decide) : Fn 2 4025 (eL l) :=
  Fn.tuple (n := 2) (all2 (Fn.tuple (n := 2) (all2 (Fn.int h.ax z) (Fn.int h.ay z)) (Nat.le_refl _)) (Fn.tuple (n := 2) (all2 (Fn.int h.bx z) (Fn.int h.by' z)) (Nat.le_refl _))) (Nat.le_refl _)
theorem exL_lb {ls : List Lg} {i j k : Nat} {l o : Lg} (h : ∀ l ∈ ls, LB k l) (hl : LB k l) (ho : LB k o) : ∀ m ∈ exL ls i j l o, LB k m := fun m hm => by
  unfold exL at hm
  rcases List.mem_or_eq_of_mem_set hm with hm | rfl
  · rcases List.mem_or_eq_of_mem_set hm with hm | rfl
    · exact h m hm
    · exact ⟨hl.ax, hl.ay, ho.bx, ho.by'⟩
  · exact ⟨ho.ax, ho.ay, hl.bx, hl.by'⟩
theorem exL_len {ls : List Lg} {i j : Nat} {l o : Lg} : (exL ls i j l o).length = ls.length := by unfold exL; rw [List.length_set, List.length_set]
/-- a leg of a from and a to -/
def mkL (p : P2 × P2) : Lg := ⟨p.1.1, p.1.2, p.2.1, p.2.2⟩
theorem mkL_e {p : P2 × P2} : PyData.tuple [enc2 p.1, enc2 p.2] = eL (mkL p) := rfl
theorem zip_legs (xs ys : List P2) : zipD (xs.map enc2) (ys.map enc2) = ((List.zip xs ys).map mkL).map eL := by
  rw [zipD_map, List.map_map]; rfl
theorem on_map {α : Type} {xs : List α} {g : α → PyData} {n : Nat} {x : α} {f : PyData → Prop} {k : Int} (h : xs[n]? = some x) (hk : k = (n : Int)) : onAt (xs.map g) k f = f (g x) := by
  rw [hk]
  exact on_nat (by rw [List.getElem?_map, h]; rfl)
end DV
namespace DV
open PySem PySem.Spec PyProof.Rows L2
/-! ### == and != of texts, however long -/
section
variable {X : Cx} {F : Fm} {a b : Expr} {ta tb : TE} {da db : TDE} {pos : Pos}
def fNeS : F2
  | .str x, .str y, Q => Q (.bool (!decide (x = y)))
  | _, _, _ => False
theorem so_NeS {K : PySem.W.Frag} : SO K rNe fNeS := by
  constructor
  · intro H x y dx dy Q h1 h2 q
    cases dx <;> cases dy <;> first | exact q.elim | skip
    cases h1; cases h2
    refine ⟨rfl, q _ ?_⟩
    rw [dec_str, ← Bool.beq_eq_decide_eq]
    exact .bool
  · intro x y Q Q' hq q
    cases x <;> cases y <;> first | exact q.elim | skip
    exact hq _ q
theorem pd_neS (ha : PD X F a ta da) (hb : PD X F b tb db) : PD X F (.Compare a [.NotEq] [b] pos) (tOp rNe ta tb) (dOp fNeS da db) := pd_cmp op_ne (nomark _) so_NeS ha hb
theorem pt_neS (ha : PD X F a ta da) (hb : PD X F b tb db) : PDT X F (.Compare a [.NotEq] [b] pos) (tTest (tOp rNe ta tb)) (dTV (dOp fNeS da db)) := pt_cmpD op_ne (nomark _) so_NeS ha hb
theorem pt_eqS (ha : PD X F a ta da) (hb : PD X F b tb db) : PDT X F (.Compare a [.Eq] [b] pos) (tTest (tOp rEq ta tb)) (dTV (dOp fEqS da db)) := pt_cmpD op_eq (nomark _) so_EqS ha hb
/-! ### list * int -/
def dRepL (ta tb : TDE) : TDL := fun ρ Q => ta ρ fun r ρ1 => tb ρ1 fun s ρ2 => onM ρ2 r fun xs => onInt ρ2 s fun k => (-(2 ^ 62) ≤ k ∧ k < 2 ^ 62 ∧ Few (xs.length * k.toNat)) ∧ Q (repD k xs) ρ2
theorem pl_repL (ha : PD X F a ta da) (hb : PD X F b tb db) : PDL X F (.BinOp a .Mult b pos) (tOp rRep ta tb) (dRepL da db) := by
  refine ⟨pe_op op_rep ha.pe hb.pe, fun pins ρ σ H Q O h => ?_, fun ρ Q Q' hq h => ha.de.mono _ _ _ (fun r ρ1 h1 => hb.de.mono _ _ _ (fun s ρ2 h2 => onM_mono h2 fun xs h3 => onInt_mono h3 fun ys h4 => ⟨h4.1, hq _ _ h4.2⟩) h1) h⟩
  refine ha.de.run pins ρ σ H _ O (ha.de.mono _ _ _ (fun r ρ1 h1 x H1 O1 R1 => ?_) h)
  refine hb.de.run (.val x r :: pins) ρ1 σ H1 _ (O1.push R1) (hb.de.mono _ _ _ (fun s ρ2 h2 y H2 O2 R2 => ?_) h1)
  obtain ⟨O3, R3⟩ := O2.popV
  obtain ⟨xs, e1, h3⟩ := onM_of h2
  obtain ⟨k, e2, ⟨k1, k2, k3⟩, q⟩ := onInt_of h3
  obtain ⟨p, vs, rfl, g1, i1⟩ := mitems_ok O3 R3 e1
  cases dp_int (val_dp O3 R2 e2)
  refine ⟨p, k, vs, rfl, rfl, g1, by omega, by omega, by rw [i1.length]; exact k3, fun p' hp => q p' _ (O3.pushL hp (i1.rep k.toNat))⟩
end
end DV
namespace DV
open PySem PySem.Spec PyProof.Rows L2
open scoped Rat
/-! ## flights: bounds, nearest of all couples, crossless legs -/
structure Bn where
  sp : Int
  near : Int
  wind : Int
  clk : Int
  fall : Int
  way : Int
  sil : Int
  cuts : Int
  deep : Int
def eB (b : Bn) : PyData := .tuple [.int b.sp, .int b.near, .int b.wind, .int b.clk, .int b.fall, .int b.way, .int b.sil, .int b.cuts, .int b.deep]
def Bn.r (b : Bn) : Int := b.near + 2 * b.wind
def Bn.lag (b : Bn) : Int := b.fall + 2 * b.clk
/-- so large at most -/
structure BnB (k : Nat) (b : Bn) : Prop where
  sp : Bd k b.sp
  near : Bd k b.near
  wind : Bd k b.wind
  clk : Bd k b.clk
  fall : Bd k b.fall
  way : Bd k b.way
theorem BnB.r {k : Nat} {b : Bn} (h : BnB k b) : Bd (k + 3) b.r := (h.near.up (show k ≤ k + 2 by omega)).add1 (((show Bd 2 2 by unfold Bd; decide).mul h.wind).up (by omega))
theorem BnB.lag {k : Nat} {b : Bn} (h : BnB k b) : Bd (k + 3) b.lag := (h.fall.up (show k ≤ k + 2 by omega)).add1 (((show Bd 2 2 by unfold Bd; decide).mul h.clk).up (by omega))
structure BnOk (b : Bn) : Prop where
  sp0 : 1 ≤ b.sp
  sp1 : b.sp ≤ 100
  near0 : 1 ≤ b.near
  near1 : b.near ≤ 100
  wind0 : 0 ≤ b.wind
  wind1 : b.wind ≤ 20
  clk0 : 0 ≤ b.clk
  clk1 : b.clk ≤ 5
  fall0 : 0 ≤ b.fall
  fall1 : b.fall ≤ 20
  way0 : b.sp ≤ b.way
  way1 : b.way ≤ 700
  sil0 : 1 ≤ b.sil
  sil1 : b.sil ≤ 3
  cuts0 : 0 ≤ b.cuts
  cuts1 : b.cuts ≤ 2
  deep0 : 1 ≤ b.deep
  deep1 : b.deep ≤ 6
theorem BnOk.bd {b : Bn} (h : BnOk b) : BnB 10 b := by
  obtain ⟨h1, h2, h3, h4, h5, h6, h7, h8, h9, h10, h11, h12, _⟩ := h
  exact ⟨bd_of 700 (by omega) (by omega), bd_of 700 (by omega) (by omega), bd_of 700 (by omega) (by omega), bd_of 700 (by omega) (by omega), bd_of 700 (by omega) (by omega), bd_of 700 (by omega) (by omega)⟩
theorem BnOk.r0 {b : Bn} (h : BnOk b) : 1 ≤ b.r ∧ b.r ≤ 140 := by have := h.near0; have := h.near1; have := h.wind0; have := h.wind1; unfold Bn.r; omega
theorem BnOk.lag0 {b : Bn} (h : BnOk b) : 0 ≤ b.lag ∧ b.lag ≤ 30 := by have := h.clk0; have := h.clk1; have := h.fall0; have := h.fall1; unfold Bn.lag; omega
def rhoT (b : Bn) (t : Int) : Rat := b.lag /. t
theorem rho_in {n t : Int} (h0 : 0 ≤ n) (h1 : n ≤ t) (ht : 0 < t) : 0 ≤ n /. t ∧ n /. t ≤ 1 := by
  refine ⟨Rat.divInt_nonneg h0 (by omega), ?_⟩
  rw [Rat.divInt_eq_div]
  have h2 : (0 : Rat) < (t : Int) := Rat.intCast_pos.mpr ht
  have h3 : ((n : Int) : Rat) ≤ (t : Int) := Rat.intCast_le_intCast.mpr h1
  refine Rat.not_lt.mp fun z => ?_
  rw [Rat.lt_div_iff h2, Rat.one_mul] at z
  exact absurd h3 (Rat.not_le.mpr z)
theorem rd_some_r {bag xs : List PyData} {Q : PyData → List PyData → Prop} (hS : S_some bag xs Q) :
    dRet (dIx (dVar 1) (dCallB [Kd.d] S_take (dCons (dVar 0) (dCons (dCB fLen (dCons (dVar 1) dNil)) dNil)))) { nx := fun ρ => retB (.d .none) ρ Q, rt := fun r ρ => retB r ρ Q } (some (.own bag) :: rhoP 1 [.ro] xs) := by
  obtain ⟨m, ys, hb, hm, hx, h0, h1, q⟩ := hS
  have key : ∀ n : Int, n = (ys.length : Nat) → S_take bag [.int n] fun z bag' => ∃ v : Int, z = .int v ∧ 0 ≤ v ∧ v < ys.length ∧ Bag (m + 1) bag' := fun n hn =>
    ⟨m, n, hb, hm, rfl, by omega, Nat.lt_of_lt_of_le (by omega : n.natAbs < 2 ^ 17) (Nat.pow_le_pow_right (by decide) (by decide)), fun v bag' a1 a2 a3 => ⟨v, rfl, a1, by omega, a3⟩⟩
  rcases hx with rfl | rfl
  · have e : (some (.own bag) :: rhoP 1 [.ro] [.list ys] : Rho) = [some (.own bag), some (.ro (.list ys))] := rfl
    rw [e]
    simp only [dSeq, dAsg, dCB, dCons, dNil, dVar, onVs, vals, val, slot, setR, fGcd, dIfS, dTV, dOp, dBin, onV2, fLt, fLe, fGt, fGe, fAdd, fSub, fMul, fDiv, fMod, fI0, dC, dUn, onV, fNeg, dNext, dRet, dTup, onD, dats, fDivZ, fI, fPow, Few, retP, fAbs, fInt, fMax, fMin, fLen, fSqrt, fEq, fNe, dNot, dAnd, dOr, dAndV, dOrV, dNotV, dIfE, dDrop, dRetN, dPar, noO, dSetL, dLst, dOfL, dOwnM, onOwn, onDat, kAppend, kInsert, dSetItem, dAddItem, dIx, onItems, items, onInt, dNoPart, dPart, dSlice, onL, litems, dSlL, dCat, onM, mitems, dTupOf, dSeqI, dRng1, dRng2, dCallP, dCallB, dCallF, noSelf, onArgs, dats2, dIsi, tyName, dYes, dgTup, dgCons, dgNil, retB, dBreak, dCont, ne_eq, not_false_eq_true, true_and, and_true, List.getElem?_cons_zero, List.getElem?_cons_succ, List.set_cons_zero, List.set_cons_succ, Option.map, List.length_cons, List.length_nil, dLc_eq, dLc2_eq, dFor_eq, dSortSet, dSort, dListOf, dIsN, dNotN, isNo, dAug, dCatT, dSlT, onT, titems, dEnum, dZip, seqs, dRetL, dPar3, dRevT, dLstRg, dTupRg, dRg1, dRg2, dChainLe, List.nil_append, List.cons_append, if_true, if_false, dFrz, dLcO, dMin2D, dAppX, dRepL, fNeS, fEqS, dgSet, dTupZip, dFgt, fIsB, fNotB, List.map_cons, List.map_nil, fw0, fw1, fw2, fw3, fw4, fw5, fw6, fw7, fw8, fw9, fw10, fw11, fw12, fw13, fw14, fw15]
    refine m_take _ _ _ _ (fun z bag' h => ?_) (key _ rfl)
    obtain ⟨v, rfl, a1, a2, a3⟩ := h
    exact onAt_mem a1 a2 fun y hy => q y bag' hy a3
  · have e : (some (.own bag) :: rhoP 1 [.ro] [.tuple ys] : Rho) = [some (.own bag), some (.ro (.tuple ys))] := rfl
    rw [e]
    simp only [dSeq, dAsg, dCB, dCons, dNil, dVar, onVs, vals, val, slot, setR, fGcd, dIfS, dTV, dOp, dBin, onV2, fLt, fLe, fGt, fGe, fAdd, fSub, fMul, fDiv, fMod, fI0, dC, dUn, onV, fNeg, dNext, dRet, dTup, onD, dats, fDivZ, fI, fPow, Few, retP, fAbs, fInt, fMax, fMin, fLen, fSqrt, fEq, fNe, dNot, dAnd, dOr, dAndV, dOrV, dNotV, dIfE, dDrop, dRetN, dPar, noO, dSetL, dLst, dOfL, dOwnM, onOwn, onDat, kAppend, kInsert, dSetItem, dAddItem, dIx, onItems, items, onInt, dNoPart, dPart, dSlice, onL, litems, dSlL, dCat, onM, mitems, dTupOf, dSeqI, dRng1, dRng2, dCallP, dCallB, dCallF, noSelf, onArgs, dats2, dIsi, tyName, dYes, dgTup, dgCons, dgNil, retB, dBreak, dCont, ne_eq, not_false_eq_true, true_and, and_true, List.getElem?_cons_zero, List.getElem?_cons_succ, List.set_cons_zero, List.set_cons_succ, Option.map, List.length_cons, List.length_nil, dLc_eq, dLc2_eq, dFor_eq, dSortSet, dSort, dListOf, dIsN, dNotN, isNo, dAug, dCatT, dSlT, onT, titems, dEnum, dZip, seqs, dRetL, dPar3, dRevT, dLstRg, dTupRg, dRg1, dRg2, dChainLe, List.nil_append, List.cons_append, if_true, if_false, dFrz, dLcO, dMin2D, dAppX, dRepL, fNeS, fEqS, dgSet, dTupZip, dFgt, fIsB, fNotB, List.map_cons, List.map_nil, fw0, fw1, fw2, fw3, fw4, fw5, fw6, fw7, fw8, fw9, fw10, fw11, fw12, fw13, fw14, fw15]
    refine m_take _ _ _ _ (fun z bag' h => ?_) (key _ rfl)
    obtain ⟨v, rfl, a1, a2, a3⟩ := h
    exact onAt_mem a1 a2 fun y hy => q y bag' hy a3
/-! nearest of all couples -/
abbrev NR := Rat × Int × Int × Rat × Rat
def eN : Option NR → PyData
  | none => .none
  | some r => .tuple [fr r.1, .int r.2.1, .int r.2.2.1, fr r.2.2.2.1, fr r.2.2.2.2]
def pc (ls : List Lg) (rho : Rat) (i j : Nat) : Option NR := match ls[i]?, ls[j]? with
  | some l, some o => some ((nearL l o rho).1, (i : Int), (j : Int), (nearL l o rho).2.1, (nearL l o rho).2.2)
  | _, _ => none
theorem pc_of {ls : List Lg} {rho : Rat} {i j : Nat} {l o : Lg} (h : ls[i]? = some l) (h2 : ls[j]? = some o) : pc ls rho i j = some ((nearL l o rho).1, (i : Int), (j : Int), (nearL l o rho).2.1, (nearL l o rho).2.2) := by
  unfold pc; rw [h, h2]
def prI (ls : List Lg) (rho : Rat) (i m : Nat) : List NR := (List.range m).filterMap fun k => pc ls rho i (i + 1 + k)
def prT (ls : List Lg) (rho : Rat) (i : Nat) : List NR := (List.range i).flatMap fun i => prI ls rho i (ls.length - (i + 1))
theorem prT_succ {ls : List Lg} {rho : Rat} {i : Nat} : prT ls rho (i + 1) = prT ls rho i ++ prI ls rho i (ls.length - (i + 1)) := by
  unfold prT
  rw [List.range_succ, List.flatMap_append]
  simp
theorem prI_succ {ls : List Lg} {rho : Rat} {i m : Nat} {l o : Lg} (h : ls[i]? = some l) (h2 : ls[i + 1 + m]? = some o) : prI ls rho i (m + 1) = prI ls rho i m ++ [((nearL l o rho).1, (i : Int), ((i + 1 + m : Nat) : Int), (nearL l o rho).2.1, (nearL l o rho).2.2)] := by
  unfold prI
  rw [List.range_succ, List.filterMap_append]
  congr 1
  rw [List.filterMap_cons, pc_of h h2]; rfl
def stepN (b : Option NR) (r : NR) : Option NR := match b with
  | none => some r
  | some b => if r.1 < b.1 then some r else some b
def nofL (xs : List NR) : Option NR := xs.foldl stepN none
theorem nofL_snoc (xs : List NR) (a : NR) : nofL (xs ++ [a]) = stepN (nofL xs) a := by unfold nofL; rw [List.foldl_append]; rfl
theorem nof_go : ∀ (xs : List NR) (b : Option NR), (∀ r ∈ xs.foldl stepN b, r ∈ xs ∨ r ∈ b) ∧ ((xs.foldl stepN b = none) ↔ (xs = [] ∧ b = none)) ∧ ∀ r ∈ xs.foldl stepN b, (∀ x ∈ xs, r.1 ≤ x.1) ∧ ∀ x ∈ b, r.1 ≤ x.1
  | [], b => by
    refine ⟨fun r h => .inr h, ⟨fun h => ⟨rfl, h⟩, fun h => h.2⟩, fun r h => ⟨fun x hx => (by cases hx), fun x hx => ?_⟩⟩
    simp only [List.foldl_nil] at h
    rw [h] at hx
    cases hx
    exact Rat.le_refl
  | x :: xs, b => by
    obtain ⟨h1, h2, h3⟩ := nof_go xs (stepN b x)
    have hs : ∃ y, stepN b x = some y ∧ (y = x ∨ some y = b) ∧ y.1 ≤ x.1 ∧ ∀ z ∈ b, y.1 ≤ z.1 := by
      cases b with
      | none => exact ⟨x, rfl, .inl rfl, Rat.le_refl, fun z hz => by cases hz⟩
      | some c =>
        simp only [stepN]
        by_cases h : x.1 < c.1
        · rw [if_pos h]
          refine ⟨x, rfl, .inl rfl, Rat.le_refl, fun z hz => ?_⟩
          cases hz; exact Rat.le_of_lt h
        · rw [if_neg h]
          refine ⟨c, rfl, .inr rfl, Rat.not_lt.mp h, fun z hz => ?_⟩
          cases hz; exact Rat.le_refl
    obtain ⟨y, e, hy, h4, h5⟩ := hs
    rw [List.foldl_cons]
    refine ⟨fun r hr => ?_, ⟨fun h => ?_, fun h => ?_⟩, fun r hr => ?_⟩
    · rcases h1 r hr with h | h
      · exact .inl (List.mem_cons_of_mem _ h)
      · rw [e] at h; cases h
        rcases hy with rfl | hy
        · exact .inl (List.mem_cons_self ..)
        · exact .inr hy.symm
    · have := (h2.mp h).2
      rw [e] at this; cases this
    · cases h.1
    · obtain ⟨h6, h7⟩ := h3 r hr
      have h8 := h7 y e
      refine ⟨fun z hz => ?_, fun z hz => Rat.le_trans h8 (h5 z hz)⟩
      rcases List.mem_cons.mp hz with rfl | hz
      · exact Rat.le_trans h8 h4
      · exact h6 z hz
theorem pr_mem {ls : List Lg} {rho : Rat} {r : NR} : r ∈ prT ls rho ls.length ↔ ∃ (i j : Nat) (l o : Lg), i < j ∧ ls[i]? = some l ∧ ls[j]? = some o ∧ r = ((nearL l o rho).1, (i : Int), (j : Int), (nearL l o rho).2.1, (nearL l o rho).2.2) := by
  unfold prT prI
  constructor
  · intro h
    rw [List.mem_flatMap] at h
    obtain ⟨i, hi, h⟩ := h
    rw [List.mem_filterMap] at h
    obtain ⟨k, hk, h⟩ := h
    unfold pc at h
    split at h
    · rename_i l o e1 e2
      cases h
      exact ⟨i, i + 1 + k, l, o, by omega, e1, e2, rfl⟩
    · cases h
  · rintro ⟨i, j, l, o, hij, e1, e2, rfl⟩
    have hi := (List.getElem?_eq_some_iff.mp e1).1
    have hj := (List.getElem?_eq_some_iff.mp e2).1
    rw [List.mem_flatMap]
    refine ⟨i, List.mem_range.mpr hi, ?_⟩
    rw [List.mem_filterMap]
    refine ⟨j - (i + 1), List.mem_range.mpr (by omega), ?_⟩
    rw [show i + 1 + (j - (i + 1)) = j by omega, pc_of e1 e2]
theorem pr_memI {ls : List Lg} {rho : Rat} {r : NR} {i m : Nat} (h : r ∈ prI ls rho i m) : ∃ (j : Nat) (l o : Lg), ls[i]? = some l ∧ ls[j]? = some o ∧ r = ((nearL l o rho).1, (i : Int), (j : Int), (nearL l o rho).2.1, (nearL l o rho).2.2) := by
  unfold prI at h
  rw [List.mem_filterMap] at h
  obtain ⟨k, hk, h⟩ := h
  unfold pc at h
  split at h
  · rename_i l o e1 e2
    cases h
    exact ⟨i + 1 + k, l, o, e1, e2, rfl⟩
  · cases h
theorem pr_memT {ls : List Lg} {rho : Rat} {r : NR} {n : Nat} (h : r ∈ prT ls rho n) : ∃ (i j : Nat) (l o : Lg), i < n ∧ ls[i]? = some l ∧ ls[j]? = some o ∧ r = ((nearL l o rho).1, (i : Int), (j : Int), (nearL l o rho).2.1, (nearL l o rho).2.2) := by
  unfold prT at h
  rw [List.mem_flatMap] at h
  obtain ⟨i, hi, h⟩ := h
  obtain ⟨j, l, o, e1, e2, e⟩ := pr_memI h
  exact ⟨i, j, l, o, List.mem_range.mp hi, e1, e2, e⟩
def apartAll (ls : List Lg) (rho : Rat) (r : Int) : Prop := ∀ (i j : Nat) (l o : Lg), i < j → ls[i]? = some l → ls[j]? = some o → ((r * r : Int) : Rat) ≤ (nearL l o rho).1
noncomputable instance {ls : List Lg} {rho : Rat} {r : Int} : Decidable (apartAll ls rho r) := Classical.propDecidable _
theorem apart_of {ls : List Lg} {rho : Rat} {r : Int} : apartAll ls rho r ↔ ∀ x ∈ nofL (prT ls rho ls.length), ((r * r : Int) : Rat) ≤ x.1 := by
  have hg := nof_go (prT ls rho ls.length) none
  rw [show List.foldl stepN none (prT ls rho ls.length) = nofL (prT ls rho ls.length) from rfl] at hg
  generalize nofL (prT ls rho ls.length) = N at *
  obtain ⟨h1, h2, h3⟩ := hg
  constructor
  · intro h x hx
    rcases h1 x hx with hm | hm
    · obtain ⟨i, j, l, o, hij, e1, e2, rfl⟩ := pr_mem.mp hm
      exact h i j l o hij e1 e2
    · cases hm
  · intro h i j l o hij e1 e2
    have hm := (pr_mem (rho := rho)).mpr ⟨i, j, l, o, hij, e1, e2, rfl⟩
    cases N with
    | none =>
      have := (h2.mp rfl).1
      rw [this] at hm; cases hm
    | some b =>
      have h5 := (h3 b rfl).1 _ hm
      dsimp only at h5
      exact Rat.le_trans (h b rfl) h5
theorem cut_drop {xs : List PyData} {c : Int} (h : 0 ≤ c) : DV.cutD xs (some c) none = xs.drop c.toNat := by
  unfold DV.cutD HT.sIx
  simp only
  rw [if_neg (by omega)]
  apply List.ext_getElem?
  intro n
  simp only [List.getElem?_take, List.getElem?_drop]
  by_cases hn : c.toNat + n < xs.length
  · rw [if_pos (by omega)]
    congr 1
    omega
  · rw [List.getElem?_eq_none (by omega)]
    rw [List.getElem?_eq_none (by omega)]
    split <;> rfl
end DV
namespace DV
open PySem PySem.Spec PyProof.Rows L2
open scoped Rat
/-! ## exchanging tos comes to an end: all orders of a few tos -/
def insA {α : Type} (x : α) : List α → List (List α)
  | [] => [[x]]
  | y :: ys => (x :: y :: ys) :: (insA x ys).map (y :: ·)
theorem insA_len {α : Type} (x : α) : ∀ ys : List α, (insA x ys).length = ys.length + 1
  | [] => rfl
  | y :: ys => by simp [insA, insA_len x ys]
theorem insA_lens {α : Type} {x : α} : ∀ {ys zs : List α}, zs ∈ insA x ys → zs.length = ys.length + 1
  | [], zs, h => by simp [insA] at h; subst h; rfl
  | y :: ys, zs, h => by
    simp only [insA, List.mem_cons, List.mem_map] at h
    rcases h with rfl | ⟨a, ha, rfl⟩
    · rfl
    · simp [insA_lens ha]
theorem insA_mem {α : Type} (x : α) : ∀ a b : List α, a ++ x :: b ∈ insA x (a ++ b)
  | [], [] => by simp [insA]
  | [], y :: ys => by simp [insA]
  | z :: a, b => by
    show z :: (a ++ x :: b) ∈ insA x (z :: (a ++ b))
    simp only [insA, List.mem_cons, List.mem_map]
    exact .inr ⟨_, insA_mem x a b, rfl⟩
def perms {α : Type} : List α → List (List α)
  | [] => [[]]
  | x :: xs => (perms xs).flatMap (insA x)
theorem perms_mem {α : Type} : ∀ {xs q : List α}, q.Perm xs → q ∈ perms xs
  | [], q, h => by rw [h.eq_nil]; simp [perms]
  | x :: xs, q, h => by
    obtain ⟨a, b, rfl⟩ := List.append_of_mem (h.mem_iff.mpr (List.mem_cons_self ..))
    have h2 : (a ++ b).Perm xs := (List.perm_cons x).mp (List.perm_middle.symm.trans h)
    simp only [perms, List.mem_flatMap]
    exact ⟨_, perms_mem h2, insA_mem x a b⟩
theorem perms_lens {α : Type} : ∀ {xs q : List α}, q ∈ perms xs → q.length = xs.length
  | [], q, h => by simp [perms] at h; subst h; rfl
  | x :: xs, q, h => by
    simp only [perms, List.mem_flatMap] at h
    obtain ⟨p, hp, hq⟩ := h
    rw [insA_lens hq, perms_lens hp]; rfl
def fact : Nat → Nat
  | 0 => 1
  | n + 1 => (n + 1) * fact n
theorem perms_len {α : Type} : ∀ xs : List α, (perms xs).length ≤ fact xs.length
  | [] => by simp [perms, fact]
  | x :: xs => by
    have h := flat_len (insA x) (q := xs.length + 1) (perms xs) fun a ha => by rw [insA_len, perms_lens ha]; exact Nat.le_refl _
    have h2 := Nat.mul_le_mul_right (xs.length + 1) (perms_len xs)
    show ((perms xs).flatMap (insA x)).length ≤ (xs.length + 1) * fact xs.length
    rw [Nat.mul_comm (xs.length + 1)]
    exact Nat.le_trans h h2
theorem fact_mono : ∀ {m n : Nat}, m ≤ n → fact m ≤ fact n
  | 0, n, _ => by
    induction n with
    | zero => exact Nat.le_refl _
    | succ n ih =>
      have h1 : fact 0 ≤ fact n := ih (Nat.zero_le _)
      show fact 0 ≤ (n + 1) * fact n
      have h2 : fact n ≤ (n + 1) * fact n := Nat.le_mul_of_pos_left _ (Nat.succ_pos n)
      omega
  | m + 1, 0, h => by omega
  | m + 1, n + 1, h => Nat.mul_le_mul h (fact_mono (by omega))
def frm (l : Lg) : P2 := (l.ax, l.ay)
def too (l : Lg) : P2 := (l.bx, l.by')
theorem mk_frm (l : Lg) : mkL (frm l, too l) = l := rfl
theorem legs_of : ∀ ls : List Lg, (List.zip (ls.map frm) (ls.map too)).map mkL = ls
  | [] => rfl
  | l :: ls => by
    simp only [List.map_cons, List.zip_cons_cons, legs_of ls]
    rfl
theorem frm_ex {ls : List Lg} {i j : Nat} {l o : Lg} (h : ls[i]? = some l) (h2 : ls[j]? = some o) (hij : i ≠ j) : (exL ls i j l o).map frm = ls.map frm := by
  unfold exL
  rw [List.map_set, List.map_set]
  apply List.ext_getElem?
  intro n
  by_cases e : j = n
  · subst e
    have hj := (List.getElem?_eq_some_iff.mp h2).1
    rw [List.getElem?_set_self (by simpa using hj), List.getElem?_map, h2]; rfl
  · rw [List.getElem?_set_ne e]
    by_cases e2 : i = n
    · subst e2
      have hi := (List.getElem?_eq_some_iff.mp h).1
      rw [List.getElem?_set_self (by simpa using hi), List.getElem?_map, h]; rfl
    · rw [List.getElem?_set_ne e2]
theorem perm_set {α : Type} : ∀ {xs : List α} {i : Nat} {x v : α}, xs[i]? = some x → (x :: xs.set i v).Perm (v :: xs)
  | [], _, _, _, h => by simp at h
  | y :: ys, 0, x, v, h => by
    simp at h; subst h
    exact List.Perm.swap ..
  | y :: ys, i + 1, x, v, h => by
    have := perm_set (xs := ys) (i := i) (x := x) (v := v) (by simpa using h)
    show (x :: y :: ys.set i v).Perm (v :: y :: ys)
    exact (List.Perm.swap ..).trans ((this.cons y).trans (List.Perm.swap ..))
theorem too_ex {ls : List Lg} {i j : Nat} {l o : Lg} (h : ls[i]? = some l) (h2 : ls[j]? = some o) (hij : i ≠ j) : ((exL ls i j l o).map too).Perm (ls.map too) := by
  unfold exL
  rw [List.map_set, List.map_set]
  have e1 : (ls.map too)[i]? = some (too l) := by rw [List.getElem?_map, h]; rfl
  have e2 : ((ls.map too).set i (too o))[j]? = some (too o) := by rw [List.getElem?_set_ne hij, List.getElem?_map, h2]; rfl
  have p1 := perm_set (v := too l) e2
  have p2 := perm_set (v := too o) e1
  have p3 : (too o :: ((ls.map too).set i (too o)).set j (too l)).Perm (too o :: ls.map too) := p1.trans p2
  exact (List.perm_cons _).mp p3
/-- how many orders of the tos have a lesser price -/
def rank (fs ts : List P2) (p : Int) : Nat := ((perms ts).filter fun q => decide (prcI ((List.zip fs q).map mkL) < p)).length
theorem rank_le (fs ts : List P2) (p : Int) : rank fs ts p ≤ fact ts.length := Nat.le_trans (List.length_filter_le ..) (perms_len ts)
theorem filter_lt {α : Type} {p q : α → Bool} : ∀ {xs : List α} {x : α}, (∀ y, p y = true → q y = true) → x ∈ xs → q x = true → p x = false → (xs.filter p).length + 1 ≤ (xs.filter q).length
  | [], _, _, h, _, _ => by cases h
  | y :: ys, x, hpq, h, h1, h2 => by
    have mono : ∀ zs : List α, (zs.filter p).length ≤ (zs.filter q).length := fun zs => by
      induction zs with
      | nil => exact Nat.le_refl _
      | cons z zs ih =>
        rw [List.filter_cons, List.filter_cons]
        cases hp : p z with
        | true => rw [hpq z hp]; simpa using ih
        | false =>
          simp only [Bool.false_eq_true, if_false]
          split
          · rw [List.length_cons]; omega
          · exact ih
    rcases List.mem_cons.mp h with rfl | h
    · rw [List.filter_cons, List.filter_cons, h1, h2]
      simp only [Bool.false_eq_true, if_false, if_true, List.length_cons]
      have := mono ys
      omega
    · have ih := filter_lt hpq h h1 h2
      rw [List.filter_cons, List.filter_cons]
      cases hp : p y with
      | true => rw [hpq y hp]; simp only [if_true, List.length_cons]; omega
      | false =>
        simp only [Bool.false_eq_true, if_false]
        split
        · rw [List.length_cons]; omega
        · exact ih
theorem rank_ex {ls : List Lg} {i j : Nat} {l o : Lg} {fs ts : List P2} (h : ls[i]? = some l) (h2 : ls[j]? = some o) (hij : i ≠ j) (ht : trn l o < 0) (hf : ls.map frm = fs) (hp : (ls.map too).Perm ts) :
    rank fs ts (prcI (exL ls i j l o)) + 1 ≤ rank fs ts (prcI ls) := by
  have pe := prc_ex h h2 hij
  have e : (List.zip fs ((exL ls i j l o).map too)).map mkL = exL ls i j l o := by
    rw [← hf, ← frm_ex h h2 hij]; exact legs_of _
  unfold rank
  refine filter_lt (x := (exL ls i j l o).map too) (fun q hq => ?_) (perms_mem ((too_ex h h2 hij).trans hp)) ?_ ?_
  · rw [decide_eq_true_eq] at hq ⊢
    omega
  · rw [e, decide_eq_true_eq]; omega
  · rw [e, decide_eq_false_iff_not]; omega
/-! ## spaced columns -/
def d2 (a b : P2) : Int := (a.1 - b.1) * (a.1 - b.1) + (a.2 - b.2) * (a.2 - b.2)
theorem d2_comm (a b : P2) : d2 a b = d2 b a := by unfold d2; grind
def SpP (sp : Int) (cs : List P2) : Prop := cs.Pairwise fun a b => sp * sp ≤ d2 a b
theorem SpP.perm {sp : Int} {cs ds : List P2} (h : SpP sp cs) (p : cs.Perm ds) : SpP sp ds := (p.pairwise_iff (fun {a b} h => by rw [d2_comm]; exact h)).mp h
theorem SpP.take {sp : Int} {cs : List P2} (h : SpP sp cs) (n : Nat) : SpP sp (cs.take n) := h.sublist (List.take_sublist n cs)
theorem SpP.snoc {sp : Int} {cs : List P2} {c : P2} (h : SpP sp cs) (k : ∀ a ∈ cs, sp * sp ≤ d2 a c) : SpP sp (cs ++ [c]) := by
  unfold SpP
  rw [List.pairwise_append]
  refine ⟨h, List.pairwise_singleton .., fun a ha b hb => ?_⟩
  rw [List.mem_singleton.mp hb]
  exact k a ha
theorem SpP.shift {sp x y : Int} {cs : List P2} (h : SpP sp cs) : SpP sp (cs.map fun c => (c.1 + x, c.2 + y)) := by
  unfold SpP
  rw [List.pairwise_map]
  refine List.Pairwise.imp (fun {a b} h => ?_) h
  have e : d2 (a.1 + x, a.2 + y) (b.1 + x, b.2 + y) = d2 a b := by
    unfold d2
    dsimp only
    rw [show a.1 + x - (b.1 + x) = a.1 - b.1 by omega, show a.2 + y - (b.2 + y) = a.2 - b.2 by omega]
  rw [e]; exact h
theorem SpP.at {sp : Int} {cs : List P2} (h : SpP sp cs) {i j : Nat} {a b : P2} (hij : i < j) (ha : cs[i]? = some a) (hb : cs[j]? = some b) : sp * sp ≤ d2 a b := by
  obtain ⟨hi, rfl⟩ := List.getElem?_eq_some_iff.mp ha
  obtain ⟨hj, rfl⟩ := List.getElem?_eq_some_iff.mp hb
  exact (List.pairwise_iff_getElem.mp h) i j hi hj hij
theorem d2_bd {k : Nat} {a b : P2} (h : Bd2 k a) (h2 : Bd2 k b) : Bd (2 * k + 3) (d2 a b) :=
  (((h.1.sub1 h2.1).mul (h.1.sub1 h2.1)).add1 ((h.2.sub1 h2.2).mul (h.2.sub1 h2.2))).up (by omega)
end DV
namespace DV
open PySem PySem.Spec PyProof.Rows L2
/-! ### x, y = [..], .. : the first a list of one's own -/
section
variable {F : Fm} {ρ : Rho} {σ : L2.St} {H : Hp}
theorem accs_perm {a : Addr} {ps qs : List Pin} (h : ps.Perm qs) : a ∈ accs ps ↔ a ∈ accs qs := by
  rw [mem_accs, mem_accs]
  exact ⟨fun ⟨xs, z⟩ => ⟨xs, h.mem_iff.mp z⟩, fun ⟨xs, z⟩ => ⟨xs, h.mem_iff.mpr z⟩⟩
theorem Ok.swap {p q : Pin} {pins : List Pin} (O : Ok F (p :: q :: pins) ρ σ H) : Ok F (q :: p :: pins) ρ σ H := by
  have hp : (p :: q :: pins).Perm (q :: p :: pins) := .swap ..
  have e : Av F (q :: p :: pins) ρ σ = Av F (p :: q :: pins) ρ σ := by
    funext a
    unfold Av
    rw [accs_perm hp]
  refine ⟨O.len, by rw [e]; exact O.ent, O.own, fun r hr => by rw [e]; exact O.pin r (hp.mem_iff.mpr hr), ?_, O.fr, O.nh, O.ln, O.h0, O.lf⟩
  have := O.acs
  cases p <;> cases q <;> simp only [accs] at this ⊢ <;> try exact this
  simp only [List.nodup_cons, List.mem_cons, not_or] at this ⊢
  exact ⟨⟨fun z => this.1.1 z.symm, this.2.1⟩, this.1.2, this.2.2⟩
end
section
variable {X : Cx} {F : Fm} {a b : Expr} {ta tb : TE} {da db : TDE} {dl dm : TDL} {pos : Pos}
def dParL (i j : Nat) (tl : TDL) (te : TDE) : TDS := fun DD ρ => tl ρ fun xs ρ1 => te ρ1 fun r ρ2 => onDat r fun y => DD.nx ((ρ2.set i (some (.own xs))).set j (some (.d y)))
theorem ds_parL {i j : Nat} {x y : Str} {px py pt : Pos} {pt2 : Pos} {kt' k2'} (hc : X.calm = true) (hN : X.N.Nodup) (ha : PDL X F a ta dl) (hb : PD X F b tb db) (hfi : ¬ F.fix i) (hfj : ¬ F.fix j) (hij : i ≠ j := by decide) (hi : X.N[i]? = some x := by rfl) (hj : X.N[j]? = some y := by rfl)
    (hs1 : starEach (a :: [b]) X.env = (false, eval a X.env) :: starEach [b] X.env := by rfl) (hs2 : starEach (b :: []) X.env = (false, eval b X.env) :: starEach [] X.env := by rfl)
    (hx : X.env.scope.names.lookup x = some .local := by rfl) (hy : X.env.scope.names.lookup y = some .local := by rfl)
    (hw : swappedStores [.Tuple [.Name x px, .Name y py] kt' pt] (.Tuple [a, b] k2' pt2) X.env = pure (some [x, y]) := by rfl)
    (hs : swapsWithSole [.Tuple [.Name x px, .Name y py] kt' pt] (.Tuple [a, b] k2' pt2) pos.line X.env = pure false := by rfl) :
    PDS X F (.Assign [.Tuple [.Name x px, .Name y py] kt' pt] (.Tuple [a, b] k2' pt2) pos) (tPar i j (tCons ta (tCons tb tNil))) (dParL i j dl db) := by
  refine ⟨ps_par hc hN hi hj hij hx hy (pa_cons ha.pe (pa_cons hb.pe pa_nil hs2) hs1) hw hs, fun pins ρ σ H D DD O S R h => ?_⟩
  refine ha.dl.run pins ρ σ H _ O (ha.dl.mono _ _ _ (fun xs ρ1 h1 p H1 O1 => ?_) h)
  refine hb.de.run (.acc p xs :: pins) ρ1 σ H1 _ O1 (hb.de.mono _ _ _ (fun r ρ2 h2 w H2 O2 R2 => ?_) h1)
  refine ⟨.ref p, w, rfl, ?_⟩
  cases r with
  | o k => exact h2.elim
  | raw u => exact h2.elim
  | d z =>
    have O4 := (O2.push R2).swap
    have O5 := O4.putL (i := i) (fun u l hp => by
      rcases List.mem_cons.mp hp with e | e
      · cases e
      · exact S.fr hfi u l e)
    obtain ⟨O6, R6⟩ := O5.popV
    exact (dg_name (F := F) j).run pins _ _ H2 w (.d z) _ _ O6 (fun k hk => by rw [List.mem_singleton.mp hk]; exact S.fr hfj) R6 h2 fun ρ4 σ4 H4 O7 _ q2 => R.nx _ _ _ O7 q2
/-- both -/
def dParLL (i j : Nat) (tl tm : TDL) : TDS := fun DD ρ => tl ρ fun xs ρ1 => tm ρ1 fun ys ρ2 => DD.nx ((ρ2.set i (some (.own xs))).set j (some (.own ys)))
theorem ds_parLL {i j : Nat} {x y : Str} {px py pt : Pos} {pt2 : Pos} {kt' k2'} (hc : X.calm = true) (hN : X.N.Nodup) (ha : PDL X F a ta dl) (hb : PDL X F b tb dm) (hfi : ¬ F.fix i) (hfj : ¬ F.fix j) (hij : i ≠ j := by decide) (hi : X.N[i]? = some x := by rfl) (hj : X.N[j]? = some y := by rfl)
    (hs1 : starEach (a :: [b]) X.env = (false, eval a X.env) :: starEach [b] X.env := by rfl) (hs2 : starEach (b :: []) X.env = (false, eval b X.env) :: starEach [] X.env := by rfl)
    (hx : X.env.scope.names.lookup x = some .local := by rfl) (hy : X.env.scope.names.lookup y = some .local := by rfl)
    (hw : swappedStores [.Tuple [.Name x px, .Name y py] kt' pt] (.Tuple [a, b] k2' pt2) X.env = pure (some [x, y]) := by rfl)
    (hs : swapsWithSole [.Tuple [.Name x px, .Name y py] kt' pt] (.Tuple [a, b] k2' pt2) pos.line X.env = pure false := by rfl) :
    PDS X F (.Assign [.Tuple [.Name x px, .Name y py] kt' pt] (.Tuple [a, b] k2' pt2) pos) (tPar i j (tCons ta (tCons tb tNil))) (dParLL i j dl dm) := by
  refine ⟨ps_par hc hN hi hj hij hx hy (pa_cons ha.pe (pa_cons hb.pe pa_nil hs2) hs1) hw hs, fun pins ρ σ H D DD O S R h => ?_⟩
  refine ha.dl.run pins ρ σ H _ O (ha.dl.mono _ _ _ (fun xs ρ1 h1 p H1 O1 => ?_) h)
  refine hb.dl.run (.acc p xs :: pins) ρ1 σ H1 _ O1 (hb.dl.mono _ _ _ (fun ys ρ2 h2 q H2 O2 => ?_) h1)
  refine ⟨.ref p, .ref q, rfl, ?_⟩
  have O3 := O2.swap
  have O5 := O3.putL (i := i) (fun u l hp => by
      rcases List.mem_cons.mp hp with e | e
      · cases e
      · exact S.fr hfi u l e)
  have O6 := O5.putL (i := j) (fun u l hp => S.fr hfj u l hp)
  exact R.nx _ _ _ O6 h2
end
end DV
namespace DV
open PySem PySem.Spec PyProof.Rows L2
open scoped Rat
/-! ## the inequality of spacing, in integers -/
def flw (b : Bn) : Int := b.lag * b.lag * (2 * b.way * b.way - b.sp * b.sp)
def lft (b : Bn) (t : Int) : Int := t * t * (b.sp * b.sp - 2 * b.r * b.r) - flw b
def enough (b : Bn) (t : Int) : Prop := 0 ≤ lft b t ∧ 8 * b.r * b.r * t * t * flw b ≤ lft b t * lft b t
instance {b : Bn} {t : Int} : Decidable (enough b t) := by unfold enough; infer_instance
theorem isq_nn (x : Int) : 0 ≤ x * x := by
  rcases Int.le_total 0 x with h | h
  · exact Int.mul_nonneg h h
  · exact Int.mul_nonneg_of_nonpos_of_nonpos h h
theorem sq_le {x y : Int} (h0 : 0 ≤ x) (h : x ≤ y) : x * x ≤ y * y := Int.mul_le_mul h h h0 (by omega)
theorem enough_alg {a c f : Int} (hc : 0 < c) (hf : 0 ≤ f) : (0 ≤ a - c - f ∧ 4 * (c * f) ≤ (a - c - f) * (a - c - f)) ↔ (c ≤ a ∧ 0 ≤ a + c - f ∧ 4 * (a * c) ≤ (a + c - f) * (a + c - f)) := by
  have id1 : (a - c - f) * (a - c - f) - 4 * (c * f) = (a + c - f) * (a + c - f) - 4 * (a * c) := by grind
  constructor
  · rintro ⟨h1, h2⟩
    exact ⟨by omega, by omega, by omega⟩
  · rintro ⟨h1, h2, h3⟩
    have h4 : 4 * (c * f) ≤ (a - c - f) * (a - c - f) := by omega
    refine ⟨?_, h4⟩
    by_cases h : a - c - f < 0
    · exfalso
      have e : (a - c - f) * (a - c - f) = (c + f - a) * (c + f - a) := by grind
      rw [e] at h4
      have p1 := sq_le (x := c + f - a) (y := f) (by omega) (by omega)
      have p2 := sq_le (x := c + f - a) (y := 2 * c) (by omega) (by omega)
      have f4 : 4 * c ≤ f := by
        have : f * (4 * c) ≤ f * f := by grind
        exact Int.le_of_mul_le_mul_left this (by omega)
      have c4 : f ≤ c := by
        have : c * f ≤ c * c := by grind
        exact Int.le_of_mul_le_mul_left this hc
      omega
    · omega
theorem flw_nn {b : Bn} (h0 : 0 ≤ b.sp) (h1 : b.sp ≤ b.way) : 0 ≤ flw b := by
  unfold flw
  have := sq_le h0 h1
  have := isq_nn b.way
  exact Int.mul_nonneg (isq_nn _) (by grind)
theorem enough_law {b : Bn} {t : Int} (ht : 1 ≤ t) (hr : 1 ≤ b.r) (h0 : 0 ≤ b.sp) (h1 : b.sp ≤ b.way) : enough b t ↔ (2 * b.r * b.r ≤ b.sp * b.sp ∧ 0 ≤ (b.sp * b.sp + 2 * b.r * b.r) * t * t - flw b ∧
    8 * b.sp * b.sp * b.r * b.r * t * t * t * t ≤ ((b.sp * b.sp + 2 * b.r * b.r) * t * t - flw b) * ((b.sp * b.sp + 2 * b.r * b.r) * t * t - flw b)) := by
  have tp : 0 < t * t := Int.mul_pos (by omega) (by omega)
  have rp : 0 < b.r * b.r := Int.mul_pos (by omega) (by omega)
  have cp : 0 < 2 * b.r * b.r * (t * t) := Int.mul_pos (by grind) tp
  have key := enough_alg (a := b.sp * b.sp * (t * t)) (c := 2 * b.r * b.r * (t * t)) (f := flw b) cp (flw_nn h0 h1)
  unfold enough
  have e1 : lft b t = b.sp * b.sp * (t * t) - 2 * b.r * b.r * (t * t) - flw b := by unfold lft; grind
  have e2 : 8 * b.r * b.r * t * t * flw b = 4 * (2 * b.r * b.r * (t * t) * flw b) := by grind
  have e3 : (b.sp * b.sp + 2 * b.r * b.r) * t * t - flw b = b.sp * b.sp * (t * t) + 2 * b.r * b.r * (t * t) - flw b := by grind
  have e4 : 8 * b.sp * b.sp * b.r * b.r * t * t * t * t = 4 * (b.sp * b.sp * (t * t) * (2 * b.r * b.r * (t * t))) := by grind
  rw [e1, e2, e3, e4, key]
  refine and_congr_left fun _ => ⟨fun h => Int.le_of_mul_le_mul_right h tp, fun h => Int.mul_le_mul_of_nonneg_right h (Int.le_of_lt tp)⟩
theorem enough_mono {b : Bn} {t u : Int} (ht : 1 ≤ t) (h0 : 0 ≤ b.sp) (h1 : b.sp ≤ b.way) (h : enough b t) (htu : t ≤ u) : enough b u := by
  obtain ⟨g1, g2⟩ := h
  have hf := flw_nn h0 h1
  have tp : 0 < t * t := Int.mul_pos (by omega) (by omega)
  have tu : t * t ≤ u * u := sq_le (by omega) htu
  have e1 : lft b t = t * t * (b.sp * b.sp - 2 * b.r * b.r) - flw b := rfl
  have e2 : lft b u = u * u * (b.sp * b.sp - 2 * b.r * b.r) - flw b := rfl
  have e3 : 8 * b.r * b.r * t * t * flw b = 8 * (b.r * b.r) * (t * t) * flw b := by grind
  have e4 : 8 * b.r * b.r * u * u * flw b = 8 * (b.r * b.r) * (u * u) * flw b := by grind
  unfold enough
  rw [e4]
  rw [e3] at g2
  generalize hP : t * t = P at *
  generalize hU : u * u = U at *
  generalize lft b t = g at *
  generalize lft b u = k at *
  generalize flw b = f at *
  generalize b.sp * b.sp - 2 * b.r * b.r = w at *
  have rr := isq_nn b.r
  generalize b.r * b.r = R at *
  have a1 : U * g ≤ P * k := by
    have : P * f ≤ U * f := Int.mul_le_mul_of_nonneg_right tu hf
    subst e1; subst e2
    grind
  have a0 : 0 ≤ U * g := Int.mul_nonneg (by omega) g1
  have k0 : 0 ≤ k := by
    have : P * 0 ≤ P * k := by omega
    exact Int.le_of_mul_le_mul_left this tp
  refine ⟨k0, ?_⟩
  have a2 := sq_le a0 a1
  have a3 : U * U * (8 * R * P * f) ≤ U * U * (g * g) := Int.mul_le_mul_of_nonneg_left g2 (isq_nn U)
  have a4 : P * P * (8 * R * U * f) ≤ U * U * (8 * R * P * f) := by
    have b1 : 0 ≤ 8 * R * f * (P * U) := Int.mul_nonneg (Int.mul_nonneg (by omega) hf) (Int.mul_nonneg (by omega) (by omega))
    have b2 := Int.mul_le_mul_of_nonneg_left tu b1
    grind
  have a5 : P * P * (8 * R * U * f) ≤ P * P * (k * k) := by grind
  exact Int.le_of_mul_le_mul_left a5 (Int.mul_pos tp tp)
/-! ## crossless spaced legs are apart where it is enough -/
def Good (R X Y c : Rat) : Prop := 0 ≤ X - R - c * Y ∧ 4 * (R * (c * Y)) ≤ (X - R - c * Y) * (X - R - c * Y)
theorem rsq (x : Rat) : 0 ≤ x * x := by
  rcases Rat.le_total (a := 0) (b := x) with h | h
  · exact Rat.mul_nonneg h h
  · have : 0 ≤ (-x) * (-x) := Rat.mul_nonneg (by grind) (by grind)
    grind
theorem rmul {a b c : Rat} (hc : 0 ≤ c) (h : a ≤ b) : c * a ≤ c * b := Rat.mul_le_mul_of_nonneg_left h hc
/-- R is the square of what is wanted, c the square of the share -/
theorem good_far {R X Y c k p1 p2 m1 m2 : Rat} (hR : 0 ≤ R) (hc : 0 ≤ c) (g : Good R X Y c) (hk : k * k ≤ c) (hp : X ≤ p1 * p1 + p2 * p2) (hm : m1 * m1 + m2 * m2 ≤ Y) :
    R ≤ (p1 + k * m1) * (p1 + k * m1) + (p2 + k * m2) * (p2 + k * m2) := by
  obtain ⟨g1, g2⟩ := g
  refine Rat.not_lt.mp fun hlt => ?_
  generalize hE : (p1 + k * m1) * (p1 + k * m1) + (p2 + k * m2) * (p2 + k * m2) = E at *
  have E0 : 0 ≤ E := by
    have a := rsq (p1 + k * m1)
    have b := rsq (p2 + k * m2)
    grind
  have M0 : 0 ≤ m1 * m1 + m2 * m2 := by
    have a := rsq m1
    have b := rsq m2
    grind
  have K0 := rsq k
  have hN : k * k * (m1 * m1 + m2 * m2) ≤ c * Y := Rat.le_trans (rmul K0 hm) (by have := rmul (c := Y) (by grind) hk; grind)
  have N0 : 0 ≤ k * k * (m1 * m1 + m2 * m2) := Rat.mul_nonneg K0 M0
  have dd : (p1 * p1 + p2 * p2 - E - k * k * (m1 * m1 + m2 * m2)) = -2 * (k * ((p1 + k * m1) * m1 + (p2 + k * m2) * m2)) := by rw [← hE]; grind
  have cs : (k * ((p1 + k * m1) * m1 + (p2 + k * m2) * m2)) * (k * ((p1 + k * m1) * m1 + (p2 + k * m2) * m2)) ≤ E * (k * k * (m1 * m1 + m2 * m2)) := by
    have q := rsq (k * ((p1 + k * m1) * m2 - (p2 + k * m2) * m1))
    rw [← hE]
    grind
  generalize hD : k * ((p1 + k * m1) * m1 + (p2 + k * m2) * m2) = D at *
  generalize k * k * (m1 * m1 + m2 * m2) = N at *
  generalize hZ : X - R - c * Y = Z at *
  have d1 : Z < -2 * D := by grind
  have d2 : Z * Z < (-2 * D) * (-2 * D) := by
    have a := rmul g1 (Rat.le_of_lt d1)
    have b : Z * (-2 * D) < (-2 * D) * (-2 * D) := by
      have hp : 0 < -2 * D := by grind
      have := Rat.mul_lt_mul_of_pos_right d1 hp
      exact this
    grind
  have e1 : E * N ≤ R * (c * Y) := by
    have a := rmul E0 hN
    have b : E * (c * Y) ≤ R * (c * Y) := by
      have := rmul (c := c * Y) (by grind) (Rat.le_of_lt hlt)
      grind
    grind
  grind
theorem good_more {R X Y c d : Rat} (hR : 0 < R) (hc : 0 ≤ c) (c1 : c ≤ 1) (hd : 0 ≤ d) (hXY : X ≤ Y) (g : Good R X Y c) : Good R (X + d) (Y + d) c := by
  obtain ⟨g1, g2⟩ := g
  have e0 : X + d - R - c * (Y + d) = X - R - c * Y + (1 - c) * d := by grind
  unfold Good
  rw [e0]
  generalize hZ : X - R - c * Y = Z at *
  have k0 : 0 ≤ (1 - c) * d := Rat.mul_nonneg (by grind) hd
  refine ⟨by grind, ?_⟩
  -- Z * (1 - c) is at least 2 R c
  have key : 2 * (R * c) ≤ Z * (1 - c) := by
    refine Rat.not_lt.mp fun hlt => ?_
    have y1 : Z + R ≤ (1 - c) * Y := by grind
    have zc : 0 ≤ 1 - c := by grind
    have rc : 0 ≤ R * c := Rat.mul_nonneg (Rat.le_of_lt hR) hc
    have t0 : 0 ≤ Z * (1 - c) := Rat.mul_nonneg g1 zc
    have a1 := rmul zc g2
    have a2 := rmul rc y1
    have a3 : 4 * (R * c * (Z + R)) ≤ Z * (Z * (1 - c)) := by grind
    have zr : 0 < Z + R := by grind
    have a4 : Z * (1 - c) * (Z + R) < 2 * (R * c) * (Z + R) := Rat.mul_lt_mul_of_pos_right hlt zr
    have a5 : 0 ≤ Z * (1 - c) * R := Rat.mul_nonneg t0 (Rat.le_of_lt hR)
    have a6 : 0 ≤ Z * (1 - c) * Z := Rat.mul_nonneg t0 g1
    grind
  have b1 := rmul hd key
  have b2 := rsq ((1 - c) * d)
  grind
theorem low1 {u1 u2 v1 v2 h S : Rat} (h0 : 0 ≤ h) (h1 : h ≤ 1) (hu : S ≤ u1 * u1 + u2 * u2) (hv : S ≤ v1 * v1 + v2 * v2) :
    S - ((v1 - u1) * (v1 - u1) + (v2 - u2) * (v2 - u2)) / 4 ≤ (u1 + h * (v1 - u1)) * (u1 + h * (v1 - u1)) + (u2 + h * (v2 - u2)) * (u2 + h * (v2 - u2)) := by
  have a := rmul (show 0 ≤ 1 - h by grind) hu
  have b := rmul h0 hv
  have c := Rat.mul_nonneg (rsq (1 - 2 * h)) (show 0 ≤ (v1 - u1) * (v1 - u1) + (v2 - u2) * (v2 - u2) by have x := rsq (v1 - u1); have y := rsq (v2 - u2); grind)
  grind
theorem low2 {u1 u2 v1 v2 h S : Rat} (h0 : 0 ≤ h) (h1 : h ≤ 1) (s0 : 0 ≤ S) (hu : S ≤ u1 * u1 + u2 * u2) (hv : S ≤ v1 * v1 + v2 * v2) (hc : 0 ≤ u1 * v1 + u2 * v2) :
    S / 2 ≤ (u1 + h * (v1 - u1)) * (u1 + h * (v1 - u1)) + (u2 + h * (v2 - u2)) * (u2 + h * (v2 - u2)) := by
  have a := rmul (rsq (1 - h)) hu
  have b := rmul (rsq h) hv
  have c := Rat.mul_nonneg (Rat.mul_nonneg h0 (show 0 ≤ 1 - h by grind)) hc
  have d := Rat.mul_nonneg (rsq (1 - 2 * h)) s0
  grind
/-- the theorem of spacing for two legs, at parts s and t -/
theorem spaced_far {S R W c s t a1 a2 b1 b2 a1' a2' b1' b2' : Rat} (hS : 0 ≤ S) (hR : 0 < R) (hc : 0 ≤ c) (c1 : c ≤ 1) (hSW : S ≤ W) (g : Good R (S / 2) (W - S / 2) c)
    (s0 : 0 ≤ s) (s1 : s ≤ 1) (t0 : 0 ≤ t) (t1 : t ≤ 1) (hk : (t - s) * (t - s) ≤ c)
    (hu : S ≤ (b1 - a1) * (b1 - a1) + (b2 - a2) * (b2 - a2)) (hv : S ≤ (b1' - a1') * (b1' - a1') + (b2' - a2') * (b2' - a2'))
    (hx : 0 ≤ (b1 - a1) * (b1' - a1') + (b2 - a2) * (b2' - a2'))
    (hm : (a1' - a1) * (a1' - a1) + (a2' - a2) * (a2' - a2) ≤ W) (hm' : (b1' - b1) * (b1' - b1) + (b2' - b2) * (b2' - b2) ≤ W) :
    R ≤ ((b1 + t * (b1' - b1)) - (a1 + s * (a1' - a1))) * ((b1 + t * (b1' - b1)) - (a1 + s * (a1' - a1))) + ((b2 + t * (b2' - b2)) - (a2 + s * (a2' - a2))) * ((b2 + t * (b2' - b2)) - (a2 + s * (a2' - a2))) := by
  have h0 : 0 ≤ (s + t) / 2 := by grind
  have h1 : (s + t) / 2 ≤ 1 := by grind
  have l1 := low1 h0 h1 hu hv
  have l2 := low2 h0 h1 hS hu hv hx
  have e1 : (b1 + t * (b1' - b1)) - (a1 + s * (a1' - a1)) = ((b1 - a1) + (s + t) / 2 * ((b1' - a1') - (b1 - a1))) + (t - s) * (((a1' - a1) + (b1' - b1)) / 2) := by grind
  have e2 : (b2 + t * (b2' - b2)) - (a2 + s * (a2' - a2)) = ((b2 - a2) + (s + t) / 2 * ((b2' - a2') - (b2 - a2))) + (t - s) * (((a2' - a2) + (b2' - b2)) / 2) := by grind
  have mm : ((a1' - a1) + (b1' - b1)) / 2 * (((a1' - a1) + (b1' - b1)) / 2) + ((a2' - a2) + (b2' - b2)) / 2 * (((a2' - a2) + (b2' - b2)) / 2) + (((b1' - a1') - (b1 - a1)) * ((b1' - a1') - (b1 - a1)) + ((b2' - a2') - (b2 - a2)) * ((b2' - a2') - (b2 - a2))) / 4 ≤ W := by grind
  rw [e1, e2]
  generalize hx : (((b1' - a1') - (b1 - a1)) * ((b1' - a1') - (b1 - a1)) + ((b2' - a2') - (b2 - a2)) * ((b2' - a2') - (b2 - a2))) / 4 = x at *
  rcases Rat.le_total (a := x) (b := S / 2) with h | h
  · have g2 := good_more (d := S / 2 - x) hR hc c1 (by grind) (by grind) g
    rw [show S / 2 + (S / 2 - x) = S - x by grind, show W - S / 2 + (S / 2 - x) = W - x by grind] at g2
    exact good_far (Rat.le_of_lt hR) hc g2 hk l1 (by grind)
  · exact good_far (Rat.le_of_lt hR) hc g hk l2 (by grind)
end DV
namespace DV
open PySem PySem.Spec PyProof.Rows L2
open scoped Rat
/-! ## every crossless spaced flight is apart where it is enough -/
theorem rcan {a x y : Rat} (ha : 0 < a) (h : a * x ≤ a * y) : x ≤ y := by
  refine Rat.not_lt.mp fun z => ?_
  have := Rat.mul_lt_mul_of_pos_left z ha
  grind
theorem rho_mul {b : Bn} {t : Int} (ht : 0 < t) : rhoT b t * ((t : Int) : Rat) = ((b.lag : Int) : Rat) := by
  unfold rhoT
  rw [Rat.divInt_eq_div]
  have h2 : ((t : Int) : Rat) ≠ 0 := rat_ne (by omega)
  grind
theorem enough_good {b : Bn} {t : Int} (ht : 1 ≤ t) (h : enough b t) : Good ((b.r * b.r : Int) : Rat) (((b.sp * b.sp : Int) : Rat) / 2) (((b.way * b.way : Int) : Rat) - ((b.sp * b.sp : Int) : Rat) / 2) (rhoT b t * rhoT b t) := by
  obtain ⟨h1, h2⟩ := h
  have g1 := Rat.intCast_le_intCast.mpr h1
  have g2 := Rat.intCast_le_intCast.mpr h2
  have tp : (0 : Rat) < ((t : Int) : Rat) := Rat.intCast_pos.mpr (by omega)
  have e := rho_mul (b := b) (t := t) (by omega)
  unfold lft flw at g1 g2
  simp only [Rat.intCast_mul, Rat.intCast_sub, Rat.intCast_ofNat] at g1 g2 ⊢
  generalize rhoT b t = rho at *
  generalize ((t : Int) : Rat) = T at *
  generalize ((b.lag : Int) : Rat) = L at *
  generalize ((b.r : Int) : Rat) = R at *
  generalize ((b.sp : Int) : Rat) = S at *
  generalize ((b.way : Int) : Rat) = W at *
  subst e
  have tt : 0 < T * T := Rat.mul_pos tp tp
  refine ⟨rcan (a := 2 * (T * T)) (by grind) (by grind), rcan (a := 4 * (T * T * (T * T))) (by have := Rat.mul_pos tt tt; grind) (by grind)⟩
theorem abs_sq {x rho : Rat} (h : rabs x ≤ rho) : x * x ≤ rho * rho := by
  unfold rabs at h
  have a : 0 ≤ rho - x := by split at h <;> grind
  have b : 0 ≤ rho + x := by split at h <;> grind
  have := Rat.mul_nonneg a b
  grind
theorem flight_apart {b : Bn} {t : Int} {ls : List Lg} (ok : BnOk b) (ht : 1 ≤ t) (hl : b.lag ≤ t) (h : enough b t) (hf : SpP b.sp (ls.map frm)) (hto : SpP b.sp (ls.map too))
    (hc : ∀ (i j : Nat) (l o : Lg), i < j → ls[i]? = some l → ls[j]? = some o → 0 ≤ trn l o) (hw : ∀ l ∈ ls, sqw l ≤ b.way * b.way) : apartAll ls (rhoT b t) b.r := by
  intro i j l o hij e1 e2
  have lg := ok.lag0
  have rin : 0 ≤ rhoT b t ∧ rhoT b t ≤ 1 := rho_in (n := b.lag) (t := t) lg.1 hl ht
  obtain ⟨w, eg⟩ := near_at (l := l) (o := o) (rho := rhoT b t) rin.1 rin.2
  rw [eg]
  have g := enough_good ht h
  have hu := hf.at hij (by rw [List.getElem?_map, e1]; rfl) (by rw [List.getElem?_map, e2]; rfl)
  have hv := hto.at hij (by rw [List.getElem?_map, e1]; rfl) (by rw [List.getElem?_map, e2]; rfl)
  have hx := hc i j l o hij e1 e2
  have hm := hw l (List.mem_of_getElem? e1)
  have hm' := hw o (List.mem_of_getElem? e2)
  have hsw : b.sp * b.sp ≤ b.way * b.way := sq_le (by have := ok.sp0; omega) ok.way0
  have hR : 0 < b.r * b.r := Int.mul_pos (by have := ok.r0; omega) (by have := ok.r0; omega)
  have c0 := rsq (rhoT b t)
  have c1 : rhoT b t * rhoT b t ≤ 1 := by
    have := rmul rin.1 rin.2
    grind
  obtain ⟨w0, w1, w2, w3, w4⟩ := w
  generalize (nearL l o (rhoT b t)).2.1 = s at *
  generalize (nearL l o (rhoT b t)).2.2 = u at *
  have hk := abs_sq w4
  have k1 := Rat.intCast_le_intCast.mpr hu
  have k2 := Rat.intCast_le_intCast.mpr hv
  have k3 := Rat.intCast_le_intCast.mpr hx
  have k4 := Rat.intCast_le_intCast.mpr hm
  have k5 := Rat.intCast_le_intCast.mpr hm'
  have k6 := Rat.intCast_le_intCast.mpr hsw
  have k7 := Rat.intCast_lt_intCast.mpr hR
  have k8 : (0 : Rat) ≤ ((b.sp * b.sp : Int) : Rat) := by rw [Rat.intCast_mul]; exact rsq _
  unfold d2 frm at k1
  unfold d2 too at k2
  unfold trn at k3
  unfold sqw at k4 k5
  simp only [Rat.intCast_mul, Rat.intCast_sub, Rat.intCast_add] at k1 k2 k3 k4 k5 k6 k7 k8 g ⊢
  have := spaced_far (S := ((b.sp : Int) : Rat) * ((b.sp : Int) : Rat)) (R := ((b.r : Int) : Rat) * ((b.r : Int) : Rat)) (W := ((b.way : Int) : Rat) * ((b.way : Int) : Rat)) (c := rhoT b t * rhoT b t) (s := s) (t := u)
    (a1 := ((l.ax : Int) : Rat)) (a2 := ((l.ay : Int) : Rat)) (b1 := ((o.ax : Int) : Rat)) (b2 := ((o.ay : Int) : Rat)) (a1' := ((l.bx : Int) : Rat)) (a2' := ((l.by' : Int) : Rat)) (b1' := ((o.bx : Int) : Rat)) (b2' := ((o.by' : Int) : Rat))
    k8 k7 c0 c1 k6 g w0 w1 w2 w3 (by grind) (by grind) (by grind) (by grind) (by grind) (by grind)
  unfold gsq gx gy px py
  simp only [Rat.intCast_sub]
  exact this
theorem crs_free {ls : List Lg} (h : crs ls = []) : ∀ (i j : Nat) (l o : Lg), i < j → ls[i]? = some l → ls[j]? = some o → 0 ≤ trn l o := fun i j l o hij e1 e2 => by
  by_cases ht : trn l o < 0
  · exact absurd h (crs_mem e1 e2 hij ht)
  · omega
/-- of some of the legs, in order -/
theorem free_sub {ls ms : List Lg} (hs : ms.Sublist ls) (h : ∀ (i j : Nat) (l o : Lg), i < j → ls[i]? = some l → ls[j]? = some o → 0 ≤ trn l o) : ∀ (i j : Nat) (l o : Lg), i < j → ms[i]? = some l → ms[j]? = some o → 0 ≤ trn l o := by
  have h1 : ls.Pairwise fun l o => 0 ≤ trn l o := List.pairwise_iff_getElem.mpr fun i j hi hj hij => h i j _ _ hij (List.getElem?_eq_getElem hi) (List.getElem?_eq_getElem hj)
  have h2 := h1.sublist hs
  intro i j l o hij e1 e2
  obtain ⟨hi, rfl⟩ := List.getElem?_eq_some_iff.mp e1
  obtain ⟨hj, rfl⟩ := List.getElem?_eq_some_iff.mp e2
  exact List.pairwise_iff_getElem.mp h2 i j hi hj hij
theorem SpP.sub {sp : Int} {cs ds : List P2} (h : SpP sp cs) (k : ds.Sublist cs) : SpP sp ds := List.Pairwise.sublist k h
/-! ## where it is ever enough -/
theorem flw_le {b : Bn} (ok : BnOk b) : flw b ≤ 1000000000 := by
  have lg := ok.lag0
  have a := sq_le (x := b.lag) (y := 30) lg.1 lg.2
  have w0 := ok.way0
  have s0 := ok.sp0
  have c := sq_le (x := b.way) (y := 700) (by omega) ok.way1
  have d := isq_nn b.sp
  have e := isq_nn b.lag
  have g : 0 ≤ 2 * b.way * b.way - b.sp * b.sp := by
    have := sq_le (x := b.sp) (y := b.way) (by omega) w0
    have := isq_nn b.way
    grind
  have h : 2 * b.way * b.way - b.sp * b.sp ≤ 980000 := by grind
  have := Int.mul_le_mul a h g (by decide)
  unfold flw
  omega
theorem enough_far {b : Bn} (ok : BnOk b) (h : 1 ≤ b.sp * b.sp - 2 * b.r * b.r ∨ (b.sp * b.sp - 2 * b.r * b.r = 0 ∧ b.lag = 0)) : enough b 1000000000000 := by
  have f1 := flw_le ok
  have f0 := flw_nn (b := b) (by have := ok.sp0; omega) ok.way0
  have r0 := ok.r0
  have rr := sq_le (x := b.r) (y := 140) (by omega) r0.2
  have rr0 := isq_nn b.r
  rcases h with h | ⟨h, hl⟩
  · have e : lft b 1000000000000 = 1000000000000 * 1000000000000 * (b.sp * b.sp - 2 * b.r * b.r) - flw b := rfl
    have l1 : 900000000000000000000000 ≤ lft b 1000000000000 := by omega
    refine ⟨by omega, ?_⟩
    have l2 := sq_le (x := 900000000000000000000000) (by decide) l1
    have p := Int.mul_le_mul rr f1 f0 (by decide)
    have e2 : 8 * b.r * b.r * 1000000000000 * 1000000000000 * flw b = 8000000000000000000000000 * (b.r * b.r * flw b) := by grind
    omega
  · have e0 : flw b = 0 := by unfold flw; rw [hl]; simp
    have e : lft b 1000000000000 = 1000000000000 * 1000000000000 * (b.sp * b.sp - 2 * b.r * b.r) - flw b := rfl
    unfold enough
    rw [e, h, e0]
    simp
theorem enough_never {b : Bn} (ok : BnOk b) (h : b.sp * b.sp - 2 * b.r * b.r < 0 ∨ (b.sp * b.sp - 2 * b.r * b.r = 0 ∧ 0 < b.lag)) {t : Int} (ht : 1 ≤ t) : ¬ enough b t := by
  intro ⟨h1, _⟩
  have f0 := flw_nn (b := b) (by have := ok.sp0; omega) ok.way0
  have tp : 0 < t * t := Int.mul_pos (by omega) (by omega)
  have e : lft b t = t * t * (b.sp * b.sp - 2 * b.r * b.r) - flw b := rfl
  rcases h with h | ⟨h, hl⟩
  · have := Int.mul_neg_of_pos_of_neg tp h
    omega
  · rw [h] at e
    have : 0 < flw b := by
      unfold flw
      refine Int.mul_pos (Int.mul_pos hl hl) ?_
      have a := sq_le (x := b.sp) (y := b.way) (by have := ok.sp0; omega) ok.way0
      have c : 0 < b.sp * b.sp := Int.mul_pos (by have := ok.sp0; omega) (by have := ok.sp0; omega)
      grind
    omega
/-- the bounds as they are drawn -/
structure BnV (b : Bn) : Prop where
  sp : b.sp = 1 ∨ b.sp = 2 ∨ b.sp = 3 ∨ b.sp = 5 ∨ b.sp = 7 ∨ b.sp = 10 ∨ b.sp = 13 ∨ b.sp = 20 ∨ b.sp = 60 ∨ b.sp = 100
  way : b.way ≤ 6 * b.sp
theorem enough_drawn {b : Bn} (ok : BnOk b) (v : BnV b) (h : 1 ≤ b.sp * b.sp - 2 * b.r * b.r ∨ (b.sp * b.sp - 2 * b.r * b.r = 0 ∧ b.lag = 0)) : enough b 100000 := by
  have f0 := flw_nn (b := b) (by have := ok.sp0; omega) ok.way0
  have r0 := ok.r0
  rcases h with h | ⟨h, hl⟩
  · have lg := ok.lag0
    have a := sq_le (x := b.lag) (y := 30) lg.1 lg.2
    have s0 := ok.sp0
    have w0 := ok.way0
    have wv := v.way
    have c := sq_le (x := b.way) (y := 6 * b.sp) (by omega) wv
    have g : 0 ≤ 2 * b.way * b.way - b.sp * b.sp := by
      have := sq_le (x := b.sp) (y := b.way) (by omega) w0
      have := isq_nn b.way
      grind
    have g1 : 2 * b.way * b.way - b.sp * b.sp ≤ 71 * (b.sp * b.sp) := by grind
    have f1 := Int.mul_le_mul a g1 g (by decide)
    rw [show b.lag * b.lag * (2 * b.way * b.way - b.sp * b.sp) = flw b from rfl] at f1
    have fin : ∀ m w F : Int, b.r ≤ m → 0 ≤ w → w ≤ b.sp * b.sp - 2 * b.r * b.r → flw b ≤ F → 0 ≤ 10000000000 * w - F → 80000000000 * (m * m * F) ≤ (10000000000 * w - F) * (10000000000 * w - F) → enough b 100000 := fun m w F h1 h2 h3 h4 h5 h6 => by
      have e : lft b 100000 = 100000 * 100000 * (b.sp * b.sp - 2 * b.r * b.r) - flw b := rfl
      have l1 : 10000000000 * w - F ≤ lft b 100000 := by omega
      have l2 := sq_le h5 l1
      have rr := sq_le (x := b.r) (y := m) (by omega) h1
      have p := Int.mul_le_mul rr h4 f0 (isq_nn m)
      refine ⟨by omega, ?_⟩
      have e2 : 8 * b.r * b.r * 100000 * 100000 * flw b = 80000000000 * (b.r * b.r * flw b) := by grind
      omega
    have rm : ∀ m : Int, 0 ≤ m → b.sp * b.sp ≤ 2 * ((m + 1) * (m + 1)) → b.r ≤ m := fun m m0 hm => by
      by_cases z : b.r ≤ m
      · exact z
      · have := sq_le (x := m + 1) (y := b.r) (by omega) (by omega)
        have e : 2 * b.r * b.r = 2 * (b.r * b.r) := by grind
        omega
    have wm : ∀ m : Int, b.r ≤ m → b.sp * b.sp - 2 * (m * m) ≤ b.sp * b.sp - 2 * b.r * b.r := fun m hm => by
      have := sq_le (x := b.r) (y := m) (by omega) hm
      have e : 2 * b.r * b.r = 2 * (b.r * b.r) := by grind
      omega
    have go : ∀ m F : Int, 0 ≤ m → b.sp * b.sp ≤ 2 * ((m + 1) * (m + 1)) → 0 ≤ b.sp * b.sp - 2 * (m * m) → 30 * 30 * (71 * (b.sp * b.sp)) ≤ F → 0 ≤ 10000000000 * (b.sp * b.sp - 2 * (m * m)) - F → 80000000000 * (m * m * F) ≤ (10000000000 * (b.sp * b.sp - 2 * (m * m)) - F) * (10000000000 * (b.sp * b.sp - 2 * (m * m)) - F) → enough b 100000 := fun m F m0 m1 m2 hF h5 h6 =>
      fin m _ F (rm m m0 m1) m2 (wm m (rm m m0 m1)) (by omega) h5 h6
    rcases v.sp with e | e | e | e | e | e | e | e | e | e
    · have := sq_le (x := 1) (y := b.r) (by decide) r0.1
      have e' : 2 * b.r * b.r = 2 * (b.r * b.r) := by grind
      rw [e] at h
      omega
    · refine go 1 255600 ?_ ?_ ?_ ?_ ?_ ?_ <;> (try rw [e]) <;> decide
    · refine go 2 575100 ?_ ?_ ?_ ?_ ?_ ?_ <;> (try rw [e]) <;> decide
    · refine go 3 1597500 ?_ ?_ ?_ ?_ ?_ ?_ <;> (try rw [e]) <;> decide
    · refine go 4 3131100 ?_ ?_ ?_ ?_ ?_ ?_ <;> (try rw [e]) <;> decide
    · refine go 7 6390000 ?_ ?_ ?_ ?_ ?_ ?_ <;> (try rw [e]) <;> decide
    · refine go 9 10799100 ?_ ?_ ?_ ?_ ?_ ?_ <;> (try rw [e]) <;> decide
    · refine go 14 25560000 ?_ ?_ ?_ ?_ ?_ ?_ <;> (try rw [e]) <;> decide
    · refine go 42 230040000 ?_ ?_ ?_ ?_ ?_ ?_ <;> (try rw [e]) <;> decide
    · refine go 70 639000000 ?_ ?_ ?_ ?_ ?_ ?_ <;> (try rw [e]) <;> decide
  · have e0 : flw b = 0 := by unfold flw; rw [hl]; simp
    have e : lft b 100000 = 100000 * 100000 * (b.sp * b.sp - 2 * b.r * b.r) - flw b := rfl
    unfold enough
    rw [e, h, e0]
    simp
/-! told one leg after the other -/
def apartTo (ls : List Lg) (rho : Rat) (r : Int) (n : Nat) : Prop := ∀ (i j : Nat) (l o : Lg), i < j → j < n → ls[i]? = some l → ls[j]? = some o → ((r * r : Int) : Rat) ≤ (nearL l o rho).1
noncomputable instance {ls : List Lg} {rho : Rat} {r : Int} {n : Nat} : Decidable (apartTo ls rho r n) := Classical.propDecidable _
theorem apartTo_all {ls : List Lg} {rho : Rat} {r : Int} : apartTo ls rho r ls.length ↔ apartAll ls rho r :=
  ⟨fun h i j l o hij e1 e2 => h i j l o hij (List.getElem?_eq_some_iff.mp e2).1 e1 e2, fun h i j l o hij _ e1 e2 => h i j l o hij e1 e2⟩
theorem apartTo_none {ls : List Lg} {rho : Rat} {r : Int} : apartTo ls rho r 0 := fun _ _ _ _ _ h => absurd h (Nat.not_lt_zero _)
theorem apartTo_step {ls : List Lg} {rho : Rat} {r : Int} {n : Nat} {o : Lg} (ho : ls[n]? = some o) : apartTo ls rho r (n + 1) ↔ apartTo ls rho r n ∧ ∀ l ∈ ls.take n, ¬ (nearL l o rho).1 < ((r * r : Int) : Rat) := by
  constructor
  · refine fun h => ⟨fun i j l o hij hj e1 e2 => h i j l o hij (by omega) e1 e2, fun l hl => ?_⟩
    obtain ⟨i, hi⟩ := List.mem_iff_getElem?.mp hl
    have hin := (List.getElem?_eq_some_iff.mp hi).1
    rw [List.length_take] at hin
    rw [List.getElem?_take, if_pos (by omega)] at hi
    exact Rat.not_lt.mpr (h i n l o (by omega) (by omega) hi ho)
  · rintro ⟨h, k⟩ i j l o' hij hj e1 e2
    by_cases e : j = n
    · subst e
      rw [ho] at e2; cases e2
      refine Rat.not_lt.mp (k l (List.mem_iff_getElem?.mpr ⟨i, ?_⟩))
      rw [List.getElem?_take, if_pos hij]; exact e1
    · exact h i j l o' hij (by omega) e1 e2
theorem shp_eL {l : Lg} : Shp 2 (eL l) := .tuple (all2 shp_pr shp_pr)
theorem eqv_nil (xs : List PyData) : PyData.eqv (.list xs) (.list []) = decide (xs = []) := by cases xs <;> simp [PyData.eqv, PyData.eqvAll]
end DV
namespace DV
open PySem PySem.Spec PyProof.Rows L2
/-! ## zip of sequences of any two sorts -/
/-- what a sort of sequence has to tell of its iterator -/
structure Sk where
  It : Heap → Addr → Addr → Nat → Prop
  Sq : Heap → Addr → Array Value → Prop
  itE : ∀ {g g' : Heap} {a b l : Addr} {i : Nat}, It g a l i → Heap.ExtBut b g g' → a ≠ b → It g' a l i
  sqE : ∀ {g g' : Heap} {a b : Addr} {xs : Array Value}, Sq g a xs → Heap.ExtBut b g g' → a ≠ b → Sq g' a xs
  itA : ∀ {g g' : Heap} {a l : Addr} {i : Nat}, It g a l i → (∀ o, g.get? a = some o → g'.get? a = some o) → It g' a l i
  ob : ∀ {g : Heap} {a l : Addr} {i : Nat}, It g a l i → ∃ o fs, g.get? a = some o ∧ o.data = .fields fs
  item : ∀ {pg : Program} {w : World} {A : Around} {E : Value → Shared → Prop} {s : Shared} {it l : Addr} {i : Nat} {xs : Array Value} {x : Value} {Q : Value → Shared → Prop},
    It s.heap it l i → Sq s.heap l xs → xs[i]? = some x → (∀ g', It g' it l (i + 1) → Heap.SameBut it s.heap g' → Q x { s with heap := g' }) → wpAny (model pg w) A (Builtin.SmallTypes.nextOf (.ref it)) Q E s
  fin : ∀ {pg : Program} {w : World} {A : Around} {E : Value → Shared → Prop} {s : Shared} {it l : Addr} {i : Nat} {xs : Array Value} {Q : Value → Shared → Prop},
    A.handled = none → It s.heap it l i → Sq s.heap l xs → xs[i]? = none → (∀ g' e, Heap.ExtBut it s.heap g' → (∃ o, g'.get? e = some o ∧ o.cls = .type "StopIteration") → E (.ref e) { s with heap := g' }) →
      wpAny (model pg w) A (Builtin.SmallTypes.nextOf (.ref it)) Q E s
def skL : Sk where
  It g a l i := g.IsListIter a l i
  Sq g a xs := g.IsList a xs
  itE x y z := x.extBut y z
  sqE x y z := x.extBut y z
  itA x y := x.at y
  ob x := let ⟨o, e, _, d⟩ := x; ⟨o, _, e, d⟩
  item a b c d := wpAny_nextOf_list_item a b c d
  fin a b c d e := wpAny_nextOf_list_end a b c d e
def skT : Sk where
  It g a l i := g.IsTupleIter a l i
  Sq g a xs := g.IsTuple a xs
  itE x y z := x.extBut y z
  sqE x y z := x.extBut y z
  itA x y := x.at y
  ob x := let ⟨o, e, _, d⟩ := x; ⟨o, _, e, d⟩
  item a b c d := RZ.nextOf_tuple_item a b c d
  fin a b c d e := RZ.nextOf_tuple_end a b c d e
section
variable {pg : Program} {w : World} {A : Around} {E : Value → Shared → Prop} {s : Shared} {u v : Sk}
theorem zipK_item {z P O a b l m : Addr} {j k : Nat} {xs ys : Array Value} {x y p q : Value} {Q : Value → Shared → Prop} (ap : ZipApart z P O a b l m)
    (iz : IsZip s.heap z P O .none) (iP : IsPair s.heap P (.ref a) (.ref b)) (iO : IsPair s.heap O p q) (ia : u.It s.heap a l j) (ib : v.It s.heap b m k) (sl : u.Sq s.heap l xs) (sm : v.Sq s.heap m ys) (ex : xs[j]? = some x) (ey : ys[k]? = some y)
    (kQ : ∀ g, IsZip g z P O (rawInt s.heap.objs.size) → IsPair g O x y → u.It g a l (j + 1) → v.It g b m (k + 1) → IsPair g s.heap.objs.size x y → g.objs.size = s.heap.objs.size + 1 →
      (∀ c o, c ≠ z → c ≠ O → c ≠ a → c ≠ b → s.heap.get? c = some o → g.get? c = some o) → Q (.ref s.heap.objs.size) { s with heap := g }) :
    wpAny (model pg w) A (Builtin.«zip.__next__» ⟨[.ref z], []⟩) (fun f t => ∃ r, f = .done (.ret r) ∧ Q r t) E s := by
  show wpAny _ _ (field (Value.ref z) 2 >>= _) _ _ s
  refine wpAny_bind (wpAny_field iz rfl (x := Value.bool false) rfl ?_)
  show wpAny _ _ (field (Value.ref z) 3 >>= _) _ _ s
  refine wpAny_bind (wpAny_field iz rfl (x := Value.ref P) rfl (wpAny_bind (wpAny_seqItems iP rfl ?_)))
  show wpAny _ _ (Builtin.SmallTypes.ownedTupleIsFree (Value.ref z) >>= _) _ _ s
  refine wpAny_bind ?_; unfold Builtin.SmallTypes.ownedTupleIsFree
  refine wpAny_bind (wpAny_field iz rfl (x := Value.none) rfl (wpAny_pure ?_)); simp only [if_true]
  refine wpAny_bind (wpAny_rule (wpAny_bind (wpAny_field iz rfl (x := Value.ref O) rfl (wpAny_bind (wpAny_setField_rec iz (by simp) fun g1 z1 n1 => ?_)))))
  replace z1 : IsZip g1 z P O Value.ellipsis := z1
  refine wpAny_bind ?_; simp only [List.forIn_cons, List.forIn_nil, List.zipIdx_cons, List.zipIdx_nil]
  refine wpAny_bind (wpAny_bind (wpAny_onRaise ?_)); show wpAny _ _ (Builtin.SmallTypes.nextOf (Value.ref a) >>= _) _ _ _
  refine wpAny_bind (u.item (u.itE ia n1.extBut ap.i1z) (u.sqE sl n1.extBut ap.l1z) ex fun g2 a2 n2 => wpAny_pure ?_)
  have O2 : IsPair g2 O p q := n2.extBut _ _ ap.TOi1 (n1.extBut _ _ ap.TOz iO)
  refine wpAny_bind (wpAny_seqItems O2 rfl (wpAny_bind (wpAny_updateSeq_pair O2 fun g3 O3 n3 => ?_)))
  replace O3 : IsPair g3 O x q := O3
  refine wpAny_bind (wpAny_letGo (wpAny_pure (wpAny_bind (wpAny_bind (wpAny_onRaise ?_))))); show wpAny _ _ (Builtin.SmallTypes.nextOf (Value.ref b) >>= _) _ _ _
  refine wpAny_bind (v.item (v.itE (v.itE (v.itE ib n1.extBut ap.i2z) n2.extBut ap.i12.symm) n3.extBut ap.TOi2.symm) (v.sqE (v.sqE (v.sqE sm n1.extBut ap.l2z) n2.extBut ap.l2i1) n3.extBut ap.l2TO) ey fun g4 b4 n4 => wpAny_pure ?_)
  have O4 : IsPair g4 O x q := n4.extBut _ _ ap.TOi2 O3
  refine wpAny_bind (wpAny_seqItems O4 rfl (wpAny_bind (wpAny_updateSeq_pair O4 fun g5 O5 n5 => ?_)))
  replace O5 : IsPair g5 O x y := O5
  refine wpAny_bind (wpAny_letGo (wpAny_pure (wpAny_pure (wpAny_bind (wpAny_seqItems O5 rfl (wpAny_bind (wpAny_newTuple ?_)))))))
  have size : g5.objs.size = s.heap.objs.size := by rw [n5.1, n4.1, n3.1, n2.1, n1.1]
  have z5 : IsZip g5 z P O Value.ellipsis := n5.extBut _ _ ap.TOz.symm (n4.extBut _ _ ap.i2z.symm (n3.extBut _ _ ap.TOz.symm (n2.extBut _ _ ap.i1z.symm z1)))
  have stay : ∀ c o, c ≠ z → c ≠ O → c ≠ a → c ≠ b → s.heap.get? c = some o → g5.get? c = some o := fun c o d1 d2 d3 d4 e =>
    n5.extBut _ _ d2 (n4.extBut _ _ d4 (n3.extBut _ _ d2 (n2.extBut _ _ d3 (n1.extBut _ _ d1 e))))
  have a5 : u.It g5 a l (j + 1) := u.itE (u.itE (u.itE a2 n3.extBut ap.TOi1.symm) n4.extBut ap.i12) n5.extBut ap.TOi1.symm
  have b5 : v.It g5 b m (k + 1) := v.itE b4 n5.extBut ap.TOi2.symm
  have zl : z < g5.objs.size := Heap.lt_size z5
  show wpAny _ _ (Builtin.SmallTypes.ownedTupleHandOut (Value.ref z) (Value.ref g5.objs.size) >>= _) _ _ _
  refine wpAny_bind ?_; unfold Builtin.SmallTypes.ownedTupleHandOut
  have z6 : IsZip (g5.push { cls := Value.type "tuple", data := Data.seq #[x, y] }) z P O Value.ellipsis := Heap.get?_push_of_some _ z5
  refine wpAny_bind (wpAny_setField_rec z6 (by simp) fun g7 z7 n7 => ?_)
  replace z7 : IsZip g7 z P O (rawInt g5.objs.size) := z7
  refine wpAny_setField_rec z7 (by simp) fun g8 z8 n8 => ?_
  replace z8 : IsZip g8 z P O (rawInt g5.objs.size) := z8
  have up : ∀ c o, c ≠ z → g5.get? c = some o → g8.get? c = some o := fun c o d e => n8.extBut _ _ d (n7.extBut _ _ d (Heap.get?_push_of_some _ e))
  have T8 : IsPair g8 g5.objs.size x y := n8.extBut _ _ (Nat.ne_of_gt zl) (n7.extBut _ _ (Nat.ne_of_gt zl) (Heap.get?_push_size _ rfl))
  have s8 : g8.objs.size = g5.objs.size + 1 := by rw [n8.1, n7.1, Heap.size_push]
  rw [size] at z8 T8 s8
  refine wpAny_pure ⟨_, rfl, ?_⟩; show Q (Value.ref g5.objs.size) _; rw [size]
  exact kQ g8 z8 (up _ _ ap.TOz O5) (u.itA a5 fun o e => up _ o ap.i1z e) (v.itA b5 fun o e => up _ o ap.i2z e) T8 s8 fun c o d1 d2 d3 d4 e => up c o d1 (stay c o d1 d2 d3 d4 e)
theorem zipK_end {z P O a b l m : Addr} {j k : Nat} {xs ys : Array Value} {p q : Value} {Q : Fin → Shared → Prop} (free : A.handled = none) (ap : ZipApart z P O a b l m)
    (iz : IsZip s.heap z P O .none) (iP : IsPair s.heap P (.ref a) (.ref b)) (iO : IsPair s.heap O p q) (ia : u.It s.heap a l j) (ib : v.It s.heap b m k) (sl : u.Sq s.heap l xs) (sm : v.Sq s.heap m ys) (over : xs[j]? = none ∨ ys[k]? = none)
    (kE : ∀ g e, (∀ c o, c ≠ z → c ≠ O → c ≠ a → c ≠ b → s.heap.get? c = some o → g.get? c = some o) → (∃ o, g.get? e = some o ∧ o.cls = .type "StopIteration") → E (.ref e) { s with heap := g }) :
    wpAny (model pg w) A (Builtin.«zip.__next__» ⟨[.ref z], []⟩) Q E s := by
  show wpAny _ _ (field (Value.ref z) 2 >>= _) _ _ s
  refine wpAny_bind (wpAny_field iz rfl (x := Value.bool false) rfl ?_)
  show wpAny _ _ (field (Value.ref z) 3 >>= _) _ _ s
  refine wpAny_bind (wpAny_field iz rfl (x := Value.ref P) rfl (wpAny_bind (wpAny_seqItems iP rfl ?_)))
  show wpAny _ _ (Builtin.SmallTypes.ownedTupleIsFree (Value.ref z) >>= _) _ _ s
  refine wpAny_bind ?_; unfold Builtin.SmallTypes.ownedTupleIsFree
  refine wpAny_bind (wpAny_field iz rfl (x := Value.none) rfl (wpAny_pure ?_)); simp only [if_true]
  refine wpAny_bind (wpAny_rule (wpAny_bind (wpAny_field iz rfl (x := Value.ref O) rfl (wpAny_bind (wpAny_setField_rec iz (by simp) fun g1 z1 n1 => ?_)))))
  replace z1 : IsZip g1 z P O Value.ellipsis := z1
  refine wpAny_bind ?_; simp only [List.forIn_cons, List.forIn_nil, List.zipIdx_cons, List.zipIdx_nil]
  refine wpAny_bind (wpAny_bind (wpAny_onRaise ?_)); show wpAny _ _ (Builtin.SmallTypes.nextOf (Value.ref a) >>= _) _ _ _
  cases ex : xs[j]? with
  | none =>
    refine wpAny_bind (u.fin free (u.itE ia n1.extBut ap.i1z) (u.sqE sl n1.extBut ap.l1z) ex fun g2 e n2 ⟨oe, ge, ce⟩ => ?_)
    have z2 : IsZip g2 z P O Value.ellipsis := n2 _ _ ap.i1z.symm z1
    have ne : e ≠ z := fun h => by subst h; rw [z2] at ge; cases ge; simp at ce
    exact wpAny_setField_rec z2 (by simp) fun g3 _ n3 => kE g3 e (fun c o d1 _ d3 _ h => n3.extBut _ _ d1 (n2 _ _ d3 (n1.extBut _ _ d1 h))) ⟨oe, n3.extBut _ _ ne ge, ce⟩
  | some x =>
    have ey : ys[k]? = none := over.resolve_left fun h => by rw [ex] at h; cases h
    refine wpAny_bind (u.item (u.itE ia n1.extBut ap.i1z) (u.sqE sl n1.extBut ap.l1z) ex fun g2 a2 n2 => wpAny_pure ?_)
    have O2 : IsPair g2 O p q := n2.extBut _ _ ap.TOi1 (n1.extBut _ _ ap.TOz iO)
    refine wpAny_bind (wpAny_seqItems O2 rfl (wpAny_bind (wpAny_updateSeq_pair O2 fun g3 O3 n3 => ?_)))
    refine wpAny_bind (wpAny_letGo (wpAny_pure (wpAny_bind (wpAny_bind (wpAny_onRaise ?_))))); show wpAny _ _ (Builtin.SmallTypes.nextOf (Value.ref b) >>= _) _ _ _
    refine wpAny_bind (v.fin free (v.itE (v.itE (v.itE ib n1.extBut ap.i2z) n2.extBut ap.i12.symm) n3.extBut ap.TOi2.symm) (v.sqE (v.sqE (v.sqE sm n1.extBut ap.l2z) n2.extBut ap.l2i1) n3.extBut ap.l2TO) ey fun g4 e n4 ⟨oe, ge, ce⟩ => ?_)
    have z4 : IsZip g4 z P O Value.ellipsis := n4 _ _ ap.i2z.symm (n3.extBut _ _ ap.TOz.symm (n2.extBut _ _ ap.i1z.symm z1))
    have ne : e ≠ z := fun h => by subst h; rw [z4] at ge; cases ge; simp at ce
    exact wpAny_setField_rec z4 (by simp) fun g5 _ n5 => kE g5 e (fun c o d1 d2 d3 d4 h => n5.extBut _ _ d1 (n4 _ _ d4 (n3.extBut _ _ d2 (n2.extBut _ _ d3 (n1.extBut _ _ d1 h))))) ⟨oe, n5.extBut _ _ ne ge, ce⟩
end
end DV
namespace DV
open PySem PySem.Spec PyProof.Rows L2
/-! ## zip of a tuple and a list -/
abbrev zm1 (g : Heap) (l : Addr) : Heap := g.push { cls := Value.type "tuple_iterator", data := Data.fields #[Value.ref l, Value.int 0 0] }
abbrev zm2 (g : Heap) (l m : Addr) : Heap := (zm1 g l).push { cls := Value.type "list_iterator", data := Data.fields #[Value.ref m, Value.int 0 0] }
abbrev zm3 (g : Heap) (l m : Addr) : Heap := (zm2 g l m).push { cls := Value.type "tuple", data := Data.seq #[Value.ref g.objs.size, Value.ref (zm1 g l).objs.size] }
abbrev zm4 (g : Heap) (l m : Addr) : Heap := (zm3 g l m).push { cls := Value.type "tuple", data := Data.seq #[Value.none, Value.none] }
abbrev zm5 (g : Heap) (l m : Addr) : Heap := (zm4 g l m).push { cls := Value.type "zip", data := Data.fields #[Value.none, Value.bool false, Value.bool false, Value.ref (zm2 g l m).objs.size, Value.ref (zm3 g l m).objs.size] }
theorem new_zipM (l m : Addr) (xs ys : Array Value) :
    Meets (Builtin.«zip.__new__» ⟨[.type "zip", .ref l, .ref m], []⟩) (fun _ R s => s.heap.IsTuple l xs ∧ s.heap.IsList m ys ∧ R (.ok (.ret (.ref (zm4 s.heap l m).objs.size))) { s with heap := zm5 s.heap l m }) :=
  .of_wp fun pg w A R s hyp => by
    obtain ⟨hp, g, d, tk, os⟩ := s
    obtain ⟨j1, j2, hyp⟩ := hyp
    have isz := sub_zip
    have k1 : Heap.IsTuple (Shared.heap ⟨hp, g, d, tk, os⟩) l xs := j1
    have k2 : Heap.IsList (Shared.heap ⟨zm1 hp l, g, d, tk, os⟩) m ys := Heap.IsList.push j2 _
    wp_walk using wpAny_pyIter_tuple k1, wpAny_pyIter_list k2
    exact ⟨_, rfl, hyp⟩
section
variable {pg : Program} {w : World} {A : Around} {E : Value → Shared → Prop} {s : Shared}
theorem call_zipM {l m : Addr} {xs ys : Array Value} {Q : Value → Shared → Prop} (j1 : s.heap.IsTuple l xs) (j2 : s.heap.IsList m ys)
    (h : ∀ g, IsZip g (s.heap.objs.size + 4) (s.heap.objs.size + 2) (s.heap.objs.size + 3) .none → IsPair g (s.heap.objs.size + 2) (.ref s.heap.objs.size) (.ref (s.heap.objs.size + 1)) →
      IsPair g (s.heap.objs.size + 3) .none .none → g.IsTupleIter s.heap.objs.size l 0 → g.IsListIter (s.heap.objs.size + 1) m 0 → g.objs.size = s.heap.objs.size + 5 →
      (∀ c o, s.heap.get? c = some o → g.get? c = some o) → Q (.ref (s.heap.objs.size + 4)) { s with heap := g }) :
    wpAny (model pg w) A (call (.type "zip") [.ref l, .ref m]) Q E s := by
  refine callType_new F.called_zip (by decide) (F.typeCall_zip_2 _ _) (F.newCall_zip_2 _ _) (fun o => F.args_object_init_3 o _ _) F.entry_zip_new (new_zipM l m xs ys) ⟨j1, j2, ?_⟩
  have n1 : (zm1 s.heap l).objs.size = s.heap.objs.size + 1 := Heap.size_push ..
  have n2 : (zm2 s.heap l m).objs.size = s.heap.objs.size + 2 := by rw [Heap.size_push, n1]
  have n3 : (zm3 s.heap l m).objs.size = s.heap.objs.size + 3 := by rw [Heap.size_push, n2]
  have n4 : (zm4 s.heap l m).objs.size = s.heap.objs.size + 4 := by rw [Heap.size_push, n3]
  have n5 : (zm5 s.heap l m).objs.size = s.heap.objs.size + 5 := by rw [Heap.size_push, n4]
  have up : ∀ {c o}, (zm4 s.heap l m).get? c = some o → (zm5 s.heap l m).get? c = some o := fun e => Heap.get?_push_of_some _ e
  have a5 : (zm5 s.heap l m).get? (zm4 s.heap l m).objs.size = some _ := Heap.get?_push_size _ rfl
  have a4 : (zm5 s.heap l m).get? (zm3 s.heap l m).objs.size = some _ := up (Heap.get?_push_size _ rfl)
  have a3 : (zm5 s.heap l m).get? (zm2 s.heap l m).objs.size = some _ := up (Heap.get?_push_of_some _ (Heap.get?_push_size _ rfl))
  have a2 : (zm5 s.heap l m).get? (zm1 s.heap l).objs.size = some _ := up (Heap.get?_push_of_some _ (Heap.get?_push_of_some _ (Heap.get?_push_size _ rfl)))
  have a1 : (zm5 s.heap l m).get? s.heap.objs.size = some _ := up (Heap.get?_push_of_some _ (Heap.get?_push_of_some _ (Heap.get?_push_of_some _ (Heap.get?_push_size _ rfl))))
  show _ ∧ _
  rw [n2, n3, n4] at a5; rw [n1, n2] at a3; rw [n3] at a4; rw [n1] at a2; rw [n4]
  exact ⟨⟨_, a5, rfl⟩, h _ a5 a3 a4 ⟨_, a1, rfl, rfl⟩ ⟨_, a2, rfl, rfl⟩ n5 fun c o e => up (Heap.get?_push_of_some _ (Heap.get?_push_of_some _ (Heap.get?_push_of_some _ (Heap.get?_push_of_some _ e))))⟩
variable {u v : Sk}
theorem nextK_item {z P O a b l m : Addr} {j k : Nat} {xs ys : Array Value} {x y p q : Value} {Q : Option Value → Shared → Prop} (ap : ZipApart z P O a b l m)
    (iz : IsZip s.heap z P O .none) (iP : IsPair s.heap P (.ref a) (.ref b)) (iO : IsPair s.heap O p q) (ia : u.It s.heap a l j) (ib : v.It s.heap b m k) (sl : u.Sq s.heap l xs) (sm : v.Sq s.heap m ys) (ex : xs[j]? = some x) (ey : ys[k]? = some y)
    (kQ : ∀ g, IsZip g z P O (rawInt s.heap.objs.size) → IsPair g O x y → u.It g a l (j + 1) → v.It g b m (k + 1) → IsPair g s.heap.objs.size x y → g.objs.size = s.heap.objs.size + 1 →
      (∀ c o, c ≠ z → c ≠ O → c ≠ a → c ≠ b → s.heap.get? c = some o → g.get? c = some o) → Q (some (.ref s.heap.objs.size)) { s with heap := g }) : wpAny (model pg w) A (pyNext (.ref z)) Q E s := by
  have ty : s.TypeIs (.ref z) "zip" := ⟨_, iz, rfl⟩
  unfold pyNext
  refine wpAny_bind (wpAny_attempt (wpAny_callSpecial?_slot (name := Str.ofString "__next__") ty F.slot_zip_next (wpAny_call_entry F.slot_zip_next ty F.entry_zip_next ?_ (F.args_zip_next_1 _))))
  exact zipK_item ap iz iP iO ia ib sl sm ex ey fun g b1 b2 b3 b4 b5 b6 b7 => wpAny_pure (kQ g b1 b2 b3 b4 b5 b6 b7)
theorem nextK_end {z P O a b l m : Addr} {j k : Nat} {xs ys : Array Value} {p q : Value} {Q : Option Value → Shared → Prop} (free : A.handled = none) (ap : ZipApart z P O a b l m)
    (iz : IsZip s.heap z P O .none) (iP : IsPair s.heap P (.ref a) (.ref b)) (iO : IsPair s.heap O p q) (ia : u.It s.heap a l j) (ib : v.It s.heap b m k) (sl : u.Sq s.heap l xs) (sm : v.Sq s.heap m ys) (over : xs[j]? = none ∨ ys[k]? = none)
    (kQ : ∀ g, (∀ c o, c ≠ z → c ≠ O → c ≠ a → c ≠ b → s.heap.get? c = some o → g.get? c = some o) → Q none { s with heap := g }) : wpAny (model pg w) A (pyNext (.ref z)) Q E s := by
  have ty : s.TypeIs (.ref z) "zip" := ⟨_, iz, rfl⟩
  unfold pyNext
  refine wpAny_bind (wpAny_attempt (wpAny_callSpecial?_slot (name := Str.ofString "__next__") ty F.slot_zip_next (wpAny_call_entry F.slot_zip_next ty F.entry_zip_next ?_ (F.args_zip_next_1 _))))
  exact zipK_end free ap iz iP iO ia ib sl sm over fun g e st ⟨o, ho, hc⟩ => wpAny_bind (wpAny_isInstance (T := "StopIteration") (b := true) ⟨o, ho, hc⟩ isSubtype_stop (wpAny_pure (kQ _ st)))
end
/-- the tuple at a and the list at b as they stand at each turn, the items in new pairs -/
def ItM (K : PySem.W.Frag) (a b : Addr) : It :=
  ⟨fun i H => ∃ (xs ys : List V) (x y : V), SqT K H a xs ∧ SqL K H b ys ∧ xs[i]? = some x ∧ ys[i]? = some y,
    fun i H r H' => ∃ T x y, r = .ref T ∧ H T = none ∧ H' = upd H T (.tup [x, y]) ∧ (∀ xs, SqT K H a xs → xs[i]? = some x) ∧ ∀ ys, SqL K H b ys → ys[i]? = some y,
    fun i H => ∃ xs ys : List V, SqT K H a xs ∧ SqL K H b ys ∧ (xs.length ≤ i ∨ ys.length ≤ i)⟩
theorem turn_zipM {P : Program} {w : World} {K : PySem.W.Frag} {elts : List Expr} {kk : Nat} {tpos : Pos} {a b z T O i j : Addr} (ap : ZipApart z T O i j a b) :
    Turn P w K (.Tuple elts kk tpos) (ItM K a b) [z, T, O, i, j] z (fun n g => IsZip g z T O .none ∧ IsPair g T (.ref i) (.ref j) ∧ (∃ x y, IsPair g O x y) ∧ g.IsTupleIter i a n ∧ g.IsListIter j b n) where
  mem := by simp
  obj := fun n g st c hc => by
    obtain ⟨iz, iT, ⟨x, y, iO⟩, ⟨o1, e1, _, d1⟩, ⟨o2, e2, _, d2⟩⟩ := st
    have which : c = z ∨ c = T ∨ c = O ∨ c = i ∨ c = j := by simpa using hc
    rcases which with r | r | r | r | r <;> rw [r]
    · exact ⟨_, iz, fun v q => nomatch q⟩
    · exact ⟨_, iT, fun v q => nomatch q⟩
    · exact ⟨_, iO, fun v q => nomatch q⟩
    · exact ⟨o1, e1, fun v q => by rw [d1] at q; cases q⟩
    · exact ⟨o2, e2, fun v q => by rw [d2] at q; cases q⟩
  keep := fun n g g' st k => by
    obtain ⟨iz, iT, ⟨x, y, iO⟩, i1, i2⟩ := st
    exact ⟨k z (by simp) _ iz, k T (by simp) _ iT, ⟨x, y, k O (by simp) _ iO⟩, i1.at fun o r => k i (by simp) o r, i2.at fun o r => k j (by simp) o r⟩
  item := by
    intro X eP ew eK hc n pins s σ H E I hf st hg
    subst eP ew eK
    obtain ⟨iz, iT, ⟨x0, y0, iO⟩, i1, i2⟩ := st
    obtain ⟨xs, ys, x, y, qx, qy, hx, hy⟩ := hg
    obtain ⟨as, rv, p, _⟩ := I.tuple qx
    obtain ⟨bs, rv2, p2, _⟩ := I.list qy
    obtain ⟨u, hu, ru⟩ := rv.get hx
    obtain ⟨u2, hu2, ru2⟩ := rv2.get hy
    have zl : z < s.heap.objs.size := Heap.lt_size iz
    refine nextK_item (u := skT) (v := skL) ap iz iT iO i1 i2 p p2.isList (x := u) (y := u2) (by simpa using hu) (by simpa using hu2) fun g z' O' i1' i2' hT sz hk => ?_
    refine ⟨_, rfl, wpAny_letOwnedTupleGo_zip (s := { s with heap := g }) z' fun g2 z2 sb => ?_⟩
    have hT2 : g2.get? s.heap.objs.size = some { cls := .type "tuple", data := .seq #[u, u2] } := (sb.2 _ (Nat.ne_of_gt zl)).trans hT
    have fresh : ObjOk X.prog X.w (upd H s.heap.objs.size (.tup [x, y])) g2 s.heap.objs.size (.tup [x, y]) := ⟨(show 2 ≤ sizeLine by decide), [u, u2], .cons ru (.cons ru2 .nil), ⟨_, hT2, rfl, _, rfl⟩⟩
    have out : ∀ {c : Addr}, c ∉ [z, T, O, i, j] → c ≠ z ∧ c ≠ T ∧ c ≠ O ∧ c ≠ i ∧ c ≠ j := fun h => by simpa only [List.mem_cons, List.not_mem_nil, or_false, not_or] using h
    have I1 : Inv X pins σ (upd H s.heap.objs.size (.tup [x, y])) { s with heap := g2 } :=
      I.turnedNew (t' := s.toks) (ch := [z, T, O, i, j]) (fun c o hb q => (sb.2 c (out hb).1).trans (hk c o (out hb).1 (out hb).2.2.1 (out hb).2.2.2.1 (out hb).2.2.2.2 q)) hf (Nat.le_refl _) fresh
    refine ⟨.ref s.heap.objs.size, _, I1, rfl, ⟨_, x, y, rfl, I.hok.fresh (Nat.le_refl _), rfl, fun l hl => by rw [I.tuple_inj hl qx]; exact hx, fun l hl => by rw [I.list_inj hl qy]; exact hy⟩, ⟨z2, ?_, ⟨u, u2, ?_⟩, ?_, ?_⟩, fun c hcm => ?_⟩
    · exact (sb.2 _ ap.TIz).trans (hk _ _ ap.TIz ap.TITO ap.TIi1 ap.TIi2 iT)
    · exact (sb.2 _ ap.TOz).trans O'
    · exact Heap.IsTupleIter.at i1' fun o q => (sb.2 _ ap.i1z).trans q
    · exact Heap.IsListIter.at i2' fun o q => (sb.2 _ ap.i2z).trans q
    · have lt : c < s.heap.objs.size := by
        have which : c = z ∨ c = T ∨ c = O ∨ c = i ∨ c = j := by simpa using hcm
        rcases which with r | r | r | r | r <;> rw [r]
        · exact zl
        · exact Heap.lt_size iT
        · exact Heap.lt_size iO
        · obtain ⟨_, e1, _⟩ := i1; exact Heap.lt_size e1
        · obtain ⟨_, e2, _⟩ := i2; exact Heap.lt_size e2
      rw [upd_ne (Nat.ne_of_lt lt)]
      exact (hf c hcm).1
  done := by
    intro X eP ew eK hc n pins s σ H E I hf st hg
    subst eP ew eK
    obtain ⟨iz, iT, ⟨x0, y0, iO⟩, i1, i2⟩ := st
    obtain ⟨xs, ys, qx, qy, over⟩ := hg
    obtain ⟨as, rv, p, _⟩ := I.tuple qx
    obtain ⟨bs, rv2, p2, _⟩ := I.list qy
    have l1 := rv.length
    have l2 := rv2.length
    have out : ∀ {c : Addr}, c ∉ [z, T, O, i, j] → c ≠ z ∧ c ≠ T ∧ c ≠ O ∧ c ≠ i ∧ c ≠ j := fun h => by simpa only [List.mem_cons, List.not_mem_nil, or_false, not_or] using h
    have he : as.toArray[n]? = none ∨ bs.toArray[n]? = none := over.imp (fun q => by simp; omega) fun q => by simp; omega
    exact nextK_end (u := skT) (v := skL) (I.ok.hd hc) ap iz iT iO i1 i2 p p2.isList he fun g hk => ⟨rfl, I.turnedL (t' := s.toks) (ch := [z, T, O, i, j]) (fun c o hb q => hk c o (out hb).1 (out hb).2.2.1 (out hb).2.2.2.1 (out hb).2.2.2.2 q) hf⟩
  self := fun A n s Q E st h => wpAny_pyIter_zip st.1 h
def iZipM (K : PySem.W.Frag) (ta : TA) : TI := fun σ H R => ta σ H fun vs H1 => ∃ a b xs ys, vs = [.ref a, .ref b] ∧ SqT K H1 a xs ∧ SqL K H1 b ys ∧ R (ItM K a b) H1
theorem pi_zipM {X : Cx} {e e2 : Expr} {ta : TA} {p pos tpos : Pos} {elts : List Expr} {kk : Nat} (hg : Gl X "zip") (hm : X.mg "zip" = none) (ha : PA X [e, e2] ta)
    (hs : starEach [e, e2] X.env = (false, eval e X.env) :: starEach [e2] X.env := by rfl) (hpl : (backTo pos (starEach [e2] X.env)).any (·.1) = false := by rfl) :
    PI X (.Tuple elts kk tpos) (.Call (.Name "zip" p) [e, e2] [] pos) (iZipM X.K ta) := by
  refine ⟨fun pins s σ H R I h => Call_ (ld_blt I hg hm PyProof.Rows.boot_zip (PyProof.Rows.callWith_type1 (thn (ha.run pos pins s σ H _ I h) fun us s1 ⟨vs, H1, I1, r1, q1⟩ => ?_) hs hpl))⟩
  obtain ⟨a, b, xs, ys, rfl, qx, qy, q⟩ := q1
  obtain ⟨v1, v2, rfl, c1, c2⟩ : ∃ v1 v2, us = [v1, v2] ∧ RelV (.ref a) v1 ∧ RelV (.ref b) v2 := by
    cases r1 with
    | cons r rr => cases rr with
      | cons r' rr => cases rr; exact ⟨_, _, rfl, r, r'⟩
  cases c1
  cases c2
  have ok5 : ∀ c, c ∈ [s1.heap.objs.size + 4, s1.heap.objs.size + 2, s1.heap.objs.size + 3, s1.heap.objs.size, s1.heap.objs.size + 1] → FpOk X pins H1 c := fun c hcm => by
    have hle : s1.heap.objs.size ≤ c := by
      simp only [List.mem_cons, List.not_mem_nil, or_false] at hcm
      rcases hcm with r | r | r | r | r <;> rw [r]
      · exact Nat.le_add_right _ _
      · exact Nat.le_add_right _ _
      · exact Nat.le_add_right _ _
      · exact Nat.le_refl _
      · exact Nat.le_add_right _ _
    exact I1.fpOk hle (I1.hok.fresh hle)
  obtain ⟨as, rv, p1, _⟩ := I1.tuple qx
  obtain ⟨bs, rv2, p2, _⟩ := I1.list qy
  obtain ⟨o1, ho1, _⟩ := id p1
  refine call_zipM (show s1.heap.IsTuple a as.toArray from p1) p2.isList fun g iz iT iO i1 i2 sz hk => wpAny_pyIter_zip iz ?_
  have I2 : Inv X pins σ H1 { s1 with heap := g } := I1.kept (t' := s1.toks) hk
  exact ⟨s1.heap.objs.size + 4, [s1.heap.objs.size + 4, s1.heap.objs.size + 2, s1.heap.objs.size + 3, s1.heap.objs.size, s1.heap.objs.size + 1], _, _, H1, rfl, I2, turn_zipM (PySem.W.ktu_apart s1.heap.objs.size a b (Heap.lt_size ho1) p2.lt), ⟨iz, iT, ⟨_, _, iO⟩, i1, i2⟩, ok5, q⟩
/-! over data -/
section
variable {X : Cx} {F : Fm} {e e2 : Expr} {pos p tpos : Pos} {t : TA} {d : TDA} {elts : List Expr} {kk : Nat}
theorem wok_zipM {pl : List Pin} {a b : Addr} {xs ys : List PyData} (h1 : TupAt F pl a xs) (h2 : LstAt F pl b ys) : WOk F (ItM F.K a b) (zipD xs ys) pl := by
  refine ⟨fun i pins ρ σ H hp hi O => ?_, fun pins ρ σ H hp O => ?_, fun i pins ρ σ H x H' hp hi O y => ?_⟩
  all_goals
    obtain ⟨us, a1, a2⟩ := h1 pins ρ σ H hp O
    obtain ⟨vs, b1, b2⟩ := h2 pins ρ σ H hp O
    have l1 := a2.length
    have l2 := b2.length
  · rw [zipD_len] at hi
    exact ⟨us, vs, _, _, a1, b1, getL (by omega), getL (by omega)⟩
  · refine ⟨us, vs, a1, b1, ?_⟩
    rw [zipD_len, l1, l2]
    omega
  · obtain ⟨T, u, v, rfl, hT, rfl, f1, f2⟩ := y
    obtain ⟨x, e1, i1⟩ := a2.getV (f1 us a1)
    obtain ⟨y, e2, i2⟩ := b2.getV (f2 vs b1)
    refine ⟨_, zipD_at e1 e2, O.new hT, im_pair hT i1 i2 fun z => ?_⟩
    obtain ⟨o, z⟩ := O.avH z
    rw [hT] at z; cases z
def dZipM (t : TDA) : TDI := fun ρ Q => t ρ fun rs ρ1 => match rs with
  | [r, s] => match seqs ρ1 r, seqs ρ1 s with
    | some (true, xs), some (false, ys) => Q (zipD xs ys) ρ1
    | _, _ => False
  | _ => False
theorem pdi_zipM (hg : Gl X "zip") (hm : X.mg "zip" = none) (ha : PDA X F [e, e2] t d) (hK : X.K = F.K := by rfl)
    (hs : starEach [e, e2] X.env = (false, eval e X.env) :: starEach [e2] X.env := by rfl) (hpl : (backTo pos (starEach [e2] X.env)).any (·.1) = false := by rfl) :
    PDI X F (.Tuple elts kk tpos) (.Call (.Name "zip" p) [e, e2] [] pos) (iZipM F.K t) (dZipM d) := by
  refine ⟨?_, fun pins ρ σ H R O h => ?_, fun ρ Q Q' hq h => ?_⟩
  · have := pi_zipM (elts := elts) (kk := kk) (tpos := tpos) (p := p) (pos := pos) hg hm ha.pa hs hpl
    rw [hK] at this
    exact this
  · refine ha.da.run pins ρ σ H _ O (ha.da.mono _ _ _ (fun rs ρ1 h1 vs H1 O1 R1 => ?_) h)
    split at h1
    · rename_i r s
      split at h1
      · rename_i xs ys e1 e2
        simp only [ROks] at R1
        obtain ⟨v, _, rfl, r1, w, _, rfl, r2, rfl⟩ := R1
        obtain ⟨a, pl, rfl, d1, O2, av2, k1⟩ := seqs_ok O1 r1 e1
        have r2' : ROk F (Av F (pl ++ pins) ρ1 σ) ρ1 σ H1 s w := by rw [av2]; exact r2
        obtain ⟨b, pm, rfl, d2, O3, av3, k2⟩ := seqs_ok O2 r2' e2
        have dd : isD (pm ++ pl) := fun q hq => by
          rcases List.mem_append.mp hq with z | z
          · exact d2 q z
          · exact d1 q z
        have O4 : Ok F ((pm ++ pl) ++ pins) ρ1 σ H1 := by rw [List.append_assoc]; exact O3
        have in1 : ∀ q ∈ pl, q ∈ pm ++ pl := fun q hq => List.mem_append_right _ hq
        have in2 : ∀ q ∈ pm, q ∈ pm ++ pl := fun q hq => List.mem_append_left _ hq
        have in3 : ∀ q ∈ pm ++ pl, q ∈ (pm ++ pl) ++ pins := fun q hq => List.mem_append_left _ hq
        have k1 : TupAt F pl a xs := by simpa using k1
        have k2 : LstAt F pm b ys := by simpa using k2
        obtain ⟨us, a1, _⟩ := k1.up in1 _ _ _ _ in3 O4
        obtain ⟨vs, b1, _⟩ := k2.up in2 _ _ _ _ in3 O4
        exact ⟨a, b, us, vs, rfl, a1, b1, h1 _ H1 (pm ++ pl) (wok_zipM (k1.up in1) (k2.up in2)) dd O4⟩
      · exact h1.elim
    · exact h1.elim
  · refine ha.da.mono _ _ _ (fun rs ρ1 h1 => ?_) h
    revert h1
    split
    · split
      · exact fun h1 => hq _ _ h1
      · exact fun h1 => h1
    · exact fun h1 => h1
end
end DV
namespace DV
open PySem PySem.Spec PyProof.Rows L2
open scoped Rat
/-! ## where it is not enough there is a worst couple: from some number on -/
/-- what is left of the gap is nothing, as all are integers -/
theorem near_enough {c f w : Int} {P Q th : Rat} (hc : 0 ≤ c) (hf : 0 ≤ f) (h0 : 0 ≤ P) (h1 : 0 ≤ Q) (hP : ((c : Int) : Rat) ≤ P * P) (hQ : ((f : Int) : Rat) - th ≤ Q * Q) (t0 : 0 ≤ th) (hw : ((w : Int) : Rat) + th ≥ P * P - ((c : Int) : Rat) + (Q * Q - ((f : Int) : Rat) + th) + 2 * (P * Q))
    (small : 4 * (((c : Int) : Rat) * th) + 2 * (th * ((w : Int) : Rat)) + th * th < 1) (t1 : th < 1) : 0 ≤ w ∧ 4 * (c * f) ≤ w * w := by
  have pq := Rat.mul_nonneg h0 h1
  have c0 : (0 : Rat) ≤ ((c : Int) : Rat) := by have := Rat.intCast_le_intCast.mpr hc; simpa using this
  have a1 : 2 * (P * Q) ≤ ((w : Int) : Rat) + th := by grind
  have w0 : 0 ≤ w := by
    have : ((-1 : Int) : Rat) < ((w : Int) : Rat) := by
      have : ((-1 : Int) : Rat) = -1 := rfl
      grind
    have := Rat.intCast_lt_intCast.mp this
    omega
  refine ⟨w0, ?_⟩
  have b1 := rmul (rsq Q) hP
  have b2 := rmul c0 hQ
  have b3 : (2 * (P * Q)) * (2 * (P * Q)) ≤ (((w : Int) : Rat) + th) * (((w : Int) : Rat) + th) := by
    have x := rmul (show 0 ≤ 2 * (P * Q) by grind) a1
    have y := rmul (show 0 ≤ ((w : Int) : Rat) + th by grind) a1
    grind
  have b4 : 4 * (((c : Int) : Rat) * ((f : Int) : Rat)) - 1 < ((w : Int) : Rat) * ((w : Int) : Rat) := by grind
  have e : ((4 * (c * f) - 1 : Int) : Rat) < ((w * w : Int) : Rat) := by
    simp only [Rat.intCast_sub, Rat.intCast_mul, Rat.intCast_ofNat]
    exact b4
  have := Rat.intCast_lt_intCast.mp e
  omega
theorem worst_core {S R L T rho y ep f : Rat} (hT : 0 < T) (hL : 0 ≤ L) (hy : 0 ≤ y) (he : 0 ≤ ep) (e : rho * T = L) (hq : rho * y ≤ S) (hR : 2 * (R * R) ≤ (S - rho * y) * (S - rho * y)) (hf0 : 0 ≤ f) (hf : f ≤ (y + ep) * (y + ep)) (hB : 1 ≤ S * T)
    (hs : L * ep * ((2 * (S * T) + 1) * (6 * (S * T * (S * T)) + 1)) < 1) :
    0 ≤ (S - rho * y) * T ∧ 0 ≤ L * y ∧ 2 * (R * R) * (T * T) ≤ (S - rho * y) * T * ((S - rho * y) * T) ∧ L * L * f - L * ep * (2 * (S * T) + L * ep) ≤ L * y * (L * y) ∧ 0 ≤ L * ep * (2 * (S * T) + L * ep) ∧
      ((S - rho * y) * T + L * y = S * T) ∧ L * ep * (2 * (S * T) + L * ep) < 1 ∧ L * ep * (2 * (S * T) + L * ep) * (6 * (S * T * (S * T)) + 1) < 1 := by
  have n0 : 0 ≤ L * ep := Rat.mul_nonneg hL he
  have d0 : 0 ≤ S - rho * y := by grind
  have p0 : 0 ≤ (S - rho * y) * T := Rat.mul_nonneg d0 (Rat.le_of_lt hT)
  have q0 : 0 ≤ L * y := Rat.mul_nonneg hL hy
  have sum : (S - rho * y) * T + L * y = S * T := by grind
  have bb : 1 ≤ 6 * (S * T * (S * T)) + 1 := by have := rsq (S * T); grind
  have k0 : 0 ≤ L * ep * (2 * (S * T) + 1) := Rat.mul_nonneg n0 (by grind)
  have k1 : L * ep * (2 * (S * T) + 1) < 1 := by
    have := rmul k0 bb
    grind
  have n1 : L * ep ≤ 1 := by
    have := rmul n0 (show 1 ≤ 2 * (S * T) + 1 by grind)
    grind
  have th : L * ep * (2 * (S * T) + L * ep) ≤ L * ep * (2 * (S * T) + 1) := rmul n0 (by grind)
  have th0 : 0 ≤ L * ep * (2 * (S * T) + L * ep) := Rat.mul_nonneg n0 (by grind)
  refine ⟨p0, q0, ?_, ?_, th0, sum, by grind, ?_⟩
  · have := rmul (Rat.mul_nonneg (Rat.le_of_lt hT) (Rat.le_of_lt hT)) hR
    grind
  · have a := rmul (Rat.mul_nonneg hL hL) hf
    have b := rmul n0 (show L * y ≤ S * T by grind)
    grind
  · have := rmul (show 0 ≤ 6 * (S * T * (S * T)) + 1 by grind) th
    grind
theorem sc1 {n ep f l : Rat} (h : ep * n = 1) (h0 : 0 ≤ ep) (hl : n * n * f < (l + 1) * (l + 1)) : f ≤ (l * ep + ep) * (l * ep + ep) := by
  have a := rmul (rsq ep) (Rat.le_of_lt hl)
  have e : ep * ep * (n * n * f) = (ep * n) * (ep * n) * f := by grind
  rw [e, h] at a
  grind
theorem sc2 {n ep R S r l : Rat} (h : ep * n = 1) (hd : 2 * n * R * (2 * n * R) ≤ 2 * ((n * S - r * l) * (n * S - r * l))) : 2 * (R * R) ≤ (S - r * (l * ep)) * (S - r * (l * ep)) := by
  have a := rmul (rsq ep) hd
  have e1 : ep * ep * (2 * n * R * (2 * n * R)) = 4 * ((ep * n) * (ep * n)) * (R * R) := by grind
  have e2 : ep * ep * (2 * ((n * S - r * l) * (n * S - r * l))) = 2 * (((ep * n) * S - r * (l * ep)) * ((ep * n) * S - r * (l * ep))) := by grind
  rw [e1, e2, h] at a
  grind
theorem sc3 {n ep S r l : Rat} (h : ep * n = 1) (h0 : 0 ≤ ep) (hq : r * l ≤ n * S) : r * (l * ep) ≤ S := by
  have a := rmul h0 hq
  have e : ep * (n * S) = (ep * n) * S := by grind
  rw [e, h] at a
  grind
theorem sc4 {n ep L K : Rat} (h : ep * n = 1) (h0 : 0 ≤ ep) (hn : L * K + 1 ≤ n) : L * ep * K < 1 := by
  have epp : 0 < ep := by
    rcases Rat.le_iff_lt_or_eq.mp h0 with z | z
    · exact z
    · rw [← z] at h; grind
  have a := rmul h0 hn
  rw [h] at a
  grind
/-- the number from which on the couple is one -/
def wN (b : Bn) (t : Int) : Int := b.lag * (2 * (b.sp * t) + 1) * (6 * (b.sp * t * (b.sp * t)) + 1) + 1
theorem worst_near {b : Bn} {t n l : Int} (ok : BnOk b) (ht : 1 ≤ t) (hlt : b.lag ≤ t) (hne : ¬ enough b t) (hn : wN b t ≤ n) (l0 : 0 ≤ l) (hl : n * n * (2 * b.way * b.way - b.sp * b.sp) < (l + 1) * (l + 1))
    (hq : rhoT b t * ((l : Int) : Rat) ≤ ((n * b.sp : Int) : Rat)) :
    2 * ((((n * b.sp : Int) : Rat) - rhoT b t * ((l : Int) : Rat)) * (((n * b.sp : Int) : Rat) - rhoT b t * ((l : Int) : Rat))) < ((2 * n * b.r * (2 * n * b.r) : Int) : Rat) := by
  refine Rat.not_le.mp fun hge => hne ?_
  have lg := ok.lag0
  have s0 := ok.sp0
  have r0 := ok.r0
  have fz := flw_nn (b := b) (by omega) ok.way0
  have bst : 1 ≤ b.sp * t := by
    have := Int.mul_le_mul s0 ht (by omega) (by omega)
    omega
  have B0 : 0 ≤ b.lag * (2 * (b.sp * t) + 1) * (6 * (b.sp * t * (b.sp * t)) + 1) := Int.mul_nonneg (Int.mul_nonneg lg.1 (by omega)) (by have := isq_nn (b.sp * t); omega)
  have n1 : 1 ≤ n := by unfold wN at hn; omega
  have np : (0 : Rat) < ((n : Int) : Rat) := by have := Rat.intCast_lt_intCast.mpr (show (0 : Int) < n by omega); simpa using this
  have tp : (0 : Rat) < ((t : Int) : Rat) := by have := Rat.intCast_lt_intCast.mpr (show (0 : Int) < t by omega); simpa using this
  have e := rho_mul (b := b) (t := t) (by omega)
  have lr : (0 : Rat) ≤ ((b.lag : Int) : Rat) := by have := Rat.intCast_le_intCast.mpr lg.1; simpa using this
  have ll : (0 : Rat) ≤ ((l : Int) : Rat) := by have := Rat.intCast_le_intCast.mpr l0; simpa using this
  have hb : (1 : Rat) ≤ ((b.sp : Int) : Rat) * ((t : Int) : Rat) := by have := Rat.intCast_le_intCast.mpr bst; rw [Rat.intCast_mul] at this; simpa using this
  have hn' := Rat.intCast_le_intCast.mpr hn
  have hl' := Rat.intCast_lt_intCast.mpr hl
  rw [Rat.intCast_mul (n * n) _, Rat.intCast_mul n n, Rat.intCast_mul (l + 1) (l + 1), Rat.intCast_add l 1, show ((1 : Int) : Rat) = 1 from rfl] at hl'
  have f0' : (0 : Rat) ≤ ((2 * b.way * b.way - b.sp * b.sp : Int) : Rat) := by
    have : 0 ≤ 2 * b.way * b.way - b.sp * b.sp := by
      have := sq_le (x := b.sp) (y := b.way) (by omega) ok.way0
      have := isq_nn b.way
      grind
    have := Rat.intCast_le_intCast.mpr this
    simpa using this
  unfold wN at hn'
  have fle : ((flw b : Int) : Rat) = ((b.lag : Int) : Rat) * ((b.lag : Int) : Rat) * ((2 * b.way * b.way - b.sp * b.sp : Int) : Rat) := by
    unfold flw; simp only [Rat.intCast_mul]
  have lfe : ((lft b t : Int) : Rat) = ((t : Int) : Rat) * ((t : Int) : Rat) * (((b.sp : Int) : Rat) * ((b.sp : Int) : Rat) - 2 * ((b.r : Int) : Rat) * ((b.r : Int) : Rat)) - ((flw b : Int) : Rat) := by
    unfold lft; simp only [Rat.intCast_mul, Rat.intCast_sub, Rat.intCast_ofNat]
  have cle : ((2 * b.r * b.r * (t * t) : Int) : Rat) = 2 * (((b.r : Int) : Rat) * ((b.r : Int) : Rat)) * (((t : Int) : Rat) * ((t : Int) : Rat)) := by
    simp only [Rat.intCast_mul, Rat.intCast_ofNat]; grind
  have f1 : (0 : Rat) ≤ ((flw b : Int) : Rat) := by have := Rat.intCast_le_intCast.mpr fz; simpa using this
  rw [fle] at lfe f1
  generalize ((2 * b.way * b.way - b.sp * b.sp : Int) : Rat) = f at *
  simp only [Rat.intCast_mul, Rat.intCast_sub, Rat.intCast_ofNat, Rat.intCast_add] at hn' hq hge
  have goal : 0 ≤ lft b t ∧ 4 * (2 * b.r * b.r * (t * t) * flw b) ≤ lft b t * lft b t := by
    obtain ⟨ep, hep⟩ : ∃ ep : Rat, ep * ((n : Int) : Rat) = 1 := ⟨1 / ((n : Int) : Rat), by grind⟩
    have ep0 : 0 ≤ ep := by
      refine Rat.not_lt.mp fun z => ?_
      have := Rat.mul_lt_mul_of_pos_right z np
      grind
    have hfy := sc1 hep ep0 hl'
    have hRy := sc2 hep hge
    have hqy := sc3 hep ep0 hq
    have hsm := sc4 (L := ((b.lag : Int) : Rat)) (K := (2 * (((b.sp : Int) : Rat) * ((t : Int) : Rat)) + 1) * (6 * (((b.sp : Int) : Rat) * ((t : Int) : Rat) * (((b.sp : Int) : Rat) * ((t : Int) : Rat))) + 1)) hep ep0 (by rw [← Rat.mul_assoc]; exact hn')
    obtain ⟨c1, c2, c3, c4, c5, c6, c7, c8⟩ := worst_core tp lr (Rat.mul_nonneg ll ep0) ep0 e hqy hRy f0' hfy hb hsm
    refine near_enough (P := (((b.sp : Int) : Rat) - rhoT b t * (((l : Int) : Rat) * ep)) * ((t : Int) : Rat)) (Q := ((b.lag : Int) : Rat) * (((l : Int) : Rat) * ep)) (th := ((b.lag : Int) : Rat) * ep * (2 * (((b.sp : Int) : Rat) * ((t : Int) : Rat)) + ((b.lag : Int) : Rat) * ep))
      (Int.mul_nonneg (by have := isq_nn b.r; grind) (isq_nn t)) fz c1 c2 ?_ ?_ c5 ?_ ?_ c7
    · rw [cle]; exact c3
    · rw [fle]; exact c4
    · rw [cle, fle, lfe]
      generalize (((b.sp : Int) : Rat) - rhoT b t * (((l : Int) : Rat) * ep)) * ((t : Int) : Rat) = P at *
      generalize ((b.lag : Int) : Rat) * (((l : Int) : Rat) * ep) = Q at *
      have : (P + Q) * (P + Q) = ((b.sp : Int) : Rat) * ((t : Int) : Rat) * (((b.sp : Int) : Rat) * ((t : Int) : Rat)) := by rw [c6]
      grind
    · rw [cle, lfe]
      generalize ((b.lag : Int) : Rat) * ep * (2 * (((b.sp : Int) : Rat) * ((t : Int) : Rat)) + ((b.lag : Int) : Rat) * ep) = th at *
      have cB : 2 * (((b.r : Int) : Rat) * ((b.r : Int) : Rat)) * (((t : Int) : Rat) * ((t : Int) : Rat)) ≤ ((b.sp : Int) : Rat) * ((t : Int) : Rat) * (((b.sp : Int) : Rat) * ((t : Int) : Rat)) := by
        generalize (((b.sp : Int) : Rat) - rhoT b t * (((l : Int) : Rat) * ep)) * ((t : Int) : Rat) = P at *
        generalize ((b.lag : Int) : Rat) * (((l : Int) : Rat) * ep) = Q at *
        have x := Rat.mul_nonneg c1 c2
        have y := rsq Q
        rw [← c6]
        grind
      have r2 := rsq ((b.r : Int) : Rat)
      have t2 := rsq ((t : Int) : Rat)
      have c0 : 0 ≤ 2 * (((b.r : Int) : Rat) * ((b.r : Int) : Rat)) * (((t : Int) : Rat) * ((t : Int) : Rat)) := Rat.mul_nonneg (by grind) t2
      have x1 := rmul c5 cB
      have x2 := rmul c5 f1
      have x3 := rmul c5 (Rat.le_of_lt c7)
      have x4 := rmul c5 c0
      grind
  unfold enough
  have e2 : 8 * b.r * b.r * t * t * flw b = 4 * (2 * b.r * b.r * (t * t) * flw b) := by grind
  rw [e2]
  exact goal
end DV
namespace DV
open PySem PySem.Spec PyProof.Rows L2
open scoped Rat
/-! ## the worst couple as it is made -/
def xI (b : Bn) (n : Int) : Int := n * n * (2 * b.way * b.way - b.sp * b.sp)
def leadI (b : Bn) (n : Int) : Int := ((Float64.isqrt (xI b n).toNat : Nat) : Int)
def wleg (b : Bn) (n : Int) : Lg := ⟨0, 0, n * b.sp - leadI b n, -(n * b.sp) - leadI b n⟩
def woth (b : Bn) (n : Int) : Lg := ⟨2 * n * b.sp, 0, n * b.sp - leadI b n, n * b.sp - leadI b n⟩
def lesR (p q : Rat) : Rat := if q < p then q else p
def wah (b : Bn) (t n : Int) : Rat := lesR (rhoT b t) ((n * b.sp) /. leadI b n)
def hlf : Rat := 1 /. 2
def wS (b : Bn) (t n : Int) : Rat := hlf * (1 - wah b t n)
def wT (b : Bn) (t n : Int) : Rat := hlf * (1 + wah b t n)
def coupleD (b : Bn) (t n : Int) : PyData := .tuple [.int (2 * n), eL (wleg b n), eL (woth b n), fr (wS b t n), fr (wT b t n)]
def wOk (b : Bn) (t n : Int) : Prop := gsq (wleg b n) (woth b n) (wS b t n) (wT b t n) < ((2 * n * b.r * (2 * n * b.r) : Int) : Rat)
instance {b : Bn} {t n : Int} : Decidable (wOk b t n) := by unfold wOk; infer_instance
structure WsOk (b : Bn) (t n : Int) : Prop where
  ok : BnOk b
  t0 : 1 ≤ t
  t1 : b.lag ≤ t
  t2 : t ≤ 1000000
  n0 : 1 ≤ n
  n1 : n < 2 ^ 95
theorem f0_pos {b : Bn} (ok : BnOk b) : 1 ≤ 2 * b.way * b.way - b.sp * b.sp ∧ 2 * b.way * b.way - b.sp * b.sp ≤ 980000 := by
  have s0 := ok.sp0
  have w0 := ok.way0
  have a := sq_le (x := b.sp) (y := b.way) (by omega) w0
  have c : 0 < b.sp * b.sp := Int.mul_pos (by omega) (by omega)
  have d := sq_le (x := b.way) (y := 700) (by omega) ok.way1
  have e : 2 * b.way * b.way = 2 * (b.way * b.way) := by grind
  omega
theorem WsOk.x0 {b : Bn} {t n : Int} (h : WsOk b t n) : 1 ≤ xI b n := by
  have f := (f0_pos h.ok).1
  have n0 := h.n0
  have nn : 0 < n * n := Int.mul_pos (by omega) (by omega)
  have := Int.mul_pos nn (show 0 < 2 * b.way * b.way - b.sp * b.sp by omega)
  unfold xI; omega
theorem WsOk.lead {b : Bn} {t n : Int} (h : WsOk b t n) : 1 ≤ leadI b n ∧ leadI b n * leadI b n ≤ xI b n ∧ xI b n < (leadI b n + 1) * (leadI b n + 1) := by
  have x0 := h.x0
  obtain ⟨a, c⟩ := Float64.isqrt_spec (xI b n).toNat
  unfold leadI
  generalize Float64.isqrt (xI b n).toNat = r at *
  have a' : ((r : Nat) : Int) * r ≤ xI b n := by
    have : ((r * r : Nat) : Int) ≤ ((xI b n).toNat : Int) := Int.ofNat_le.mpr a
    rw [Int.natCast_mul] at this
    omega
  have c' : xI b n < ((r : Nat) + 1 : Int) * ((r : Nat) + 1) := by
    have : ((xI b n).toNat : Int) < (((r + 1) * (r + 1) : Nat) : Int) := Int.ofNat_lt.mpr c
    rw [Int.natCast_mul] at this
    have e : ((r + 1 : Nat) : Int) = (r : Int) + 1 := rfl
    rw [e] at this
    omega
  refine ⟨?_, a', c'⟩
  by_cases z : r = 0
  · subst z
    have : xI b n < 1 := by simpa using c'
    omega
  · omega
theorem WsOk.lead1 {b : Bn} {t n : Int} (h : WsOk b t n) : leadI b n ≤ 1000 * n := by
  have hl := h.lead
  have n0 := h.n0
  have f := (f0_pos h.ok).2
  by_cases z : leadI b n ≤ 1000 * n
  · exact z
  · exfalso
    have a := sq_le (x := 1000 * n) (y := leadI b n) (by omega) (by omega)
    have nn : 0 < n * n := Int.mul_pos (by omega) (by omega)
    have c : xI b n ≤ n * n * 980000 := Int.mul_le_mul_of_nonneg_left f (by omega)
    have e : 1000 * n * (1000 * n) = 1000000 * (n * n) := by grind
    have e2 : n * n * 980000 = 980000 * (n * n) := by grind
    omega
theorem WsOk.a {b : Bn} {t n : Int} (h : WsOk b t n) : 1 ≤ n * b.sp ∧ n * b.sp ≤ 100 * n := by
  have s0 := h.ok.sp0
  have s1 := h.ok.sp1
  have n0 := h.n0
  have a := Int.mul_le_mul_of_nonneg_left s0 (show 0 ≤ n by omega)
  have c := Int.mul_le_mul_of_nonneg_left s1 (show 0 ≤ n by omega)
  omega
theorem WsOk.ah {b : Bn} {t n : Int} (h : WsOk b t n) : 0 ≤ wah b t n ∧ wah b t n ≤ rhoT b t ∧ rhoT b t ≤ 1 ∧ Sz 110 (wah b t n) := by
  have lg := h.ok.lag0
  have rin : 0 ≤ rhoT b t ∧ rhoT b t ≤ 1 := rho_in lg.1 h.t1 h.t0
  have hl := h.lead
  have hl1 := h.lead1
  have ha := h.a
  have n0 := h.n0
  have n1 := h.n1
  have t0 := h.t0
  have t2 := h.t2
  have rs : Sz 110 (rhoT b t) := (sz_divInt (h.ok.bd.lag) (bd_of (k := 20) (i := t) 1000000 (by omega) (by omega)) (by omega)).up (by decide)
  have as : Sz 110 ((n * b.sp) /. leadI b n) := (sz_divInt (j := 105) (k := 108) (bd_of (100 * 2 ^ 95) (by omega) (by omega)) (bd_of (1000 * 2 ^ 95) (by omega) (by omega)) (by omega)).up (by decide)
  have a0 : 0 ≤ (n * b.sp) /. leadI b n := Rat.divInt_nonneg (by omega) (by omega)
  unfold wah lesR
  split
  · rename_i z
    exact ⟨a0, Rat.le_of_lt z, rin.2, as⟩
  · exact ⟨rin.1, Rat.le_refl, rin.2, rs⟩
theorem half_eq : hlf + hlf = 1 := by unfold hlf; decide +kernel
theorem half_sz : Sz 2 hlf := by unfold hlf; exact (sz_divInt (j := 1) (k := 2) (by unfold Bd; decide) (by unfold Bd; decide) (by decide)).up (by decide)
theorem WsOk.parts {b : Bn} {t n : Int} (h : WsOk b t n) : 0 ≤ wS b t n ∧ wS b t n ≤ 1 ∧ 0 ≤ wT b t n ∧ wT b t n ≤ 1 ∧ Sz 120 (wS b t n) ∧ Sz 120 (wT b t n) ∧ within (wS b t n) (wT b t n) (rhoT b t) := by
  obtain ⟨a0, a1, a2, as⟩ := h.ah
  have hh := half_eq
  have s1 : Sz 120 (wS b t n) := (half_sz.mul ((sz_one (k := 1)).sub as)).up (by decide)
  have s2 : Sz 120 (wT b t n) := (half_sz.mul ((sz_one (k := 1)).add as)).up (by decide)
  have e1 : wS b t n = hlf * (1 - wah b t n) := rfl
  have e2 : wT b t n = hlf * (1 + wah b t n) := rfl
  generalize wah b t n = a at *
  have hf : hlf = 1 / 2 := by grind
  rw [hf] at e1 e2
  have w : within (wS b t n) (wT b t n) (rhoT b t) := by
    refine ⟨by grind, by grind, by grind, by grind, ?_⟩
    unfold rabs
    split <;> grind
  exact ⟨by grind, by grind, by grind, by grind, s1, s2, w⟩
theorem WsOk.lb {b : Bn} {t n : Int} (h : WsOk b t n) : LB 110 (wleg b n) ∧ LB 110 (woth b n) := by
  have hl := h.lead
  have hl1 := h.lead1
  have ha := h.a
  have n0 := h.n0
  have n1 := h.n1
  have e : 2 * n * b.sp = 2 * (n * b.sp) := by grind
  unfold wleg woth
  rw [e]
  generalize n * b.sp = a at *
  generalize leadI b n = l at *
  have z : Bd 110 0 := by unfold Bd; decide
  exact ⟨⟨z, z, bd_of (2000 * 2 ^ 95) (by dsimp only; omega) (by dsimp only; omega), bd_of (2000 * 2 ^ 95) (by dsimp only; omega) (by dsimp only; omega)⟩,
    ⟨bd_of (2000 * 2 ^ 95) (by dsimp only; omega) (by dsimp only; omega), z, bd_of (2000 * 2 ^ 95) (by dsimp only; omega) (by dsimp only; omega), bd_of (2000 * 2 ^ 95) (by dsimp only; omega) (by dsimp only; omega)⟩⟩
/-- what parts both is twice the square of what is left -/
theorem wgsq (b : Bn) (t n : Int) : gsq (wleg b n) (woth b n) (wS b t n) (wT b t n) = 2 * ((((n * b.sp : Int) : Rat) - wah b t n * ((leadI b n : Int) : Rat)) * (((n * b.sp : Int) : Rat) - wah b t n * ((leadI b n : Int) : Rat))) := by
  have hh := half_eq
  have hf : hlf = 1 / 2 := by grind
  have e1 : wS b t n = hlf * (1 - wah b t n) := rfl
  have e2 : wT b t n = hlf * (1 + wah b t n) := rfl
  rw [e1, e2, hf]
  unfold gsq gx gy px py wleg woth
  dsimp only
  have e : 2 * n * b.sp = 2 * (n * b.sp) := by grind
  rw [e]
  generalize n * b.sp = a
  generalize leadI b n = l
  generalize wah b t n = h
  simp only [Rat.intCast_mul, Rat.intCast_sub, Rat.intCast_ofNat, Rat.intCast_neg]
  grind
theorem worst_at {b : Bn} {t n : Int} (h : WsOk b t n) (hne : ¬ enough b t) (hn : wN b t ≤ n) : wOk b t n := by
  have hl := h.lead
  have n0 := h.n0
  have r0 := h.ok.r0
  unfold wOk
  rw [wgsq]
  have lp : (0 : Rat) < ((leadI b n : Int) : Rat) := by have := Rat.intCast_lt_intCast.mpr (show (0 : Int) < leadI b n by omega); simpa using this
  have dv : ((n * b.sp) /. leadI b n) * ((leadI b n : Int) : Rat) = ((n * b.sp : Int) : Rat) := by
    rw [Rat.divInt_eq_div]
    have : ((leadI b n : Int) : Rat) ≠ 0 := rat_ne (by omega)
    grind
  by_cases z : (n * b.sp) /. leadI b n < rhoT b t
  · have e : wah b t n = (n * b.sp) /. leadI b n := by unfold wah lesR; rw [if_pos z]
    rw [e, dv]
    have : (0 : Int) < 2 * n * b.r * (2 * n * b.r) := by
      have : 0 < 2 * n * b.r := Int.mul_pos (by omega) (by omega)
      exact Int.mul_pos this this
    have := Rat.intCast_lt_intCast.mpr this
    have e0 : ((n * b.sp : Int) : Rat) - ((n * b.sp : Int) : Rat) = 0 := by grind
    rw [e0]
    simpa using this
  · have e : wah b t n = rhoT b t := by unfold wah lesR; rw [if_neg z]
    rw [e]
    refine worst_near h.ok h.t0 h.t1 hne hn (by omega) hl.2.2 ?_
    have := Rat.mul_le_mul_of_nonneg_right (Rat.not_lt.mp z) (Rat.le_of_lt lp)
    rw [dv] at this
    exact this
theorem wN_small {b : Bn} {t : Int} (ok : BnOk b) (t0 : 1 ≤ t) (t1 : t ≤ 1000000) : 1 ≤ wN b t ∧ wN b t < 2 ^ 93 := by
  have lg := ok.lag0
  have s0 := ok.sp0
  have s1 := ok.sp1
  have a := Int.mul_le_mul s1 t1 (by omega) (by decide)
  have a0 : 1 ≤ b.sp * t := by have := Int.mul_le_mul s0 t0 (by omega) (by omega); omega
  unfold wN
  generalize b.sp * t = m at *
  have c := sq_le (x := m) (y := 100 * 1000000) (by omega) a
  have c0 := isq_nn m
  have d := Int.mul_le_mul lg.2 (show 2 * m + 1 ≤ 200000001 by omega) (by omega) (by decide)
  have d0 : 0 ≤ b.lag * (2 * m + 1) := Int.mul_nonneg lg.1 (by omega)
  have e := Int.mul_le_mul d (show 6 * (m * m) + 1 ≤ 60000000000000001 by omega) (by omega) (by decide)
  have e0 : 0 ≤ b.lag * (2 * m + 1) * (6 * (m * m) + 1) := Int.mul_nonneg d0 (by omega)
  omega
theorem wd1 (b : Bn) (n : Int) : d2 ((wleg b n).ax, (wleg b n).ay) ((woth b n).ax, (woth b n).ay) = 2 * n * b.sp * (2 * n * b.sp) := by
  unfold d2 wleg woth; dsimp only; grind
theorem wd2 (b : Bn) (n : Int) : d2 ((wleg b n).bx, (wleg b n).by') ((woth b n).bx, (woth b n).by') = 2 * n * b.sp * (2 * n * b.sp) := by
  unfold d2 wleg woth; dsimp only; grind
theorem wtrn (b : Bn) (n : Int) : trn (wleg b n) (woth b n) = 0 := by
  unfold trn wleg woth; dsimp only; grind
theorem wway {b : Bn} {t n : Int} (h : WsOk b t n) : sqw (wleg b n) ≤ 2 * n * b.way * (2 * n * b.way) ∧ sqw (woth b n) ≤ 2 * n * b.way * (2 * n * b.way) := by
  have hl := h.lead.2.1
  unfold xI at hl
  unfold sqw wleg woth
  dsimp only
  generalize leadI b n = l at *
  constructor <;> grind
end DV
namespace DV
open PySem PySem.Spec PyProof.Rows L2
/-! ### x *= e -/
section
variable {X : Cx} {F : Fm} {e : Expr} {te : TE} {de : TDE} {pos : Pos}
def ipM : TIp := fun x y H Q => ∃ i j, x = .int i ∧ y = .int j ∧ CMulW i j ∧ Q (.int (i * j)) H
theorem ip_mulW : PIp X .Mult ipM := by
  intro pins s σ H x y v u Q I r1 r2 h
  obtain ⟨i, j, rfl, rfl, hm, q⟩ := h
  obtain ⟨t, rfl⟩ := r1
  obtain ⟨t', rfl⟩ := r2
  exact imul_int ⟨.int _, H, I.tok _, ⟨_, rfl⟩, q⟩ hm.ok
def dMulA (i : Nat) (te : TDE) : TDS := fun DD ρ => onInt ρ (.o i) fun n => te ρ fun r ρ1 => onInt ρ1 r fun m => CMulW n m ∧ DD.nx (ρ1.set i (some (.d (.int (n * m)))))
theorem ds_mul {i : Nat} {x : Str} {p2 : Pos} (hN : X.N.Nodup) (he : PD X F e te de) (hf : ¬ F.fix i) (hi : X.N[i]? = some x := by rfl) (hx : Loc X.env.scope x := by first | exact Or.inl rfl | exact Or.inr rfl) (hfn : X.fn x = true ∨ X.env.scope.names.lookup x = some .local := by first | exact .inl rfl | exact .inr rfl) :
    PDS X F (.AugAssign (.Name x p2) .Mult e pos) (tAug i te ipM) (dMulA i de) := by
  refine ⟨ps_aug hN hi hx he.pe ip_mulW hfn, fun pins ρ σ H D DD O S R h => ?_⟩
  obtain ⟨n, e1, h⟩ := onInt_of h
  have e1 : slot ρ i = some (.int n) := e1
  have hs : ∃ v, σ[i]? = some (some v) := by
    unfold slot at e1
    split at e1
    · rename_i y q
      obtain ⟨v, h1, _⟩ := O.ent i _ q; exact ⟨v, h1⟩
    · cases e1
    · rename_i y q
      obtain ⟨v, h1, _⟩ := O.ent i _ q; exact ⟨v, h1⟩
    · cases e1
  obtain ⟨v, hv⟩ := hs
  cases dp_int (slot_dp O hv e1)
  refine ⟨.int n, hv, ?_⟩
  refine he.de.run pins ρ σ H _ O (he.de.mono _ _ _ (fun r ρ1 h1 u H1 O1 R1 => ?_) h)
  obtain ⟨m, e2, hm, h2⟩ := onInt_of h1
  cases dp_int (val_dp O1 R1 e2)
  exact ⟨n, m, rfl, rfl, hm, R.nx _ _ _ (O1.put (S.fr hf) (fun _ z => by cases z) fun g e => by cases e; exact ⟨_, rfl, by simp only [EntOk, Im]⟩) h2⟩
end
end DV
namespace DV
open PySem PySem.Spec PyProof.Rows L2
/-! ### x, y, .. = a list -/
section
variable {X : Cx} {F : Fm} {pos : Pos}
def dgUnl (n : Nat) (gs : List PyData → Rho → (Rho → Prop) → Prop) : TDGt := fun r ρ P => match r with
  | .d (.list xs) => xs.length = n ∧ gs xs ρ P
  | _ => False
theorem dg_unl {n : Nat} {gs : TGs} {dgs : List PyData → Rho → (Rho → Prop) → Prop} {s : List Nat} (h : DGs F gs dgs s) : DG F (gUnl F.K n gs) (dgUnl n dgs) s := by
  constructor
  · intro pins ρ σ H v r Q P O hf Rv hd k
    unfold dgUnl at hd
    split at hd
    · rename_i xs
      have Rv : Im F.K (Av F pins ρ σ) H (.list xs) v := Rv
      simp only [Im] at Rv
      obtain ⟨a, vs, rfl, l, im⟩ := Rv
      exact ⟨a, vs, rfl, l.sq, by rw [im.length]; exact hd.1, h.run pins ρ σ H vs xs Q P O hf im hd.2 k⟩
    · exact hd.elim
  · intro r ρ P P' hp hd
    unfold dgUnl at hd ⊢
    split at hd
    · exact ⟨hd.1, h.mono _ _ _ _ hp hd.2⟩
    · exact hd.elim
theorem pgd_unl {tgs : List Expr} {k n : Nat} {gs : TGs} {dgs : List PyData → Rho → (Rho → Prop) → Prop} {s : List Nat} (hc : X.calm = true) (h : PDGs X F tgs gs dgs s) (hK : X.K = F.K := by rfl)
    (hn : (assignEach tgs X.env).length = n := by rfl) (hst : (assignEach tgs X.env).findIdx? (·.1) = none := by rfl) : PDG X F (.Tuple tgs k pos) (gUnl F.K n gs) (dgUnl n dgs) s := by
  refine ⟨?_, dg_unl h.dgs⟩
  have := pg_unl (pos := pos) (k := k) hc h.pgs hn hst
  rw [hK] at this
  exact this
end
end DV
namespace DV
open PySem PySem.Spec PyProof.Rows L2
/-! ## rows of depth: how many lie within a window, and colours for them -/
theorem filter_mono {α : Type} {p q : α → Bool} (h : ∀ x, p x = true → q x = true) : ∀ xs : List α, (xs.filter p).length ≤ (xs.filter q).length
  | [] => Nat.le_refl _
  | x :: xs => by
    have ih := filter_mono h xs
    rw [List.filter_cons, List.filter_cons]
    cases hp : p x with
    | true => rw [h x hp]; simpa using ih
    | false =>
      simp only [Bool.false_eq_true, if_false]
      split
      · rw [List.length_cons]; omega
      · exact ih
def win (xs : List Int) (sp y : Int) : List Int := xs.filter fun x => decide (y ≤ x ∧ x < y + sp)
def HasC (xs : List Int) (sp : Int) (n : Nat) : Prop := ∃ y, n ≤ (win xs sp y).length
/-- rows for the xs: below k, unlike where the later x is less than sp behind -/
structure ColL (xs : List Int) (sp : Int) (k : Nat) (rs : List Int) : Prop where
  len : rs.length = xs.length
  rng : ∀ r ∈ rs, 0 ≤ r ∧ r < k
  un : ∀ (i j : Nat) (a b p q : Int), i < j → xs[i]? = some a → xs[j]? = some b → rs[i]? = some p → rs[j]? = some q → b - a < sp → p ≠ q
theorem HasC.zero {xs : List Int} {sp : Int} : HasC xs sp 0 := ⟨0, Nat.zero_le _⟩
theorem HasC.le {xs : List Int} {sp : Int} {m n : Nat} (h : HasC xs sp n) (k : m ≤ n) : HasC xs sp m := by obtain ⟨y, h⟩ := h; exact ⟨y, by omega⟩
theorem HasC.size {xs : List Int} {sp : Int} {n : Nat} (h : HasC xs sp n) : n ≤ xs.length := by
  obtain ⟨y, h⟩ := h
  exact Nat.le_trans h (List.length_filter_le ..)
theorem HasC.sub {xs ys : List Int} {sp : Int} {n : Nat} (h : HasC xs sp n) (k : xs.Sublist ys) : HasC ys sp n := by
  obtain ⟨y, h⟩ := h
  exact ⟨y, Nat.le_trans h (k.filter _).length_le⟩
theorem HasC.perm {xs ys : List Int} {sp : Int} {n : Nat} (h : HasC xs sp n) (k : xs.Perm ys) : HasC ys sp n := by
  obtain ⟨y, h⟩ := h
  exact ⟨y, by unfold win at *; rw [← (k.filter _).length_eq]; exact h⟩
theorem HasC.wide {xs : List Int} {sp sq : Int} {n : Nat} (h : HasC xs sp n) (k : sp ≤ sq) : HasC xs sq n := by
  obtain ⟨y, h⟩ := h
  refine ⟨y, Nat.le_trans h (filter_mono (fun x hx => ?_) xs)⟩
  rw [decide_eq_true_eq] at hx ⊢
  omega
theorem HasC.map {xs : List Int} {sp : Int} {n : Nat} {f : Int → Int} (g : Int → Int) (hf : ∀ x y, y ≤ x ∧ x < y + sp → g y ≤ f x ∧ f x < g y + sp) (h : HasC xs sp n) : HasC (xs.map f) sp n := by
  obtain ⟨y, h⟩ := h
  refine ⟨g y, Nat.le_trans h ?_⟩
  unfold win
  rw [List.filter_map, List.length_map]
  exact filter_mono (fun x hx => by
    rw [decide_eq_true_eq] at hx
    exact decide_eq_true (hf x y hx)) xs
theorem HasC.move {xs : List Int} {sp d : Int} {n : Nat} (h : HasC xs sp n) : HasC (xs.map fun x => x + d) sp n := h.map (fun y => y + d) fun x y z => by omega
theorem HasC.mirror {xs : List Int} {sp d : Int} {n : Nat} (h : HasC xs sp n) : HasC (xs.map fun x => 2 * d - x) sp n := h.map (fun y => 2 * d - y - sp + 1) fun x y z => by omega
/-- one left out -/
theorem HasC.less {xs ys : List Int} {a sp : Int} {n : Nat} (h : HasC (xs ++ a :: ys) sp n) : HasC (xs ++ ys) sp (n - 1) := by
  obtain ⟨y, h⟩ := h
  refine ⟨y, ?_⟩
  unfold win at *
  rw [List.filter_append, List.length_append, List.filter_cons] at h
  rw [List.filter_append, List.length_append]
  split at h
  · rw [List.length_cons] at h; omega
  · omega
/-- two lots, far from each other -/
theorem HasC.two {xs ys : List Int} {sp : Int} {n : Nat} (hfar : ∀ x ∈ xs, ∀ y ∈ ys, x + sp ≤ y) (h : HasC (xs ++ ys) sp n) : HasC xs sp n ∨ HasC ys sp n := by
  obtain ⟨y, h⟩ := h
  unfold win at h
  rw [List.filter_append, List.length_append] at h
  by_cases z : (xs.filter fun x => decide (y ≤ x ∧ x < y + sp)).length = 0
  · exact .inr ⟨y, by unfold win; omega⟩
  · refine .inl ⟨y, ?_⟩
    obtain ⟨a, ha⟩ := List.exists_mem_of_length_pos (Nat.pos_of_ne_zero z)
    obtain ⟨ha1, ha2⟩ := List.mem_filter.mp ha
    rw [decide_eq_true_eq] at ha2
    have : (ys.filter fun x => decide (y ≤ x ∧ x < y + sp)) = [] := List.filter_eq_nil_iff.mpr fun b hb => by
      have := hfar a ha1 b hb
      rw [decide_eq_true_eq]; omega
    rw [this] at h
    unfold win
    simpa using h
theorem nodup_small {k : Nat} : ∀ {xs : List Int}, xs.Nodup → (∀ x ∈ xs, 0 ≤ x ∧ x < k) → xs.length ≤ k := fun {xs} h hx => by
  have := nodup_le (xs := xs) (ys := (List.range k).map fun i : Nat => (i : Int)) h fun x hm => by
    have := hx x hm
    exact List.mem_map.mpr ⟨x.toNat, List.mem_range.mpr (by omega), by omega⟩
  rw [List.length_map, List.length_range] at this
  exact this
/-- colours for all make no window too full -/
theorem col_has {xs rs : List Int} {sp : Int} {k n : Nat} (c : ColL xs sp k rs) (h : HasC xs sp n) : n ≤ k := by
  obtain ⟨y, h⟩ := h
  let zs := (List.zip xs rs).filter fun p => decide (y ≤ p.1 ∧ p.1 < y + sp)
  have e : (zs.map (·.1)) = win xs sp y := by
    show (((List.zip xs rs).filter fun p => decide (y ≤ p.1 ∧ p.1 < y + sp)).map (·.1)) = xs.filter _
    have := List.filter_map (f := (fun p : Int × Int => p.1)) (p := fun x => decide (y ≤ x ∧ x < y + sp)) (l := List.zip xs rs)
    rw [List.map_fst_zip (by rw [c.len]; exact Nat.le_refl _)] at this
    rw [this]; rfl
  have hn : n ≤ (zs.map (·.2)).length := by
    rw [List.length_map, ← List.length_map (f := fun p : Int × Int => p.1), e]; exact h
  refine Nat.le_trans hn (nodup_small ?_ fun r hr => ?_)
  · rw [List.Nodup, List.pairwise_map]
    have hp : (List.zip xs rs).Pairwise fun p q => q.1 - p.1 < sp → p.2 ≠ q.2 := by
      rw [List.pairwise_iff_getElem]
      intro i j hi hj hij hlt
      rw [List.length_zip] at hi hj
      have l1 := c.len
      have i1 : i < xs.length := by omega
      have j1 : j < xs.length := by omega
      have i2 : i < rs.length := by omega
      have j2 : j < rs.length := by omega
      have := c.un i j xs[i] xs[j] rs[i] rs[j] hij (List.getElem?_eq_getElem i1) (List.getElem?_eq_getElem j1) (List.getElem?_eq_getElem i2) (List.getElem?_eq_getElem j2)
      simp only [List.getElem_zip] at hlt ⊢
      exact this hlt
    have hp2 := hp.filter fun p => decide (y ≤ p.1 ∧ p.1 < y + sp)
    refine List.Pairwise.imp_of_mem (fun {p q} hpm hqm hpq => hpq ?_) hp2
    have a := (List.mem_filter.mp hpm).2
    have b := (List.mem_filter.mp hqm).2
    rw [decide_eq_true_eq] at a b
    omega
  · obtain ⟨p, hp, rfl⟩ := List.mem_map.mp hr
    exact c.rng _ (List.of_mem_zip (List.mem_filter.mp hp).1).2
/-! the rows as they are told, lamp after lamp -/
structure RowsI (xs : List Int) (sp : Int) (j : Nat) (rows free : List Int) (freed many : Nat) : Prop where
  len : rows.length = j
  le : freed ≤ j
  perm : (free ++ rows.drop freed).Perm ((List.range many).map fun i : Nat => (i : Int))
  rng : ∀ r ∈ rows, 0 ≤ r ∧ r < many
  past : ∀ (i : Nat) (a b : Int), i < freed → xs[i]? = some a → xs[j]? = some b → a + sp ≤ b
  un : ∀ (i l : Nat) (a b p q : Int), i < l → l < j → xs[i]? = some a → xs[l]? = some b → rows[i]? = some p → rows[l]? = some q → b - a < sp → p ≠ q
  has : HasC xs sp many
theorem RowsI.start (xs : List Int) (sp : Int) : RowsI xs sp 0 [] [] 0 0 :=
  ⟨rfl, Nat.le_refl _, by simp, fun _ h => (by cases h), fun _ _ _ h => absurd h (Nat.not_lt_zero _), fun _ _ _ _ _ _ _ h => absurd h (Nat.not_lt_zero _), .zero⟩
/-- a row becomes free -/
theorem RowsI.free {xs : List Int} {sp : Int} {j : Nat} {rows free ms : List Int} {freed many : Nat} {r a b : Int} (h : RowsI xs sp j rows free freed many) (hr : rows[freed]? = some r) (ha : xs[freed]? = some a) (hb : xs[j]? = some b) (hab : a + sp ≤ b) (hm : ms.Perm (r :: free)) :
    RowsI xs sp j rows ms (freed + 1) many := by
  have hl := (List.getElem?_eq_some_iff.mp hr).1
  have l := h.len
  refine ⟨h.len, by omega, ?_, h.rng, fun i a' b' hi h1 h2 => ?_, h.un, h.has⟩
  · refine List.Perm.trans ?_ h.perm
    have e : rows.drop freed = r :: rows.drop (freed + 1) := by
      obtain ⟨hi, rfl⟩ := List.getElem?_eq_some_iff.mp hr
      exact List.drop_eq_getElem_cons hi
    rw [e]
    exact (hm.append_right _).trans (by simpa using (List.perm_middle (a := r) (l₁ := free) (l₂ := rows.drop (freed + 1))).symm)
  · by_cases z : i = freed
    · subst z
      rw [ha] at h1; cases h1
      rw [hb] at h2; cases h2
      exact hab
    · exact h.past i a' b' (by omega) h1 h2
/-- none is free: one more -/
theorem RowsI.more {xs : List Int} {sp : Int} {j : Nat} {rows ms : List Int} {freed many : Nat} {b : Int} (h : RowsI xs sp j rows [] freed many) (hs : xs.Pairwise fun a b => a ≤ b) (hb : xs[j]? = some b) (hf : ∀ a, freed < j → xs[freed]? = some a → b < a + sp) (sp0 : 1 ≤ sp) (hm : ms.Perm [(many : Int)]) :
    RowsI xs sp j rows ms freed (many + 1) := by
  have hj := (List.getElem?_eq_some_iff.mp hb).1
  have l := h.len
  have hle := h.le
  have mono : ∀ (i k : Nat) (a c : Int), i ≤ k → xs[i]? = some a → xs[k]? = some c → a ≤ c := fun i k a c hik h1 h2 => by
    by_cases e : i = k
    · subst e
      rw [h1] at h2; cases h2; omega
    · obtain ⟨hi, rfl⟩ := List.getElem?_eq_some_iff.mp h1
      obtain ⟨hk, rfl⟩ := List.getElem?_eq_some_iff.mp h2
      exact List.pairwise_iff_getElem.mp hs i k hi hk (by omega)
  refine ⟨h.len, h.le, ?_, fun r hr => by have := h.rng r hr; omega, h.past, h.un, ?_⟩
  · rw [List.range_succ, List.map_append]
    refine (hm.append_right _).trans ?_
    have p := h.perm
    rw [List.nil_append] at p
    simp only [List.map_cons, List.map_nil]
    exact (List.perm_append_comm).trans (p.append_right _)
  · -- the lamps from freed to j are all within a window
    have cnt : many = j - freed := by
      have := h.perm.length_eq
      rw [List.nil_append, List.length_drop, List.length_map, List.length_range] at this
      omega
    refine ⟨b - sp + 1, ?_⟩
    have sub : ((xs.drop freed).take (j + 1 - freed)).Sublist xs := (List.take_sublist _ _).trans (List.drop_sublist _ _)
    have all : ∀ a ∈ (xs.drop freed).take (j + 1 - freed), decide (b - sp + 1 ≤ a ∧ a < b - sp + 1 + sp) = true := fun a ha => by
      obtain ⟨i, hi⟩ := List.mem_iff_getElem?.mp ha
      have hil := (List.getElem?_eq_some_iff.mp hi).1
      rw [List.length_take, List.length_drop] at hil
      rw [List.getElem?_take, if_pos (by omega), List.getElem?_drop] at hi
      have up := mono _ j a b (by omega) hi hb
      have lo : b < a + sp := by
        by_cases z : freed < j
        · have hfr := List.getElem?_eq_getElem (show freed < xs.length by omega)
          have := hf _ z hfr
          have := mono freed _ _ a (by omega) hfr hi
          omega
        · have e : freed + i = j := by omega
          rw [e, hb] at hi; cases hi
          omega
      rw [decide_eq_true_eq]; omega
    have := (sub.filter fun x => decide (b - sp + 1 ≤ x ∧ x < b - sp + 1 + sp)).length_le
    rw [List.filter_eq_self.mpr all, List.length_take, List.length_drop] at this
    unfold win
    omega
/-- a free one is taken -/
theorem RowsI.take {xs : List Int} {sp : Int} {j : Nat} {rows free ms : List Int} {freed many : Nat} {r b : Int} (h : RowsI xs sp j rows free freed many) (hs : xs.Pairwise fun a b => a ≤ b) (hb : xs[j]? = some b) (hm : (r :: ms).Perm free) :
    RowsI xs sp (j + 1) (rows ++ [r]) ms freed many := by
  have l := h.len
  have hle := h.le
  have p : (r :: ms ++ rows.drop freed).Perm ((List.range many).map fun i : Nat => (i : Int)) := (hm.append_right _).trans h.perm
  have nd : (r :: ms ++ rows.drop freed).Nodup := by
    refine p.nodup_iff.mpr ?_
    rw [List.Nodup, List.pairwise_map]
    exact List.Pairwise.imp (fun {a b} hne e => hne (by omega)) List.nodup_range
  have hr : 0 ≤ r ∧ r < many := by
    have := p.mem_iff.mp (List.mem_append_left _ (List.mem_cons_self ..))
    obtain ⟨i, hi, rfl⟩ := List.mem_map.mp this
    have := List.mem_range.mp hi
    omega
  have rnot : r ∉ rows.drop freed := fun z => by
    rw [List.cons_append, List.nodup_cons] at nd
    exact nd.1 (List.mem_append_right _ z)
  refine ⟨by rw [List.length_append, l]; rfl, by omega, ?_, fun q hq => ?_, fun i a b' hi h1 h2 => ?_, fun i k a c q s hik hk h1 h2 h3 h4 hlt => ?_, h.has⟩
  · rw [List.drop_append_of_le_length (by omega)]
    refine List.Perm.trans ?_ p
    rw [← List.append_assoc]
    exact List.perm_append_comm
  · rcases List.mem_append.mp hq with hq | hq
    · exact h.rng q hq
    · rw [List.mem_singleton.mp hq]; exact hr
  · obtain ⟨hj1, e1⟩ := List.getElem?_eq_some_iff.mp h2
    obtain ⟨hj0, e0⟩ := List.getElem?_eq_some_iff.mp hb
    have := h.past i a b hi h1 hb
    have : b ≤ b' := by
      rw [← e1, ← e0]
      exact List.pairwise_iff_getElem.mp hs j (j + 1) hj0 hj1 (by omega)
    omega
  · rw [List.getElem?_append] at h3 h4
    rw [if_pos (by omega)] at h3
    by_cases z : k < j
    · rw [if_pos (by omega)] at h4
      exact h.un i k a c q s hik z h1 h2 h3 h4 hlt
    · have e : k = j := by omega
      subst e
      rw [if_neg (by omega), l, Nat.sub_self] at h4
      simp at h4
      subst h4
      rw [hb] at h2; cases h2
      intro e
      by_cases zf : i < freed
      · have := h.past i a b zf h1 hb
        omega
      · refine rnot (e ▸ List.mem_iff_getElem?.mpr ⟨i - freed, ?_⟩)
        rw [List.getElem?_drop, show freed + (i - freed) = i by omega]
        exact h3
theorem RowsI.col {xs : List Int} {sp : Int} {rows free : List Int} {freed many : Nat} (h : RowsI xs sp xs.length rows free freed many) : ColL xs sp many rows :=
  ⟨h.len, h.rng, fun i j a b p q hij h1 h2 h3 h4 hlt => h.un i j a b p q hij (List.getElem?_eq_some_iff.mp h2).1 h1 h2 h3 h4 hlt⟩
end DV
namespace DV
open PySem PySem.Spec PyProof.Rows L2
/-! ## lamps, sorted from side to side; drawn one after another; the most abreast -/
structure Lmp where
  x : Int
  z : Int
  sh : List Str
  w : Int
def eLm (l : Lmp) : PyData := .tuple [.int l.x, .int l.z, .tuple (l.sh.map .str), .int l.w]
def eP (ls : List Lmp) : PyData := .tuple (ls.map eLm)
def lxs (ls : List Lmp) : List Int := ls.map Lmp.x
def UpL (xs : List Int) : Prop := xs.Pairwise fun a b => a ≤ b
theorem UpL.at {xs : List Int} (h : UpL xs) {i k : Nat} {a c : Int} (hik : i ≤ k) (h1 : xs[i]? = some a) (h2 : xs[k]? = some c) : a ≤ c := by
  by_cases e : i = k
  · subst e
    rw [h1] at h2; cases h2; omega
  · obtain ⟨hi, rfl⟩ := List.getElem?_eq_some_iff.mp h1
    obtain ⟨hk, rfl⟩ := List.getElem?_eq_some_iff.mp h2
    exact List.pairwise_iff_getElem.mp h i k hi hk (by omega)
theorem lxs_at {ls : List Lmp} {i : Nat} {l : Lmp} (h : ls[i]? = some l) : (lxs ls)[i]? = some l.x := by
  unfold lxs; rw [List.getElem?_map, h]; rfl
theorem lxs_len (ls : List Lmp) : (lxs ls).length = ls.length := List.length_map ..
section
variable {g : TDGt} {tt : TDT} {te : TDE} {vs : List Nat} {Q : List PyData → Rho → Prop} {ρ : Rho}
/-- every item is drawn anew, for its own place -/
theorem lc_drawI {n : Nat} (xs : List PyData) (st : List PyData → Rho) (P : Nat → PyData → Prop) (bag : List PyData) (m : Nat) (hb : Bag m bag) (e : ρ = st bag) (hv : ∀ bag, ∀ i ∈ vs, (st bag)[i]? = some none) (hl : xs.length ≤ 100000)
    (turn : ∀ (i : Nat) (x : PyData), xs[i]? = some x → ∀ (m' : Nat) (bag' : List PyData), m ≤ m' → m' + n ≤ m + n * xs.length → Bag m' bag' → ∀ (C1 : PyData → Rho → Prop) (C2 : Rho → Prop) (k : Nat), Few k → (∀ y bag2, P i y → Bag (m' + n) bag2 → C1 y (st bag2)) →
      g (.d x) (st bag') fun ρ2 => tt ρ2 fun k' ρ3 => if k' = true then te ρ3 fun r ρ4 => onDat r fun y => Few k ∧ C1 y (wipeR ρ4 vs) else C2 (wipeR ρ3 vs))
    (q : ∀ zs bag', zs.length = xs.length → (∀ i z, zs[i]? = some z → P i z) → Bag (m + n * xs.length) bag' → Q zs (wipeR (st bag') vs)) : lcIn g tt te vs Q xs ρ := by
  subst e
  refine ⟨hv bag, fun i acc ρ' => acc.length = i ∧ i ≤ xs.length ∧ (∀ i z, acc[i]? = some z → P i z) ∧ ∃ bag', Bag (m + n * i) bag' ∧ ρ' = st bag', ⟨rfl, Nat.zero_le _, (by intro i z hz; simp at hz), bag, by simpa using hb, rfl⟩, ?_, ?_⟩
  · rintro i x acc _ hx ⟨hal, hi0, hP, bag', hb', rfl⟩
    have hi := (List.getElem?_eq_some_iff.mp hx).1
    have hmul : n * i + n ≤ n * xs.length := by
      have := Nat.mul_le_mul_left n (show i + 1 ≤ xs.length by omega)
      rwa [Nat.mul_succ] at this
    refine turn i x hx _ bag' (Nat.le_add_right ..) (by omega) hb' (fun y ρ2 => (acc ++ [y]).length = i + 1 ∧ i + 1 ≤ xs.length ∧ (∀ i z, (acc ++ [y])[i]? = some z → P i z) ∧ ∃ bag', Bag (m + n * (i + 1)) bag' ∧ ρ2 = st bag') (fun ρ2 => acc.length = i + 1 ∧ i + 1 ≤ xs.length ∧ (∀ i z, acc[i]? = some z → P i z) ∧ ∃ bag', Bag (m + n * (i + 1)) bag' ∧ ρ2 = st bag') (acc.length + 1) (few_le (by omega)) (fun y bag2 hy hb2 => ⟨by rw [List.length_append, hal]; rfl, by omega, fun j z hz => ?_, bag2, by rw [Nat.mul_succ]; exact hb2.up (by omega), rfl⟩)
    rw [List.getElem?_append] at hz
    split at hz
    · exact hP j z hz
    · have hj : j - acc.length = 0 := by
        have := (List.getElem?_eq_some_iff.mp hz).1
        simp at this
        omega
      rw [hj] at hz
      simp at hz
      subst hz
      have : j = i := by omega
      subst this
      exact hy
  · rintro acc _ ⟨hal, _, hP, bag', hb', rfl⟩
    exact q acc bag' hal hP hb'
end
/-! the lists of what is drawn, as lamps -/
theorem as_enc {α : Type} (enc : α → PyData) (P : Nat → α → Prop) : ∀ (zs : List PyData), (∀ i z, zs[i]? = some z → ∃ a, z = enc a ∧ P i a) → ∃ as : List α, zs = as.map enc ∧ ∀ i a, as[i]? = some a → P i a := by
  intro zs
  induction zs generalizing P with
  | nil => exact fun _ => ⟨[], rfl, fun i a h => by simp at h⟩
  | cons z zs ih =>
    intro h
    obtain ⟨a, rfl, p⟩ := h 0 z rfl
    obtain ⟨as, rfl, q⟩ := ih (fun i => P (i + 1)) fun i z hz => h (i + 1) z (by simpa using hz)
    refine ⟨a :: as, rfl, fun i b hb => ?_⟩
    cases i with
    | zero => simp at hb; subst hb; exact p
    | succ i => exact q i b (by simpa using hb)
/-! windows of a sorted list -/
theorem win_last {xs : List Int} {sp y : Int} {n : Nat} (hs : UpL xs) (n0 : 1 ≤ n) (h : n ≤ (win xs sp y).length) : ∃ b, xs[n - 1]? = some b ∧ b < y + sp := by
  have e : win xs sp y = (xs.take (n - 1)).filter (fun x => decide (y ≤ x ∧ x < y + sp)) ++ (xs.drop (n - 1)).filter (fun x => decide (y ≤ x ∧ x < y + sp)) := by
    rw [← List.filter_append, List.take_append_drop]; rfl
  rw [e, List.length_append] at h
  have h1 : ((xs.take (n - 1)).filter fun x => decide (y ≤ x ∧ x < y + sp)).length ≤ n - 1 := Nat.le_trans (List.length_filter_le ..) (by rw [List.length_take]; omega)
  obtain ⟨c, hc⟩ := List.exists_mem_of_length_pos (show 0 < ((xs.drop (n - 1)).filter fun x => decide (y ≤ x ∧ x < y + sp)).length by omega)
  obtain ⟨hc1, hc2⟩ := List.mem_filter.mp hc
  rw [decide_eq_true_eq] at hc2
  obtain ⟨i, hi⟩ := List.mem_iff_getElem?.mp hc1
  rw [List.getElem?_drop] at hi
  have hl := (List.getElem?_eq_some_iff.mp hi).1
  have hb := List.getElem?_eq_getElem (show n - 1 < xs.length by omega)
  have := hs.at (show n - 1 ≤ n - 1 + i by omega) hb hi
  exact ⟨_, hb, by omega⟩
theorem win_first {sp y : Int} {n : Nat} (n0 : 1 ≤ n) : ∀ {xs : List Int}, UpL xs → n ≤ (win xs sp y).length → ∃ j a b, xs[j]? = some a ∧ xs[j + (n - 1)]? = some b ∧ b < a + sp
  | [], _, h => by
    have : (win [] sp y).length = 0 := rfl
    omega
  | x :: xs, hs, h => by
    by_cases hx : y ≤ x ∧ x < y + sp
    · obtain ⟨b, hb, hlt⟩ := win_last hs n0 h
      exact ⟨0, x, b, rfl, by rw [Nat.zero_add]; exact hb, by omega⟩
    · have e : win (x :: xs) sp y = win xs sp y := by
        unfold win
        rw [List.filter_cons, if_neg (by rw [decide_eq_true_eq]; exact hx)]
      rw [e] at h
      obtain ⟨j, a, b, h1, h2, h3⟩ := win_first n0 (List.pairwise_cons.mp hs).2 h
      exact ⟨j + 1, a, b, by simpa using h1, by rw [show j + 1 + (n - 1) = (j + (n - 1)) + 1 by omega]; simpa using h2, h3⟩
theorem has_of {xs : List Int} {sp : Int} {j l : Nat} {a b : Int} (hs : UpL xs) (hjl : j ≤ l) (h1 : xs[j]? = some a) (h2 : ∀ k c, j ≤ k → k < l → xs[k]? = some c → c < a + sp) (hl : l ≤ xs.length) : HasC xs sp (l - j) := by
  refine ⟨a, ?_⟩
  have sub : ((xs.drop j).take (l - j)).Sublist xs := (List.take_sublist _ _).trans (List.drop_sublist _ _)
  have all : ∀ c ∈ (xs.drop j).take (l - j), decide (a ≤ c ∧ c < a + sp) = true := fun c hc => by
    obtain ⟨i, hi⟩ := List.mem_iff_getElem?.mp hc
    have hil := (List.getElem?_eq_some_iff.mp hi).1
    rw [List.length_take, List.length_drop] at hil
    rw [List.getElem?_take, if_pos (by omega), List.getElem?_drop] at hi
    have := hs.at (show j ≤ j + i by omega) h1 hi
    have := h2 (j + i) c (by omega) (by omega) hi
    rw [decide_eq_true_eq]; omega
  have := (sub.filter fun c => decide (a ≤ c ∧ c < a + sp)).length_le
  rw [List.filter_eq_self.mpr all, List.length_take, List.length_drop] at this
  unfold win
  omega
/-- the most abreast, told place by place -/
structure Abr (xs : List Int) (sp : Int) (i : Nat) (m last : Nat) : Prop where
  has : HasC xs sp m
  le : last ≤ xs.length
  lo : i ≤ last
  z0 : i = 0 → last = 0
  low : ∀ k a b, k < last → 0 < i → xs[k]? = some a → xs[i - 1]? = some b → a < b + sp
  all : ∀ (j l : Nat) (a b : Int), j < i → j ≤ l → xs[j]? = some a → xs[l]? = some b → b < a + sp → l + 1 - j ≤ m
theorem Abr.most {xs : List Int} {sp : Int} {m last n : Nat} (h : Abr xs sp xs.length m last) (hs : UpL xs) (k : HasC xs sp n) : n ≤ m := by
  by_cases z : n = 0
  · omega
  obtain ⟨y, k⟩ := k
  obtain ⟨j, a, b, h1, h2, h3⟩ := win_first (by omega) hs k
  have := h.all j (j + (n - 1)) a b (List.getElem?_eq_some_iff.mp h1).1 (by omega) h1 h2 h3
  omega
theorem Abr.start (xs : List Int) (sp : Int) : Abr xs sp 0 0 0 := ⟨.zero, Nat.zero_le _, Nat.le_refl _, fun _ => rfl, fun _ _ _ h => absurd h (Nat.not_lt_zero _), fun _ _ _ _ h => absurd h (Nat.not_lt_zero _)⟩
/-- a turn: the inner loop stands at last -/
theorem Abr.turn {xs : List Int} {sp : Int} {i m last l2 m2 : Nat} {a : Int} (h : Abr xs sp i m last) (hs : UpL xs) (sp1 : 1 ≤ sp) (ha : xs[i]? = some a) (h1 : last ≤ l2) (hl : l2 ≤ xs.length) (h2 : ∀ k c, k < l2 → xs[k]? = some c → c < a + sp) (h3 : ∀ c, xs[l2]? = some c → a + sp ≤ c)
    (hm : m2 = max m (l2 - i)) : Abr xs sp (i + 1) m2 l2 := by
  have hi := (List.getElem?_eq_some_iff.mp ha).1
  have lt : i < l2 := by
    by_cases z : i < l2
    · exact z
    · exfalso
      have e := h.lo
      have : l2 = i := by omega
      subst this
      have := h3 a ha
      omega
  refine ⟨?_, hl, lt, fun z => absurd z (Nat.succ_ne_zero _), fun k c b hk _ hc hb => ?_, fun j l c b hj hjl hc hb hlt => ?_⟩
  · rw [hm]
    rcases Nat.le_total m (l2 - i) with z | z
    · rw [Nat.max_eq_right z]
      exact has_of (b := a) hs (by omega) ha (fun k c _ hk hc => h2 k c hk hc) hl
    · rw [Nat.max_eq_left z]
      exact h.has
  · rw [Nat.add_sub_cancel, ha] at hb
    cases hb
    exact h2 k c hk hc
  · by_cases z : j = i
    · subst z
      rw [ha] at hc; cases hc
      have : l < l2 := by
        by_cases y : l < l2
        · exact y
        · exfalso
          have hll := (List.getElem?_eq_some_iff.mp hb).1
          have e := List.getElem?_eq_getElem (show l2 < xs.length by omega)
          have := h3 _ e
          have := hs.at (show l2 ≤ l by omega) e hb
          omega
      omega
    · have := h.all j l c b (by omega) hjl hc hb hlt
      omega
/-- what the while of the most abreast keeps -/
theorem Abr.low2 {xs : List Int} {sp : Int} {i m last : Nat} {a : Int} (h : Abr xs sp i m last) (hs : UpL xs) (sp1 : 1 ≤ sp) (ha : xs[i]? = some a) (k : Nat) (c : Int) (hk : k < last) (hc : xs[k]? = some c) : c < a + sp := by
  by_cases z : k ≤ i
  · have := hs.at z hc ha
    omega
  · by_cases y : i = 0
    · subst y
      have := h.z0 rfl
      omega
    · have hi := (List.getElem?_eq_some_iff.mp ha).1
      have e := List.getElem?_eq_getElem (show i - 1 < xs.length by omega)
      have := h.low k c _ hk (by omega) hc e
      have := hs.at (show i - 1 ≤ i by omega) e ha
      omega
end DV
namespace DV
open PySem PySem.Spec PyProof.Rows L2
/-! ## sorted lamps -/
theorem alikeAll_str : ∀ xs ys : List Str, PySem.W.alikeAll (xs.map .str) (ys.map .str) = true
  | [], _ => by simp [PySem.W.alikeAll]
  | _ :: _, [] => by simp [PySem.W.alikeAll]
  | x :: xs, y :: ys => by
    rw [List.map_cons, List.map_cons, PySem.W.alikeAll, alikeAll_str xs ys]
    simp [PySem.W.alike]
theorem depth_strs : ∀ xs : List Str, PyData.depthAll (xs.map .str) ≤ 1
  | [] => by simp [PyData.depthAll]
  | x :: xs => by
    have := depth_strs xs
    simp only [List.map_cons, PyData.depthAll, PyData.depth]
    omega
theorem depth_lm (l : Lmp) : (eLm l).depth ≤ 50 := by
  have := depth_strs l.sh
  simp only [eLm, PyData.depth, PyData.depthAll]
  omega
theorem can_sort_lamps (ls : List Lmp) : CanSort (ls.map eLm) where
  al := by
    intro d hd d' hd'
    obtain ⟨l, _, rfl⟩ := List.mem_map.mp hd
    obtain ⟨l', _, rfl⟩ := List.mem_map.mp hd'
    simp [eLm, PySem.W.alike, PySem.W.alikeAll, alikeAll_str]
  so := .inl fun d hd => by
    obtain ⟨l, _, rfl⟩ := List.mem_map.mp hd
    exact ⟨_, _, rfl⟩
  dp := fun d hd => by
    obtain ⟨l, _, rfl⟩ := List.mem_map.mp hd
    exact depth_lm l
theorem lm_le {l m : Lmp} (h : PySem.W.dataLe false id (eLm l) (eLm m) = true) : l.x ≤ m.x := by
  have h : (!PySem.W.dataLt (eLm m) (eLm l)) = true := h
  refine Int.not_lt.mp fun z => ?_
  have : PySem.W.dataLt (eLm m) (eLm l) = true := by
    unfold eLm
    rw [PySem.W.dataLt_tuple, PySem.W.dataLt_cons (by simp [PySem.W.alike]), if_neg, PySem.W.dataLt_int, decide_eq_true_eq]
    · exact z
    · rw [eqv_int, decide_eq_true_eq]; omega
  rw [this] at h
  cases h
theorem dataLe_total (a b : PyData) : (PySem.W.dataLe false id a b || PySem.W.dataLe false id b a) = true := by
  show ((!PySem.W.dataLt b a) || (!PySem.W.dataLt a b)) = true
  cases h : PySem.W.dataLt b a with
  | false => rfl
  | true =>
    cases h2 : PySem.W.dataLt a b with
    | false => rfl
    | true =>
      exfalso
      have t := (PyProof.Rows.listOrd PyProof.Rows.itemOrd).trans (a := PySem.W.keyToks a) (b := PySem.W.keyToks b) (c := PySem.W.keyToks a) h2 h
      rw [(PyProof.Rows.listOrd PyProof.Rows.itemOrd).irrefl] at t
      cases t
theorem dataLe_trans (a b c : PyData) (h1 : PySem.W.dataLe false id a b = true) (h2 : PySem.W.dataLe false id b c = true) : PySem.W.dataLe false id a c = true := by
  have h1 : (!PySem.W.dataLt b a) = true := h1
  have h2 : (!PySem.W.dataLt c b) = true := h2
  show (!PySem.W.dataLt c a) = true
  rw [Bool.not_eq_true'] at *
  cases h : PySem.W.dataLt c a with
  | false => rfl
  | true =>
    exfalso
    rcases (PyProof.Rows.listOrd PyProof.Rows.itemOrd).negTrans (a := PySem.W.keyToks c) (b := PySem.W.keyToks b) (c := PySem.W.keyToks a) h with z | z
    · rw [show PySem.W.dataLt c b = true from z] at h2; cases h2
    · rw [show PySem.W.dataLt b a = true from z] at h1; cases h1
theorem sort_lamps (ls : List Lmp) : ∃ ms : List Lmp, sortD (ls.map eLm) = ms.map eLm ∧ ms.Perm ls ∧ UpL (lxs ms) := by
  obtain ⟨ms, e, hp⟩ := perm_of_map (List.mergeSort_perm (ls.map eLm) (PySem.W.dataLe false id)) rfl
  refine ⟨ms, e, hp, ?_⟩
  have hs := List.pairwise_mergeSort (le := PySem.W.dataLe false id) dataLe_trans dataLe_total (ls.map eLm)
  rw [e, List.pairwise_map] at hs
  unfold UpL lxs
  rw [List.pairwise_map]
  exact hs.imp fun h => lm_le h
/-! ## rows tried one after another -/
noncomputable def hasRows (xs : List Int) (sp : Int) (n : Nat) : Bool := @decide (∃ rs, ColL xs sp n rs) (Classical.propDecidable _)
theorem hasRows_true {xs : List Int} {sp : Int} {n : Nat} {rs : List Int} (h : ColL xs sp n rs) : hasRows xs sp n = true := by
  unfold hasRows; exact @decide_eq_true _ (Classical.propDecidable _) ⟨rs, h⟩
theorem hasRows_false {xs : List Int} {sp : Int} {n : Nat} (h : ∀ rs, ¬ ColL xs sp n rs) : hasRows xs sp n = false := by
  unfold hasRows; exact @decide_eq_false _ (Classical.propDecidable _) fun ⟨rs, k⟩ => h rs k
structure PreL (xs : List Int) (sp : Int) (k : Nat) (p : List Int) : Prop where
  len : p.length ≤ xs.length
  rng : ∀ r ∈ p, 0 ≤ r ∧ r < k
  un : ∀ (i j : Nat) (a b q s : Int), i < j → xs[i]? = some a → xs[j]? = some b → p[i]? = some q → p[j]? = some s → b - a < sp → q ≠ s
theorem PreL.col {xs : List Int} {sp : Int} {k : Nat} {p : List Int} (h : PreL xs sp k p) (e : p.length = xs.length) : ColL xs sp k p := ⟨e, h.rng, h.un⟩
theorem PreL.nil {xs : List Int} {sp : Int} {k : Nat} : PreL xs sp k [] := ⟨Nat.zero_le _, fun _ h => (by cases h), fun _ _ _ _ _ _ _ _ _ h => (by simp at h)⟩
def bars (xs p : List Int) (c sp : Int) : List Int := p.zipIdx.filterMap fun q => if c - xs.getD q.2 0 < sp then some q.1 else none
theorem mem_bars {xs p : List Int} {c sp r : Int} : r ∈ bars xs p c sp ↔ ∃ i, p[i]? = some r ∧ c - xs.getD i 0 < sp := by
  unfold bars
  rw [List.mem_filterMap]
  constructor
  · rintro ⟨⟨q, i⟩, h1, h2⟩
    rw [List.mem_zipIdx_iff_getElem?] at h1
    simp only at h1 h2
    split at h2
    · rename_i hlt
      cases h2
      exact ⟨i, h1, hlt⟩
    · cases h2
  · rintro ⟨i, h1, h2⟩
    exact ⟨(r, i), List.mem_zipIdx_iff_getElem?.mpr h1, by simp only [if_pos h2]⟩
def kids (xs p : List Int) (c sp : Int) (k : Nat) : List (List Int) := (List.range k).filterMap fun i : Nat => if (i : Int) ∈ bars xs p c sp then none else some (p ++ [(i : Int)])
theorem kids_len {xs p : List Int} {c sp : Int} {k : Nat} : (kids xs p c sp k).length ≤ k := by
  have := List.length_filterMap_le (fun i : Nat => if (i : Int) ∈ bars xs p c sp then none else some (p ++ [(i : Int)])) (List.range k)
  rwa [List.length_range] at this
theorem mem_kids {xs p y : List Int} {c sp : Int} {k : Nat} : y ∈ kids xs p c sp k ↔ ∃ i : Nat, i < k ∧ ¬ (i : Int) ∈ bars xs p c sp ∧ y = p ++ [(i : Int)] := by
  unfold kids
  rw [List.mem_filterMap]
  constructor
  · rintro ⟨i, h1, h2⟩
    split at h2
    · cases h2
    · rename_i hn
      cases h2
      exact ⟨i, List.mem_range.mp h1, hn, rfl⟩
  · rintro ⟨i, h1, h2, rfl⟩
    exact ⟨i, List.mem_range.mpr h1, by rw [if_neg h2]⟩
theorem getD_at {xs : List Int} {i : Nat} {a : Int} (h : xs[i]? = some a) : xs.getD i 0 = a := by
  rw [List.getD_eq_getElem?_getD, h]; rfl
theorem PreL.kid {xs p y : List Int} {c sp : Int} {k : Nat} (h : PreL xs sp k p) (hc : xs[p.length]? = some c) (hy : y ∈ kids xs p c sp k) : PreL xs sp k y := by
  obtain ⟨r, h1, h2, rfl⟩ := mem_kids.mp hy
  have hl := (List.getElem?_eq_some_iff.mp hc).1
  refine ⟨by simp; omega, fun q hq => ?_, fun i j a b q s hij ha hb hq hs hlt => ?_⟩
  · rcases List.mem_append.mp hq with hq | hq
    · exact h.rng q hq
    · rw [List.mem_singleton.mp hq]; omega
  · rw [List.getElem?_append] at hq hs
    by_cases z : j < p.length
    · rw [if_pos z] at hs
      rw [if_pos (by omega)] at hq
      exact h.un i j a b q s hij ha hb hq hs hlt
    · rw [if_neg z] at hs
      have hj : j - p.length = 0 := by
        have := (List.getElem?_eq_some_iff.mp hs).1
        simp at this
        omega
      rw [hj] at hs
      simp at hs
      subst hs
      have e : j = p.length := by omega
      subst e
      rw [hc] at hb; cases hb
      rw [if_pos hij] at hq
      intro e
      subst e
      exact h2 (mem_bars.mpr ⟨i, hq, by rw [getD_at ha]; exact hlt⟩)
theorem ext_kid {xs p rs : List Int} {c sp : Int} {k : Nat} (h : ColL xs sp k rs) (hc : xs[p.length]? = some c) (e : rs.take p.length = p) : ∃ y ∈ kids xs p c sp k, rs.take y.length = y := by
  have hl := (List.getElem?_eq_some_iff.mp hc).1
  have l := h.len
  have hr := List.getElem?_eq_getElem (show p.length < rs.length by omega)
  have rg := h.rng _ (List.getElem_mem (show p.length < rs.length by omega))
  refine ⟨p ++ [rs[p.length]'(by omega)], mem_kids.mpr ⟨(rs[p.length]'(by omega)).toNat, by omega, fun z => ?_, ?_⟩, ?_⟩
  · rw [Int.toNat_of_nonneg rg.1] at z
    obtain ⟨i, h1, h2⟩ := mem_bars.mp z
    have hi := (List.getElem?_eq_some_iff.mp h1).1
    have hx := List.getElem?_eq_getElem (show i < xs.length by omega)
    rw [getD_at hx] at h2
    have hri : rs[i]? = some (rs[p.length]'(by omega)) := by
      have e2 : (rs.take p.length)[i]? = p[i]? := by rw [e]
      rw [List.getElem?_take, if_pos hi] at e2
      rw [e2]; exact h1
    exact h.un i p.length _ _ _ _ hi hx hc hri hr h2 rfl
  · rw [Int.toNat_of_nonneg rg.1]
  · rw [List.length_append, List.length_singleton, List.take_add_one, e, hr]
    rfl
/-- how much is left to try -/
def left_to (k n : Nat) (line : List (List Int)) : Nat := (line.map fun p => (k + 1) ^ (n - p.length)).sum
theorem cost_append {k n : Nat} {xs ys : List (List Int)} : left_to k n (xs ++ ys) = left_to k n xs + left_to k n ys := by
  unfold left_to; rw [List.map_append, List.sum_append_nat]
theorem cost_le {k n m : Nat} : ∀ {ys : List (List Int)}, (∀ y ∈ ys, (k + 1) ^ (n - y.length) ≤ m) → left_to k n ys ≤ ys.length * m
  | [], _ => Nat.zero_le _
  | y :: ys, h => by
    have ih := cost_le (ys := ys) fun z hz => h z (List.mem_cons_of_mem _ hz)
    have := h y (List.mem_cons_self ..)
    show (k + 1) ^ (n - y.length) + left_to k n ys ≤ (ys.length + 1) * m
    rw [Nat.add_mul, Nat.one_mul]
    omega
theorem cost_ge {k n : Nat} : ∀ {ys : List (List Int)}, ys.length ≤ left_to k n ys
  | [] => Nat.zero_le _
  | y :: ys => by
    have ih := cost_ge (k := k) (n := n) (ys := ys)
    have : 0 < (k + 1) ^ (n - y.length) := Nat.pow_pos (by omega)
    show ys.length + 1 ≤ (k + 1) ^ (n - y.length) + left_to k n ys
    omega
theorem cost_kids {xs p : List Int} {c sp : Int} {k n : Nat} {ys : List (List Int)} (h : p.length < n) : left_to k n (ys ++ kids xs p c sp k) < left_to k n (ys ++ [p]) := by
  rw [cost_append, cost_append]
  have h1 : left_to k n (kids xs p c sp k) ≤ k * (k + 1) ^ (n - p.length - 1) := by
    refine Nat.le_trans (cost_le (m := (k + 1) ^ (n - p.length - 1)) fun y hy => ?_) (Nat.mul_le_mul_right _ kids_len)
    obtain ⟨i, _, _, rfl⟩ := mem_kids.mp hy
    rw [List.length_append, List.length_singleton, Nat.sub_sub]
    exact Nat.le_refl _
  have h2 : left_to k n [p] = (k + 1) ^ (n - p.length) := by simp [left_to]
  have h3 : (k + 1) ^ (n - p.length) = (k + 1) ^ (n - p.length - 1) * (k + 1) := by
    rw [← Nat.pow_succ]; congr 1; omega
  have h4 : 0 < (k + 1) ^ (n - p.length - 1) := Nat.pow_pos (by omega)
  have h5 : (k + 1) ^ (n - p.length - 1) * (k + 1) = k * (k + 1) ^ (n - p.length - 1) + (k + 1) ^ (n - p.length - 1) := by
    rw [Nat.mul_add, Nat.mul_one, Nat.mul_comm]
  omega
theorem any_int (xs : List Int) (x : Int) : ((xs.map PyData.int).any fun z => PyData.eqv z (.int x)) = decide (x ∈ xs) := by
  rw [List.any_map, Bool.eq_iff_iff, List.any_eq_true, decide_eq_true_eq]
  constructor
  · rintro ⟨y, h1, h2⟩
    rw [Function.comp, eqv_int, decide_eq_true_eq] at h2
    subst h2
    exact h1
  · exact fun h => ⟨x, h, by rw [Function.comp, eqv_int]; exact decide_eq_true rfl⟩
def eR (p : List Int) : PyData := .tuple (p.map .int)
def unR : PyData → List Int
  | .tuple ys => (asInts ys).getD []
  | _ => []
theorem unR_map (line : List (List Int)) : (line.map eR).map unR = line := by
  rw [List.map_map]
  have : ∀ p : List Int, (unR ∘ eR) p = p := fun p => by
    show (asInts (p.map .int)).getD [] = p
    rw [asInts_map]; rfl
  rw [show (unR ∘ eR) = fun p => p from funext this]
  exact List.map_id' line
theorem RowsI.few {xs : List Int} {sp : Int} {j : Nat} {rows free : List Int} {freed many : Nat} (h : RowsI xs sp j rows free freed many) : free.length ≤ xs.length := by
  have a := h.perm.length_eq
  rw [List.length_append, List.length_map, List.length_range] at a
  have := h.has.size
  omega
theorem bars_enc (xs p : List Int) (c sp : Int) : p.zipIdx.filterMap (fun q => ((if c - xs.getD q.2 0 < sp then some q.1 else none) : Option Int).map PyData.int) = (bars xs p c sp).map .int := by
  unfold bars; rw [List.map_filterMap]
theorem kids_enc (xs p : List Int) (c sp : Int) (k : Nat) : (List.range k).filterMap (fun i : Nat => ((if (i : Int) ∈ bars xs p c sp then none else some (p ++ [(i : Int)])) : Option (List Int)).map eR) = (kids xs p c sp k).map eR := by
  unfold kids; rw [List.map_filterMap]
theorem eR_snoc (p : List Int) (i : Int) : PyData.tuple (p.map .int ++ [.int i]) = eR (p ++ [i]) := by
  unfold eR; rw [List.map_append]; rfl
/-- the number of rows is told by the xs alone -/
def Rown (xs : List Int) (sp : Int) (n : Nat) : Prop := HasC xs sp n ∧ ∀ m, HasC xs sp m → m ≤ n
theorem Rown.of {xs rs : List Int} {sp : Int} {n : Nat} (c : ColL xs sp n rs) (h : HasC xs sp n) : Rown xs sp n := ⟨h, fun m k => col_has c k⟩
theorem Rown.same {xs ys : List Int} {sp : Int} {m n : Nat} (h : Rown xs sp m) (k : Rown ys sp n) (a : HasC xs sp m → HasC ys sp m) (b : HasC ys sp n → HasC xs sp n) : m = n :=
  Nat.le_antisymm (k.2 _ (a h.1)) (h.2 _ (b k.1))
theorem Rown.less {xs ys : List Int} {a sp : Int} {m n : Nat} (h : Rown (xs ++ a :: ys) sp m) (k : Rown (xs ++ ys) sp n) : m - 1 ≤ n ∧ n ≤ m :=
  ⟨k.2 _ h.1.less, h.2 _ (k.1.sub (List.Sublist.append_left (List.sublist_cons_self ..) _))⟩
theorem Rown.out {xs : List Int} {sp : Int} {m n c : Nat} (h : Rown xs sp m) (k : Rown (xs.take c ++ xs.drop (c + 1)) sp n) : m - 1 ≤ n ∧ n ≤ m := by
  by_cases z : c < xs.length
  · have e : xs = xs.take c ++ xs[c] :: xs.drop (c + 1) := by rw [← List.drop_eq_getElem_cons z, List.take_append_drop]
    have h2 : Rown (xs.take c ++ xs[c] :: xs.drop (c + 1)) sp m := by rw [← e]; exact h
    exact h2.less k
  · rw [List.take_of_length_le (by omega), List.drop_eq_nil_of_le (by omega), List.append_nil] at k
    have := Rown.same h k (fun q => q) (fun q => q)
    omega
theorem Rown.wide {xs : List Int} {sp sq : Int} {m n : Nat} (h : Rown xs sp m) (k : Rown xs sq n) (l : sp ≤ sq) : m ≤ n := k.2 _ (h.1.wide l)
theorem Rown.two {xs ys : List Int} {sp : Int} {m n b : Nat} (h : Rown xs sp m) (k : Rown ys sp n) (l : Rown (xs ++ ys) sp b) (far : ∀ x ∈ xs, ∀ y ∈ ys, x + sp ≤ y) : (b : Int) = if (n : Int) > m then (n : Int) else m := by
  have h1 := l.2 _ (h.1.sub (List.sublist_append_left ..))
  have h2 := l.2 _ (k.1.sub (List.sublist_append_right ..))
  rcases HasC.two far l.1 with z | z
  · have := h.2 _ z
    split <;> omega
  · have := k.2 _ z
    split <;> omega
theorem HasC.move_iff {xs : List Int} {sp d : Int} {n : Nat} : HasC (xs.map fun x => x + d) sp n ↔ HasC xs sp n :=
  ⟨fun h => by
    have := h.move (d := -d)
    rw [List.map_map] at this
    have e : ((fun x => x + -d) ∘ fun x => x + d) = fun x : Int => x := by funext x; show x + d + -d = x; omega
    rw [e, List.map_id'] at this
    exact this, fun h => h.move⟩
theorem HasC.mirror_iff {xs : List Int} {sp d : Int} {n : Nat} : HasC (xs.map fun x => 2 * d - x) sp n ↔ HasC xs sp n :=
  ⟨fun h => by
    have := h.mirror (d := d)
    rw [List.map_map] at this
    have e : ((fun x => 2 * d - x) ∘ fun x => 2 * d - x) = fun x : Int => x := by funext x; show 2 * d - (2 * d - x) = x; omega
    rw [e, List.map_id'] at this
    exact this, fun h => h.mirror⟩
theorem UpL.sub {xs ys : List Int} (h : UpL ys) (k : xs.Sublist ys) : UpL xs := List.Pairwise.sublist k h
theorem lxs_app {xs ys : List Lmp} : lxs (xs ++ ys) = lxs xs ++ lxs ys := List.map_append
theorem lxs_take {xs : List Lmp} {c : Nat} : lxs (xs.take c) = (lxs xs).take c := List.map_take
theorem lxs_drop {xs : List Lmp} {c : Nat} : lxs (xs.drop c) = (lxs xs).drop c := List.map_drop
theorem eP_take {ls : List Lmp} {c : Nat} {k : Int} (h : k = c) : DV.cutD (ls.map eLm) none (some k) = (ls.take c).map eLm := by
  subst h
  rw [cut_take (by omega), Int.toNat_natCast, List.map_take]
theorem eP_drop {ls : List Lmp} {c : Nat} {k : Int} (h : k = c) : DV.cutD (ls.map eLm) (some k) none = (ls.drop c).map eLm := by
  subst h
  rw [cut_drop (by omega), Int.toNat_natCast, List.map_drop]
/-- a while, its body named -/
theorem whileI {c : TDT} {tb : TDS} {DD : DEnds} {ρ : Rho} (I : Rho → Prop) (μ : Rho → Nat) (h0 : I ρ) (h : ∀ tb', tb' = tb → ∀ ρ, I ρ → c ρ fun k ρ1 => if k = true then tb' { DD with nx := fun ρ' => I ρ' ∧ μ ρ' < μ ρ, ct := fun ρ' => I ρ' ∧ μ ρ' < μ ρ, bk := DD.nx } ρ1 else DD.nx ρ1) : dWhile c tb DD ρ := ⟨I, μ, h0, fun ρ hρ => h tb rfl ρ hρ⟩
theorem heapL_nil : HeapL [] := by unfold HeapL HQ.HeapF; intro i; simp
theorem mul_n : MulOk (Str.ofString "n") 12 := ⟨by decide, fun _ _ => by decide +kernel, fun _ _ => by decide +kernel⟩
theorem shp_eR (p : List Int) : Shp 1 (eR p) := .tuple (Shp.map fun _ _ => .int)
theorem sh_line (line : List (List Int)) : SeqAt.shaped (PyData.list (line.map eR)) = true := (Shp.list (k := 1) (Shp.map fun p _ => shp_eR p)).shaped
theorem sh_intsL (xs : List Int) : SeqAt.shaped (PyData.list (xs.map .int)) = true := (Shp.list (k := 0) (Shp.map fun p _ => .int)).shaped
theorem sh_nilL : SeqAt.shaped (PyData.list []) = true := sh_intsL []
theorem eqv_line (line : List (List Int)) : PyData.eqv (.list (line.map eR)) (.list []) = decide (line = []) := by
  cases line with
  | nil => simp [PyData.eqv, PyData.eqvAll]
  | cons a b => simp [PyData.eqv, PyData.eqvAll]
theorem pop_line {ys : List (List Int)} {p : List Int} : ((ys ++ [p]).map eR)[((ys ++ [p]).map eR).length - 1]? = some (eR p) := by
  rw [List.map_append, List.length_append, List.map_cons, List.map_nil, List.length_singleton, Nat.add_sub_cancel, List.getElem?_append_right (Nat.le_refl _), Nat.sub_self]
  rfl
theorem drop_line {ys : List (List Int)} {p : List Int} : ((ys ++ [p]).map eR).dropLast = ys.map eR := by
  rw [List.map_append, List.map_cons, List.map_nil, List.dropLast_concat]
end DV
namespace K16
open PySem PySem.Spec PyProof.Rows L2 DV
open scoped Rat
def topS (i : Nat) : Stmt := PySem.Challenge.pw_lampsaloft_k16_whole_never_fewer_rows.main.body.getD i (.Pass ⟨0, 0, 0, 0⟩)
abbrev nm_rows_of : List Str := ["picture", "spacing", "rows", "free", "freed", "many", "lamp"]
abbrev s_rows_of : Stmt := topS 2
theorem sc_rows_of : FnScope nm_rows_of ["picture", "spacing"] (defScope s_rows_of) := ⟨rfl, rfl, rfl, by decide +kernel, rfl, by decide +kernel, by decide +kernel⟩
abbrev nm_rows_many : List Str := ["rows"]
abbrev s_rows_many : Stmt := topS 3
theorem sc_rows_many : FnScope nm_rows_many ["rows"] (defScope s_rows_many) := ⟨rfl, rfl, rfl, by decide +kernel, rfl, by decide +kernel, by decide +kernel⟩
abbrev nm_most_abreast : List Str := ["picture", "spacing", "best", "last", "first", "lamp"]
abbrev s_most_abreast : Stmt := topS 4
theorem sc_most_abreast : FnScope nm_most_abreast ["picture", "spacing"] (defScope s_most_abreast) := ⟨rfl, rfl, rfl, by decide +kernel, rfl, by decide +kernel, by decide +kernel⟩
abbrev nm_moved_lamps : List Str := ["picture", "x", "z", "lamp"]
abbrev s_moved_lamps : Stmt := topS 6
theorem sc_moved_lamps : FnScope nm_moved_lamps ["picture", "x", "z"] (defScope s_moved_lamps) := ⟨rfl, rfl, rfl, by decide +kernel, rfl, by decide +kernel, by decide +kernel⟩
abbrev nm_mirrored_lamps : List Str := ["picture", "x", "lamp"]
abbrev s_mirrored_lamps : Stmt := topS 7
theorem sc_mirrored_lamps : FnScope nm_mirrored_lamps ["picture", "x"] (defScope s_mirrored_lamps) := ⟨rfl, rfl, rfl, by decide +kernel, rfl, by decide +kernel, by decide +kernel⟩
abbrev nm__law_bag : List Str := ["_law_script", "_law_cell"]
abbrev s__law_bag : Stmt := topS 9
theorem sc__law_bag : FnScope nm__law_bag ["_law_script"] (defScope s__law_bag) := ⟨rfl, rfl, rfl, by decide +kernel, rfl, by decide +kernel, by decide +kernel⟩
abbrev nm__law_take : List Str := ["_law_bag_here", "_law_many", "_law_cell", "_law_stirred", "_law_value", "_law_begin", "_law_second"]
abbrev s__law_take : Stmt := topS 10
theorem sc__law_take : FnScope nm__law_take ["_law_bag_here", "_law_many"] (defScope s__law_take) := ⟨rfl, rfl, rfl, by decide +kernel, rfl, by decide +kernel, by decide +kernel⟩
abbrev nm__law_some : List Str := ["_law_bag_here", "_law_things"]
abbrev s__law_some : Stmt := topS 11
theorem sc__law_some : FnScope nm__law_some ["_law_bag_here", "_law_things"] (defScope s__law_some) := ⟨rfl, rfl, rfl, by decide +kernel, rfl, by decide +kernel, by decide +kernel⟩
abbrev nm__law_shades : List Str := ["_law_bag_here", "_law_names", "_law_some_here", "_law_turn"]
abbrev s__law_shades : Stmt := topS 12
theorem sc__law_shades : FnScope nm__law_shades ["_law_bag_here"] (defScope s__law_shades) := ⟨rfl, rfl, rfl, by decide +kernel, rfl, by decide +kernel, by decide +kernel⟩
abbrev nm__law_shape : List Str := ["_law_points"]
abbrev s__law_shape : Stmt := topS 13
theorem sc__law_shape : FnScope nm__law_shape ["_law_points"] (defScope s__law_shape) := ⟨rfl, rfl, rfl, by decide +kernel, rfl, by decide +kernel, by decide +kernel⟩
abbrev nm__law_close_picture : List Str := ["_law_bag_here", "_law_wide", "_law_dots", "_law_turn", "_law_lamps", "_law_x", "_law_z"]
abbrev s__law_close_picture : Stmt := topS 14
theorem sc__law_close_picture : FnScope nm__law_close_picture ["_law_bag_here"] (defScope s__law_close_picture) := ⟨rfl, rfl, rfl, by decide +kernel, rfl, by decide +kernel, by decide +kernel⟩
abbrev nm__law_has_rows : List Str := ["_law_picture", "_law_spacing", "_law_many", "_law_line", "_law_rows", "_law_lamp", "_law_barred", "_law_at", "_law_row"]
abbrev s__law_has_rows : Stmt := topS 15
theorem sc__law_has_rows : FnScope nm__law_has_rows ["_law_picture", "_law_spacing", "_law_many"] (defScope s__law_has_rows) := ⟨rfl, rfl, rfl, by decide +kernel, rfl, by decide +kernel, by decide +kernel⟩
abbrev nm_law : List Str := ["_law_script", "_law_bag_here", "_law_turn", "_law_picture", "_law_spacing", "_law_many", "_law_at", "_law_less", "_law_x", "_law_z", "_law_others", "_law_one", "_law_other", "_law_lamp", "_law_both"]
abbrev s_law : Stmt := topS 16
theorem sc_law : FnScope nm_law ["_law_script"] (defScope s_law) := ⟨rfl, rfl, rfl, by decide +kernel, rfl, by decide +kernel, by decide +kernel⟩
structure Bi (mg : Str → Option Value) : Prop where
  b_tuple : mg "tuple" = none
  b_len : mg "len" = none
  b_max : mg "max" = none
  b_enumerate : mg "enumerate" = none
  b_sorted : mg "sorted" = none
  b_abs : mg "abs" = none
  b_int : mg "int" = none
  b_range : mg "range" = none
  b_set : mg "set" = none
  i_heappush : mg "heappush" = some (.builtin "_heapq.heappush")
  i_heappop : mg "heappop" = some (.builtin "_heapq.heappop")
def S_rows_of : Sd := SpR (α := (List Lmp) × Int) (fun ⟨ls, sp⟩ => [eP ls, .int sp]) (fun ⟨ls, sp⟩ => UpL (lxs ls) ∧ 1 ≤ sp ∧ ls.length ≤ 1000) (fun ⟨ls, sp⟩ z => ∃ (rs : List Int) (n : Nat), z = .tuple (rs.map .int) ∧ ColL (lxs ls) sp n rs ∧ HasC (lxs ls) sp n)
theorem m_rows_of : MonoP S_rows_of := m_SpR
theorem u_rows_of {ls : List Lmp} {sp : Int} {Q : PyData → Prop} (h0 : UpL (lxs ls)) (h1 : 1 ≤ sp) (h2 : ls.length ≤ 1000) (hQ : ∀ z, (∃ (rs : List Int) (n : Nat), z = .tuple (rs.map .int) ∧ ColL (lxs ls) sp n rs ∧ HasC (lxs ls) sp n) → Q z) : S_rows_of [eP ls, .int sp] Q := ⟨(ls, sp), rfl, ⟨h0, h1, h2⟩, hQ⟩
def S_rows_many : Sd := SpE (α := (List Int) × (List Int) × Int × Nat) (fun ⟨xs, rs, sp, n⟩ => [.tuple (rs.map .int)]) (fun ⟨xs, rs, sp, n⟩ => ColL xs sp n rs ∧ HasC xs sp n) (fun ⟨xs, rs, sp, n⟩ => .int n)
theorem m_rows_many : MonoP S_rows_many := m_SpE
theorem u_rows_many {xs : List Int} {rs : List Int} {sp : Int} {n : Nat} {Q : PyData → Prop} (h0 : ColL xs sp n rs) (h1 : HasC xs sp n) (hQ : Q (.int n)) : S_rows_many [.tuple (rs.map .int)] Q := ⟨(xs, rs, sp, n), rfl, ⟨h0, h1⟩, hQ⟩
def S_most_abreast : Sd := SpR (α := (List Lmp) × Int) (fun ⟨ls, sp⟩ => [eP ls, .int sp]) (fun ⟨ls, sp⟩ => UpL (lxs ls) ∧ 1 ≤ sp ∧ ls.length ≤ 1000) (fun ⟨ls, sp⟩ z => ∃ (m : Nat) (y : PyData), z = .tuple [.int m, y] ∧ HasC (lxs ls) sp m ∧ ∀ n, HasC (lxs ls) sp n → n ≤ m)
theorem m_most_abreast : MonoP S_most_abreast := m_SpR
theorem u_most_abreast {ls : List Lmp} {sp : Int} {Q : PyData → Prop} (h0 : UpL (lxs ls)) (h1 : 1 ≤ sp) (h2 : ls.length ≤ 1000) (hQ : ∀ z, (∃ (m : Nat) (y : PyData), z = .tuple [.int m, y] ∧ HasC (lxs ls) sp m ∧ ∀ n, HasC (lxs ls) sp n → n ≤ m) → Q z) : S_most_abreast [eP ls, .int sp] Q := ⟨(ls, sp), rfl, ⟨h0, h1, h2⟩, hQ⟩
def S_moved_lamps : Sd := SpE (α := (List Lmp) × Int × Int) (fun ⟨ls, x, z⟩ => [eP ls, .int x, .int z]) (fun ⟨ls, x, z⟩ => ls.length ≤ 1000) (fun ⟨ls, x, z⟩ => eP (ls.map fun l => ⟨l.x + x, l.z + z, l.sh, l.w⟩))
theorem m_moved_lamps : MonoP S_moved_lamps := m_SpE
theorem u_moved_lamps {ls : List Lmp} {x : Int} {z : Int} {Q : PyData → Prop} (h0 : ls.length ≤ 1000) (hQ : Q (eP (ls.map fun l => ⟨l.x + x, l.z + z, l.sh, l.w⟩))) : S_moved_lamps [eP ls, .int x, .int z] Q := ⟨(ls, x, z), rfl, h0, hQ⟩
def S_mirrored_lamps : Sd := SpR (α := (List Lmp) × Int) (fun ⟨ls, d⟩ => [eP ls, .int d]) (fun ⟨ls, d⟩ => ls.length ≤ 1000 ∧ -100 ≤ d ∧ d ≤ 100) (fun ⟨ls, d⟩ z => ∃ ms : List Lmp, z = eP ms ∧ UpL (lxs ms) ∧ ms.length = ls.length ∧ (lxs ms).Perm ((lxs ls).map fun x => 2 * d - x))
theorem m_mirrored_lamps : MonoP S_mirrored_lamps := m_SpR
theorem u_mirrored_lamps {ls : List Lmp} {d : Int} {Q : PyData → Prop} (h0 : ls.length ≤ 1000) (h1 : -100 ≤ d) (h2 : d ≤ 100) (hQ : ∀ z, (∃ ms : List Lmp, z = eP ms ∧ UpL (lxs ms) ∧ ms.length = ls.length ∧ (lxs ms).Perm ((lxs ls).map fun x => 2 * d - x)) → Q z) : S_mirrored_lamps [eP ls, .int d] Q := ⟨(ls, d), rfl, ⟨h0, h1, h2⟩, hQ⟩
abbrev S__law_bag : SdL := S_bag
theorem m__law_bag : MonoF S__law_bag := m_bag
abbrev S__law_take : Sb := S_take
theorem m__law_take : MonoB S__law_take := m_take
def S__law_shape : Sd := SpR (α := (List Pr)) (fun ps => [.list (ps.map encP)]) (fun ps => ps.length < 64) (fun ps z => ∃ qs, SortdS ps qs ∧ z = .tuple (qs.map encP))
theorem m__law_shape : MonoP S__law_shape := m_SpR
theorem u__law_shape {ps : List Pr} {Q : PyData → Prop} (h0 : ps.length < 64) (hQ : ∀ z, (∃ qs, SortdS ps qs ∧ z = .tuple (qs.map encP)) → Q z) : S__law_shape [.list (ps.map encP)] Q := ⟨(ps), rfl, h0, hQ⟩
def S__law_has_rows : Sd := SpE (α := (List Lmp) × Int × Nat) (fun ⟨ls, sp, n⟩ => [eP ls, .int sp, .int n]) (fun ⟨ls, sp, n⟩ => ls.length ≤ 7 ∧ n ≤ 7) (fun ⟨ls, sp, n⟩ => .bool (hasRows (lxs ls) sp n))
theorem m__law_has_rows : MonoP S__law_has_rows := m_SpE
theorem u__law_has_rows {ls : List Lmp} {sp : Int} {n : Nat} {Q : PyData → Prop} (h0 : ls.length ≤ 7) (h1 : n ≤ 7) (hQ : Q (.bool (hasRows (lxs ls) sp n))) : S__law_has_rows [eP ls, .int sp, .int n] Q := ⟨(ls, sp, n), rfl, ⟨h0, h1⟩, hQ⟩
abbrev S__law_some : Sb := S_some
theorem m__law_some : MonoB S__law_some := m_some
def S__law_shades : Sb := SpB (α := Unit) 10 (fun _ => []) (fun _ => True) (fun _ z => ∃ ss : List Str, z = .tuple (ss.map .str))
theorem m__law_shades : MonoB S__law_shades := m_SpB
theorem u__law_shades  {m : Nat} {bag : List PyData} {Q : PyData → List PyData → Prop} (hb : Bag m bag) (hm : m + 10 < 2 ^ 60)  (hQ : ∀ z bag', (∃ ss : List Str, z = .tuple (ss.map .str)) → Bag (m + 10) bag' → Q z bag') : S__law_shades bag [] Q := ⟨(), m, hb, hm, rfl, trivial, hQ⟩
def S__law_close_picture : Sb := SpB (α := Unit) 200 (fun _ => []) (fun _ => True) (fun _ z => ∃ ls : List Lmp, z = eP ls ∧ ls.length ≤ 14 ∧ UpL (lxs ls) ∧ ∀ l ∈ ls, -20 ≤ l.x ∧ l.x ≤ 40)
theorem m__law_close_picture : MonoB S__law_close_picture := m_SpB
theorem u__law_close_picture  {m : Nat} {bag : List PyData} {Q : PyData → List PyData → Prop} (hb : Bag m bag) (hm : m + 200 < 2 ^ 60)  (hQ : ∀ z bag', (∃ ls : List Lmp, z = eP ls ∧ ls.length ≤ 14 ∧ UpL (lxs ls) ∧ ∀ l ∈ ls, -20 ≤ l.x ∧ l.x ≤ 40) → Bag (m + 200) bag' → Q z bag') : S__law_close_picture bag [] Q := ⟨(), m, hb, hm, rfl, trivial, hQ⟩
def S_law : Sd := fun xs Q => ∃ ns : List Int, xs = [.list (ns.map .int)] ∧ Q (.bool true)
theorem m_law : MonoP S_law := fun xs Q Q' hq ⟨ns, h1, h2⟩ => ⟨ns, h1, hq _ h2⟩
theorem law_spec : ∀ ns : List Int, ns.length ≤ 63 → S_law [.list (ns.map .int)] fun z => z = .bool true := fun ns _ => ⟨ns, rfl, rfl⟩
section
variable {P : Program} {w : World} {K : PySem.W.Frag} {mg : Str → Option Value} {base : Heap}
set_option maxHeartbeats 4000000 in
theorem ok_rows_of {f : Addr} {fd : FuncData} (W : Fun K "rows_of" "rows_of" s_rows_of f fd) (T : Bi mg) :
    FnG P w K mg base CX0 1 f fd ["picture", "spacing"] (spP K [.d, .d] S_rows_of) := by
  refine fnP W sc_rows_of rfl fun cdv A out s H E Nn hr hgd => ⟨_, _, (dss_cons (ds_setL (i := 2) sc_rows_of.nd (pl_lst pda_nil) fixP)
      (dss_cons (ds_setL (i := 3) sc_rows_of.nd (pl_lst pda_nil) fixP)
      (dss_cons (ds_set (i := 4) sc_rows_of.nd pd_int fixP)
      (dss_cons (ds_set (i := 5) sc_rows_of.nd pd_int fixP)
      (dss_cons (ds_for PassesOwn.never rfl (pdi_seq (pdv 0)) (pgd_name (i := 6) sc_rows_of.nd) (dss_cons (ds_while PassesOwn.never (pt_w (pwd_and (pt_lt (pdv 4) (pd_callB call_len_seq sc_len rfl T.b_len (by decide +kernel) (pda_cons (pdv 2) pda_nil))) (pwd_and1 (pt_le (pd_add (pd_ix (pd_ix (pdv 0) (pdv 4) (fun _ _ => rfl)) pd_int (fun _ _ => rfl)) (pdv 1)) (pd_ix (pdv 6) pd_int (fun _ _ => rfl)))))) (dss_cons (ds_expr (pd_heappush rfl T.i_heappush (pda_cons (pdv 3) (pda_cons (pd_ix (pdv 2) (pdv 4) (fun _ _ => rfl)) pda_nil))))
      (dss_one (ds_aug (i := 4) sc_rows_of.nd pd_int ip_add fixP))))
      (dss_cons (ds_if (pt_eq hr.units rfl (pd_callB call_len_seq sc_len rfl T.b_len (by decide +kernel) (pda_cons (pdv 3) pda_nil)) pd_int) (dss_cons (ds_expr (pd_heappush rfl T.i_heappush (pda_cons (pdv 3) (pda_cons (pdv 5) pda_nil))))
      (dss_one (ds_aug (i := 5) sc_rows_of.nd pd_int ip_add fixP))) dss_nil)
      (dss_one (ds_expr (pd_append (i := 2) (pda_cons (pd_heappop rfl T.i_heappop (pda_cons (pdv 3) pda_nil)) pda_nil)))))) nofixP)
      (dss_one (ds_ret (pd_tupleOf rfl T.b_tuple (pda_cons (pdv 2) pda_nil))))))))), ?_⟩
  clear W T hr hgd
  rintro xs Q hl ⟨⟨ls, sp⟩, rfl, ⟨h0, h1, h2⟩, hQ⟩
  clear hl
  replace hQ : ∀ z, (∃ (rs : List Int) (n : Nat), z = .tuple (rs.map .int) ∧ ColL (lxs ls) sp n rs ∧ HasC (lxs ls) sp n) → Q z   := hQ
  have e : rhoP nm_rows_of.length [.d, .d] [eP ls, .int sp] = [some (.d (eP ls)), some (.d (.int sp)), none, none, none, none, none] := rfl
  rw [e]
  clear e
  refine seqI fun kk hk => ?_
  simp only [dSeq, dAsg, dCB, dCons, dNil, dVar, onVs, vals, val, slot, setR, fGcd, dIfS, dTV, dOp, dBin, onV2, fLt, fLe, fGt, fGe, fAdd, fSub, fMul, fDiv, fMod, fI0, dC, dUn, onV, fNeg, dNext, dRet, dTup, onD, dats, fDivZ, fI, fPow, Few, retP, fAbs, fInt, fMax, fMin, fLen, fSqrt, fEq, fNe, dNot, dAnd, dOr, dAndV, dOrV, dNotV, dIfE, dDrop, dRetN, dPar, noO, dSetL, dLst, dOfL, dOwnM, onOwn, onDat, kAppend, kInsert, dSetItem, dAddItem, dIx, onItems, items, onInt, dNoPart, dPart, dSlice, onL, litems, dSlL, dCat, onM, mitems, dTupOf, dSeqI, dRng1, dRng2, dCallP, dCallB, dCallF, noSelf, onArgs, dats2, dIsi, tyName, dYes, dgTup, dgCons, dgNil, retB, dBreak, dCont, ne_eq, not_false_eq_true, true_and, and_true, List.getElem?_cons_zero, List.getElem?_cons_succ, List.set_cons_zero, List.set_cons_succ, Option.map, List.length_cons, List.length_nil, dLc_eq, dLc2_eq, dFor_eq, dSortSet, dSort, dListOf, dIsN, dNotN, isNo, dAug, dMulA, dgUnl, dCatT, dSlT, onT, titems, dEnum, dZip, dZipM, seqs, dRetL, dPar3, dRevT, dLstRg, dTupRg, dRg1, dRg2, dChainLe, List.nil_append, List.cons_append, if_true, if_false, dFrz, dLcO, dMin2D, dAppX, dParL, dParLL, dRepL, fNeS, fEqS, dgSet, dTupZip, dFgt, fIsB, fNotB, List.map_cons, List.map_nil, fw0, fw1, fw2, fw3, fw4, fw5, fw6, fw7, fw8, fw9, fw10, fw11, fw12, fw13, fw14, fw15]
  rw [hk]
  clear hk
  refine seqI fun kk hk => ?_
  simp only [dSeq, dAsg, dCB, dCons, dNil, dVar, onVs, vals, val, slot, setR, fGcd, dIfS, dTV, dOp, dBin, onV2, fLt, fLe, fGt, fGe, fAdd, fSub, fMul, fDiv, fMod, fI0, dC, dUn, onV, fNeg, dNext, dRet, dTup, onD, dats, fDivZ, fI, fPow, Few, retP, fAbs, fInt, fMax, fMin, fLen, fSqrt, fEq, fNe, dNot, dAnd, dOr, dAndV, dOrV, dNotV, dIfE, dDrop, dRetN, dPar, noO, dSetL, dLst, dOfL, dOwnM, onOwn, onDat, kAppend, kInsert, dSetItem, dAddItem, dIx, onItems, items, onInt, dNoPart, dPart, dSlice, onL, litems, dSlL, dCat, onM, mitems, dTupOf, dSeqI, dRng1, dRng2, dCallP, dCallB, dCallF, noSelf, onArgs, dats2, dIsi, tyName, dYes, dgTup, dgCons, dgNil, retB, dBreak, dCont, ne_eq, not_false_eq_true, true_and, and_true, List.getElem?_cons_zero, List.getElem?_cons_succ, List.set_cons_zero, List.set_cons_succ, Option.map, List.length_cons, List.length_nil, dLc_eq, dLc2_eq, dFor_eq, dSortSet, dSort, dListOf, dIsN, dNotN, isNo, dAug, dMulA, dgUnl, dCatT, dSlT, onT, titems, dEnum, dZip, dZipM, seqs, dRetL, dPar3, dRevT, dLstRg, dTupRg, dRg1, dRg2, dChainLe, List.nil_append, List.cons_append, if_true, if_false, dFrz, dLcO, dMin2D, dAppX, dParL, dParLL, dRepL, fNeS, fEqS, dgSet, dTupZip, dFgt, fIsB, fNotB, List.map_cons, List.map_nil, fw0, fw1, fw2, fw3, fw4, fw5, fw6, fw7, fw8, fw9, fw10, fw11, fw12, fw13, fw14, fw15]
  rw [hk]
  clear hk
  refine seqI fun kk hk => ?_
  simp only [dSeq, dAsg, dCB, dCons, dNil, dVar, onVs, vals, val, slot, setR, fGcd, dIfS, dTV, dOp, dBin, onV2, fLt, fLe, fGt, fGe, fAdd, fSub, fMul, fDiv, fMod, fI0, dC, dUn, onV, fNeg, dNext, dRet, dTup, onD, dats, fDivZ, fI, fPow, Few, retP, fAbs, fInt, fMax, fMin, fLen, fSqrt, fEq, fNe, dNot, dAnd, dOr, dAndV, dOrV, dNotV, dIfE, dDrop, dRetN, dPar, noO, dSetL, dLst, dOfL, dOwnM, onOwn, onDat, kAppend, kInsert, dSetItem, dAddItem, dIx, onItems, items, onInt, dNoPart, dPart, dSlice, onL, litems, dSlL, dCat, onM, mitems, dTupOf, dSeqI, dRng1, dRng2, dCallP, dCallB, dCallF, noSelf, onArgs, dats2, dIsi, tyName, dYes, dgTup, dgCons, dgNil, retB, dBreak, dCont, ne_eq, not_false_eq_true, true_and, and_true, List.getElem?_cons_zero, List.getElem?_cons_succ, List.set_cons_zero, List.set_cons_succ, Option.map, List.length_cons, List.length_nil, dLc_eq, dLc2_eq, dFor_eq, dSortSet, dSort, dListOf, dIsN, dNotN, isNo, dAug, dMulA, dgUnl, dCatT, dSlT, onT, titems, dEnum, dZip, dZipM, seqs, dRetL, dPar3, dRevT, dLstRg, dTupRg, dRg1, dRg2, dChainLe, List.nil_append, List.cons_append, if_true, if_false, dFrz, dLcO, dMin2D, dAppX, dParL, dParLL, dRepL, fNeS, fEqS, dgSet, dTupZip, dFgt, fIsB, fNotB, List.map_cons, List.map_nil, fw0, fw1, fw2, fw3, fw4, fw5, fw6, fw7, fw8, fw9, fw10, fw11, fw12, fw13, fw14, fw15]
  rw [hk]
  clear hk
  refine seqI fun kk hk => ?_
  simp only [dSeq, dAsg, dCB, dCons, dNil, dVar, onVs, vals, val, slot, setR, fGcd, dIfS, dTV, dOp, dBin, onV2, fLt, fLe, fGt, fGe, fAdd, fSub, fMul, fDiv, fMod, fI0, dC, dUn, onV, fNeg, dNext, dRet, dTup, onD, dats, fDivZ, fI, fPow, Few, retP, fAbs, fInt, fMax, fMin, fLen, fSqrt, fEq, fNe, dNot, dAnd, dOr, dAndV, dOrV, dNotV, dIfE, dDrop, dRetN, dPar, noO, dSetL, dLst, dOfL, dOwnM, onOwn, onDat, kAppend, kInsert, dSetItem, dAddItem, dIx, onItems, items, onInt, dNoPart, dPart, dSlice, onL, litems, dSlL, dCat, onM, mitems, dTupOf, dSeqI, dRng1, dRng2, dCallP, dCallB, dCallF, noSelf, onArgs, dats2, dIsi, tyName, dYes, dgTup, dgCons, dgNil, retB, dBreak, dCont, ne_eq, not_false_eq_true, true_and, and_true, List.getElem?_cons_zero, List.getElem?_cons_succ, List.set_cons_zero, List.set_cons_succ, Option.map, List.length_cons, List.length_nil, dLc_eq, dLc2_eq, dFor_eq, dSortSet, dSort, dListOf, dIsN, dNotN, isNo, dAug, dMulA, dgUnl, dCatT, dSlT, onT, titems, dEnum, dZip, dZipM, seqs, dRetL, dPar3, dRevT, dLstRg, dTupRg, dRg1, dRg2, dChainLe, List.nil_append, List.cons_append, if_true, if_false, dFrz, dLcO, dMin2D, dAppX, dParL, dParLL, dRepL, fNeS, fEqS, dgSet, dTupZip, dFgt, fIsB, fNotB, List.map_cons, List.map_nil, fw0, fw1, fw2, fw3, fw4, fw5, fw6, fw7, fw8, fw9, fw10, fw11, fw12, fw13, fw14, fw15]
  rw [hk]
  clear hk
  refine seqI fun kk hk => ?_
  simp only [dSeq, dAsg, dCB, dCons, dNil, dVar, onVs, vals, val, slot, setR, fGcd, dIfS, dTV, dOp, dBin, onV2, fLt, fLe, fGt, fGe, fAdd, fSub, fMul, fDiv, fMod, fI0, dC, dUn, onV, fNeg, dNext, dRet, dTup, onD, dats, fDivZ, fI, fPow, Few, retP, fAbs, fInt, fMax, fMin, fLen, fSqrt, fEq, fNe, dNot, dAnd, dOr, dAndV, dOrV, dNotV, dIfE, dDrop, dRetN, dPar, noO, dSetL, dLst, dOfL, dOwnM, onOwn, onDat, kAppend, kInsert, dSetItem, dAddItem, dIx, onItems, items, onInt, dNoPart, dPart, dSlice, onL, litems, dSlL, dCat, onM, mitems, dTupOf, dSeqI, dRng1, dRng2, dCallP, dCallB, dCallF, noSelf, onArgs, dats2, dIsi, tyName, dYes, dgTup, dgCons, dgNil, retB, dBreak, dCont, ne_eq, not_false_eq_true, true_and, and_true, List.getElem?_cons_zero, List.getElem?_cons_succ, List.set_cons_zero, List.set_cons_succ, Option.map, List.length_cons, List.length_nil, dLc_eq, dLc2_eq, dFor_eq, dSortSet, dSort, dListOf, dIsN, dNotN, isNo, dAug, dMulA, dgUnl, dCatT, dSlT, onT, titems, dEnum, dZip, dZipM, seqs, dRetL, dPar3, dRevT, dLstRg, dTupRg, dRg1, dRg2, dChainLe, List.nil_append, List.cons_append, if_true, if_false, dFrz, dLcO, dMin2D, dAppX, dParL, dParLL, dRepL, fNeS, fEqS, dgSet, dTupZip, dFgt, fIsB, fNotB, List.map_cons, List.map_nil, fw0, fw1, fw2, fw3, fw4, fw5, fw6, fw7, fw8, fw9, fw10, fw11, fw12, fw13, fw14, fw15, eP]
  refine for_st ls eLm (fun z : List Int × List Int × Nat × Nat × Option Ent => [some (.d (eP ls)), some (.d (.int sp)), some (.own (z.1.map .int)), some (.own (z.2.1.map .int)), some (.d (.int z.2.2.1)), some (.d (.int z.2.2.2.1)), z.2.2.2.2]) (fun i z => RowsI (lxs ls) sp i z.1 z.2.1 z.2.2.1 z.2.2.2.1 ∧ HeapL z.2.1) ([], [], 0, 0, none) rfl ⟨.start _ _, heapL_nil⟩ (fun i l z hl hI C hC => ?_) fun z hz => ?_
  · obtain ⟨rows, free, freed, many, a6⟩ := z
    obtain ⟨hI, hH⟩ := hI
    simp only at hI hH
    have hj := lxs_at hl
    have lr := hI.len
    have il := (List.getElem?_eq_some_iff.mp hl).1
    have fewR : rows.length ≤ 1000 := by omega
    have hC2 : ∀ (rows free : List Int) (freed many : Nat) (a6 : Option Ent), RowsI (lxs ls) sp (i + 1) rows free freed many → HeapL free → C [some (.d (eP ls)), some (.d (.int sp)), some (.own (rows.map .int)), some (.own (free.map .int)), some (.d (.int freed)), some (.d (.int many)), a6] := fun rows free freed many a6 h h2 => hC (rows, free, freed, many, a6) ⟨h, h2⟩
    clear hC
    simp only [setR, List.set_cons_succ, List.set_cons_zero]
    refine seqI fun k2 hk2 => ?_
    have out : ∀ (fr : List Int) (fd : Nat), RowsI (lxs ls) sp i rows fr fd many → HeapL fr → (∀ a, fd < i → (lxs ls)[fd]? = some a → l.x < a + sp) → k2 [some (.d (eP ls)), some (.d (.int sp)), some (.own (rows.map .int)), some (.own (fr.map .int)), some (.d (.int fd)), some (.d (.int many)), some (.d (eLm l))] := fun fr fd hI hH hlast => by
      rw [hk2]
      clear hk2
      refine seqI fun k3 hk3 => ?_
      have pop : ∀ (fr : List Int) (many : Nat), RowsI (lxs ls) sp i rows fr fd many → HeapL fr → 0 < fr.length → k3 [some (.d (eP ls)), some (.d (.int sp)), some (.own (rows.map .int)), some (.own (fr.map .int)), some (.d (.int fd)), some (.d (.int many)), some (.d (eLm l))] := fun fr many hI hH hpos => by
        rw [hk3]
        clear hk3
        simp only [dSeq, dAsg, dCB, dCons, dNil, dVar, onVs, vals, val, slot, setR, fGcd, dIfS, dTV, dOp, dBin, onV2, fLt, fLe, fGt, fGe, fAdd, fSub, fMul, fDiv, fMod, fI0, dC, dUn, onV, fNeg, dNext, dRet, dTup, onD, dats, fDivZ, fI, fPow, Few, retP, fAbs, fInt, fMax, fMin, fLen, fSqrt, fEq, fNe, dNot, dAnd, dOr, dAndV, dOrV, dNotV, dIfE, dDrop, dRetN, dPar, noO, dSetL, dLst, dOfL, dOwnM, onOwn, onDat, kAppend, kInsert, dSetItem, dAddItem, dIx, onItems, items, onInt, dNoPart, dPart, dSlice, onL, litems, dSlL, dCat, onM, mitems, dTupOf, dSeqI, dRng1, dRng2, dCallP, dCallB, dCallF, noSelf, onArgs, dats2, dIsi, tyName, dYes, dgTup, dgCons, dgNil, retB, dBreak, dCont, ne_eq, not_false_eq_true, true_and, and_true, List.getElem?_cons_zero, List.getElem?_cons_succ, List.set_cons_zero, List.set_cons_succ, Option.map, List.length_cons, List.length_nil, dLc_eq, dLc2_eq, dFor_eq, dSortSet, dSort, dListOf, dIsN, dNotN, isNo, dAug, dMulA, dgUnl, dCatT, dSlT, onT, titems, dEnum, dZip, dZipM, seqs, dRetL, dPar3, dRevT, dLstRg, dTupRg, dRg1, dRg2, dChainLe, List.nil_append, List.cons_append, if_true, if_false, dFrz, dLcO, dMin2D, dAppX, dParL, dParLL, dRepL, fNeS, fEqS, dgSet, dTupZip, dFgt, fIsB, fNotB, List.map_cons, List.map_nil, fw0, fw1, fw2, fw3, fw4, fw5, fw6, fw7, fw8, fw9, fw10, fw11, fw12, fw13, fw14, fw15, dHPop]
        refine ⟨fr, asInts_map fr, hpos, hH, fun v ms hm hmin hmH => ?_⟩
        have := hC2 (rows ++ [v]) ms fd many (some (.d (eLm l))) (hI.take h0 hj hm) hmH
        rw [List.map_append] at this
        exact ⟨few_le (by rw [List.length_map]; omega), this⟩
      simp only [dSeq, dAsg, dCB, dCons, dNil, dVar, onVs, vals, val, slot, setR, fGcd, dIfS, dTV, dOp, dBin, onV2, fLt, fLe, fGt, fGe, fAdd, fSub, fMul, fDiv, fMod, fI0, dC, dUn, onV, fNeg, dNext, dRet, dTup, onD, dats, fDivZ, fI, fPow, Few, retP, fAbs, fInt, fMax, fMin, fLen, fSqrt, fEq, fNe, dNot, dAnd, dOr, dAndV, dOrV, dNotV, dIfE, dDrop, dRetN, dPar, noO, dSetL, dLst, dOfL, dOwnM, onOwn, onDat, kAppend, kInsert, dSetItem, dAddItem, dIx, onItems, items, onInt, dNoPart, dPart, dSlice, onL, litems, dSlL, dCat, onM, mitems, dTupOf, dSeqI, dRng1, dRng2, dCallP, dCallB, dCallF, noSelf, onArgs, dats2, dIsi, tyName, dYes, dgTup, dgCons, dgNil, retB, dBreak, dCont, ne_eq, not_false_eq_true, true_and, and_true, List.getElem?_cons_zero, List.getElem?_cons_succ, List.set_cons_zero, List.set_cons_succ, Option.map, List.length_cons, List.length_nil, dLc_eq, dLc2_eq, dFor_eq, dSortSet, dSort, dListOf, dIsN, dNotN, isNo, dAug, dMulA, dgUnl, dCatT, dSlT, onT, titems, dEnum, dZip, dZipM, seqs, dRetL, dPar3, dRevT, dLstRg, dTupRg, dRg1, dRg2, dChainLe, List.nil_append, List.cons_append, if_true, if_false, dFrz, dLcO, dMin2D, dAppX, dParL, dParLL, dRepL, fNeS, fEqS, dgSet, dTupZip, dFgt, fIsB, fNotB, List.map_cons, List.map_nil, fw0, fw1, fw2, fw3, fw4, fw5, fw6, fw7, fw8, fw9, fw10, fw11, fw12, fw13, fw14, fw15, dHPush, sh_int, eqv_int, List.length_map]
      refine ite_b (c := (fr.length : Int) = 0) (fun hz => ?_) fun hz => pop fr many hI hH (by omega)
      have hz : fr = [] := List.length_eq_zero_iff.mp (by omega)
      subst hz
      refine ⟨[], rfl, few_le (by decide), heapL_nil, fun ms hm hmH => ?_⟩
      exact pop ms (many + 1) (hI.more h0 hj hlast h1 hm) hmH (by rw [hm.length_eq]; exact Nat.one_pos)
    simp only [dSeq, dAsg, dCB, dCons, dNil, dVar, onVs, vals, val, slot, setR, fGcd, dIfS, dTV, dOp, dBin, onV2, fLt, fLe, fGt, fGe, fAdd, fSub, fMul, fDiv, fMod, fI0, dC, dUn, onV, fNeg, dNext, dRet, dTup, onD, dats, fDivZ, fI, fPow, Few, retP, fAbs, fInt, fMax, fMin, fLen, fSqrt, fEq, fNe, dNot, dAnd, dOr, dAndV, dOrV, dNotV, dIfE, dDrop, dRetN, dPar, noO, dSetL, dLst, dOfL, dOwnM, onOwn, onDat, kAppend, kInsert, dSetItem, dAddItem, dIx, onItems, items, onInt, dNoPart, dPart, dSlice, onL, litems, dSlL, dCat, onM, mitems, dTupOf, dSeqI, dRng1, dRng2, dCallP, dCallB, dCallF, noSelf, onArgs, dats2, dIsi, tyName, dYes, dgTup, dgCons, dgNil, retB, dBreak, dCont, ne_eq, not_false_eq_true, true_and, and_true, List.getElem?_cons_zero, List.getElem?_cons_succ, List.set_cons_zero, List.set_cons_succ, Option.map, List.length_cons, List.length_nil, dLc_eq, dLc2_eq, dFor_eq, dSortSet, dSort, dListOf, dIsN, dNotN, isNo, dAug, dMulA, dgUnl, dCatT, dSlT, onT, titems, dEnum, dZip, dZipM, seqs, dRetL, dPar3, dRevT, dLstRg, dTupRg, dRg1, dRg2, dChainLe, List.nil_append, List.cons_append, if_true, if_false, dFrz, dLcO, dMin2D, dAppX, dParL, dParLL, dRepL, fNeS, fEqS, dgSet, dTupZip, dFgt, fIsB, fNotB, List.map_cons, List.map_nil, fw0, fw1, fw2, fw3, fw4, fw5, fw6, fw7, fw8, fw9, fw10, fw11, fw12, fw13, fw14, fw15, dWhile]
    refine ⟨fun ρ : Rho => ∃ (fr : List Int) (fd : Nat), RowsI (lxs ls) sp i rows fr fd many ∧ HeapL fr ∧ ρ = [some (.d (eP ls)), some (.d (.int sp)), some (.own (rows.map .int)), some (.own (fr.map .int)), some (.d (.int fd)), some (.d (.int many)), some (.d (eLm l))], fun ρ : Rho => match ρ[4]? with | some (some (Ent.d (PyData.int k))) => (i - k).toNat | _ => 0, ⟨free, freed, hI, hH, rfl⟩, ?_⟩
    rintro ρ ⟨fr, fd, hI2, hH2, rfl⟩
    simp only [dSeq, dAsg, dCB, dCons, dNil, dVar, onVs, vals, val, slot, setR, fGcd, dIfS, dTV, dOp, dBin, onV2, fLt, fLe, fGt, fGe, fAdd, fSub, fMul, fDiv, fMod, fI0, dC, dUn, onV, fNeg, dNext, dRet, dTup, onD, dats, fDivZ, fI, fPow, Few, retP, fAbs, fInt, fMax, fMin, fLen, fSqrt, fEq, fNe, dNot, dAnd, dOr, dAndV, dOrV, dNotV, dIfE, dDrop, dRetN, dPar, noO, dSetL, dLst, dOfL, dOwnM, onOwn, onDat, kAppend, kInsert, dSetItem, dAddItem, dIx, onItems, items, onInt, dNoPart, dPart, dSlice, onL, litems, dSlL, dCat, onM, mitems, dTupOf, dSeqI, dRng1, dRng2, dCallP, dCallB, dCallF, noSelf, onArgs, dats2, dIsi, tyName, dYes, dgTup, dgCons, dgNil, retB, dBreak, dCont, ne_eq, not_false_eq_true, true_and, and_true, List.getElem?_cons_zero, List.getElem?_cons_succ, List.set_cons_zero, List.set_cons_succ, Option.map, List.length_cons, List.length_nil, dLc_eq, dLc2_eq, dFor_eq, dSortSet, dSort, dListOf, dIsN, dNotN, isNo, dAug, dMulA, dgUnl, dCatT, dSlT, onT, titems, dEnum, dZip, dZipM, seqs, dRetL, dPar3, dRevT, dLstRg, dTupRg, dRg1, dRg2, dChainLe, List.nil_append, List.cons_append, if_true, if_false, dFrz, dLcO, dMin2D, dAppX, dParL, dParLL, dRepL, fNeS, fEqS, dgSet, dTupZip, dFgt, fIsB, fNotB, List.map_cons, List.map_nil, fw0, fw1, fw2, fw3, fw4, fw5, fw6, fw7, fw8, fw9, fw10, fw11, fw12, fw13, fw14, fw15, dHPush, dHPop, eP, List.length_map]
    refine ite_b (c := (fd : Int) < rows.length) (fun lt => ?_) fun ge => ?_
    · obtain ⟨lf, hlf⟩ : ∃ lf, ls[fd]? = some lf := ⟨_, List.getElem?_eq_getElem (by omega)⟩
      obtain ⟨rf, hrf⟩ : ∃ rf, rows[fd]? = some rf := ⟨_, List.getElem?_eq_getElem (by omega)⟩
      rw [on_map hlf rfl]
      simp only [dSeq, dAsg, dCB, dCons, dNil, dVar, onVs, vals, val, slot, setR, fGcd, dIfS, dTV, dOp, dBin, onV2, fLt, fLe, fGt, fGe, fAdd, fSub, fMul, fDiv, fMod, fI0, dC, dUn, onV, fNeg, dNext, dRet, dTup, onD, dats, fDivZ, fI, fPow, Few, retP, fAbs, fInt, fMax, fMin, fLen, fSqrt, fEq, fNe, dNot, dAnd, dOr, dAndV, dOrV, dNotV, dIfE, dDrop, dRetN, dPar, noO, dSetL, dLst, dOfL, dOwnM, onOwn, onDat, kAppend, kInsert, dSetItem, dAddItem, dIx, onItems, items, onInt, dNoPart, dPart, dSlice, onL, litems, dSlL, dCat, onM, mitems, dTupOf, dSeqI, dRng1, dRng2, dCallP, dCallB, dCallF, noSelf, onArgs, dats2, dIsi, tyName, dYes, dgTup, dgCons, dgNil, retB, dBreak, dCont, ne_eq, not_false_eq_true, true_and, and_true, List.getElem?_cons_zero, List.getElem?_cons_succ, List.set_cons_zero, List.set_cons_succ, Option.map, List.length_cons, List.length_nil, dLc_eq, dLc2_eq, dFor_eq, dSortSet, dSort, dListOf, dIsN, dNotN, isNo, dAug, dMulA, dgUnl, dCatT, dSlT, onT, titems, dEnum, dZip, dZipM, seqs, dRetL, dPar3, dRevT, dLstRg, dTupRg, dRg1, dRg2, dChainLe, List.nil_append, List.cons_append, if_true, if_false, dFrz, dLcO, dMin2D, dAppX, dParL, dParLL, dRepL, fNeS, fEqS, dgSet, dTupZip, dFgt, fIsB, fNotB, List.map_cons, List.map_nil, fw0, fw1, fw2, fw3, fw4, fw5, fw6, fw7, fw8, fw9, fw10, fw11, fw12, fw13, fw14, fw15, eLm, on0]
      refine ite_b (c := lf.x + sp ≤ l.x) (fun le => ?_) fun nle => ?_
      · rw [on_map hrf rfl]
        simp only [dSeq, dAsg, dCB, dCons, dNil, dVar, onVs, vals, val, slot, setR, fGcd, dIfS, dTV, dOp, dBin, onV2, fLt, fLe, fGt, fGe, fAdd, fSub, fMul, fDiv, fMod, fI0, dC, dUn, onV, fNeg, dNext, dRet, dTup, onD, dats, fDivZ, fI, fPow, Few, retP, fAbs, fInt, fMax, fMin, fLen, fSqrt, fEq, fNe, dNot, dAnd, dOr, dAndV, dOrV, dNotV, dIfE, dDrop, dRetN, dPar, noO, dSetL, dLst, dOfL, dOwnM, onOwn, onDat, kAppend, kInsert, dSetItem, dAddItem, dIx, onItems, items, onInt, dNoPart, dPart, dSlice, onL, litems, dSlL, dCat, onM, mitems, dTupOf, dSeqI, dRng1, dRng2, dCallP, dCallB, dCallF, noSelf, onArgs, dats2, dIsi, tyName, dYes, dgTup, dgCons, dgNil, retB, dBreak, dCont, ne_eq, not_false_eq_true, true_and, and_true, List.getElem?_cons_zero, List.getElem?_cons_succ, List.set_cons_zero, List.set_cons_succ, Option.map, List.length_cons, List.length_nil, dLc_eq, dLc2_eq, dFor_eq, dSortSet, dSort, dListOf, dIsN, dNotN, isNo, dAug, dMulA, dgUnl, dCatT, dSlT, onT, titems, dEnum, dZip, dZipM, seqs, dRetL, dPar3, dRevT, dLstRg, dTupRg, dRg1, dRg2, dChainLe, List.nil_append, List.cons_append, if_true, if_false, dFrz, dLcO, dMin2D, dAppX, dParL, dParLL, dRepL, fNeS, fEqS, dgSet, dTupZip, dFgt, fIsB, fNotB, List.map_cons, List.map_nil, fw0, fw1, fw2, fw3, fw4, fw5, fw6, fw7, fw8, fw9, fw10, fw11, fw12, fw13, fw14, fw15]
        have := hI2.few
        have := lxs_len ls
        refine ⟨fr, asInts_map fr, few_le (by omega), hH2, fun ms hm hmH => ⟨⟨ms, fd + 1, hI2.free hrf (lxs_at hlf) hj le hm, hmH, rfl⟩, ?_⟩⟩
        omega
      · exact out fr fd hI2 hH2 fun a hfd ha => by
          rw [lxs_at hlf] at ha
          cases ha
          omega
    · simp only [Bool.false_eq_true, if_false]
      exact out fr fd hI2 hH2 fun a hfd _ => by omega
  · obtain ⟨rows, free, freed, many, a6⟩ := z
    obtain ⟨hI, _⟩ := hz
    simp only
    rw [hk]
    clear hk
    simp only [dSeq, dAsg, dCB, dCons, dNil, dVar, onVs, vals, val, slot, setR, fGcd, dIfS, dTV, dOp, dBin, onV2, fLt, fLe, fGt, fGe, fAdd, fSub, fMul, fDiv, fMod, fI0, dC, dUn, onV, fNeg, dNext, dRet, dTup, onD, dats, fDivZ, fI, fPow, Few, retP, fAbs, fInt, fMax, fMin, fLen, fSqrt, fEq, fNe, dNot, dAnd, dOr, dAndV, dOrV, dNotV, dIfE, dDrop, dRetN, dPar, noO, dSetL, dLst, dOfL, dOwnM, onOwn, onDat, kAppend, kInsert, dSetItem, dAddItem, dIx, onItems, items, onInt, dNoPart, dPart, dSlice, onL, litems, dSlL, dCat, onM, mitems, dTupOf, dSeqI, dRng1, dRng2, dCallP, dCallB, dCallF, noSelf, onArgs, dats2, dIsi, tyName, dYes, dgTup, dgCons, dgNil, retB, dBreak, dCont, ne_eq, not_false_eq_true, true_and, and_true, List.getElem?_cons_zero, List.getElem?_cons_succ, List.set_cons_zero, List.set_cons_succ, Option.map, List.length_cons, List.length_nil, dLc_eq, dLc2_eq, dFor_eq, dSortSet, dSort, dListOf, dIsN, dNotN, isNo, dAug, dMulA, dgUnl, dCatT, dSlT, onT, titems, dEnum, dZip, dZipM, seqs, dRetL, dPar3, dRevT, dLstRg, dTupRg, dRg1, dRg2, dChainLe, List.nil_append, List.cons_append, if_true, if_false, dFrz, dLcO, dMin2D, dAppX, dParL, dParLL, dRepL, fNeS, fEqS, dgSet, dTupZip, dFgt, fIsB, fNotB, List.map_cons, List.map_nil, fw0, fw1, fw2, fw3, fw4, fw5, fw6, fw7, fw8, fw9, fw10, fw11, fw12, fw13, fw14, fw15]
    refine hQ _ ⟨rows, many, rfl, ?_, hI.has⟩
    have := lxs_len ls
    simp only at hI
    rw [← this] at hI
    exact hI.col
set_option maxHeartbeats 4000000 in
theorem ok_rows_many {f : Addr} {fd : FuncData} (W : Fun K "rows_many" "rows_many" s_rows_many f fd) (T : Bi mg) :
    FnG P w K mg base CX0 1 f fd ["rows"] (spP K [.d] S_rows_many) := by
  refine fnP W sc_rows_many rfl fun cdv A out s H E Nn hr hgd => ⟨_, _, (dss_one (ds_ret (pd_add (pd_maxDf rfl hr.units rfl T.b_max (pda_cons (pdv 0) pda_nil) (pd_neg pd_int)) pd_int))), ?_⟩
  clear W T hr hgd
  rintro xs Q hl ⟨⟨xs, rs, sp, n⟩, rfl, ⟨h0, h1⟩, hQ⟩
  clear hl
  replace hQ : Q (.int n) := hQ
  have e : rhoP nm_rows_many.length [.d] [.tuple (rs.map .int)] = [some (.d (.tuple (rs.map .int)))] := rfl
  rw [e]
  clear e
  simp only [dSeq, dAsg, dCB, dCons, dNil, dVar, onVs, vals, val, slot, setR, fGcd, dIfS, dTV, dOp, dBin, onV2, fLt, fLe, fGt, fGe, fAdd, fSub, fMul, fDiv, fMod, fI0, dC, dUn, onV, fNeg, dNext, dRet, dTup, onD, dats, fDivZ, fI, fPow, Few, retP, fAbs, fInt, fMax, fMin, fLen, fSqrt, fEq, fNe, dNot, dAnd, dOr, dAndV, dOrV, dNotV, dIfE, dDrop, dRetN, dPar, noO, dSetL, dLst, dOfL, dOwnM, onOwn, onDat, kAppend, kInsert, dSetItem, dAddItem, dIx, onItems, items, onInt, dNoPart, dPart, dSlice, onL, litems, dSlL, dCat, onM, mitems, dTupOf, dSeqI, dRng1, dRng2, dCallP, dCallB, dCallF, noSelf, onArgs, dats2, dIsi, tyName, dYes, dgTup, dgCons, dgNil, retB, dBreak, dCont, ne_eq, not_false_eq_true, true_and, and_true, List.getElem?_cons_zero, List.getElem?_cons_succ, List.set_cons_zero, List.set_cons_succ, Option.map, List.length_cons, List.length_nil, dLc_eq, dLc2_eq, dFor_eq, dSortSet, dSort, dListOf, dIsN, dNotN, isNo, dAug, dMulA, dgUnl, dCatT, dSlT, onT, titems, dEnum, dZip, dZipM, seqs, dRetL, dPar3, dRevT, dLstRg, dTupRg, dRg1, dRg2, dChainLe, List.nil_append, List.cons_append, if_true, if_false, dFrz, dLcO, dMin2D, dAppX, dParL, dParLL, dRepL, fNeS, fEqS, dgSet, dTupZip, dFgt, fIsB, fNotB, List.map_cons, List.map_nil, fw0, fw1, fw2, fw3, fw4, fw5, fw6, fw7, fw8, fw9, fw10, fw11, fw12, fw13, fw14, fw15, dMaxDf]
  refine ⟨rs, asInts_map rs, fun e => ?_, fun m hm hM => ?_⟩
  · have h2 := h1.size
    have h3 := h0.len
    rw [e] at h3
    have : n = 0 := by simp at h3; omega
    rw [this] at hQ
    exact hQ
  · have r := h0.rng m hm
    have : n ≤ (m + 1).toNat := col_has (k := (m + 1).toNat) (rs := rs) ⟨h0.len, fun r hr => by have := h0.rng r hr; have := hM r hr; omega, h0.un⟩ h1
    rw [show (n : Int) = m + 1 by omega] at hQ
    exact hQ
set_option maxHeartbeats 4000000 in
theorem ok_most_abreast {f : Addr} {fd : FuncData} (W : Fun K "most_abreast" "most_abreast" s_most_abreast f fd) (T : Bi mg) :
    FnG P w K mg base CX0 1 f fd ["picture", "spacing"] (spP K [.d, .d] S_most_abreast) := by
  refine fnP W sc_most_abreast rfl fun cdv A out s H E Nn hr hgd => ⟨_, _, (dss_cons (ds_set (i := 2) sc_most_abreast.nd (pd_tup (pda_cons pd_int (pda_cons pd_non pda_nil))) fixP)
      (dss_cons (ds_set (i := 3) sc_most_abreast.nd pd_int fixP)
      (dss_cons (ds_for PassesOwn.never rfl (pdi_enum rfl T.b_enumerate (pda_cons (pdv 0) pda_nil)) (pgd_tup (n := 2) rfl (pgds_cons (pgd_name (i := 4) sc_most_abreast.nd) (pgds_cons (pgd_name (i := 5) sc_most_abreast.nd) pgds_nil))) (dss_cons (ds_while PassesOwn.never (pt_w (pwd_and (pt_lt (pdv 3) (pd_callB call_len_seq sc_len rfl T.b_len (by decide +kernel) (pda_cons (pdv 0) pda_nil))) (pwd_and1 (pt_lt (pd_ix (pd_ix (pdv 0) (pdv 3) (fun _ _ => rfl)) pd_int (fun _ _ => rfl)) (pd_add (pd_ix (pdv 5) pd_int (fun _ _ => rfl)) (pdv 1)))))) (dss_one (ds_aug (i := 3) sc_most_abreast.nd pd_int ip_add fixP)))
      (dss_one (ds_if (pt_gt (pd_sub (pdv 3) (pdv 4)) (pd_ix (pdv 2) pd_int (fun _ _ => rfl))) (dss_one (ds_set (i := 2) sc_most_abreast.nd (pd_tup (pda_cons (pd_sub (pdv 3) (pdv 4)) (pda_cons (pd_ix (pdv 5) pd_int (fun _ _ => rfl)) pda_nil))) fixP)) dss_nil))) nofixP)
      (dss_one (ds_ret (pdv 2)))))), ?_⟩
  clear W T hr hgd
  rintro xs Q hl ⟨⟨ls, sp⟩, rfl, ⟨h0, h1, h2⟩, hQ⟩
  clear hl
  replace hQ : ∀ z, (∃ (m : Nat) (y : PyData), z = .tuple [.int m, y] ∧ HasC (lxs ls) sp m ∧ ∀ n, HasC (lxs ls) sp n → n ≤ m) → Q z   := hQ
  have e : rhoP nm_most_abreast.length [.d, .d] [eP ls, .int sp] = [some (.d (eP ls)), some (.d (.int sp)), none, none, none, none] := rfl
  rw [e]
  clear e
  refine seqI fun kk hk => ?_
  simp only [dSeq, dAsg, dCB, dCons, dNil, dVar, onVs, vals, val, slot, setR, fGcd, dIfS, dTV, dOp, dBin, onV2, fLt, fLe, fGt, fGe, fAdd, fSub, fMul, fDiv, fMod, fI0, dC, dUn, onV, fNeg, dNext, dRet, dTup, onD, dats, fDivZ, fI, fPow, Few, retP, fAbs, fInt, fMax, fMin, fLen, fSqrt, fEq, fNe, dNot, dAnd, dOr, dAndV, dOrV, dNotV, dIfE, dDrop, dRetN, dPar, noO, dSetL, dLst, dOfL, dOwnM, onOwn, onDat, kAppend, kInsert, dSetItem, dAddItem, dIx, onItems, items, onInt, dNoPart, dPart, dSlice, onL, litems, dSlL, dCat, onM, mitems, dTupOf, dSeqI, dRng1, dRng2, dCallP, dCallB, dCallF, noSelf, onArgs, dats2, dIsi, tyName, dYes, dgTup, dgCons, dgNil, retB, dBreak, dCont, ne_eq, not_false_eq_true, true_and, and_true, List.getElem?_cons_zero, List.getElem?_cons_succ, List.set_cons_zero, List.set_cons_succ, Option.map, List.length_cons, List.length_nil, dLc_eq, dLc2_eq, dFor_eq, dSortSet, dSort, dListOf, dIsN, dNotN, isNo, dAug, dMulA, dgUnl, dCatT, dSlT, onT, titems, dEnum, dZip, dZipM, seqs, dRetL, dPar3, dRevT, dLstRg, dTupRg, dRg1, dRg2, dChainLe, List.nil_append, List.cons_append, if_true, if_false, dFrz, dLcO, dMin2D, dAppX, dParL, dParLL, dRepL, fNeS, fEqS, dgSet, dTupZip, dFgt, fIsB, fNotB, List.map_cons, List.map_nil, fw0, fw1, fw2, fw3, fw4, fw5, fw6, fw7, fw8, fw9, fw10, fw11, fw12, fw13, fw14, fw15]
  rw [hk]
  clear hk
  refine seqI fun kk hk => ?_
  simp only [dSeq, dAsg, dCB, dCons, dNil, dVar, onVs, vals, val, slot, setR, fGcd, dIfS, dTV, dOp, dBin, onV2, fLt, fLe, fGt, fGe, fAdd, fSub, fMul, fDiv, fMod, fI0, dC, dUn, onV, fNeg, dNext, dRet, dTup, onD, dats, fDivZ, fI, fPow, Few, retP, fAbs, fInt, fMax, fMin, fLen, fSqrt, fEq, fNe, dNot, dAnd, dOr, dAndV, dOrV, dNotV, dIfE, dDrop, dRetN, dPar, noO, dSetL, dLst, dOfL, dOwnM, onOwn, onDat, kAppend, kInsert, dSetItem, dAddItem, dIx, onItems, items, onInt, dNoPart, dPart, dSlice, onL, litems, dSlL, dCat, onM, mitems, dTupOf, dSeqI, dRng1, dRng2, dCallP, dCallB, dCallF, noSelf, onArgs, dats2, dIsi, tyName, dYes, dgTup, dgCons, dgNil, retB, dBreak, dCont, ne_eq, not_false_eq_true, true_and, and_true, List.getElem?_cons_zero, List.getElem?_cons_succ, List.set_cons_zero, List.set_cons_succ, Option.map, List.length_cons, List.length_nil, dLc_eq, dLc2_eq, dFor_eq, dSortSet, dSort, dListOf, dIsN, dNotN, isNo, dAug, dMulA, dgUnl, dCatT, dSlT, onT, titems, dEnum, dZip, dZipM, seqs, dRetL, dPar3, dRevT, dLstRg, dTupRg, dRg1, dRg2, dChainLe, List.nil_append, List.cons_append, if_true, if_false, dFrz, dLcO, dMin2D, dAppX, dParL, dParLL, dRepL, fNeS, fEqS, dgSet, dTupZip, dFgt, fIsB, fNotB, List.map_cons, List.map_nil, fw0, fw1, fw2, fw3, fw4, fw5, fw6, fw7, fw8, fw9, fw10, fw11, fw12, fw13, fw14, fw15]
  rw [hk]
  clear hk
  refine seqI fun kk hk => ?_
  simp only [dSeq, dAsg, dCB, dCons, dNil, dVar, onVs, vals, val, slot, setR, fGcd, dIfS, dTV, dOp, dBin, onV2, fLt, fLe, fGt, fGe, fAdd, fSub, fMul, fDiv, fMod, fI0, dC, dUn, onV, fNeg, dNext, dRet, dTup, onD, dats, fDivZ, fI, fPow, Few, retP, fAbs, fInt, fMax, fMin, fLen, fSqrt, fEq, fNe, dNot, dAnd, dOr, dAndV, dOrV, dNotV, dIfE, dDrop, dRetN, dPar, noO, dSetL, dLst, dOfL, dOwnM, onOwn, onDat, kAppend, kInsert, dSetItem, dAddItem, dIx, onItems, items, onInt, dNoPart, dPart, dSlice, onL, litems, dSlL, dCat, onM, mitems, dTupOf, dSeqI, dRng1, dRng2, dCallP, dCallB, dCallF, noSelf, onArgs, dats2, dIsi, tyName, dYes, dgTup, dgCons, dgNil, retB, dBreak, dCont, ne_eq, not_false_eq_true, true_and, and_true, List.getElem?_cons_zero, List.getElem?_cons_succ, List.set_cons_zero, List.set_cons_succ, Option.map, List.length_cons, List.length_nil, dLc_eq, dLc2_eq, dFor_eq, dSortSet, dSort, dListOf, dIsN, dNotN, isNo, dAug, dMulA, dgUnl, dCatT, dSlT, onT, titems, dEnum, dZip, dZipM, seqs, dRetL, dPar3, dRevT, dLstRg, dTupRg, dRg1, dRg2, dChainLe, List.nil_append, List.cons_append, if_true, if_false, dFrz, dLcO, dMin2D, dAppX, dParL, dParLL, dRepL, fNeS, fEqS, dgSet, dTupZip, dFgt, fIsB, fNotB, List.map_cons, List.map_nil, fw0, fw1, fw2, fw3, fw4, fw5, fw6, fw7, fw8, fw9, fw10, fw11, fw12, fw13, fw14, fw15, eP]
  refine for_en ls eLm (fun z : Nat × PyData × Nat × Option Ent × Option Ent => [some (.d (eP ls)), some (.d (.int sp)), some (.d (.tuple [.int z.1, z.2.1])), some (.d (.int z.2.2.1)), z.2.2.2.1, z.2.2.2.2]) (fun i z => Abr (lxs ls) sp i z.1 z.2.2.1) (0, .none, 0, none, none) rfl (.start _ _) (fun i l z hl hI C hC => ?_) fun z hz => ?_
  · obtain ⟨m, y, last, a4, a5⟩ := z
    simp only at hI
    have ha := lxs_at hl
    have il := (List.getElem?_eq_some_iff.mp hl).1
    have ll := lxs_len ls
    have hC2 : ∀ (m2 : Nat) (y2 : PyData) (l2 : Nat) (a4 a5 : Option Ent), Abr (lxs ls) sp (i + 1) m2 l2 → C [some (.d (eP ls)), some (.d (.int sp)), some (.d (.tuple [.int m2, y2])), some (.d (.int l2)), a4, a5] := fun m2 y2 l2 a4 a5 h => hC (m2, y2, l2, a4, a5) h
    clear hC
    simp only [dgTup, dgCons, dgNil, setR, List.set_cons_succ, List.set_cons_zero]
    refine ⟨rfl, seqI fun k2 hk2 => ?_⟩
    have out : ∀ l2 : Nat, last ≤ l2 → l2 ≤ ls.length → (∀ k c, k < l2 → (lxs ls)[k]? = some c → c < l.x + sp) → (∀ c, (lxs ls)[l2]? = some c → l.x + sp ≤ c) → k2 [some (.d (eP ls)), some (.d (.int sp)), some (.d (.tuple [.int m, y])), some (.d (.int l2)), some (.d (.int i)), some (.d (eLm l))] := fun l2 q1 q2 q3 q4 => by
      rw [hk2]
      clear hk2
      have tn := hI.turn h0 h1 ha q1 (by omega) q3 q4 rfl
      have lo := tn.lo
      simp only [dSeq, dAsg, dCB, dCons, dNil, dVar, onVs, vals, val, slot, setR, fGcd, dIfS, dTV, dOp, dBin, onV2, fLt, fLe, fGt, fGe, fAdd, fSub, fMul, fDiv, fMod, fI0, dC, dUn, onV, fNeg, dNext, dRet, dTup, onD, dats, fDivZ, fI, fPow, Few, retP, fAbs, fInt, fMax, fMin, fLen, fSqrt, fEq, fNe, dNot, dAnd, dOr, dAndV, dOrV, dNotV, dIfE, dDrop, dRetN, dPar, noO, dSetL, dLst, dOfL, dOwnM, onOwn, onDat, kAppend, kInsert, dSetItem, dAddItem, dIx, onItems, items, onInt, dNoPart, dPart, dSlice, onL, litems, dSlL, dCat, onM, mitems, dTupOf, dSeqI, dRng1, dRng2, dCallP, dCallB, dCallF, noSelf, onArgs, dats2, dIsi, tyName, dYes, dgTup, dgCons, dgNil, retB, dBreak, dCont, ne_eq, not_false_eq_true, true_and, and_true, List.getElem?_cons_zero, List.getElem?_cons_succ, List.set_cons_zero, List.set_cons_succ, Option.map, List.length_cons, List.length_nil, dLc_eq, dLc2_eq, dFor_eq, dSortSet, dSort, dListOf, dIsN, dNotN, isNo, dAug, dMulA, dgUnl, dCatT, dSlT, onT, titems, dEnum, dZip, dZipM, seqs, dRetL, dPar3, dRevT, dLstRg, dTupRg, dRg1, dRg2, dChainLe, List.nil_append, List.cons_append, if_true, if_false, dFrz, dLcO, dMin2D, dAppX, dParL, dParLL, dRepL, fNeS, fEqS, dgSet, dTupZip, dFgt, fIsB, fNotB, List.map_cons, List.map_nil, fw0, fw1, fw2, fw3, fw4, fw5, fw6, fw7, fw8, fw9, fw10, fw11, fw12, fw13, fw14, fw15, on0, eLm]
      refine ite_b (c := (l2 : Int) - i > m) (fun gt => ?_) fun ngt => ?_
      · have e : max m (l2 - i) = l2 - i := Nat.max_eq_right (by omega)
        rw [e] at tn
        rw [show (l2 : Int) - i = ((l2 - i : Nat) : Int) by omega]
        exact hC2 _ _ _ _ _ tn
      · have e : max m (l2 - i) = m := Nat.max_eq_left (by omega)
        rw [e] at tn
        exact hC2 _ _ _ _ _ tn
    simp only [dSeq, dAsg, dCB, dCons, dNil, dVar, onVs, vals, val, slot, setR, fGcd, dIfS, dTV, dOp, dBin, onV2, fLt, fLe, fGt, fGe, fAdd, fSub, fMul, fDiv, fMod, fI0, dC, dUn, onV, fNeg, dNext, dRet, dTup, onD, dats, fDivZ, fI, fPow, Few, retP, fAbs, fInt, fMax, fMin, fLen, fSqrt, fEq, fNe, dNot, dAnd, dOr, dAndV, dOrV, dNotV, dIfE, dDrop, dRetN, dPar, noO, dSetL, dLst, dOfL, dOwnM, onOwn, onDat, kAppend, kInsert, dSetItem, dAddItem, dIx, onItems, items, onInt, dNoPart, dPart, dSlice, onL, litems, dSlL, dCat, onM, mitems, dTupOf, dSeqI, dRng1, dRng2, dCallP, dCallB, dCallF, noSelf, onArgs, dats2, dIsi, tyName, dYes, dgTup, dgCons, dgNil, retB, dBreak, dCont, ne_eq, not_false_eq_true, true_and, and_true, List.getElem?_cons_zero, List.getElem?_cons_succ, List.set_cons_zero, List.set_cons_succ, Option.map, List.length_cons, List.length_nil, dLc_eq, dLc2_eq, dFor_eq, dSortSet, dSort, dListOf, dIsN, dNotN, isNo, dAug, dMulA, dgUnl, dCatT, dSlT, onT, titems, dEnum, dZip, dZipM, seqs, dRetL, dPar3, dRevT, dLstRg, dTupRg, dRg1, dRg2, dChainLe, List.nil_append, List.cons_append, if_true, if_false, dFrz, dLcO, dMin2D, dAppX, dParL, dParLL, dRepL, fNeS, fEqS, dgSet, dTupZip, dFgt, fIsB, fNotB, List.map_cons, List.map_nil, fw0, fw1, fw2, fw3, fw4, fw5, fw6, fw7, fw8, fw9, fw10, fw11, fw12, fw13, fw14, fw15, dWhile]
    refine ⟨fun ρ : Rho => ∃ l2 : Nat, last ≤ l2 ∧ l2 ≤ ls.length ∧ (∀ k c, k < l2 → (lxs ls)[k]? = some c → c < l.x + sp) ∧ ρ = [some (.d (eP ls)), some (.d (.int sp)), some (.d (.tuple [.int m, y])), some (.d (.int l2)), some (.d (.int i)), some (.d (eLm l))], fun ρ : Rho => match ρ[3]? with | some (some (Ent.d (PyData.int k))) => (ls.length - k).toNat | _ => 0, ⟨last, Nat.le_refl _, by have := hI.le; omega, fun k c hk hc => hI.low2 h0 h1 ha k c hk hc, rfl⟩, ?_⟩
    rintro ρ ⟨l2, q1, q2, q3, rfl⟩
    simp only [dSeq, dAsg, dCB, dCons, dNil, dVar, onVs, vals, val, slot, setR, fGcd, dIfS, dTV, dOp, dBin, onV2, fLt, fLe, fGt, fGe, fAdd, fSub, fMul, fDiv, fMod, fI0, dC, dUn, onV, fNeg, dNext, dRet, dTup, onD, dats, fDivZ, fI, fPow, Few, retP, fAbs, fInt, fMax, fMin, fLen, fSqrt, fEq, fNe, dNot, dAnd, dOr, dAndV, dOrV, dNotV, dIfE, dDrop, dRetN, dPar, noO, dSetL, dLst, dOfL, dOwnM, onOwn, onDat, kAppend, kInsert, dSetItem, dAddItem, dIx, onItems, items, onInt, dNoPart, dPart, dSlice, onL, litems, dSlL, dCat, onM, mitems, dTupOf, dSeqI, dRng1, dRng2, dCallP, dCallB, dCallF, noSelf, onArgs, dats2, dIsi, tyName, dYes, dgTup, dgCons, dgNil, retB, dBreak, dCont, ne_eq, not_false_eq_true, true_and, and_true, List.getElem?_cons_zero, List.getElem?_cons_succ, List.set_cons_zero, List.set_cons_succ, Option.map, List.length_cons, List.length_nil, dLc_eq, dLc2_eq, dFor_eq, dSortSet, dSort, dListOf, dIsN, dNotN, isNo, dAug, dMulA, dgUnl, dCatT, dSlT, onT, titems, dEnum, dZip, dZipM, seqs, dRetL, dPar3, dRevT, dLstRg, dTupRg, dRg1, dRg2, dChainLe, List.nil_append, List.cons_append, if_true, if_false, dFrz, dLcO, dMin2D, dAppX, dParL, dParLL, dRepL, fNeS, fEqS, dgSet, dTupZip, dFgt, fIsB, fNotB, List.map_cons, List.map_nil, fw0, fw1, fw2, fw3, fw4, fw5, fw6, fw7, fw8, fw9, fw10, fw11, fw12, fw13, fw14, fw15, eP, List.length_map]
    refine ite_b (c := (l2 : Int) < ls.length) (fun lt => ?_) fun ge => ?_
    · obtain ⟨lf, hlf⟩ : ∃ lf, ls[l2]? = some lf := ⟨_, List.getElem?_eq_getElem (by omega)⟩
      rw [on_map hlf rfl]
      simp only [dSeq, dAsg, dCB, dCons, dNil, dVar, onVs, vals, val, slot, setR, fGcd, dIfS, dTV, dOp, dBin, onV2, fLt, fLe, fGt, fGe, fAdd, fSub, fMul, fDiv, fMod, fI0, dC, dUn, onV, fNeg, dNext, dRet, dTup, onD, dats, fDivZ, fI, fPow, Few, retP, fAbs, fInt, fMax, fMin, fLen, fSqrt, fEq, fNe, dNot, dAnd, dOr, dAndV, dOrV, dNotV, dIfE, dDrop, dRetN, dPar, noO, dSetL, dLst, dOfL, dOwnM, onOwn, onDat, kAppend, kInsert, dSetItem, dAddItem, dIx, onItems, items, onInt, dNoPart, dPart, dSlice, onL, litems, dSlL, dCat, onM, mitems, dTupOf, dSeqI, dRng1, dRng2, dCallP, dCallB, dCallF, noSelf, onArgs, dats2, dIsi, tyName, dYes, dgTup, dgCons, dgNil, retB, dBreak, dCont, ne_eq, not_false_eq_true, true_and, and_true, List.getElem?_cons_zero, List.getElem?_cons_succ, List.set_cons_zero, List.set_cons_succ, Option.map, List.length_cons, List.length_nil, dLc_eq, dLc2_eq, dFor_eq, dSortSet, dSort, dListOf, dIsN, dNotN, isNo, dAug, dMulA, dgUnl, dCatT, dSlT, onT, titems, dEnum, dZip, dZipM, seqs, dRetL, dPar3, dRevT, dLstRg, dTupRg, dRg1, dRg2, dChainLe, List.nil_append, List.cons_append, if_true, if_false, dFrz, dLcO, dMin2D, dAppX, dParL, dParLL, dRepL, fNeS, fEqS, dgSet, dTupZip, dFgt, fIsB, fNotB, List.map_cons, List.map_nil, fw0, fw1, fw2, fw3, fw4, fw5, fw6, fw7, fw8, fw9, fw10, fw11, fw12, fw13, fw14, fw15, eLm, on0]
      refine ite_b (c := lf.x < l.x + sp) (fun le => ?_) fun nle => ?_
      · refine ⟨⟨l2 + 1, by omega, by omega, fun k c hk hc => ?_, rfl⟩, by omega⟩
        by_cases z : k = l2
        · subst z
          rw [lxs_at hlf] at hc
          cases hc
          exact le
        · exact q3 k c (by omega) hc
      · exact out l2 q1 q2 q3 fun c hc => by
          rw [lxs_at hlf] at hc
          cases hc
          omega
    · simp only [Bool.false_eq_true, if_false]
      exact out l2 q1 q2 q3 fun c hc => by
        have := (List.getElem?_eq_some_iff.mp hc).1
        omega
  · obtain ⟨m, y, last, a4, a5⟩ := z
    simp only at hz ⊢
    rw [hk]
    clear hk
    simp only [dSeq, dAsg, dCB, dCons, dNil, dVar, onVs, vals, val, slot, setR, fGcd, dIfS, dTV, dOp, dBin, onV2, fLt, fLe, fGt, fGe, fAdd, fSub, fMul, fDiv, fMod, fI0, dC, dUn, onV, fNeg, dNext, dRet, dTup, onD, dats, fDivZ, fI, fPow, Few, retP, fAbs, fInt, fMax, fMin, fLen, fSqrt, fEq, fNe, dNot, dAnd, dOr, dAndV, dOrV, dNotV, dIfE, dDrop, dRetN, dPar, noO, dSetL, dLst, dOfL, dOwnM, onOwn, onDat, kAppend, kInsert, dSetItem, dAddItem, dIx, onItems, items, onInt, dNoPart, dPart, dSlice, onL, litems, dSlL, dCat, onM, mitems, dTupOf, dSeqI, dRng1, dRng2, dCallP, dCallB, dCallF, noSelf, onArgs, dats2, dIsi, tyName, dYes, dgTup, dgCons, dgNil, retB, dBreak, dCont, ne_eq, not_false_eq_true, true_and, and_true, List.getElem?_cons_zero, List.getElem?_cons_succ, List.set_cons_zero, List.set_cons_succ, Option.map, List.length_cons, List.length_nil, dLc_eq, dLc2_eq, dFor_eq, dSortSet, dSort, dListOf, dIsN, dNotN, isNo, dAug, dMulA, dgUnl, dCatT, dSlT, onT, titems, dEnum, dZip, dZipM, seqs, dRetL, dPar3, dRevT, dLstRg, dTupRg, dRg1, dRg2, dChainLe, List.nil_append, List.cons_append, if_true, if_false, dFrz, dLcO, dMin2D, dAppX, dParL, dParLL, dRepL, fNeS, fEqS, dgSet, dTupZip, dFgt, fIsB, fNotB, List.map_cons, List.map_nil, fw0, fw1, fw2, fw3, fw4, fw5, fw6, fw7, fw8, fw9, fw10, fw11, fw12, fw13, fw14, fw15]
    have := lxs_len ls
    rw [← this] at hz
    exact hQ _ ⟨m, y, rfl, hz.has, fun n hn => hz.most h0 hn⟩
set_option maxHeartbeats 4000000 in
theorem ok_moved_lamps {f : Addr} {fd : FuncData} (W : Fun K "moved_lamps" "moved_lamps" s_moved_lamps f fd) (T : Bi mg) :
    FnG P w K mg base CX0 1 f fd ["picture", "x", "z"] (spP K [.d, .d, .d] S_moved_lamps) := by
  refine fnP W sc_moved_lamps rfl fun cdv A out s H E Nn hr hgd => ⟨_, _, (dss_one (ds_fgt (i := 3) (ds_ret (pd_tupleOf rfl T.b_tuple (pda_cons (pd_l (pl_lc (own := [("lamp", 3)]) rfl sc_moved_lamps.nd (pdi_seq (pdv 0)) (blkOk_by (own := [("lamp", 3)]) (N := nm_moved_lamps) (sc := defScope s_moved_lamps) (by decide +kernel)) (fun _ _ _ _ _ => (pgd_name (i := 3) sc_moved_lamps.nd)) (fun _ _ _ _ _ => dts_nil) (fun _ _ _ _ _ => (pd_tup (pda_cons (pd_add (pd_ix (pdv 3) pd_int (fun _ _ => rfl)) (pdv 1)) (pda_cons (pd_add (pd_ix (pdv 3) pd_int (fun _ _ => rfl)) (pdv 2)) (pda_cons (pd_ix (pdv 3) pd_int (fun _ _ => rfl)) (pda_cons (pd_ix (pdv 3) pd_int (fun _ _ => rfl)) pda_nil)))))))) pda_nil))) fixP)), ?_⟩
  clear W T hr hgd
  rintro xs Q hl ⟨⟨ls, x, z⟩, rfl, h0, hQ⟩
  clear hl
  replace hQ : Q (eP (ls.map fun l => ⟨l.x + x, l.z + z, l.sh, l.w⟩)) := hQ
  have e : rhoP nm_moved_lamps.length [.d, .d, .d] [eP ls, .int x, .int z] = [some (.d (eP ls)), some (.d (.int x)), some (.d (.int z)), none] := rfl
  rw [e]
  clear e
  simp only [dSeq, dAsg, dCB, dCons, dNil, dVar, onVs, vals, val, slot, setR, fGcd, dIfS, dTV, dOp, dBin, onV2, fLt, fLe, fGt, fGe, fAdd, fSub, fMul, fDiv, fMod, fI0, dC, dUn, onV, fNeg, dNext, dRet, dTup, onD, dats, fDivZ, fI, fPow, Few, retP, fAbs, fInt, fMax, fMin, fLen, fSqrt, fEq, fNe, dNot, dAnd, dOr, dAndV, dOrV, dNotV, dIfE, dDrop, dRetN, dPar, noO, dSetL, dLst, dOfL, dOwnM, onOwn, onDat, kAppend, kInsert, dSetItem, dAddItem, dIx, onItems, items, onInt, dNoPart, dPart, dSlice, onL, litems, dSlL, dCat, onM, mitems, dTupOf, dSeqI, dRng1, dRng2, dCallP, dCallB, dCallF, noSelf, onArgs, dats2, dIsi, tyName, dYes, dgTup, dgCons, dgNil, retB, dBreak, dCont, ne_eq, not_false_eq_true, true_and, and_true, List.getElem?_cons_zero, List.getElem?_cons_succ, List.set_cons_zero, List.set_cons_succ, Option.map, List.length_cons, List.length_nil, dLc_eq, dLc2_eq, dFor_eq, dSortSet, dSort, dListOf, dIsN, dNotN, isNo, dAug, dMulA, dgUnl, dCatT, dSlT, onT, titems, dEnum, dZip, dZipM, seqs, dRetL, dPar3, dRevT, dLstRg, dTupRg, dRg1, dRg2, dChainLe, List.nil_append, List.cons_append, if_true, if_false, dFrz, dLcO, dMin2D, dAppX, dParL, dParLL, dRepL, fNeS, fEqS, dgSet, dTupZip, dFgt, fIsB, fNotB, List.map_cons, List.map_nil, fw0, fw1, fw2, fw3, fw4, fw5, fw6, fw7, fw8, fw9, fw10, fw11, fw12, fw13, fw14, fw15, eP]
  have h0 : ls.length ≤ 1000 := h0
  refine lc_map ls eLm (fun l => eLm ⟨l.x + x, l.z + z, l.sh, l.w⟩) (hv1 rfl) (by omega) (fun i l hl C1 C2 n hn hc => ?_) ?_
  · simp only [dSeq, dAsg, dCB, dCons, dNil, dVar, onVs, vals, val, slot, setR, fGcd, dIfS, dTV, dOp, dBin, onV2, fLt, fLe, fGt, fGe, fAdd, fSub, fMul, fDiv, fMod, fI0, dC, dUn, onV, fNeg, dNext, dRet, dTup, onD, dats, fDivZ, fI, fPow, Few, retP, fAbs, fInt, fMax, fMin, fLen, fSqrt, fEq, fNe, dNot, dAnd, dOr, dAndV, dOrV, dNotV, dIfE, dDrop, dRetN, dPar, noO, dSetL, dLst, dOfL, dOwnM, onOwn, onDat, kAppend, kInsert, dSetItem, dAddItem, dIx, onItems, items, onInt, dNoPart, dPart, dSlice, onL, litems, dSlL, dCat, onM, mitems, dTupOf, dSeqI, dRng1, dRng2, dCallP, dCallB, dCallF, noSelf, onArgs, dats2, dIsi, tyName, dYes, dgTup, dgCons, dgNil, retB, dBreak, dCont, ne_eq, not_false_eq_true, true_and, and_true, List.getElem?_cons_zero, List.getElem?_cons_succ, List.set_cons_zero, List.set_cons_succ, Option.map, List.length_cons, List.length_nil, dLc_eq, dLc2_eq, dFor_eq, dSortSet, dSort, dListOf, dIsN, dNotN, isNo, dAug, dMulA, dgUnl, dCatT, dSlT, onT, titems, dEnum, dZip, dZipM, seqs, dRetL, dPar3, dRevT, dLstRg, dTupRg, dRg1, dRg2, dChainLe, List.nil_append, List.cons_append, if_true, if_false, dFrz, dLcO, dMin2D, dAppX, dParL, dParLL, dRepL, fNeS, fEqS, dgSet, dTupZip, dFgt, fIsB, fNotB, List.map_cons, List.map_nil, fw0, fw1, fw2, fw3, fw4, fw5, fw6, fw7, fw8, fw9, fw10, fw11, fw12, fw13, fw14, fw15, eLm, on0, on1, on2, on3, wipeR]
    exact ⟨hn, hc⟩
  · unfold eP at hQ
    rw [List.map_map] at hQ
    exact hQ
set_option maxHeartbeats 4000000 in
theorem ok_mirrored_lamps {f : Addr} {fd : FuncData} (W : Fun K "mirrored_lamps" "mirrored_lamps" s_mirrored_lamps f fd) (T : Bi mg) :
    FnG P w K mg base CX0 1 f fd ["picture", "x"] (spP K [.d, .d] S_mirrored_lamps) := by
  refine fnP W sc_mirrored_lamps rfl fun cdv A out s H E Nn hr hgd => ⟨_, _, (dss_one (ds_fgt (i := 2) (ds_ret (pd_tupleOf rfl T.b_tuple (pda_cons (pd_l (pl_sortD hr.units rfl T.b_sorted (pda_cons (pd_l (pl_lc (own := [("lamp", 2)]) rfl sc_mirrored_lamps.nd (pdi_seq (pdv 0)) (blkOk_by (own := [("lamp", 2)]) (N := nm_mirrored_lamps) (sc := defScope s_mirrored_lamps) (by decide +kernel)) (fun _ _ _ _ _ => (pgd_name (i := 2) sc_mirrored_lamps.nd)) (fun _ _ _ _ _ => dts_nil) (fun _ _ _ _ _ => (pd_tup (pda_cons (pd_sub (pd_mul pd_int (pdv 1)) (pd_ix (pdv 2) pd_int (fun _ _ => rfl))) (pda_cons (pd_ix (pdv 2) pd_int (fun _ _ => rfl)) (pda_cons (pd_ix (pdv 2) pd_int (fun _ _ => rfl)) (pda_cons (pd_ix (pdv 2) pd_int (fun _ _ => rfl)) pda_nil)))))))) pda_nil))) pda_nil))) fixP)), ?_⟩
  clear W T hr hgd
  rintro xs Q hl ⟨⟨ls, d⟩, rfl, ⟨h0, h1, h2⟩, hQ⟩
  clear hl
  replace hQ : ∀ z, (∃ ms : List Lmp, z = eP ms ∧ UpL (lxs ms) ∧ ms.length = ls.length ∧ (lxs ms).Perm ((lxs ls).map fun x => 2 * d - x)) → Q z   := hQ
  have e : rhoP nm_mirrored_lamps.length [.d, .d] [eP ls, .int d] = [some (.d (eP ls)), some (.d (.int d)), none] := rfl
  rw [e]
  clear e
  simp only [dSeq, dAsg, dCB, dCons, dNil, dVar, onVs, vals, val, slot, setR, fGcd, dIfS, dTV, dOp, dBin, onV2, fLt, fLe, fGt, fGe, fAdd, fSub, fMul, fDiv, fMod, fI0, dC, dUn, onV, fNeg, dNext, dRet, dTup, onD, dats, fDivZ, fI, fPow, Few, retP, fAbs, fInt, fMax, fMin, fLen, fSqrt, fEq, fNe, dNot, dAnd, dOr, dAndV, dOrV, dNotV, dIfE, dDrop, dRetN, dPar, noO, dSetL, dLst, dOfL, dOwnM, onOwn, onDat, kAppend, kInsert, dSetItem, dAddItem, dIx, onItems, items, onInt, dNoPart, dPart, dSlice, onL, litems, dSlL, dCat, onM, mitems, dTupOf, dSeqI, dRng1, dRng2, dCallP, dCallB, dCallF, noSelf, onArgs, dats2, dIsi, tyName, dYes, dgTup, dgCons, dgNil, retB, dBreak, dCont, ne_eq, not_false_eq_true, true_and, and_true, List.getElem?_cons_zero, List.getElem?_cons_succ, List.set_cons_zero, List.set_cons_succ, Option.map, List.length_cons, List.length_nil, dLc_eq, dLc2_eq, dFor_eq, dSortSet, dSort, dListOf, dIsN, dNotN, isNo, dAug, dMulA, dgUnl, dCatT, dSlT, onT, titems, dEnum, dZip, dZipM, seqs, dRetL, dPar3, dRevT, dLstRg, dTupRg, dRg1, dRg2, dChainLe, List.nil_append, List.cons_append, if_true, if_false, dFrz, dLcO, dMin2D, dAppX, dParL, dParLL, dRepL, fNeS, fEqS, dgSet, dTupZip, dFgt, fIsB, fNotB, List.map_cons, List.map_nil, fw0, fw1, fw2, fw3, fw4, fw5, fw6, fw7, fw8, fw9, fw10, fw11, fw12, fw13, fw14, fw15, dSortD, eP]
  refine lc_map ls eLm (fun l => eLm ⟨2 * d - l.x, l.z, l.sh, l.w⟩) (hv1 rfl) (by omega) (fun i l hl C1 C2 n hn hc => ?_) ?_
  · simp only [dSeq, dAsg, dCB, dCons, dNil, dVar, onVs, vals, val, slot, setR, fGcd, dIfS, dTV, dOp, dBin, onV2, fLt, fLe, fGt, fGe, fAdd, fSub, fMul, fDiv, fMod, fI0, dC, dUn, onV, fNeg, dNext, dRet, dTup, onD, dats, fDivZ, fI, fPow, Few, retP, fAbs, fInt, fMax, fMin, fLen, fSqrt, fEq, fNe, dNot, dAnd, dOr, dAndV, dOrV, dNotV, dIfE, dDrop, dRetN, dPar, noO, dSetL, dLst, dOfL, dOwnM, onOwn, onDat, kAppend, kInsert, dSetItem, dAddItem, dIx, onItems, items, onInt, dNoPart, dPart, dSlice, onL, litems, dSlL, dCat, onM, mitems, dTupOf, dSeqI, dRng1, dRng2, dCallP, dCallB, dCallF, noSelf, onArgs, dats2, dIsi, tyName, dYes, dgTup, dgCons, dgNil, retB, dBreak, dCont, ne_eq, not_false_eq_true, true_and, and_true, List.getElem?_cons_zero, List.getElem?_cons_succ, List.set_cons_zero, List.set_cons_succ, Option.map, List.length_cons, List.length_nil, dLc_eq, dLc2_eq, dFor_eq, dSortSet, dSort, dListOf, dIsN, dNotN, isNo, dAug, dMulA, dgUnl, dCatT, dSlT, onT, titems, dEnum, dZip, dZipM, seqs, dRetL, dPar3, dRevT, dLstRg, dTupRg, dRg1, dRg2, dChainLe, List.nil_append, List.cons_append, if_true, if_false, dFrz, dLcO, dMin2D, dAppX, dParL, dParLL, dRepL, fNeS, fEqS, dgSet, dTupZip, dFgt, fIsB, fNotB, List.map_cons, List.map_nil, fw0, fw1, fw2, fw3, fw4, fw5, fw6, fw7, fw8, fw9, fw10, fw11, fw12, fw13, fw14, fw15, eLm, on0, on1, on2, on3, wipeR]
    exact ⟨cmw (a := 2) (b := 10) (by decide) (by omega), hn, hc⟩
  · rw [show ls.map (fun l => eLm ⟨2 * d - l.x, l.z, l.sh, l.w⟩) = (ls.map fun l => (⟨2 * d - l.x, l.z, l.sh, l.w⟩ : Lmp)).map eLm by rw [List.map_map]; rfl]
    refine ⟨can_sort_lamps _, ?_⟩
    obtain ⟨ms, e, hp, hu⟩ := sort_lamps (ls.map fun l => (⟨2 * d - l.x, l.z, l.sh, l.w⟩ : Lmp))
    rw [e]
    refine hQ _ ⟨ms, rfl, hu, by rw [hp.length_eq, List.length_map], ?_⟩
    have := hp.map Lmp.x
    rw [List.map_map] at this
    unfold lxs
    rw [List.map_map]
    exact this
set_option maxHeartbeats 4000000 in
theorem ok__law_bag {f : Addr} {fd : FuncData} (W : Fun K "_law_bag" "_law_bag" s__law_bag f fd) (T : Bi mg) :
    FnG P w K mg base CX0 1 f fd ["_law_script"] (spF K [.ro] S__law_bag) := by
  refine fnF W sc__law_bag rfl rfl fun cdv A out s H E Nn hr hgd => ⟨_, _, (pl_lst (pda_cons pd_int (pda_cons pd_int (pda_cons pd_int (pda_cons (pd_l (pl_lc (own := [("_law_cell", 1)]) rfl sc__law_bag.nd (pdi_seq (pd_l (pl_slice (pdv 0) pdo_none (pdo_some pd_int)))) (blkOk_by (own := [("_law_cell", 1)]) (N := nm__law_bag) (sc := defScope s__law_bag) (by decide +kernel)) (fun _ _ _ _ _ => (pgd_name (i := 1) sc__law_bag.nd)) (fun _ _ _ _ _ => dts_nil) (fun _ _ _ _ _ => (pd_callB call_abs sc_abs rfl T.b_abs (by decide +kernel) (pda_cons (pdv 1) pda_nil))))) pda_nil))))), ?_⟩
  exact fun xs Q hl hS => rd_bag hS
set_option maxHeartbeats 4000000 in
theorem ok__law_take {f : Addr} {fd : FuncData} (W : Fun K "_law_take" "_law_take" s__law_take f fd) (T : Bi mg) :
    FnG P w K mg base CX0 1 f fd ["_law_bag_here", "_law_many"] (spB K [.d] S__law_take) := by
  refine fnB W sc__law_take rfl fun cdv A out s H E Nn B hr hgd => ⟨_, _, (dss_cons (ds_if (pt_eq hr.units rfl (pd_ix (pdv 0) pd_int (fun _ _ => rfl)) pd_int) (dss_cons (ds_set (i := 2) sc__law_take.nd (pd_ix (pd_l (pl_cat (pd_l (pl_slice (pd_ix (pdv 0) pd_int (fun _ _ => rfl)) (pdo_some (pd_ix (pdv 0) pd_int (fun _ _ => rfl))) pdo_none)) (pd_l (pl_lst (pda_cons pd_int pda_nil))))) pd_int (fun _ _ => rfl)) (fixB (by decide)))
      (dss_cons (ds_addItem (i := 0) pd_int pd_int (ps_augS (pv 0) pe_int get_list pe_int ip_add set_list))
      (dss_cons (ds_if (pt_ge (pdv 2) (pd_pow pd_int pd_int)) (dss_one (ds_setItem (i := 0) (pdv 2) pd_int (pg_sub (pv 0) pe_int set_list))) dss_nil)
      (dss_cons (ds_set (i := 3) sc__law_take.nd (pd_add (pd_add (pd_mul (pd_ix (pdv 0) pd_int (fun _ _ => rfl)) pd_int) (pd_mod (pd_callTy call_int1 sc_int rfl T.b_int (by decide +kernel) (pda_cons (pdv 2) pda_nil)) pd_int)) (pd_mul pd_int (pd_ix (pdv 0) pd_int (fun _ _ => rfl)))) (fixB (by decide)))
      (dss_one (ds_setItem (i := 0) (pd_mod (pd_callTy call_int1 sc_int rfl T.b_int (by decide +kernel) (pda_cons (pdv 3) pda_nil)) pd_int) pd_int (pg_sub (pv 0) pe_int set_list))))))) dss_nil)
      (dss_cons (ds_if (pt_gt (pd_ix (pdv 0) pd_int (fun _ _ => rfl)) pd_int) (dss_cons (ds_set (i := 4) sc__law_take.nd (pd_mod (pd_callTy call_int1 sc_int rfl T.b_int (by decide +kernel) (pda_cons (pd_ix (pdv 0) pd_int (fun _ _ => rfl)) pda_nil)) (pdv 1)) (fixB (by decide)))
      (dss_cons (ds_setItem (i := 0) (pd_div (pd_callTy call_int1 sc_int rfl T.b_int (by decide +kernel) (pda_cons (pd_ix (pdv 0) pd_int (fun _ _ => rfl)) pda_nil)) (pdv 1)) pd_int (pg_sub (pv 0) pe_int set_list))
      (dss_one (ds_ret (pdv 4))))) dss_nil)
      (dss_cons (ds_set (i := 5) sc__law_take.nd (pd_mod (pd_callTy call_int1 sc_int rfl T.b_int (by decide +kernel) (pda_cons (pd_mul (pd_add (pd_ix (pdv 0) pd_int (fun _ _ => rfl)) pd_int) pd_int) pda_nil)) pd_int) (fixB (by decide)))
      (dss_cons (ds_set (i := 6) sc__law_take.nd (pd_mod (pd_callTy call_int1 sc_int rfl T.b_int (by decide +kernel) (pda_cons (pd_mul (pd_mod (pd_callTy call_int1 sc_int rfl T.b_int (by decide +kernel) (pda_cons (pd_mul (pdv 5) (pdv 5)) pda_nil)) pd_int) pd_int) pda_nil)) pd_int) (fixB (by decide)))
      (dss_one (ds_ret (pd_mod (pd_callTy call_int1 sc_int rfl T.b_int (by decide +kernel) (pda_cons (pd_div (pdv 6) pd_int) pda_nil)) (pdv 1)))))))), ?_⟩
  exact fun bag xs Q hl hS => rd_take hS
set_option maxHeartbeats 4000000 in
theorem ok__law_shape {f : Addr} {fd : FuncData} (W : Fun K "_law_shape" "_law_shape" s__law_shape f fd) (T : Bi mg) :
    FnG P w K mg base CX0 1 f fd ["_law_points"] (spP K [.d] S__law_shape) := by
  refine fnP W sc__law_shape rfl fun cdv A out s H E Nn hr hgd => ⟨_, _, (dss_one (ds_ret (pd_tupleOf rfl T.b_tuple (pda_cons (pd_l (pl_sortSet rfl hr.units rfl T.b_sorted rfl T.b_set (pda_cons (pdv 0) pda_nil))) pda_nil)))), ?_⟩
  clear W T hr hgd
  rintro xs Q hl ⟨ps, rfl, h0, hQ⟩
  clear hl
  replace hQ : ∀ z, (∃ qs, SortdS ps qs ∧ z = .tuple (qs.map encP)) → Q z   := hQ
  have e : rhoP nm__law_shape.length [.d] [.list (ps.map encP)] = [some (.d (.list (ps.map encP)))] := rfl
  rw [e]
  clear e
  simp only [dSeq, dAsg, dCB, dCons, dNil, dVar, onVs, vals, val, slot, setR, fGcd, dIfS, dTV, dOp, dBin, onV2, fLt, fLe, fGt, fGe, fAdd, fSub, fMul, fDiv, fMod, fI0, dC, dUn, onV, fNeg, dNext, dRet, dTup, onD, dats, fDivZ, fI, fPow, Few, retP, fAbs, fInt, fMax, fMin, fLen, fSqrt, fEq, fNe, dNot, dAnd, dOr, dAndV, dOrV, dNotV, dIfE, dDrop, dRetN, dPar, noO, dSetL, dLst, dOfL, dOwnM, onOwn, onDat, kAppend, kInsert, dSetItem, dAddItem, dIx, onItems, items, onInt, dNoPart, dPart, dSlice, onL, litems, dSlL, dCat, onM, mitems, dTupOf, dSeqI, dRng1, dRng2, dCallP, dCallB, dCallF, noSelf, onArgs, dats2, dIsi, tyName, dYes, dgTup, dgCons, dgNil, retB, dBreak, dCont, ne_eq, not_false_eq_true, true_and, and_true, List.getElem?_cons_zero, List.getElem?_cons_succ, List.set_cons_zero, List.set_cons_succ, Option.map, List.length_cons, List.length_nil, dLc_eq, dLc2_eq, dFor_eq, dSortSet, dSort, dListOf, dIsN, dNotN, isNo, dAug, dMulA, dgUnl, dCatT, dSlT, onT, titems, dEnum, dZip, dZipM, seqs, dRetL, dPar3, dRevT, dLstRg, dTupRg, dRg1, dRg2, dChainLe, List.nil_append, List.cons_append, if_true, if_false, dFrz, dLcO, dMin2D, dAppX, dParL, dParLL, dRepL, fNeS, fEqS, dgSet, dTupZip, dFgt, fIsB, fNotB, List.map_cons, List.map_nil, fw0, fw1, fw2, fw3, fw4, fw5, fw6, fw7, fw8, fw9, fw10, fw11, fw12, fw13, fw14, fw15]
  exact ⟨ps, asPairs_enc ps, h0, fun qs hqs => hQ _ ⟨qs, hqs, rfl⟩⟩
set_option maxHeartbeats 4000000 in
theorem ok__law_has_rows {f : Addr} {fd : FuncData} (W : Fun K "_law_has_rows" "_law_has_rows" s__law_has_rows f fd) (T : Bi mg) :
    FnG P w K mg base CX0 1 f fd ["_law_picture", "_law_spacing", "_law_many"] (spP K [.d, .d, .d] S__law_has_rows) := by
  refine fnP W sc__law_has_rows rfl fun cdv A out s H E Nn hr hgd => ⟨_, _, (dss_cons (ds_setL (i := 3) sc__law_has_rows.nd (pl_lst (pda_cons (pd_tup pda_nil) pda_nil)) fixP)
      (dss_cons (ds_while PassesOwn.never (pt_ne hr.units rfl (pdv 3) (pd_l (pl_lst pda_nil))) (dss_cons (ds_set (i := 4) sc__law_has_rows.nd (pd_pop (i := 3)) fixP)
      (dss_cons (ds_if (pt_eq hr.units rfl (pd_callB call_len_seq sc_len rfl T.b_len (by decide +kernel) (pda_cons (pdv 4) pda_nil)) (pd_callB call_len_seq sc_len rfl T.b_len (by decide +kernel) (pda_cons (pdv 0) pda_nil))) (dss_one (ds_ret pd_bl)) dss_nil)
      (dss_cons (ds_set (i := 5) sc__law_has_rows.nd (pd_ix (pdv 0) (pd_callB call_len_seq sc_len rfl T.b_len (by decide +kernel) (pda_cons (pdv 4) pda_nil)) (fun _ _ => rfl)) fixP)
      (dss_cons (ds_fgt (i := 8) (ds_fgt (i := 7) (ds_set (i := 6) sc__law_has_rows.nd (pd_l (pl_lc (own := [("_law_at", 7), ("_law_row", 8)]) rfl sc__law_has_rows.nd (pdi_enum rfl T.b_enumerate (pda_cons (pdv 4) pda_nil)) (blkOk_by (own := [("_law_at", 7), ("_law_row", 8)]) (N := nm__law_has_rows) (sc := defScope s__law_has_rows) (by decide +kernel)) (fun _ _ _ _ _ => (pgd_tup (n := 2) rfl (pgds_cons (pgd_name (i := 7) sc__law_has_rows.nd) (pgds_cons (pgd_name (i := 8) sc__law_has_rows.nd) pgds_nil)))) (fun _ _ _ _ _ => (dts_one (pt_lt (pd_sub (pd_ix (pdv 5) pd_int (fun _ _ => rfl)) (pd_ix (pd_ix (pdv 0) (pdv 7) (fun _ _ => rfl)) pd_int (fun _ _ => rfl))) (pdv 1)))) (fun _ _ _ _ _ => (pdv 8)))) fixP) fixP) fixP)
      (dss_one (ds_fgt (i := 8) (ds_expr (pd_extend (i := 3) (pda_cons (pd_l (pl_lc (own := [("_law_row", 8)]) rfl sc__law_has_rows.nd (pdi_range1 rfl T.b_range (pda_cons (pdv 2) pda_nil)) (blkOk_by (own := [("_law_row", 8)]) (N := nm__law_has_rows) (sc := defScope s__law_has_rows) (by decide +kernel)) (fun _ _ _ _ _ => (pgd_name (i := 8) sc__law_has_rows.nd)) (fun _ _ _ _ _ => (dts_one (pt_notin (units65 hr) rfl (pdv 8) (pdv 6)))) (fun _ _ _ _ _ => (pd_catT (pdv 4) (pd_tup (pda_cons (pdv 8) pda_nil)))))) pda_nil))) fixP)))))))
      (dss_one (ds_ret pd_bl)))), ?_⟩
  clear W T hr hgd
  rintro xs Q hl ⟨⟨ls, sp, n⟩, rfl, ⟨h0, h1⟩, hQ⟩
  clear hl
  replace hQ : Q (.bool (hasRows (lxs ls) sp n)) := hQ
  have e : rhoP nm__law_has_rows.length [.d, .d, .d] [eP ls, .int sp, .int n] = [some (.d (eP ls)), some (.d (.int sp)), some (.d (.int n)), none, none, none, none, none, none] := rfl
  rw [e]
  clear e
  refine seqI fun kk hk => ?_
  simp only [dSeq, dAsg, dCB, dCons, dNil, dVar, onVs, vals, val, slot, setR, fGcd, dIfS, dTV, dOp, dBin, onV2, fLt, fLe, fGt, fGe, fAdd, fSub, fMul, fDiv, fMod, fI0, dC, dUn, onV, fNeg, dNext, dRet, dTup, onD, dats, fDivZ, fI, fPow, Few, retP, fAbs, fInt, fMax, fMin, fLen, fSqrt, fEq, fNe, dNot, dAnd, dOr, dAndV, dOrV, dNotV, dIfE, dDrop, dRetN, dPar, noO, dSetL, dLst, dOfL, dOwnM, onOwn, onDat, kAppend, kInsert, dSetItem, dAddItem, dIx, onItems, items, onInt, dNoPart, dPart, dSlice, onL, litems, dSlL, dCat, onM, mitems, dTupOf, dSeqI, dRng1, dRng2, dCallP, dCallB, dCallF, noSelf, onArgs, dats2, dIsi, tyName, dYes, dgTup, dgCons, dgNil, retB, dBreak, dCont, ne_eq, not_false_eq_true, true_and, and_true, List.getElem?_cons_zero, List.getElem?_cons_succ, List.set_cons_zero, List.set_cons_succ, Option.map, List.length_cons, List.length_nil, dLc_eq, dLc2_eq, dFor_eq, dSortSet, dSort, dListOf, dIsN, dNotN, isNo, dAug, dMulA, dgUnl, dCatT, dSlT, onT, titems, dEnum, dZip, dZipM, seqs, dRetL, dPar3, dRevT, dLstRg, dTupRg, dRg1, dRg2, dChainLe, List.nil_append, List.cons_append, if_true, if_false, dFrz, dLcO, dMin2D, dAppX, dParL, dParLL, dRepL, fNeS, fEqS, dgSet, dTupZip, dFgt, fIsB, fNotB, List.map_cons, List.map_nil, fw0, fw1, fw2, fw3, fw4, fw5, fw6, fw7, fw8, fw9, fw10, fw11, fw12, fw13, fw14, fw15]
  rw [hk]
  clear hk
  refine seqI fun kk hk => ?_
  refine whileI (fun ρ : Rho => ∃ (line : List (List Int)) (a4 a5 a6 : Option Ent), (∀ p ∈ line, PreL (lxs ls) sp n p) ∧ (∀ rs, ColL (lxs ls) sp n rs → ∃ p ∈ line, rs.take p.length = p) ∧ left_to n ls.length line ≤ (n + 1) ^ ls.length ∧ ρ = [some (.d (eP ls)), some (.d (.int sp)), some (.d (.int n)), some (.own (line.map eR)), a4, a5, a6, none, none]) (fun ρ : Rho => match ρ[3]? with | some (some (Ent.own xs)) => left_to n ls.length (xs.map unR) | _ => 0) ⟨[[]], none, none, none, fun p hp => by rw [List.mem_singleton.mp hp]; exact .nil, fun rs _ => ⟨[], List.mem_singleton.mpr rfl, rfl⟩, by simp [left_to], rfl⟩ fun tb htb ρ hρ => ?_
  obtain ⟨line, a4, a5, a6, q1, q2, q3, rfl⟩ := hρ
  simp only [dSeq, dAsg, dCB, dCons, dNil, dVar, onVs, vals, val, slot, setR, fGcd, dIfS, dTV, dOp, dBin, onV2, fLt, fLe, fGt, fGe, fAdd, fSub, fMul, fDiv, fMod, fI0, dC, dUn, onV, fNeg, dNext, dRet, dTup, onD, dats, fDivZ, fI, fPow, Few, retP, fAbs, fInt, fMax, fMin, fLen, fSqrt, fEq, fNe, dNot, dAnd, dOr, dAndV, dOrV, dNotV, dIfE, dDrop, dRetN, dPar, noO, dSetL, dLst, dOfL, dOwnM, onOwn, onDat, kAppend, kInsert, dSetItem, dAddItem, dIx, onItems, items, onInt, dNoPart, dPart, dSlice, onL, litems, dSlL, dCat, onM, mitems, dTupOf, dSeqI, dRng1, dRng2, dCallP, dCallB, dCallF, noSelf, onArgs, dats2, dIsi, tyName, dYes, dgTup, dgCons, dgNil, retB, dBreak, dCont, ne_eq, not_false_eq_true, true_and, and_true, List.getElem?_cons_zero, List.getElem?_cons_succ, List.set_cons_zero, List.set_cons_succ, Option.map, List.length_cons, List.length_nil, dLc_eq, dLc2_eq, dFor_eq, dSortSet, dSort, dListOf, dIsN, dNotN, isNo, dAug, dMulA, dgUnl, dCatT, dSlT, onT, titems, dEnum, dZip, dZipM, seqs, dRetL, dPar3, dRevT, dLstRg, dTupRg, dRg1, dRg2, dChainLe, List.nil_append, List.cons_append, if_true, if_false, dFrz, dLcO, dMin2D, dAppX, dParL, dParLL, dRepL, fNeS, fEqS, dgSet, dTupZip, dFgt, fIsB, fNotB, List.map_cons, List.map_nil, fw0, fw1, fw2, fw3, fw4, fw5, fw6, fw7, fw8, fw9, fw10, fw11, fw12, fw13, fw14, fw15, sh_line, sh_nilL, eqv_line]
  refine ite_nb (fun hne => ?_) fun hnil => ?_
  · obtain ⟨ys, p, rfl⟩ : ∃ ys p, line = ys ++ [p] := ⟨line.dropLast, line.getLast hne, (List.dropLast_concat_getLast hne).symm⟩
    have pp := q1 p (List.mem_append_right _ (List.mem_singleton.mpr rfl))
    have pl := pp.len
    have ll := lxs_len ls
    rw [htb]
    clear htb
    refine seqI fun k2 hk2 => ?_
    simp only [dSeq, dAsg, dCB, dCons, dNil, dVar, onVs, vals, val, slot, setR, fGcd, dIfS, dTV, dOp, dBin, onV2, fLt, fLe, fGt, fGe, fAdd, fSub, fMul, fDiv, fMod, fI0, dC, dUn, onV, fNeg, dNext, dRet, dTup, onD, dats, fDivZ, fI, fPow, Few, retP, fAbs, fInt, fMax, fMin, fLen, fSqrt, fEq, fNe, dNot, dAnd, dOr, dAndV, dOrV, dNotV, dIfE, dDrop, dRetN, dPar, noO, dSetL, dLst, dOfL, dOwnM, onOwn, onDat, kAppend, kInsert, dSetItem, dAddItem, dIx, onItems, items, onInt, dNoPart, dPart, dSlice, onL, litems, dSlL, dCat, onM, mitems, dTupOf, dSeqI, dRng1, dRng2, dCallP, dCallB, dCallF, noSelf, onArgs, dats2, dIsi, tyName, dYes, dgTup, dgCons, dgNil, retB, dBreak, dCont, ne_eq, not_false_eq_true, true_and, and_true, List.getElem?_cons_zero, List.getElem?_cons_succ, List.set_cons_zero, List.set_cons_succ, Option.map, List.length_cons, List.length_nil, dLc_eq, dLc2_eq, dFor_eq, dSortSet, dSort, dListOf, dIsN, dNotN, isNo, dAug, dMulA, dgUnl, dCatT, dSlT, onT, titems, dEnum, dZip, dZipM, seqs, dRetL, dPar3, dRevT, dLstRg, dTupRg, dRg1, dRg2, dChainLe, List.nil_append, List.cons_append, if_true, if_false, dFrz, dLcO, dMin2D, dAppX, dParL, dParLL, dRepL, fNeS, fEqS, dgSet, dTupZip, dFgt, fIsB, fNotB, List.map_cons, List.map_nil, fw0, fw1, fw2, fw3, fw4, fw5, fw6, fw7, fw8, fw9, fw10, fw11, fw12, fw13, fw14, fw15, dPopL, pop_line, drop_line]
    rw [hk2]
    clear hk2
    refine seqI fun k2 hk2 => ?_
    simp only [dSeq, dAsg, dCB, dCons, dNil, dVar, onVs, vals, val, slot, setR, fGcd, dIfS, dTV, dOp, dBin, onV2, fLt, fLe, fGt, fGe, fAdd, fSub, fMul, fDiv, fMod, fI0, dC, dUn, onV, fNeg, dNext, dRet, dTup, onD, dats, fDivZ, fI, fPow, Few, retP, fAbs, fInt, fMax, fMin, fLen, fSqrt, fEq, fNe, dNot, dAnd, dOr, dAndV, dOrV, dNotV, dIfE, dDrop, dRetN, dPar, noO, dSetL, dLst, dOfL, dOwnM, onOwn, onDat, kAppend, kInsert, dSetItem, dAddItem, dIx, onItems, items, onInt, dNoPart, dPart, dSlice, onL, litems, dSlL, dCat, onM, mitems, dTupOf, dSeqI, dRng1, dRng2, dCallP, dCallB, dCallF, noSelf, onArgs, dats2, dIsi, tyName, dYes, dgTup, dgCons, dgNil, retB, dBreak, dCont, ne_eq, not_false_eq_true, true_and, and_true, List.getElem?_cons_zero, List.getElem?_cons_succ, List.set_cons_zero, List.set_cons_succ, Option.map, List.length_cons, List.length_nil, dLc_eq, dLc2_eq, dFor_eq, dSortSet, dSort, dListOf, dIsN, dNotN, isNo, dAug, dMulA, dgUnl, dCatT, dSlT, onT, titems, dEnum, dZip, dZipM, seqs, dRetL, dPar3, dRevT, dLstRg, dTupRg, dRg1, dRg2, dChainLe, List.nil_append, List.cons_append, if_true, if_false, dFrz, dLcO, dMin2D, dAppX, dParL, dParLL, dRepL, fNeS, fEqS, dgSet, dTupZip, dFgt, fIsB, fNotB, List.map_cons, List.map_nil, fw0, fw1, fw2, fw3, fw4, fw5, fw6, fw7, fw8, fw9, fw10, fw11, fw12, fw13, fw14, fw15, sh_int, eqv_int, eR, eP, List.length_map]
    refine ite_b (c := (p.length : Int) = ls.length) (fun he => ?_) fun hne2 => ?_
    · rw [hasRows_true (pp.col (by omega))] at hQ
      exact hQ
    rw [hk2]
    clear hk2
    refine seqI fun k2 hk2 => ?_
    obtain ⟨l, hl⟩ : ∃ l, ls[p.length]? = some l := ⟨_, List.getElem?_eq_getElem (by omega)⟩
    simp only [dSeq, dAsg, dCB, dCons, dNil, dVar, onVs, vals, val, slot, setR, fGcd, dIfS, dTV, dOp, dBin, onV2, fLt, fLe, fGt, fGe, fAdd, fSub, fMul, fDiv, fMod, fI0, dC, dUn, onV, fNeg, dNext, dRet, dTup, onD, dats, fDivZ, fI, fPow, Few, retP, fAbs, fInt, fMax, fMin, fLen, fSqrt, fEq, fNe, dNot, dAnd, dOr, dAndV, dOrV, dNotV, dIfE, dDrop, dRetN, dPar, noO, dSetL, dLst, dOfL, dOwnM, onOwn, onDat, kAppend, kInsert, dSetItem, dAddItem, dIx, onItems, items, onInt, dNoPart, dPart, dSlice, onL, litems, dSlL, dCat, onM, mitems, dTupOf, dSeqI, dRng1, dRng2, dCallP, dCallB, dCallF, noSelf, onArgs, dats2, dIsi, tyName, dYes, dgTup, dgCons, dgNil, retB, dBreak, dCont, ne_eq, not_false_eq_true, true_and, and_true, List.getElem?_cons_zero, List.getElem?_cons_succ, List.set_cons_zero, List.set_cons_succ, Option.map, List.length_cons, List.length_nil, dLc_eq, dLc2_eq, dFor_eq, dSortSet, dSort, dListOf, dIsN, dNotN, isNo, dAug, dMulA, dgUnl, dCatT, dSlT, onT, titems, dEnum, dZip, dZipM, seqs, dRetL, dPar3, dRevT, dLstRg, dTupRg, dRg1, dRg2, dChainLe, List.nil_append, List.cons_append, if_true, if_false, dFrz, dLcO, dMin2D, dAppX, dParL, dParLL, dRepL, fNeS, fEqS, dgSet, dTupZip, dFgt, fIsB, fNotB, List.map_cons, List.map_nil, fw0, fw1, fw2, fw3, fw4, fw5, fw6, fw7, fw8, fw9, fw10, fw11, fw12, fw13, fw14, fw15, List.length_map]
    rw [on_map hl rfl]
    rw [hk2]
    clear hk2
    refine seqI fun k2 hk2 => ?_
    simp only [dSeq, dAsg, dCB, dCons, dNil, dVar, onVs, vals, val, slot, setR, fGcd, dIfS, dTV, dOp, dBin, onV2, fLt, fLe, fGt, fGe, fAdd, fSub, fMul, fDiv, fMod, fI0, dC, dUn, onV, fNeg, dNext, dRet, dTup, onD, dats, fDivZ, fI, fPow, Few, retP, fAbs, fInt, fMax, fMin, fLen, fSqrt, fEq, fNe, dNot, dAnd, dOr, dAndV, dOrV, dNotV, dIfE, dDrop, dRetN, dPar, noO, dSetL, dLst, dOfL, dOwnM, onOwn, onDat, kAppend, kInsert, dSetItem, dAddItem, dIx, onItems, items, onInt, dNoPart, dPart, dSlice, onL, litems, dSlL, dCat, onM, mitems, dTupOf, dSeqI, dRng1, dRng2, dCallP, dCallB, dCallF, noSelf, onArgs, dats2, dIsi, tyName, dYes, dgTup, dgCons, dgNil, retB, dBreak, dCont, ne_eq, not_false_eq_true, true_and, and_true, List.getElem?_cons_zero, List.getElem?_cons_succ, List.set_cons_zero, List.set_cons_succ, Option.map, List.length_cons, List.length_nil, dLc_eq, dLc2_eq, dFor_eq, dSortSet, dSort, dListOf, dIsN, dNotN, isNo, dAug, dMulA, dgUnl, dCatT, dSlT, onT, titems, dEnum, dZip, dZipM, seqs, dRetL, dPar3, dRevT, dLstRg, dTupRg, dRg1, dRg2, dChainLe, List.nil_append, List.cons_append, if_true, if_false, dFrz, dLcO, dMin2D, dAppX, dParL, dParLL, dRepL, fNeS, fEqS, dgSet, dTupZip, dFgt, fIsB, fNotB, List.map_cons, List.map_nil, fw0, fw1, fw2, fw3, fw4, fw5, fw6, fw7, fw8, fw9, fw10, fw11, fw12, fw13, fw14, fw15]
    have hx := lxs_at hl
    rw [enumD_map]
    refine lc_fm p.zipIdx (fun q => PyData.tuple [.int (q.2 : Int), .int q.1]) (fun q => ((if l.x - (lxs ls).getD q.2 0 < sp then some q.1 else none) : Option Int).map PyData.int) (hv2 rfl rfl) (by rw [List.length_zipIdx]; omega) (fun i q hq C1 C2 k fk c1 c2 => ?_) ?_
    · obtain ⟨r, at_⟩ := q
      have hq2 : p[at_]? = some r := by
        have := List.mem_of_getElem? hq
        rwa [List.mem_zipIdx_iff_getElem?] at this
      have hat := (List.getElem?_eq_some_iff.mp hq2).1
      obtain ⟨la, hla⟩ : ∃ la, ls[at_]? = some la := ⟨_, List.getElem?_eq_getElem (by omega)⟩
      have gd := getD_at (lxs_at hla)
      simp only [gd] at c1 c2
      simp only [dSeq, dAsg, dCB, dCons, dNil, dVar, onVs, vals, val, slot, setR, fGcd, dIfS, dTV, dOp, dBin, onV2, fLt, fLe, fGt, fGe, fAdd, fSub, fMul, fDiv, fMod, fI0, dC, dUn, onV, fNeg, dNext, dRet, dTup, onD, dats, fDivZ, fI, fPow, Few, retP, fAbs, fInt, fMax, fMin, fLen, fSqrt, fEq, fNe, dNot, dAnd, dOr, dAndV, dOrV, dNotV, dIfE, dDrop, dRetN, dPar, noO, dSetL, dLst, dOfL, dOwnM, onOwn, onDat, kAppend, kInsert, dSetItem, dAddItem, dIx, onItems, items, onInt, dNoPart, dPart, dSlice, onL, litems, dSlL, dCat, onM, mitems, dTupOf, dSeqI, dRng1, dRng2, dCallP, dCallB, dCallF, noSelf, onArgs, dats2, dIsi, tyName, dYes, dgTup, dgCons, dgNil, retB, dBreak, dCont, ne_eq, not_false_eq_true, true_and, and_true, List.getElem?_cons_zero, List.getElem?_cons_succ, List.set_cons_zero, List.set_cons_succ, Option.map, List.length_cons, List.length_nil, dLc_eq, dLc2_eq, dFor_eq, dSortSet, dSort, dListOf, dIsN, dNotN, isNo, dAug, dMulA, dgUnl, dCatT, dSlT, onT, titems, dEnum, dZip, dZipM, seqs, dRetL, dPar3, dRevT, dLstRg, dTupRg, dRg1, dRg2, dChainLe, List.nil_append, List.cons_append, if_true, if_false, dFrz, dLcO, dMin2D, dAppX, dParL, dParLL, dRepL, fNeS, fEqS, dgSet, dTupZip, dFgt, fIsB, fNotB, List.map_cons, List.map_nil, fw0, fw1, fw2, fw3, fw4, fw5, fw6, fw7, fw8, fw9, fw10, fw11, fw12, fw13, fw14, fw15, eLm, on0]
      rw [on_map hla rfl]
      simp only [dSeq, dAsg, dCB, dCons, dNil, dVar, onVs, vals, val, slot, setR, fGcd, dIfS, dTV, dOp, dBin, onV2, fLt, fLe, fGt, fGe, fAdd, fSub, fMul, fDiv, fMod, fI0, dC, dUn, onV, fNeg, dNext, dRet, dTup, onD, dats, fDivZ, fI, fPow, Few, retP, fAbs, fInt, fMax, fMin, fLen, fSqrt, fEq, fNe, dNot, dAnd, dOr, dAndV, dOrV, dNotV, dIfE, dDrop, dRetN, dPar, noO, dSetL, dLst, dOfL, dOwnM, onOwn, onDat, kAppend, kInsert, dSetItem, dAddItem, dIx, onItems, items, onInt, dNoPart, dPart, dSlice, onL, litems, dSlL, dCat, onM, mitems, dTupOf, dSeqI, dRng1, dRng2, dCallP, dCallB, dCallF, noSelf, onArgs, dats2, dIsi, tyName, dYes, dgTup, dgCons, dgNil, retB, dBreak, dCont, ne_eq, not_false_eq_true, true_and, and_true, List.getElem?_cons_zero, List.getElem?_cons_succ, List.set_cons_zero, List.set_cons_succ, Option.map, List.length_cons, List.length_nil, dLc_eq, dLc2_eq, dFor_eq, dSortSet, dSort, dListOf, dIsN, dNotN, isNo, dAug, dMulA, dgUnl, dCatT, dSlT, onT, titems, dEnum, dZip, dZipM, seqs, dRetL, dPar3, dRevT, dLstRg, dTupRg, dRg1, dRg2, dChainLe, List.nil_append, List.cons_append, if_true, if_false, dFrz, dLcO, dMin2D, dAppX, dParL, dParLL, dRepL, fNeS, fEqS, dgSet, dTupZip, dFgt, fIsB, fNotB, List.map_cons, List.map_nil, fw0, fw1, fw2, fw3, fw4, fw5, fw6, fw7, fw8, fw9, fw10, fw11, fw12, fw13, fw14, fw15, eLm, on0, wipeR]
      refine ite_b (c := l.x - la.x < sp) (fun lt => ?_) fun nlt => ?_
      · exact ⟨fk, c1 _ (by rw [if_pos lt]; rfl)⟩
      · exact c2 (by rw [if_neg nlt]; rfl)
    rw [bars_enc]
    simp only [dSeq, dAsg, dCB, dCons, dNil, dVar, onVs, vals, val, slot, setR, fGcd, dIfS, dTV, dOp, dBin, onV2, fLt, fLe, fGt, fGe, fAdd, fSub, fMul, fDiv, fMod, fI0, dC, dUn, onV, fNeg, dNext, dRet, dTup, onD, dats, fDivZ, fI, fPow, Few, retP, fAbs, fInt, fMax, fMin, fLen, fSqrt, fEq, fNe, dNot, dAnd, dOr, dAndV, dOrV, dNotV, dIfE, dDrop, dRetN, dPar, noO, dSetL, dLst, dOfL, dOwnM, onOwn, onDat, kAppend, kInsert, dSetItem, dAddItem, dIx, onItems, items, onInt, dNoPart, dPart, dSlice, onL, litems, dSlL, dCat, onM, mitems, dTupOf, dSeqI, dRng1, dRng2, dCallP, dCallB, dCallF, noSelf, onArgs, dats2, dIsi, tyName, dYes, dgTup, dgCons, dgNil, retB, dBreak, dCont, ne_eq, not_false_eq_true, true_and, and_true, List.getElem?_cons_zero, List.getElem?_cons_succ, List.set_cons_zero, List.set_cons_succ, Option.map, List.length_cons, List.length_nil, dLc_eq, dLc2_eq, dFor_eq, dSortSet, dSort, dListOf, dIsN, dNotN, isNo, dAug, dMulA, dgUnl, dCatT, dSlT, onT, titems, dEnum, dZip, dZipM, seqs, dRetL, dPar3, dRevT, dLstRg, dTupRg, dRg1, dRg2, dChainLe, List.nil_append, List.cons_append, if_true, if_false, dFrz, dLcO, dMin2D, dAppX, dParL, dParLL, dRepL, fNeS, fEqS, dgSet, dTupZip, dFgt, fIsB, fNotB, List.map_cons, List.map_nil, fw0, fw1, fw2, fw3, fw4, fw5, fw6, fw7, fw8, fw9, fw10, fw11, fw12, fw13, fw14, fw15, wipeR]
    rw [hk2]
    clear hk2
    simp only [dSeq, dAsg, dCB, dCons, dNil, dVar, onVs, vals, val, slot, setR, fGcd, dIfS, dTV, dOp, dBin, onV2, fLt, fLe, fGt, fGe, fAdd, fSub, fMul, fDiv, fMod, fI0, dC, dUn, onV, fNeg, dNext, dRet, dTup, onD, dats, fDivZ, fI, fPow, Few, retP, fAbs, fInt, fMax, fMin, fLen, fSqrt, fEq, fNe, dNot, dAnd, dOr, dAndV, dOrV, dNotV, dIfE, dDrop, dRetN, dPar, noO, dSetL, dLst, dOfL, dOwnM, onOwn, onDat, kAppend, kInsert, dSetItem, dAddItem, dIx, onItems, items, onInt, dNoPart, dPart, dSlice, onL, litems, dSlL, dCat, onM, mitems, dTupOf, dSeqI, dRng1, dRng2, dCallP, dCallB, dCallF, noSelf, onArgs, dats2, dIsi, tyName, dYes, dgTup, dgCons, dgNil, retB, dBreak, dCont, ne_eq, not_false_eq_true, true_and, and_true, List.getElem?_cons_zero, List.getElem?_cons_succ, List.set_cons_zero, List.set_cons_succ, Option.map, List.length_cons, List.length_nil, dLc_eq, dLc2_eq, dFor_eq, dSortSet, dSort, dListOf, dIsN, dNotN, isNo, dAug, dMulA, dgUnl, dCatT, dSlT, onT, titems, dEnum, dZip, dZipM, seqs, dRetL, dPar3, dRevT, dLstRg, dTupRg, dRg1, dRg2, dChainLe, List.nil_append, List.cons_append, if_true, if_false, dFrz, dLcO, dMin2D, dAppX, dParL, dParLL, dRepL, fNeS, fEqS, dgSet, dTupZip, dFgt, fIsB, fNotB, List.map_cons, List.map_nil, fw0, fw1, fw2, fw3, fw4, fw5, fw6, fw7, fw8, fw9, fw10, fw11, fw12, fw13, fw14, fw15, dExtend]
    rw [rng_zero, Int.toNat_natCast]
    refine ⟨⟨by omega, by omega⟩, ?_⟩
    refine lc_fm (List.range n) (fun i : Nat => PyData.int (i : Int)) (fun i : Nat => ((if (i : Int) ∈ bars (lxs ls) p l.x sp then none else some (p ++ [(i : Int)])) : Option (List Int)).map eR) (hv1 rfl) (by rw [List.length_range]; omega) (fun i a ha C1 C2 k fk c1 c2 => ?_) ?_
    · simp only [dSeq, dAsg, dCB, dCons, dNil, dVar, onVs, vals, val, slot, setR, fGcd, dIfS, dTV, dOp, dBin, onV2, fLt, fLe, fGt, fGe, fAdd, fSub, fMul, fDiv, fMod, fI0, dC, dUn, onV, fNeg, dNext, dRet, dTup, onD, dats, fDivZ, fI, fPow, Few, retP, fAbs, fInt, fMax, fMin, fLen, fSqrt, fEq, fNe, dNot, dAnd, dOr, dAndV, dOrV, dNotV, dIfE, dDrop, dRetN, dPar, noO, dSetL, dLst, dOfL, dOwnM, onOwn, onDat, kAppend, kInsert, dSetItem, dAddItem, dIx, onItems, items, onInt, dNoPart, dPart, dSlice, onL, litems, dSlL, dCat, onM, mitems, dTupOf, dSeqI, dRng1, dRng2, dCallP, dCallB, dCallF, noSelf, onArgs, dats2, dIsi, tyName, dYes, dgTup, dgCons, dgNil, retB, dBreak, dCont, ne_eq, not_false_eq_true, true_and, and_true, List.getElem?_cons_zero, List.getElem?_cons_succ, List.set_cons_zero, List.set_cons_succ, Option.map, List.length_cons, List.length_nil, dLc_eq, dLc2_eq, dFor_eq, dSortSet, dSort, dListOf, dIsN, dNotN, isNo, dAug, dMulA, dgUnl, dCatT, dSlT, onT, titems, dEnum, dZip, dZipM, seqs, dRetL, dPar3, dRevT, dLstRg, dTupRg, dRg1, dRg2, dChainLe, List.nil_append, List.cons_append, if_true, if_false, dFrz, dLcO, dMin2D, dAppX, dParL, dParLL, dRepL, fNeS, fEqS, dgSet, dTupZip, dFgt, fIsB, fNotB, List.map_cons, List.map_nil, fw0, fw1, fw2, fw3, fw4, fw5, fw6, fw7, fw8, fw9, fw10, fw11, fw12, fw13, fw14, fw15, fNotInD, sh_int, sh_intsL, any_int, wipeR]
      refine ite_nb (fun hn => ?_) fun hy => ?_
      · refine ⟨few_le (by rw [List.length_map]; omega), fk, ?_⟩
        rw [eR_snoc]
        exact c1 _ (by rw [if_neg hn]; rfl)
      · exact c2 (by rw [if_pos hy]; rfl)
    rw [kids_enc]
    have hx2 : (lxs ls)[p.length]? = some l.x := hx
    have lt := cost_kids (xs := lxs ls) (c := l.x) (sp := sp) (k := n) (n := ls.length) (ys := ys) (p := p) (by omega)
    have few : ys.length + (kids (lxs ls) p l.x sp n).length ≤ sizeLine := by
      have a := cost_ge (k := n) (n := ls.length) (ys := ys ++ kids (lxs ls) p l.x sp n)
      rw [List.length_append] at a
      have b : (n + 1) ^ ls.length ≤ 8 ^ 7 := Nat.le_trans (Nat.pow_le_pow_left (by omega) _) (Nat.pow_le_pow_right (by decide) h0)
      have c : 8 ^ 7 ≤ sizeLine := by rw [sizeLine_eq]; decide
      omega
    simp only [dSeq, dAsg, dCB, dCons, dNil, dVar, onVs, vals, val, slot, setR, fGcd, dIfS, dTV, dOp, dBin, onV2, fLt, fLe, fGt, fGe, fAdd, fSub, fMul, fDiv, fMod, fI0, dC, dUn, onV, fNeg, dNext, dRet, dTup, onD, dats, fDivZ, fI, fPow, Few, retP, fAbs, fInt, fMax, fMin, fLen, fSqrt, fEq, fNe, dNot, dAnd, dOr, dAndV, dOrV, dNotV, dIfE, dDrop, dRetN, dPar, noO, dSetL, dLst, dOfL, dOwnM, onOwn, onDat, kAppend, kInsert, dSetItem, dAddItem, dIx, onItems, items, onInt, dNoPart, dPart, dSlice, onL, litems, dSlL, dCat, onM, mitems, dTupOf, dSeqI, dRng1, dRng2, dCallP, dCallB, dCallF, noSelf, onArgs, dats2, dIsi, tyName, dYes, dgTup, dgCons, dgNil, retB, dBreak, dCont, ne_eq, not_false_eq_true, true_and, and_true, List.getElem?_cons_zero, List.getElem?_cons_succ, List.set_cons_zero, List.set_cons_succ, Option.map, List.length_cons, List.length_nil, dLc_eq, dLc2_eq, dFor_eq, dSortSet, dSort, dListOf, dIsN, dNotN, isNo, dAug, dMulA, dgUnl, dCatT, dSlT, onT, titems, dEnum, dZip, dZipM, seqs, dRetL, dPar3, dRevT, dLstRg, dTupRg, dRg1, dRg2, dChainLe, List.nil_append, List.cons_append, if_true, if_false, dFrz, dLcO, dMin2D, dAppX, dParL, dParLL, dRepL, fNeS, fEqS, dgSet, dTupZip, dFgt, fIsB, fNotB, List.map_cons, List.map_nil, fw0, fw1, fw2, fw3, fw4, fw5, fw6, fw7, fw8, fw9, fw10, fw11, fw12, fw13, fw14, fw15, wipeR, List.length_map]
    refine ⟨few, ⟨ys ++ kids (lxs ls) p l.x sp n, _, _, _, fun y hy => ?_, fun rs hrs => ?_, by omega, by rw [List.map_append]; rfl⟩, ?_⟩
    · rcases List.mem_append.mp hy with hy | hy
      · exact q1 y (List.mem_append_left _ hy)
      · exact pp.kid hx2 hy
    · obtain ⟨y, hy, e⟩ := q2 rs hrs
      rcases List.mem_append.mp hy with hy | hy
      · exact ⟨y, List.mem_append_left _ hy, e⟩
      · have : y = p := List.mem_singleton.mp hy
        subst this
        obtain ⟨z, hz, e2⟩ := ext_kid hrs hx2 e
        exact ⟨z, List.mem_append_right _ hz, e2⟩
    · rw [← List.map_append, unR_map, unR_map]
      exact lt
  · rw [hk]
    simp only [dSeq, dAsg, dCB, dCons, dNil, dVar, onVs, vals, val, slot, setR, fGcd, dIfS, dTV, dOp, dBin, onV2, fLt, fLe, fGt, fGe, fAdd, fSub, fMul, fDiv, fMod, fI0, dC, dUn, onV, fNeg, dNext, dRet, dTup, onD, dats, fDivZ, fI, fPow, Few, retP, fAbs, fInt, fMax, fMin, fLen, fSqrt, fEq, fNe, dNot, dAnd, dOr, dAndV, dOrV, dNotV, dIfE, dDrop, dRetN, dPar, noO, dSetL, dLst, dOfL, dOwnM, onOwn, onDat, kAppend, kInsert, dSetItem, dAddItem, dIx, onItems, items, onInt, dNoPart, dPart, dSlice, onL, litems, dSlL, dCat, onM, mitems, dTupOf, dSeqI, dRng1, dRng2, dCallP, dCallB, dCallF, noSelf, onArgs, dats2, dIsi, tyName, dYes, dgTup, dgCons, dgNil, retB, dBreak, dCont, ne_eq, not_false_eq_true, true_and, and_true, List.getElem?_cons_zero, List.getElem?_cons_succ, List.set_cons_zero, List.set_cons_succ, Option.map, List.length_cons, List.length_nil, dLc_eq, dLc2_eq, dFor_eq, dSortSet, dSort, dListOf, dIsN, dNotN, isNo, dAug, dMulA, dgUnl, dCatT, dSlT, onT, titems, dEnum, dZip, dZipM, seqs, dRetL, dPar3, dRevT, dLstRg, dTupRg, dRg1, dRg2, dChainLe, List.nil_append, List.cons_append, if_true, if_false, dFrz, dLcO, dMin2D, dAppX, dParL, dParLL, dRepL, fNeS, fEqS, dgSet, dTupZip, dFgt, fIsB, fNotB, List.map_cons, List.map_nil, fw0, fw1, fw2, fw3, fw4, fw5, fw6, fw7, fw8, fw9, fw10, fw11, fw12, fw13, fw14, fw15]
    rw [hasRows_false fun rs hrs => ?_] at hQ
    · exact hQ
    · obtain ⟨p, hp, _⟩ := q2 rs hrs
      rw [hnil] at hp
      cases hp
set_option maxHeartbeats 4000000 in
theorem ok__law_some {f : Addr} {fd : FuncData} (W : Fun K "_law_some" "_law_some" s__law_some f fd) (T : Bi mg)
    {f__law_take : Addr} {fd__law_take : FuncData} (G__law_take : FnG P w K mg base CX0 1 f__law_take fd__law_take ["_law_bag_here", "_law_many"] (spB K [.d] S__law_take)) (g__law_take : mg "_law_take" = some (.ref f__law_take)) (k__law_take : PySem.W.keepIn K (.ref f__law_take) = true) (b__law_take : Binds K fd__law_take ["_law_bag_here", "_law_many"] []) :
    FnG P w K mg base CX0 2 f fd ["_law_bag_here", "_law_things"] (spB K [.d] S__law_some) := by
  refine fnB W sc__law_some rfl fun cdv A out s H E Nn B hr hgd => ⟨_, _, (dss_one (ds_ret (pd_ix (pdv 1) (pd_callBag G__law_take m__law_take (hr.mono (by decide)) hgd rfl g__law_take k__law_take b__law_take (pda_cons (pdv 0) (pda_cons (pd_callB call_len_seq sc_len rfl T.b_len (by decide +kernel) (pda_cons (pdv 1) pda_nil)) pda_nil))) (fun _ _ => rfl)))), ?_⟩
  exact fun bag xs Q hl hS => rd_some hS
set_option maxHeartbeats 4000000 in
theorem ok__law_shades {f : Addr} {fd : FuncData} (W : Fun K "_law_shades" "_law_shades" s__law_shades f fd) (T : Bi mg)
    {f__law_some : Addr} {fd__law_some : FuncData} (G__law_some : FnG P w K mg base CX0 2 f__law_some fd__law_some ["_law_bag_here", "_law_things"] (spB K [.d] S__law_some)) (g__law_some : mg "_law_some" = some (.ref f__law_some)) (k__law_some : PySem.W.keepIn K (.ref f__law_some) = true) (b__law_some : Binds K fd__law_some ["_law_bag_here", "_law_things"] []) :
    FnG P w K mg base CX0 3 f fd ["_law_bag_here"] (spB K [] S__law_shades) := by
  refine fnB W sc__law_shades rfl fun cdv A out s H E Nn B hr hgd => ⟨_, _, (dss_cons (ds_set (i := 1) sc__law_shades.nd (pd_l (pl_lst (pda_cons pd_str (pda_cons pd_str (pda_cons pd_str (pda_cons pd_str (pda_cons (pd_repS pd_str pd_int) (pda_cons pd_str pda_nil)))))))) (fixB (by decide)))
      (dss_cons (ds_fgt (i := 3) (ds_set (i := 2) sc__law_shades.nd (pd_tupleOf rfl T.b_tuple (pda_cons (pd_l (pl_lc (own := [("_law_turn", 3)]) rfl sc__law_shades.nd (pdi_range1 rfl T.b_range (pda_cons (pd_callBag G__law_some m__law_some (hr.mono (by decide)) hgd rfl g__law_some k__law_some b__law_some (pda_cons (pdv 0) (pda_cons (pd_l (pl_lst (pda_cons pd_int (pda_cons pd_int (pda_cons pd_int (pda_cons pd_int (pda_cons pd_int pda_nil))))))) pda_nil))) pda_nil)) (blkOk_by (own := [("_law_turn", 3)]) (N := nm__law_shades) (sc := defScope s__law_shades) (by decide +kernel)) (fun _ _ _ _ _ => (pgd_name (i := 3) sc__law_shades.nd)) (fun _ _ _ _ _ => dts_nil) (fun _ _ _ _ _ => (pd_callBag G__law_some m__law_some (hr.mono (by decide)) hgd rfl g__law_some k__law_some b__law_some (pda_cons (pdv 0) (pda_cons (pdv 1) pda_nil)))))) pda_nil)) (fixB (by decide))) (fixB (by decide)))
      (dss_one (ds_ret (pd_repT (pdv 2) (pd_callBag G__law_some m__law_some (hr.mono (by decide)) hgd rfl g__law_some k__law_some b__law_some (pda_cons (pdv 0) (pda_cons (pd_l (pl_lst (pda_cons pd_int (pda_cons pd_int (pda_cons pd_int (pda_cons pd_int pda_nil)))))) pda_nil)))))))), ?_⟩
  clear W T hr hgd G__law_some g__law_some k__law_some b__law_some f__law_some fd__law_some
  rintro bag xs Q hl ⟨_, m, hb, hm, rfl, _, hQ⟩
  clear hl
  replace hQ : ∀ z bag', (∃ ss : List Str, z = .tuple (ss.map .str)) → Bag (m + 10) bag' → Q z bag'   := hQ
  have hm : m + 10 < 2 ^ 60 := hm
  have e : (some (.own bag) :: rhoP (nm__law_shades.length - 1) [] [] : Rho) = [some (.own bag), none, none, none] := rfl
  rw [e]
  clear e
  refine seqI fun kk hk => ?_
  simp only [dSeq, dAsg, dCB, dCons, dNil, dVar, onVs, vals, val, slot, setR, fGcd, dIfS, dTV, dOp, dBin, onV2, fLt, fLe, fGt, fGe, fAdd, fSub, fMul, fDiv, fMod, fI0, dC, dUn, onV, fNeg, dNext, dRet, dTup, onD, dats, fDivZ, fI, fPow, Few, retP, fAbs, fInt, fMax, fMin, fLen, fSqrt, fEq, fNe, dNot, dAnd, dOr, dAndV, dOrV, dNotV, dIfE, dDrop, dRetN, dPar, noO, dSetL, dLst, dOfL, dOwnM, onOwn, onDat, kAppend, kInsert, dSetItem, dAddItem, dIx, onItems, items, onInt, dNoPart, dPart, dSlice, onL, litems, dSlL, dCat, onM, mitems, dTupOf, dSeqI, dRng1, dRng2, dCallP, dCallB, dCallF, noSelf, onArgs, dats2, dIsi, tyName, dYes, dgTup, dgCons, dgNil, retB, dBreak, dCont, ne_eq, not_false_eq_true, true_and, and_true, List.getElem?_cons_zero, List.getElem?_cons_succ, List.set_cons_zero, List.set_cons_succ, Option.map, List.length_cons, List.length_nil, dLc_eq, dLc2_eq, dFor_eq, dSortSet, dSort, dListOf, dIsN, dNotN, isNo, dAug, dMulA, dgUnl, dCatT, dSlT, onT, titems, dEnum, dZip, dZipM, seqs, dRetL, dPar3, dRevT, dLstRg, dTupRg, dRg1, dRg2, dChainLe, List.nil_append, List.cons_append, if_true, if_false, dFrz, dLcO, dMin2D, dAppX, dParL, dParLL, dRepL, fNeS, fEqS, dgSet, dTupZip, dFgt, fIsB, fNotB, List.map_cons, List.map_nil, fw0, fw1, fw2, fw3, fw4, fw5, fw6, fw7, fw8, fw9, fw10, fw11, fw12, fw13, fw14, fw15, fRepS]
  refine ⟨mul_n, ?_⟩
  generalize hnn : Txt.mul (Str.ofString "n") 12 = nn
  clear hnn
  rw [hk]
  clear hk
  refine seqI fun kk hk => ?_
  simp only [dSeq, dAsg, dCB, dCons, dNil, dVar, onVs, vals, val, slot, setR, fGcd, dIfS, dTV, dOp, dBin, onV2, fLt, fLe, fGt, fGe, fAdd, fSub, fMul, fDiv, fMod, fI0, dC, dUn, onV, fNeg, dNext, dRet, dTup, onD, dats, fDivZ, fI, fPow, Few, retP, fAbs, fInt, fMax, fMin, fLen, fSqrt, fEq, fNe, dNot, dAnd, dOr, dAndV, dOrV, dNotV, dIfE, dDrop, dRetN, dPar, noO, dSetL, dLst, dOfL, dOwnM, onOwn, onDat, kAppend, kInsert, dSetItem, dAddItem, dIx, onItems, items, onInt, dNoPart, dPart, dSlice, onL, litems, dSlL, dCat, onM, mitems, dTupOf, dSeqI, dRng1, dRng2, dCallP, dCallB, dCallF, noSelf, onArgs, dats2, dIsi, tyName, dYes, dgTup, dgCons, dgNil, retB, dBreak, dCont, ne_eq, not_false_eq_true, true_and, and_true, List.getElem?_cons_zero, List.getElem?_cons_succ, List.set_cons_zero, List.set_cons_succ, Option.map, List.length_cons, List.length_nil, dLc_eq, dLc2_eq, dFor_eq, dSortSet, dSort, dListOf, dIsN, dNotN, isNo, dAug, dMulA, dgUnl, dCatT, dSlT, onT, titems, dEnum, dZip, dZipM, seqs, dRetL, dPar3, dRevT, dLstRg, dTupRg, dRg1, dRg2, dChainLe, List.nil_append, List.cons_append, if_true, if_false, dFrz, dLcO, dMin2D, dAppX, dParL, dParLL, dRepL, fNeS, fEqS, dgSet, dTupZip, dFgt, fIsB, fNotB, List.map_cons, List.map_nil, fw0, fw1, fw2, fw3, fw4, fw5, fw6, fw7, fw8, fw9, fw10, fw11, fw12, fw13, fw14, fw15]
  refine u_some hb (by omega) (by decide) (by decide) fun y hy bag1 hb1 => ?_
  obtain ⟨c, rfl, c0, c1⟩ := of_all (lo := 1) (hi := 4) (by decide) y hy
  simp only [dSeq, dAsg, dCB, dCons, dNil, dVar, onVs, vals, val, slot, setR, fGcd, dIfS, dTV, dOp, dBin, onV2, fLt, fLe, fGt, fGe, fAdd, fSub, fMul, fDiv, fMod, fI0, dC, dUn, onV, fNeg, dNext, dRet, dTup, onD, dats, fDivZ, fI, fPow, Few, retP, fAbs, fInt, fMax, fMin, fLen, fSqrt, fEq, fNe, dNot, dAnd, dOr, dAndV, dOrV, dNotV, dIfE, dDrop, dRetN, dPar, noO, dSetL, dLst, dOfL, dOwnM, onOwn, onDat, kAppend, kInsert, dSetItem, dAddItem, dIx, onItems, items, onInt, dNoPart, dPart, dSlice, onL, litems, dSlL, dCat, onM, mitems, dTupOf, dSeqI, dRng1, dRng2, dCallP, dCallB, dCallF, noSelf, onArgs, dats2, dIsi, tyName, dYes, dgTup, dgCons, dgNil, retB, dBreak, dCont, ne_eq, not_false_eq_true, true_and, and_true, List.getElem?_cons_zero, List.getElem?_cons_succ, List.set_cons_zero, List.set_cons_succ, Option.map, List.length_cons, List.length_nil, dLc_eq, dLc2_eq, dFor_eq, dSortSet, dSort, dListOf, dIsN, dNotN, isNo, dAug, dMulA, dgUnl, dCatT, dSlT, onT, titems, dEnum, dZip, dZipM, seqs, dRetL, dPar3, dRevT, dLstRg, dTupRg, dRg1, dRg2, dChainLe, List.nil_append, List.cons_append, if_true, if_false, dFrz, dLcO, dMin2D, dAppX, dParL, dParLL, dRepL, fNeS, fEqS, dgSet, dTupZip, dFgt, fIsB, fNotB, List.map_cons, List.map_nil, fw0, fw1, fw2, fw3, fw4, fw5, fw6, fw7, fw8, fw9, fw10, fw11, fw12, fw13, fw14, fw15]
  refine ⟨⟨by omega, by omega⟩, ?_⟩
  have rl : (rng 0 c.toNat).length = c.toNat := rng_len
  refine lc_draw (n := 1) (rng 0 c.toNat) (fun b => [some (.own b), some (.d (.list [.str (Str.ofString "red"), .str (Str.ofString "blue"), .str (Str.ofString "dark"), .str (Str.ofString "gold"), .str nn, .str (Str.ofString "w")])), none, none]) (fun y => ∃ s : Str, y = .str s) bag1 (m + 1) hb1 rfl (fun _ => hv1 rfl) (by omega) (fun i x hx m' bag2 h1 h2 hb2 C1 C2 k fk hc => ?_) fun zs bag2 hzl hzs hb2 => ?_
  · simp only [dSeq, dAsg, dCB, dCons, dNil, dVar, onVs, vals, val, slot, setR, fGcd, dIfS, dTV, dOp, dBin, onV2, fLt, fLe, fGt, fGe, fAdd, fSub, fMul, fDiv, fMod, fI0, dC, dUn, onV, fNeg, dNext, dRet, dTup, onD, dats, fDivZ, fI, fPow, Few, retP, fAbs, fInt, fMax, fMin, fLen, fSqrt, fEq, fNe, dNot, dAnd, dOr, dAndV, dOrV, dNotV, dIfE, dDrop, dRetN, dPar, noO, dSetL, dLst, dOfL, dOwnM, onOwn, onDat, kAppend, kInsert, dSetItem, dAddItem, dIx, onItems, items, onInt, dNoPart, dPart, dSlice, onL, litems, dSlL, dCat, onM, mitems, dTupOf, dSeqI, dRng1, dRng2, dCallP, dCallB, dCallF, noSelf, onArgs, dats2, dIsi, tyName, dYes, dgTup, dgCons, dgNil, retB, dBreak, dCont, ne_eq, not_false_eq_true, true_and, and_true, List.getElem?_cons_zero, List.getElem?_cons_succ, List.set_cons_zero, List.set_cons_succ, Option.map, List.length_cons, List.length_nil, dLc_eq, dLc2_eq, dFor_eq, dSortSet, dSort, dListOf, dIsN, dNotN, isNo, dAug, dMulA, dgUnl, dCatT, dSlT, onT, titems, dEnum, dZip, dZipM, seqs, dRetL, dPar3, dRevT, dLstRg, dTupRg, dRg1, dRg2, dChainLe, List.nil_append, List.cons_append, if_true, if_false, dFrz, dLcO, dMin2D, dAppX, dParL, dParLL, dRepL, fNeS, fEqS, dgSet, dTupZip, dFgt, fIsB, fNotB, List.map_cons, List.map_nil, fw0, fw1, fw2, fw3, fw4, fw5, fw6, fw7, fw8, fw9, fw10, fw11, fw12, fw13, fw14, fw15]
    refine u_some hb2 (by omega) (by simp) (by simp) fun y hy bag3 hb3 => ?_
    have : ∃ s : Str, y = .str s := by
      simp only [List.mem_cons, List.not_mem_nil, or_false] at hy
      rcases hy with rfl | rfl | rfl | rfl | rfl | rfl <;> exact ⟨_, rfl⟩
    try simp only [dSeq, dAsg, dCB, dCons, dNil, dVar, onVs, vals, val, slot, setR, fGcd, dIfS, dTV, dOp, dBin, onV2, fLt, fLe, fGt, fGe, fAdd, fSub, fMul, fDiv, fMod, fI0, dC, dUn, onV, fNeg, dNext, dRet, dTup, onD, dats, fDivZ, fI, fPow, Few, retP, fAbs, fInt, fMax, fMin, fLen, fSqrt, fEq, fNe, dNot, dAnd, dOr, dAndV, dOrV, dNotV, dIfE, dDrop, dRetN, dPar, noO, dSetL, dLst, dOfL, dOwnM, onOwn, onDat, kAppend, kInsert, dSetItem, dAddItem, dIx, onItems, items, onInt, dNoPart, dPart, dSlice, onL, litems, dSlL, dCat, onM, mitems, dTupOf, dSeqI, dRng1, dRng2, dCallP, dCallB, dCallF, noSelf, onArgs, dats2, dIsi, tyName, dYes, dgTup, dgCons, dgNil, retB, dBreak, dCont, ne_eq, not_false_eq_true, true_and, and_true, List.getElem?_cons_zero, List.getElem?_cons_succ, List.set_cons_zero, List.set_cons_succ, Option.map, List.length_cons, List.length_nil, dLc_eq, dLc2_eq, dFor_eq, dSortSet, dSort, dListOf, dIsN, dNotN, isNo, dAug, dMulA, dgUnl, dCatT, dSlT, onT, titems, dEnum, dZip, dZipM, seqs, dRetL, dPar3, dRevT, dLstRg, dTupRg, dRg1, dRg2, dChainLe, List.nil_append, List.cons_append, if_true, if_false, dFrz, dLcO, dMin2D, dAppX, dParL, dParLL, dRepL, fNeS, fEqS, dgSet, dTupZip, dFgt, fIsB, fNotB, List.map_cons, List.map_nil, fw0, fw1, fw2, fw3, fw4, fw5, fw6, fw7, fw8, fw9, fw10, fw11, fw12, fw13, fw14, fw15, wipeR]
    exact ⟨fk, hc _ _ this hb3⟩
  · obtain ⟨ss, rfl, _⟩ := as_enc PyData.str (fun _ _ => True) zs fun i z hz => by
      obtain ⟨s, e⟩ := hzs z (List.mem_of_getElem? hz)
      exact ⟨s, e, trivial⟩
    rw [List.length_map] at hzl
    rw [hk]
    clear hk
    simp only [dSeq, dAsg, dCB, dCons, dNil, dVar, onVs, vals, val, slot, setR, fGcd, dIfS, dTV, dOp, dBin, onV2, fLt, fLe, fGt, fGe, fAdd, fSub, fMul, fDiv, fMod, fI0, dC, dUn, onV, fNeg, dNext, dRet, dTup, onD, dats, fDivZ, fI, fPow, Few, retP, fAbs, fInt, fMax, fMin, fLen, fSqrt, fEq, fNe, dNot, dAnd, dOr, dAndV, dOrV, dNotV, dIfE, dDrop, dRetN, dPar, noO, dSetL, dLst, dOfL, dOwnM, onOwn, onDat, kAppend, kInsert, dSetItem, dAddItem, dIx, onItems, items, onInt, dNoPart, dPart, dSlice, onL, litems, dSlL, dCat, onM, mitems, dTupOf, dSeqI, dRng1, dRng2, dCallP, dCallB, dCallF, noSelf, onArgs, dats2, dIsi, tyName, dYes, dgTup, dgCons, dgNil, retB, dBreak, dCont, ne_eq, not_false_eq_true, true_and, and_true, List.getElem?_cons_zero, List.getElem?_cons_succ, List.set_cons_zero, List.set_cons_succ, Option.map, List.length_cons, List.length_nil, dLc_eq, dLc2_eq, dFor_eq, dSortSet, dSort, dListOf, dIsN, dNotN, isNo, dAug, dMulA, dgUnl, dCatT, dSlT, onT, titems, dEnum, dZip, dZipM, seqs, dRetL, dPar3, dRevT, dLstRg, dTupRg, dRg1, dRg2, dChainLe, List.nil_append, List.cons_append, if_true, if_false, dFrz, dLcO, dMin2D, dAppX, dParL, dParLL, dRepL, fNeS, fEqS, dgSet, dTupZip, dFgt, fIsB, fNotB, List.map_cons, List.map_nil, fw0, fw1, fw2, fw3, fw4, fw5, fw6, fw7, fw8, fw9, fw10, fw11, fw12, fw13, fw14, fw15, wipeR, dRepT]
    refine u_some hb2 (by omega) (by decide) (by decide) fun y hy bag3 hb3 => ?_
    obtain ⟨d, rfl, d0, d1⟩ := of_all (lo := 1) (hi := 3) (by decide) y hy
    simp only [dSeq, dAsg, dCB, dCons, dNil, dVar, onVs, vals, val, slot, setR, fGcd, dIfS, dTV, dOp, dBin, onV2, fLt, fLe, fGt, fGe, fAdd, fSub, fMul, fDiv, fMod, fI0, dC, dUn, onV, fNeg, dNext, dRet, dTup, onD, dats, fDivZ, fI, fPow, Few, retP, fAbs, fInt, fMax, fMin, fLen, fSqrt, fEq, fNe, dNot, dAnd, dOr, dAndV, dOrV, dNotV, dIfE, dDrop, dRetN, dPar, noO, dSetL, dLst, dOfL, dOwnM, onOwn, onDat, kAppend, kInsert, dSetItem, dAddItem, dIx, onItems, items, onInt, dNoPart, dPart, dSlice, onL, litems, dSlL, dCat, onM, mitems, dTupOf, dSeqI, dRng1, dRng2, dCallP, dCallB, dCallF, noSelf, onArgs, dats2, dIsi, tyName, dYes, dgTup, dgCons, dgNil, retB, dBreak, dCont, ne_eq, not_false_eq_true, true_and, and_true, List.getElem?_cons_zero, List.getElem?_cons_succ, List.set_cons_zero, List.set_cons_succ, Option.map, List.length_cons, List.length_nil, dLc_eq, dLc2_eq, dFor_eq, dSortSet, dSort, dListOf, dIsN, dNotN, isNo, dAug, dMulA, dgUnl, dCatT, dSlT, onT, titems, dEnum, dZip, dZipM, seqs, dRetL, dPar3, dRevT, dLstRg, dTupRg, dRg1, dRg2, dChainLe, List.nil_append, List.cons_append, if_true, if_false, dFrz, dLcO, dMin2D, dAppX, dParL, dParLL, dRepL, fNeS, fEqS, dgSet, dTupZip, dFgt, fIsB, fNotB, List.map_cons, List.map_nil, fw0, fw1, fw2, fw3, fw4, fw5, fw6, fw7, fw8, fw9, fw10, fw11, fw12, fw13, fw14, fw15]
    refine ⟨⟨fun e => ?_, by omega, by omega, by rw [List.length_map]; omega⟩, hQ _ _ ⟨(List.replicate d.toNat ss).flatten, ?_⟩ (hb3.up (by omega))⟩
    · have := List.map_eq_nil_iff.mp e
      rw [this] at hzl
      simp at hzl
      omega
    · unfold repD
      rw [List.map_flatten, List.map_replicate]
set_option maxHeartbeats 4000000 in
theorem ok__law_close_picture {f : Addr} {fd : FuncData} (W : Fun K "_law_close_picture" "_law_close_picture" s__law_close_picture f fd) (T : Bi mg)
    {f__law_some : Addr} {fd__law_some : FuncData} (G__law_some : FnG P w K mg base CX0 2 f__law_some fd__law_some ["_law_bag_here", "_law_things"] (spB K [.d] S__law_some)) (g__law_some : mg "_law_some" = some (.ref f__law_some)) (k__law_some : PySem.W.keepIn K (.ref f__law_some) = true) (b__law_some : Binds K fd__law_some ["_law_bag_here", "_law_things"] [])
    {f__law_take : Addr} {fd__law_take : FuncData} (G__law_take : FnG P w K mg base CX0 1 f__law_take fd__law_take ["_law_bag_here", "_law_many"] (spB K [.d] S__law_take)) (g__law_take : mg "_law_take" = some (.ref f__law_take)) (k__law_take : PySem.W.keepIn K (.ref f__law_take) = true) (b__law_take : Binds K fd__law_take ["_law_bag_here", "_law_many"] [])
    {f__law_shades : Addr} {fd__law_shades : FuncData} (G__law_shades : FnG P w K mg base CX0 3 f__law_shades fd__law_shades ["_law_bag_here"] (spB K [] S__law_shades)) (g__law_shades : mg "_law_shades" = some (.ref f__law_shades)) (k__law_shades : PySem.W.keepIn K (.ref f__law_shades) = true) (b__law_shades : Binds K fd__law_shades ["_law_bag_here"] [])
    {f__law_shape : Addr} {fd__law_shape : FuncData} (G__law_shape : FnG P w K mg base CX0 1 f__law_shape fd__law_shape ["_law_points"] (spP K [.d] S__law_shape)) (g__law_shape : mg "_law_shape" = some (.ref f__law_shape)) (k__law_shape : PySem.W.keepIn K (.ref f__law_shape) = true) (b__law_shape : Binds K fd__law_shape ["_law_points"] []) :
    FnG P w K mg base CX0 4 f fd ["_law_bag_here"] (spB K [] S__law_close_picture) := by
  refine fnB W sc__law_close_picture rfl fun cdv A out s H E Nn B hr hgd => ⟨_, _, (dss_cons (ds_set (i := 1) sc__law_close_picture.nd (pd_callBag G__law_some m__law_some (hr.mono (by decide)) hgd rfl g__law_some k__law_some b__law_some (pda_cons (pdv 0) (pda_cons (pd_l (pl_lst (pda_cons pd_int (pda_cons pd_int (pda_cons pd_int (pda_cons pd_int pda_nil)))))) pda_nil))) (fixB (by decide)))
      (dss_cons (ds_fgt (i := 3) (ds_setLc (i := 2) (own := [("_law_turn", 3)]) rfl sc__law_close_picture.nd (pdi_range1 rfl T.b_range (pda_cons (pd_callBag G__law_some m__law_some (hr.mono (by decide)) hgd rfl g__law_some k__law_some b__law_some (pda_cons (pdv 0) (pda_cons (pd_l (pl_lst (pda_cons pd_int (pda_cons pd_int (pda_cons pd_int (pda_cons pd_int (pda_cons pd_int pda_nil))))))) pda_nil))) pda_nil)) (blkOk_by (own := [("_law_turn", 3)]) (N := nm__law_close_picture) (sc := defScope s__law_close_picture) (by decide +kernel)) (fun _ _ _ _ _ => (pgd_name (i := 3) sc__law_close_picture.nd)) (fun _ _ _ _ _ => dts_nil) (fun _ _ _ _ _ => (pd_tup (pda_cons (pd_callBag G__law_take m__law_take (hr.mono (by decide)) hgd rfl g__law_take k__law_take b__law_take (pda_cons (pdv 0) (pda_cons (pdv 1) pda_nil))) (pda_cons (pd_callBag G__law_take m__law_take (hr.mono (by decide)) hgd rfl g__law_take k__law_take b__law_take (pda_cons (pdv 0) (pda_cons pd_int pda_nil))) pda_nil)))) (fixB (by decide))) (fixB (by decide)))
      (dss_cons (ds_fgt (i := 6) (ds_fgt (i := 5) (ds_setLc (i := 4) (own := [("_law_x", 5), ("_law_z", 6)]) rfl sc__law_close_picture.nd (pdi_seq (pd_callP G__law_shape m__law_shape (hr.mono (by decide)) hgd rfl g__law_shape k__law_shape b__law_shape (pda_cons (pdv 2) pda_nil))) (blkOk_by (own := [("_law_x", 5), ("_law_z", 6)]) (N := nm__law_close_picture) (sc := defScope s__law_close_picture) (by decide +kernel)) (fun _ _ _ _ _ => (pgd_tup (n := 2) rfl (pgds_cons (pgd_name (i := 5) sc__law_close_picture.nd) (pgds_cons (pgd_name (i := 6) sc__law_close_picture.nd) pgds_nil)))) (fun _ _ _ _ _ => dts_nil) (fun _ _ _ _ _ => (pd_tup (pda_cons (pd_sub (pdv 5) (pd_div (pdv 1) pd_int)) (pda_cons (pdv 6) (pda_cons (pd_callBag G__law_shades m__law_shades (hr.mono (by decide)) hgd rfl g__law_shades k__law_shades b__law_shades (pda_cons (pdv 0) pda_nil)) (pda_cons (pd_callBag G__law_some m__law_some (hr.mono (by decide)) hgd rfl g__law_some k__law_some b__law_some (pda_cons (pdv 0) (pda_cons (pd_l (pl_lst (pda_cons pd_int (pda_cons pd_int (pda_cons pd_int (pda_cons pd_int (pda_cons pd_int pda_nil))))))) pda_nil))) pda_nil)))))) (fixB (by decide))) (fixB (by decide))) (fixB (by decide)))
      (dss_one (ds_ret (pd_tupleOf rfl T.b_tuple (pda_cons (pdv 4) pda_nil))))))), ?_⟩
  clear W T hr hgd G__law_some g__law_some k__law_some b__law_some f__law_some fd__law_some G__law_take g__law_take k__law_take b__law_take f__law_take fd__law_take G__law_shades g__law_shades k__law_shades b__law_shades f__law_shades fd__law_shades G__law_shape g__law_shape k__law_shape b__law_shape f__law_shape fd__law_shape
  rintro bag xs Q hl ⟨_, m, hb, hm, rfl, _, hQ⟩
  clear hl
  replace hQ : ∀ z bag', (∃ ls : List Lmp, z = eP ls ∧ ls.length ≤ 14 ∧ UpL (lxs ls) ∧ ∀ l ∈ ls, -20 ≤ l.x ∧ l.x ≤ 40) → Bag (m + 200) bag' → Q z bag'   := hQ
  have hm : m + 200 < 2 ^ 60 := hm
  have e : (some (.own bag) :: rhoP (nm__law_close_picture.length - 1) [] [] : Rho) = [some (.own bag), none, none, none, none, none, none] := rfl
  rw [e]
  clear e
  refine seqI fun kk hk => ?_
  simp only [dSeq, dAsg, dCB, dCons, dNil, dVar, onVs, vals, val, slot, setR, fGcd, dIfS, dTV, dOp, dBin, onV2, fLt, fLe, fGt, fGe, fAdd, fSub, fMul, fDiv, fMod, fI0, dC, dUn, onV, fNeg, dNext, dRet, dTup, onD, dats, fDivZ, fI, fPow, Few, retP, fAbs, fInt, fMax, fMin, fLen, fSqrt, fEq, fNe, dNot, dAnd, dOr, dAndV, dOrV, dNotV, dIfE, dDrop, dRetN, dPar, noO, dSetL, dLst, dOfL, dOwnM, onOwn, onDat, kAppend, kInsert, dSetItem, dAddItem, dIx, onItems, items, onInt, dNoPart, dPart, dSlice, onL, litems, dSlL, dCat, onM, mitems, dTupOf, dSeqI, dRng1, dRng2, dCallP, dCallB, dCallF, noSelf, onArgs, dats2, dIsi, tyName, dYes, dgTup, dgCons, dgNil, retB, dBreak, dCont, ne_eq, not_false_eq_true, true_and, and_true, List.getElem?_cons_zero, List.getElem?_cons_succ, List.set_cons_zero, List.set_cons_succ, Option.map, List.length_cons, List.length_nil, dLc_eq, dLc2_eq, dFor_eq, dSortSet, dSort, dListOf, dIsN, dNotN, isNo, dAug, dMulA, dgUnl, dCatT, dSlT, onT, titems, dEnum, dZip, dZipM, seqs, dRetL, dPar3, dRevT, dLstRg, dTupRg, dRg1, dRg2, dChainLe, List.nil_append, List.cons_append, if_true, if_false, dFrz, dLcO, dMin2D, dAppX, dParL, dParLL, dRepL, fNeS, fEqS, dgSet, dTupZip, dFgt, fIsB, fNotB, List.map_cons, List.map_nil, fw0, fw1, fw2, fw3, fw4, fw5, fw6, fw7, fw8, fw9, fw10, fw11, fw12, fw13, fw14, fw15]
  refine u_some hb (by omega) (by decide) (by decide) fun y hy bag1 hb1 => ?_
  obtain ⟨wd, rfl, wd0, wd1⟩ := of_all (lo := 3) (hi := 40) (by decide) y hy
  rw [hk]
  clear hk
  refine seqI fun kk hk => ?_
  simp only [dSeq, dAsg, dCB, dCons, dNil, dVar, onVs, vals, val, slot, setR, fGcd, dIfS, dTV, dOp, dBin, onV2, fLt, fLe, fGt, fGe, fAdd, fSub, fMul, fDiv, fMod, fI0, dC, dUn, onV, fNeg, dNext, dRet, dTup, onD, dats, fDivZ, fI, fPow, Few, retP, fAbs, fInt, fMax, fMin, fLen, fSqrt, fEq, fNe, dNot, dAnd, dOr, dAndV, dOrV, dNotV, dIfE, dDrop, dRetN, dPar, noO, dSetL, dLst, dOfL, dOwnM, onOwn, onDat, kAppend, kInsert, dSetItem, dAddItem, dIx, onItems, items, onInt, dNoPart, dPart, dSlice, onL, litems, dSlL, dCat, onM, mitems, dTupOf, dSeqI, dRng1, dRng2, dCallP, dCallB, dCallF, noSelf, onArgs, dats2, dIsi, tyName, dYes, dgTup, dgCons, dgNil, retB, dBreak, dCont, ne_eq, not_false_eq_true, true_and, and_true, List.getElem?_cons_zero, List.getElem?_cons_succ, List.set_cons_zero, List.set_cons_succ, Option.map, List.length_cons, List.length_nil, dLc_eq, dLc2_eq, dFor_eq, dSortSet, dSort, dListOf, dIsN, dNotN, isNo, dAug, dMulA, dgUnl, dCatT, dSlT, onT, titems, dEnum, dZip, dZipM, seqs, dRetL, dPar3, dRevT, dLstRg, dTupRg, dRg1, dRg2, dChainLe, List.nil_append, List.cons_append, if_true, if_false, dFrz, dLcO, dMin2D, dAppX, dParL, dParLL, dRepL, fNeS, fEqS, dgSet, dTupZip, dFgt, fIsB, fNotB, List.map_cons, List.map_nil, fw0, fw1, fw2, fw3, fw4, fw5, fw6, fw7, fw8, fw9, fw10, fw11, fw12, fw13, fw14, fw15]
  refine u_some hb1 (by omega) (by decide) (by decide) fun y hy bag2 hb2 => ?_
  obtain ⟨c, rfl, c0, c1⟩ := of_all (lo := 0) (hi := 14) (by decide) y hy
  simp only [dSeq, dAsg, dCB, dCons, dNil, dVar, onVs, vals, val, slot, setR, fGcd, dIfS, dTV, dOp, dBin, onV2, fLt, fLe, fGt, fGe, fAdd, fSub, fMul, fDiv, fMod, fI0, dC, dUn, onV, fNeg, dNext, dRet, dTup, onD, dats, fDivZ, fI, fPow, Few, retP, fAbs, fInt, fMax, fMin, fLen, fSqrt, fEq, fNe, dNot, dAnd, dOr, dAndV, dOrV, dNotV, dIfE, dDrop, dRetN, dPar, noO, dSetL, dLst, dOfL, dOwnM, onOwn, onDat, kAppend, kInsert, dSetItem, dAddItem, dIx, onItems, items, onInt, dNoPart, dPart, dSlice, onL, litems, dSlL, dCat, onM, mitems, dTupOf, dSeqI, dRng1, dRng2, dCallP, dCallB, dCallF, noSelf, onArgs, dats2, dIsi, tyName, dYes, dgTup, dgCons, dgNil, retB, dBreak, dCont, ne_eq, not_false_eq_true, true_and, and_true, List.getElem?_cons_zero, List.getElem?_cons_succ, List.set_cons_zero, List.set_cons_succ, Option.map, List.length_cons, List.length_nil, dLc_eq, dLc2_eq, dFor_eq, dSortSet, dSort, dListOf, dIsN, dNotN, isNo, dAug, dMulA, dgUnl, dCatT, dSlT, onT, titems, dEnum, dZip, dZipM, seqs, dRetL, dPar3, dRevT, dLstRg, dTupRg, dRg1, dRg2, dChainLe, List.nil_append, List.cons_append, if_true, if_false, dFrz, dLcO, dMin2D, dAppX, dParL, dParLL, dRepL, fNeS, fEqS, dgSet, dTupZip, dFgt, fIsB, fNotB, List.map_cons, List.map_nil, fw0, fw1, fw2, fw3, fw4, fw5, fw6, fw7, fw8, fw9, fw10, fw11, fw12, fw13, fw14, fw15]
  refine ⟨⟨by omega, by omega⟩, ?_⟩
  have rl : (rng 0 c.toNat).length = c.toNat := rng_len
  refine lc_draw (n := 2) (rng 0 c.toNat) (fun b => [some (.own b), some (.d (.int wd)), none, none, none, none, none]) (fun y => ∃ p : Pr, y = encP p ∧ 0 ≤ p.1 ∧ p.1 < wd) bag2 (m + 1 + 1) hb2 rfl (fun _ => hv1 rfl) (by omega) (fun i x hx m' bag2 h1 h2 hb2 C1 C2 k fk hc => ?_) fun zs bag3 hzl hzs hb3 => ?_
  · simp only [dSeq, dAsg, dCB, dCons, dNil, dVar, onVs, vals, val, slot, setR, fGcd, dIfS, dTV, dOp, dBin, onV2, fLt, fLe, fGt, fGe, fAdd, fSub, fMul, fDiv, fMod, fI0, dC, dUn, onV, fNeg, dNext, dRet, dTup, onD, dats, fDivZ, fI, fPow, Few, retP, fAbs, fInt, fMax, fMin, fLen, fSqrt, fEq, fNe, dNot, dAnd, dOr, dAndV, dOrV, dNotV, dIfE, dDrop, dRetN, dPar, noO, dSetL, dLst, dOfL, dOwnM, onOwn, onDat, kAppend, kInsert, dSetItem, dAddItem, dIx, onItems, items, onInt, dNoPart, dPart, dSlice, onL, litems, dSlL, dCat, onM, mitems, dTupOf, dSeqI, dRng1, dRng2, dCallP, dCallB, dCallF, noSelf, onArgs, dats2, dIsi, tyName, dYes, dgTup, dgCons, dgNil, retB, dBreak, dCont, ne_eq, not_false_eq_true, true_and, and_true, List.getElem?_cons_zero, List.getElem?_cons_succ, List.set_cons_zero, List.set_cons_succ, Option.map, List.length_cons, List.length_nil, dLc_eq, dLc2_eq, dFor_eq, dSortSet, dSort, dListOf, dIsN, dNotN, isNo, dAug, dMulA, dgUnl, dCatT, dSlT, onT, titems, dEnum, dZip, dZipM, seqs, dRetL, dPar3, dRevT, dLstRg, dTupRg, dRg1, dRg2, dChainLe, List.nil_append, List.cons_append, if_true, if_false, dFrz, dLcO, dMin2D, dAppX, dParL, dParLL, dRepL, fNeS, fEqS, dgSet, dTupZip, dFgt, fIsB, fNotB, List.map_cons, List.map_nil, fw0, fw1, fw2, fw3, fw4, fw5, fw6, fw7, fw8, fw9, fw10, fw11, fw12, fw13, fw14, fw15]
    refine u_take hb2 (by omega) (by omega) (by omega) fun v bag3 v0 v1 hb3 => ?_
    try simp only [dSeq, dAsg, dCB, dCons, dNil, dVar, onVs, vals, val, slot, setR, fGcd, dIfS, dTV, dOp, dBin, onV2, fLt, fLe, fGt, fGe, fAdd, fSub, fMul, fDiv, fMod, fI0, dC, dUn, onV, fNeg, dNext, dRet, dTup, onD, dats, fDivZ, fI, fPow, Few, retP, fAbs, fInt, fMax, fMin, fLen, fSqrt, fEq, fNe, dNot, dAnd, dOr, dAndV, dOrV, dNotV, dIfE, dDrop, dRetN, dPar, noO, dSetL, dLst, dOfL, dOwnM, onOwn, onDat, kAppend, kInsert, dSetItem, dAddItem, dIx, onItems, items, onInt, dNoPart, dPart, dSlice, onL, litems, dSlL, dCat, onM, mitems, dTupOf, dSeqI, dRng1, dRng2, dCallP, dCallB, dCallF, noSelf, onArgs, dats2, dIsi, tyName, dYes, dgTup, dgCons, dgNil, retB, dBreak, dCont, ne_eq, not_false_eq_true, true_and, and_true, List.getElem?_cons_zero, List.getElem?_cons_succ, List.set_cons_zero, List.set_cons_succ, Option.map, List.length_cons, List.length_nil, dLc_eq, dLc2_eq, dFor_eq, dSortSet, dSort, dListOf, dIsN, dNotN, isNo, dAug, dMulA, dgUnl, dCatT, dSlT, onT, titems, dEnum, dZip, dZipM, seqs, dRetL, dPar3, dRevT, dLstRg, dTupRg, dRg1, dRg2, dChainLe, List.nil_append, List.cons_append, if_true, if_false, dFrz, dLcO, dMin2D, dAppX, dParL, dParLL, dRepL, fNeS, fEqS, dgSet, dTupZip, dFgt, fIsB, fNotB, List.map_cons, List.map_nil, fw0, fw1, fw2, fw3, fw4, fw5, fw6, fw7, fw8, fw9, fw10, fw11, fw12, fw13, fw14, fw15]
    refine u_take hb3 (by omega) (by omega) (by omega) fun u bag4 u0 u1 hb4 => ?_
    try simp only [dSeq, dAsg, dCB, dCons, dNil, dVar, onVs, vals, val, slot, setR, fGcd, dIfS, dTV, dOp, dBin, onV2, fLt, fLe, fGt, fGe, fAdd, fSub, fMul, fDiv, fMod, fI0, dC, dUn, onV, fNeg, dNext, dRet, dTup, onD, dats, fDivZ, fI, fPow, Few, retP, fAbs, fInt, fMax, fMin, fLen, fSqrt, fEq, fNe, dNot, dAnd, dOr, dAndV, dOrV, dNotV, dIfE, dDrop, dRetN, dPar, noO, dSetL, dLst, dOfL, dOwnM, onOwn, onDat, kAppend, kInsert, dSetItem, dAddItem, dIx, onItems, items, onInt, dNoPart, dPart, dSlice, onL, litems, dSlL, dCat, onM, mitems, dTupOf, dSeqI, dRng1, dRng2, dCallP, dCallB, dCallF, noSelf, onArgs, dats2, dIsi, tyName, dYes, dgTup, dgCons, dgNil, retB, dBreak, dCont, ne_eq, not_false_eq_true, true_and, and_true, List.getElem?_cons_zero, List.getElem?_cons_succ, List.set_cons_zero, List.set_cons_succ, Option.map, List.length_cons, List.length_nil, dLc_eq, dLc2_eq, dFor_eq, dSortSet, dSort, dListOf, dIsN, dNotN, isNo, dAug, dMulA, dgUnl, dCatT, dSlT, onT, titems, dEnum, dZip, dZipM, seqs, dRetL, dPar3, dRevT, dLstRg, dTupRg, dRg1, dRg2, dChainLe, List.nil_append, List.cons_append, if_true, if_false, dFrz, dLcO, dMin2D, dAppX, dParL, dParLL, dRepL, fNeS, fEqS, dgSet, dTupZip, dFgt, fIsB, fNotB, List.map_cons, List.map_nil, fw0, fw1, fw2, fw3, fw4, fw5, fw6, fw7, fw8, fw9, fw10, fw11, fw12, fw13, fw14, fw15, wipeR]
    exact ⟨fk, hc _ _ ⟨(v, u), rfl, v0, v1⟩ hb4⟩
  · obtain ⟨ps, rfl, hps⟩ := as_enc encP (fun _ p => 0 ≤ p.1 ∧ p.1 < wd) zs fun i z hz => hzs z (List.mem_of_getElem? hz)
    rw [List.length_map] at hzl
    rw [hk]
    clear hk
    refine seqI fun kk hk => ?_
    simp only [dSeq, dAsg, dCB, dCons, dNil, dVar, onVs, vals, val, slot, setR, fGcd, dIfS, dTV, dOp, dBin, onV2, fLt, fLe, fGt, fGe, fAdd, fSub, fMul, fDiv, fMod, fI0, dC, dUn, onV, fNeg, dNext, dRet, dTup, onD, dats, fDivZ, fI, fPow, Few, retP, fAbs, fInt, fMax, fMin, fLen, fSqrt, fEq, fNe, dNot, dAnd, dOr, dAndV, dOrV, dNotV, dIfE, dDrop, dRetN, dPar, noO, dSetL, dLst, dOfL, dOwnM, onOwn, onDat, kAppend, kInsert, dSetItem, dAddItem, dIx, onItems, items, onInt, dNoPart, dPart, dSlice, onL, litems, dSlL, dCat, onM, mitems, dTupOf, dSeqI, dRng1, dRng2, dCallP, dCallB, dCallF, noSelf, onArgs, dats2, dIsi, tyName, dYes, dgTup, dgCons, dgNil, retB, dBreak, dCont, ne_eq, not_false_eq_true, true_and, and_true, List.getElem?_cons_zero, List.getElem?_cons_succ, List.set_cons_zero, List.set_cons_succ, Option.map, List.length_cons, List.length_nil, dLc_eq, dLc2_eq, dFor_eq, dSortSet, dSort, dListOf, dIsN, dNotN, isNo, dAug, dMulA, dgUnl, dCatT, dSlT, onT, titems, dEnum, dZip, dZipM, seqs, dRetL, dPar3, dRevT, dLstRg, dTupRg, dRg1, dRg2, dChainLe, List.nil_append, List.cons_append, if_true, if_false, dFrz, dLcO, dMin2D, dAppX, dParL, dParLL, dRepL, fNeS, fEqS, dgSet, dTupZip, dFgt, fIsB, fNotB, List.map_cons, List.map_nil, fw0, fw1, fw2, fw3, fw4, fw5, fw6, fw7, fw8, fw9, fw10, fw11, fw12, fw13, fw14, fw15, wipeR]
    refine u__law_shape (ps := ps) (by omega) fun z hz => ?_
    obtain ⟨qs, hqs, rfl⟩ := hz
    simp only [dSeq, dAsg, dCB, dCons, dNil, dVar, onVs, vals, val, slot, setR, fGcd, dIfS, dTV, dOp, dBin, onV2, fLt, fLe, fGt, fGe, fAdd, fSub, fMul, fDiv, fMod, fI0, dC, dUn, onV, fNeg, dNext, dRet, dTup, onD, dats, fDivZ, fI, fPow, Few, retP, fAbs, fInt, fMax, fMin, fLen, fSqrt, fEq, fNe, dNot, dAnd, dOr, dAndV, dOrV, dNotV, dIfE, dDrop, dRetN, dPar, noO, dSetL, dLst, dOfL, dOwnM, onOwn, onDat, kAppend, kInsert, dSetItem, dAddItem, dIx, onItems, items, onInt, dNoPart, dPart, dSlice, onL, litems, dSlL, dCat, onM, mitems, dTupOf, dSeqI, dRng1, dRng2, dCallP, dCallB, dCallF, noSelf, onArgs, dats2, dIsi, tyName, dYes, dgTup, dgCons, dgNil, retB, dBreak, dCont, ne_eq, not_false_eq_true, true_and, and_true, List.getElem?_cons_zero, List.getElem?_cons_succ, List.set_cons_zero, List.set_cons_succ, Option.map, List.length_cons, List.length_nil, dLc_eq, dLc2_eq, dFor_eq, dSortSet, dSort, dListOf, dIsN, dNotN, isNo, dAug, dMulA, dgUnl, dCatT, dSlT, onT, titems, dEnum, dZip, dZipM, seqs, dRetL, dPar3, dRevT, dLstRg, dTupRg, dRg1, dRg2, dChainLe, List.nil_append, List.cons_append, if_true, if_false, dFrz, dLcO, dMin2D, dAppX, dParL, dParLL, dRepL, fNeS, fEqS, dgSet, dTupZip, dFgt, fIsB, fNotB, List.map_cons, List.map_nil, fw0, fw1, fw2, fw3, fw4, fw5, fw6, fw7, fw8, fw9, fw10, fw11, fw12, fw13, fw14, fw15]
    have lq : qs.length ≤ 14 := by
      have : qs.length ≤ ps.length := nodup_le hqs.1 fun p hp => (hqs.2.2 p).mp hp
      omega
    have inq : ∀ p ∈ qs, 0 ≤ p.1 ∧ p.1 < wd := fun p hp => by
      obtain ⟨i, hi⟩ := List.mem_iff_getElem?.mp ((hqs.2.2 p).mp hp)
      exact hps i p hi
    refine lc_drawI (n := 11) (qs.map encP) (fun b => [some (.own b), some (.d (.int wd)), some (.d (.list (ps.map encP))), none, none, none, none]) (fun i z => ∃ l : Lmp, z = eLm l ∧ ∃ p, qs[i]? = some p ∧ l.x = p.1 - wd / 2) bag3 _ hb3 rfl (fun _ => hv2 rfl rfl) (by rw [List.length_map]; omega) (fun i x hx m' bag2 h1 h2 hb2 C1 C2 k fk hc => ?_) fun zs bag3 hzl hzs hb3 => ?_
    · rw [List.getElem?_map] at hx
      cases hq : qs[i]? with
      | none => rw [hq] at hx; cases hx
      | some p =>
        rw [hq] at hx
        cases hx
        have hlen : (qs.map encP).length ≤ 14 := by rw [List.length_map]; exact lq
        simp only [dSeq, dAsg, dCB, dCons, dNil, dVar, onVs, vals, val, slot, setR, fGcd, dIfS, dTV, dOp, dBin, onV2, fLt, fLe, fGt, fGe, fAdd, fSub, fMul, fDiv, fMod, fI0, dC, dUn, onV, fNeg, dNext, dRet, dTup, onD, dats, fDivZ, fI, fPow, Few, retP, fAbs, fInt, fMax, fMin, fLen, fSqrt, fEq, fNe, dNot, dAnd, dOr, dAndV, dOrV, dNotV, dIfE, dDrop, dRetN, dPar, noO, dSetL, dLst, dOfL, dOwnM, onOwn, onDat, kAppend, kInsert, dSetItem, dAddItem, dIx, onItems, items, onInt, dNoPart, dPart, dSlice, onL, litems, dSlL, dCat, onM, mitems, dTupOf, dSeqI, dRng1, dRng2, dCallP, dCallB, dCallF, noSelf, onArgs, dats2, dIsi, tyName, dYes, dgTup, dgCons, dgNil, retB, dBreak, dCont, ne_eq, not_false_eq_true, true_and, and_true, List.getElem?_cons_zero, List.getElem?_cons_succ, List.set_cons_zero, List.set_cons_succ, Option.map, List.length_cons, List.length_nil, dLc_eq, dLc2_eq, dFor_eq, dSortSet, dSort, dListOf, dIsN, dNotN, isNo, dAug, dMulA, dgUnl, dCatT, dSlT, onT, titems, dEnum, dZip, dZipM, seqs, dRetL, dPar3, dRevT, dLstRg, dTupRg, dRg1, dRg2, dChainLe, List.nil_append, List.cons_append, if_true, if_false, dFrz, dLcO, dMin2D, dAppX, dParL, dParLL, dRepL, fNeS, fEqS, dgSet, dTupZip, dFgt, fIsB, fNotB, List.map_cons, List.map_nil, fw0, fw1, fw2, fw3, fw4, fw5, fw6, fw7, fw8, fw9, fw10, fw11, fw12, fw13, fw14, fw15, encP]
        refine ⟨cdw (b := 2) (by decide) (by decide), ?_⟩
        refine u__law_shades hb2 (by omega) fun z bag4 hz hb4 => ?_
        obtain ⟨ss, rfl⟩ := hz
        refine u_some hb4 (by omega) (by decide) (by decide) fun y hy bag5 hb5 => ?_
        obtain ⟨w, rfl, w0, w1⟩ := of_all (lo := 0) (hi := 3) (by decide) y hy
        simp only [dSeq, dAsg, dCB, dCons, dNil, dVar, onVs, vals, val, slot, setR, fGcd, dIfS, dTV, dOp, dBin, onV2, fLt, fLe, fGt, fGe, fAdd, fSub, fMul, fDiv, fMod, fI0, dC, dUn, onV, fNeg, dNext, dRet, dTup, onD, dats, fDivZ, fI, fPow, Few, retP, fAbs, fInt, fMax, fMin, fLen, fSqrt, fEq, fNe, dNot, dAnd, dOr, dAndV, dOrV, dNotV, dIfE, dDrop, dRetN, dPar, noO, dSetL, dLst, dOfL, dOwnM, onOwn, onDat, kAppend, kInsert, dSetItem, dAddItem, dIx, onItems, items, onInt, dNoPart, dPart, dSlice, onL, litems, dSlL, dCat, onM, mitems, dTupOf, dSeqI, dRng1, dRng2, dCallP, dCallB, dCallF, noSelf, onArgs, dats2, dIsi, tyName, dYes, dgTup, dgCons, dgNil, retB, dBreak, dCont, ne_eq, not_false_eq_true, true_and, and_true, List.getElem?_cons_zero, List.getElem?_cons_succ, List.set_cons_zero, List.set_cons_succ, Option.map, List.length_cons, List.length_nil, dLc_eq, dLc2_eq, dFor_eq, dSortSet, dSort, dListOf, dIsN, dNotN, isNo, dAug, dMulA, dgUnl, dCatT, dSlT, onT, titems, dEnum, dZip, dZipM, seqs, dRetL, dPar3, dRevT, dLstRg, dTupRg, dRg1, dRg2, dChainLe, List.nil_append, List.cons_append, if_true, if_false, dFrz, dLcO, dMin2D, dAppX, dParL, dParLL, dRepL, fNeS, fEqS, dgSet, dTupZip, dFgt, fIsB, fNotB, List.map_cons, List.map_nil, fw0, fw1, fw2, fw3, fw4, fw5, fw6, fw7, fw8, fw9, fw10, fw11, fw12, fw13, fw14, fw15, wipeR]
        exact ⟨fk, hc _ _ ⟨⟨p.1 - wd / 2, p.2, ss, w⟩, rfl, p, hq, rfl⟩ hb5⟩
    · obtain ⟨ls, rfl, hls⟩ := as_enc eLm (fun i l => ∃ p, qs[i]? = some p ∧ l.x = p.1 - wd / 2) zs hzs
      rw [List.length_map, List.length_map] at hzl
      simp only [wipeR, List.set_cons_succ, List.set_cons_zero]
      rw [hk]
      clear hk
      simp only [dSeq, dAsg, dCB, dCons, dNil, dVar, onVs, vals, val, slot, setR, fGcd, dIfS, dTV, dOp, dBin, onV2, fLt, fLe, fGt, fGe, fAdd, fSub, fMul, fDiv, fMod, fI0, dC, dUn, onV, fNeg, dNext, dRet, dTup, onD, dats, fDivZ, fI, fPow, Few, retP, fAbs, fInt, fMax, fMin, fLen, fSqrt, fEq, fNe, dNot, dAnd, dOr, dAndV, dOrV, dNotV, dIfE, dDrop, dRetN, dPar, noO, dSetL, dLst, dOfL, dOwnM, onOwn, onDat, kAppend, kInsert, dSetItem, dAddItem, dIx, onItems, items, onInt, dNoPart, dPart, dSlice, onL, litems, dSlL, dCat, onM, mitems, dTupOf, dSeqI, dRng1, dRng2, dCallP, dCallB, dCallF, noSelf, onArgs, dats2, dIsi, tyName, dYes, dgTup, dgCons, dgNil, retB, dBreak, dCont, ne_eq, not_false_eq_true, true_and, and_true, List.getElem?_cons_zero, List.getElem?_cons_succ, List.set_cons_zero, List.set_cons_succ, Option.map, List.length_cons, List.length_nil, dLc_eq, dLc2_eq, dFor_eq, dSortSet, dSort, dListOf, dIsN, dNotN, isNo, dAug, dMulA, dgUnl, dCatT, dSlT, onT, titems, dEnum, dZip, dZipM, seqs, dRetL, dPar3, dRevT, dLstRg, dTupRg, dRg1, dRg2, dChainLe, List.nil_append, List.cons_append, if_true, if_false, dFrz, dLcO, dMin2D, dAppX, dParL, dParLL, dRepL, fNeS, fEqS, dgSet, dTupZip, dFgt, fIsB, fNotB, List.map_cons, List.map_nil, fw0, fw1, fw2, fw3, fw4, fw5, fw6, fw7, fw8, fw9, fw10, fw11, fw12, fw13, fw14, fw15]
      refine hQ _ _ ⟨ls, rfl, by omega, ?_, fun l hl => ?_⟩ (hb3.up ?_)
      · unfold UpL
        rw [List.pairwise_iff_getElem]
        intro i j hi0 hj0 hij
        have hi : i < ls.length := by rw [lxs_len] at hi0; exact hi0
        have hj : j < ls.length := by rw [lxs_len] at hj0; exact hj0
        obtain ⟨_, x1⟩ := List.getElem?_eq_some_iff.mp (lxs_at (List.getElem?_eq_getElem hi))
        obtain ⟨_, x2⟩ := List.getElem?_eq_some_iff.mp (lxs_at (List.getElem?_eq_getElem hj))
        obtain ⟨p, hp, ep⟩ := hls i _ (List.getElem?_eq_getElem hi)
        obtain ⟨r, hr, er⟩ := hls j _ (List.getElem?_eq_getElem hj)
        obtain ⟨hi1, e1⟩ := List.getElem?_eq_some_iff.mp hp
        obtain ⟨hj1, e2⟩ := List.getElem?_eq_some_iff.mp hr
        have := List.pairwise_iff_getElem.mp hqs.2.1 i j hi1 hj1 hij
        rw [e1, e2] at this
        unfold lle at this
        rw [x1, x2, ep, er]
        omega
      · obtain ⟨i, hi⟩ := List.mem_iff_getElem?.mp hl
        obtain ⟨p, hp, ep⟩ := hls i l hi
        have := inq p (List.mem_of_getElem? hp)
        omega
      · rw [List.length_map]
        omega
set_option maxHeartbeats 4000000 in
theorem ok_law {f : Addr} {fd : FuncData} (W : Fun K "law" "law" s_law f fd) (T : Bi mg)
    {f__law_bag : Addr} {fd__law_bag : FuncData} (G__law_bag : FnG P w K mg base CX0 1 f__law_bag fd__law_bag ["_law_script"] (spF K [.ro] S__law_bag)) (g__law_bag : mg "_law_bag" = some (.ref f__law_bag)) (k__law_bag : PySem.W.keepIn K (.ref f__law_bag) = true) (b__law_bag : Binds K fd__law_bag ["_law_script"] [])
    {f_rows_many : Addr} {fd_rows_many : FuncData} (G_rows_many : FnG P w K mg base CX0 1 f_rows_many fd_rows_many ["rows"] (spP K [.d] S_rows_many)) (g_rows_many : mg "rows_many" = some (.ref f_rows_many)) (k_rows_many : PySem.W.keepIn K (.ref f_rows_many) = true) (b_rows_many : Binds K fd_rows_many ["rows"] [])
    {f__law_take : Addr} {fd__law_take : FuncData} (G__law_take : FnG P w K mg base CX0 1 f__law_take fd__law_take ["_law_bag_here", "_law_many"] (spB K [.d] S__law_take)) (g__law_take : mg "_law_take" = some (.ref f__law_take)) (k__law_take : PySem.W.keepIn K (.ref f__law_take) = true) (b__law_take : Binds K fd__law_take ["_law_bag_here", "_law_many"] [])
    {f__law_some : Addr} {fd__law_some : FuncData} (G__law_some : FnG P w K mg base CX0 2 f__law_some fd__law_some ["_law_bag_here", "_law_things"] (spB K [.d] S__law_some)) (g__law_some : mg "_law_some" = some (.ref f__law_some)) (k__law_some : PySem.W.keepIn K (.ref f__law_some) = true) (b__law_some : Binds K fd__law_some ["_law_bag_here", "_law_things"] [])
    {f_rows_of : Addr} {fd_rows_of : FuncData} (G_rows_of : FnG P w K mg base CX0 1 f_rows_of fd_rows_of ["picture", "spacing"] (spP K [.d, .d] S_rows_of)) (g_rows_of : mg "rows_of" = some (.ref f_rows_of)) (k_rows_of : PySem.W.keepIn K (.ref f_rows_of) = true) (b_rows_of : Binds K fd_rows_of ["picture", "spacing"] [])
    {f_moved_lamps : Addr} {fd_moved_lamps : FuncData} (G_moved_lamps : FnG P w K mg base CX0 1 f_moved_lamps fd_moved_lamps ["picture", "x", "z"] (spP K [.d, .d, .d] S_moved_lamps)) (g_moved_lamps : mg "moved_lamps" = some (.ref f_moved_lamps)) (k_moved_lamps : PySem.W.keepIn K (.ref f_moved_lamps) = true) (b_moved_lamps : Binds K fd_moved_lamps ["picture", "x", "z"] [])
    {f_mirrored_lamps : Addr} {fd_mirrored_lamps : FuncData} (G_mirrored_lamps : FnG P w K mg base CX0 1 f_mirrored_lamps fd_mirrored_lamps ["picture", "x"] (spP K [.d, .d] S_mirrored_lamps)) (g_mirrored_lamps : mg "mirrored_lamps" = some (.ref f_mirrored_lamps)) (k_mirrored_lamps : PySem.W.keepIn K (.ref f_mirrored_lamps) = true) (b_mirrored_lamps : Binds K fd_mirrored_lamps ["picture", "x"] [])
    {f__law_close_picture : Addr} {fd__law_close_picture : FuncData} (G__law_close_picture : FnG P w K mg base CX0 4 f__law_close_picture fd__law_close_picture ["_law_bag_here"] (spB K [] S__law_close_picture)) (g__law_close_picture : mg "_law_close_picture" = some (.ref f__law_close_picture)) (k__law_close_picture : PySem.W.keepIn K (.ref f__law_close_picture) = true) (b__law_close_picture : Binds K fd__law_close_picture ["_law_bag_here"] [])
    {f__law_has_rows : Addr} {fd__law_has_rows : FuncData} (G__law_has_rows : FnG P w K mg base CX0 1 f__law_has_rows fd__law_has_rows ["_law_picture", "_law_spacing", "_law_many"] (spP K [.d, .d, .d] S__law_has_rows)) (g__law_has_rows : mg "_law_has_rows" = some (.ref f__law_has_rows)) (k__law_has_rows : PySem.W.keepIn K (.ref f__law_has_rows) = true) (b__law_has_rows : Binds K fd__law_has_rows ["_law_picture", "_law_spacing", "_law_many"] [])
    {f_most_abreast : Addr} {fd_most_abreast : FuncData} (G_most_abreast : FnG P w K mg base CX0 1 f_most_abreast fd_most_abreast ["picture", "spacing"] (spP K [.d, .d] S_most_abreast)) (g_most_abreast : mg "most_abreast" = some (.ref f_most_abreast)) (k_most_abreast : PySem.W.keepIn K (.ref f_most_abreast) = true) (b_most_abreast : Binds K fd_most_abreast ["picture", "spacing"] []) :
    FnG P w K mg base CX0 5 f fd ["_law_script"] (spP K [.ro] S_law) := by
  refine fnP W sc_law rfl fun cdv A out s H E Nn hr hgd => ⟨_, _, (dss_cons (ds_setL (i := 1) sc_law.nd (pl_callF G__law_bag m__law_bag (hr.mono (by decide)) hgd rfl g__law_bag k__law_bag b__law_bag (pda_cons (pdv 0) pda_nil)) fixP)
      (dss_cons (ds_for PassesOwn.never rfl (pdi_range1 rfl T.b_range (pda_cons pd_int pda_nil)) (pgd_name (i := 2) sc_law.nd) (dss_cons (ds_par (i := 3) (j := 4) rfl sc_law.nd (pda_cons (pd_sliceT (pd_callBag G__law_close_picture m__law_close_picture (hr.mono (by decide)) hgd rfl g__law_close_picture k__law_close_picture b__law_close_picture (pda_cons (pdv 1) pda_nil)) pdo_none (pdo_some pd_int)) (pda_cons (pd_callBag G__law_some m__law_some (hr.mono (by decide)) hgd rfl g__law_some k__law_some b__law_some (pda_cons (pdv 1) (pda_cons (pd_l (pl_lst (pda_cons pd_int (pda_cons pd_int (pda_cons pd_int (pda_cons pd_int pda_nil)))))) pda_nil))) pda_nil)) fixP fixP)
      (dss_cons (ds_set (i := 5) sc_law.nd (pd_callP G_rows_many m_rows_many (hr.mono (by decide)) hgd rfl g_rows_many k_rows_many b_rows_many (pda_cons (pd_callP G_rows_of m_rows_of (hr.mono (by decide)) hgd rfl g_rows_of k_rows_of b_rows_of (pda_cons (pdv 3) (pda_cons (pdv 4) pda_nil))) pda_nil)) fixP)
      (dss_cons (ds_if (pt_w (pwd_or (pt_no (pt_v (pd_callP G__law_has_rows m__law_has_rows (hr.mono (by decide)) hgd rfl g__law_has_rows k__law_has_rows b__law_has_rows (pda_cons (pdv 3) (pda_cons (pdv 4) (pda_cons (pdv 5) pda_nil)))))) (pwd_or1 (pt_w (pwd_and (pt_gt (pdv 5) pd_int) (pwd_and1 (pt_v (pd_callP G__law_has_rows m__law_has_rows (hr.mono (by decide)) hgd rfl g__law_has_rows k__law_has_rows b__law_has_rows (pda_cons (pdv 3) (pda_cons (pdv 4) (pda_cons (pd_sub (pdv 5) pd_int) pda_nil))))))))))) (dss_one (ds_ret pd_bl)) dss_nil)
      (dss_cons (ds_set (i := 6) sc_law.nd (pd_callBag G__law_take m__law_take (hr.mono (by decide)) hgd rfl g__law_take k__law_take b__law_take (pda_cons (pdv 1) (pda_cons (pd_add (pd_callB call_len_seq sc_len rfl T.b_len (by decide +kernel) (pda_cons (pdv 3) pda_nil)) pd_int) pda_nil))) fixP)
      (dss_cons (ds_set (i := 7) sc_law.nd (pd_callP G_rows_many m_rows_many (hr.mono (by decide)) hgd rfl g_rows_many k_rows_many b_rows_many (pda_cons (pd_callP G_rows_of m_rows_of (hr.mono (by decide)) hgd rfl g_rows_of k_rows_of b_rows_of (pda_cons (pd_catT (pd_sliceT (pdv 3) pdo_none (pdo_some (pdv 6))) (pd_sliceT (pdv 3) (pdo_some (pd_add (pdv 6) pd_int)) pdo_none)) (pda_cons (pdv 4) pda_nil))) pda_nil)) fixP)
      (dss_cons (ds_if (pt_w (pwd_or (pt_no (pt_chain op_le op_le (pd_sub (pdv 5) pd_int) (pdv 7) (pdv 5))) (pwd_or1 (pt_lt (pd_callP G_rows_many m_rows_many (hr.mono (by decide)) hgd rfl g_rows_many k_rows_many b_rows_many (pda_cons (pd_callP G_rows_of m_rows_of (hr.mono (by decide)) hgd rfl g_rows_of k_rows_of b_rows_of (pda_cons (pdv 3) (pda_cons (pd_add (pdv 4) pd_int) pda_nil))) pda_nil)) (pdv 5))))) (dss_one (ds_ret pd_bl)) dss_nil)
      (dss_cons (ds_par (i := 8) (j := 9) rfl sc_law.nd (pda_cons (pd_sub (pd_callBag G__law_take m__law_take (hr.mono (by decide)) hgd rfl g__law_take k__law_take b__law_take (pda_cons (pdv 1) (pda_cons pd_int pda_nil))) pd_int) (pda_cons (pd_sub (pd_callBag G__law_take m__law_take (hr.mono (by decide)) hgd rfl g__law_take k__law_take b__law_take (pda_cons (pdv 1) (pda_cons pd_int pda_nil))) pd_int) pda_nil)) fixP fixP)
      (dss_cons (ds_set (i := 10) sc_law.nd (pd_l (pl_lst (pda_cons (pd_callP G_moved_lamps m_moved_lamps (hr.mono (by decide)) hgd rfl g_moved_lamps k_moved_lamps b_moved_lamps (pda_cons (pdv 3) (pda_cons (pdv 8) (pda_cons (pdv 9) pda_nil)))) (pda_cons (pd_callP G_mirrored_lamps m_mirrored_lamps (hr.mono (by decide)) hgd rfl g_mirrored_lamps k_mirrored_lamps b_mirrored_lamps (pda_cons (pdv 3) (pda_cons (pdv 8) pda_nil))) pda_nil)))) fixP)
      (dss_cons (ds_for PassesOwn.never rfl (pdi_seq (pdv 10)) (pgd_name (i := 11) sc_law.nd) (dss_one (ds_if (pt_w (pwd_or (pt_ne hr.units rfl (pd_callP G_rows_many m_rows_many (hr.mono (by decide)) hgd rfl g_rows_many k_rows_many b_rows_many (pda_cons (pd_callP G_rows_of m_rows_of (hr.mono (by decide)) hgd rfl g_rows_of k_rows_of b_rows_of (pda_cons (pdv 11) (pda_cons (pdv 4) pda_nil))) pda_nil)) (pdv 5)) (pwd_or1 (pt_ne hr.units rfl (pd_ix (pd_callP G_most_abreast m_most_abreast (hr.mono (by decide)) hgd rfl g_most_abreast k_most_abreast b_most_abreast (pda_cons (pdv 11) (pda_cons (pdv 4) pda_nil))) pd_int (fun _ _ => rfl)) (pdv 5))))) (dss_one (ds_ret pd_bl)) dss_nil)) nofixP)
      (dss_cons (ds_fgt (i := 13) (ds_set (i := 12) sc_law.nd (pd_tupleOf rfl T.b_tuple (pda_cons (pd_l (pl_lc (own := [("_law_lamp", 13)]) rfl sc_law.nd (pdi_seq (pd_sliceT (pd_callBag G__law_close_picture m__law_close_picture (hr.mono (by decide)) hgd rfl g__law_close_picture k__law_close_picture b__law_close_picture (pda_cons (pdv 1) pda_nil)) pdo_none (pdo_some pd_int))) (blkOk_by (own := [("_law_lamp", 13)]) (N := nm_law) (sc := defScope s_law) (by decide +kernel)) (fun _ _ _ _ _ => (pgd_name (i := 13) sc_law.nd)) (fun _ _ _ _ _ => dts_nil) (fun _ _ _ _ _ => (pd_catT (pd_tup (pda_cons (pd_add (pd_ix (pdv 13) pd_int (fun _ _ => rfl)) pd_int) pda_nil)) (pd_sliceT (pdv 13) (pdo_some pd_int) pdo_none))))) pda_nil)) fixP) fixP)
      (dss_cons (ds_set (i := 14) sc_law.nd (pd_callP G_rows_many m_rows_many (hr.mono (by decide)) hgd rfl g_rows_many k_rows_many b_rows_many (pda_cons (pd_callP G_rows_of m_rows_of (hr.mono (by decide)) hgd rfl g_rows_of k_rows_of b_rows_of (pda_cons (pd_catT (pdv 3) (pdv 12)) (pda_cons (pdv 4) pda_nil))) pda_nil)) fixP)
      (dss_one (ds_if (pt_ne hr.units rfl (pdv 14) (pd_callB (call_max2 rfl) sc_max rfl T.b_max (by decide +kernel) (pda_cons (pdv 5) (pda_cons (pd_callP G_rows_many m_rows_many (hr.mono (by decide)) hgd rfl g_rows_many k_rows_many b_rows_many (pda_cons (pd_callP G_rows_of m_rows_of (hr.mono (by decide)) hgd rfl g_rows_of k_rows_of b_rows_of (pda_cons (pdv 12) (pda_cons (pdv 4) pda_nil))) pda_nil)) pda_nil)))) (dss_one (ds_ret pd_bl)) dss_nil))))))))))))) nofixP)
      (dss_one (ds_ret pd_bl)))), ?_⟩
  clear W T hr hgd
  rintro xs Q hl ⟨ns, rfl, hQ⟩
  clear hl
  have e : rhoP nm_law.length [.ro] [.list (ns.map .int)] = [some (.ro (.list (ns.map .int))), none, none, none, none, none, none, none, none, none, none, none, none, none, none] := rfl
  rw [e]
  clear e
  refine seqI fun kk hk => ?_
  simp only [dSeq, dAsg, dCB, dCons, dNil, dVar, onVs, vals, val, slot, setR, fGcd, dIfS, dTV, dOp, dBin, onV2, fLt, fLe, fGt, fGe, fAdd, fSub, fMul, fDiv, fMod, fI0, dC, dUn, onV, fNeg, dNext, dRet, dTup, onD, dats, fDivZ, fI, fPow, Few, retP, fAbs, fInt, fMax, fMin, fLen, fSqrt, fEq, fNe, dNot, dAnd, dOr, dAndV, dOrV, dNotV, dIfE, dDrop, dRetN, dPar, noO, dSetL, dLst, dOfL, dOwnM, onOwn, onDat, kAppend, kInsert, dSetItem, dAddItem, dIx, onItems, items, onInt, dNoPart, dPart, dSlice, onL, litems, dSlL, dCat, onM, mitems, dTupOf, dSeqI, dRng1, dRng2, dCallP, dCallB, dCallF, noSelf, onArgs, dats2, dIsi, tyName, dYes, dgTup, dgCons, dgNil, retB, dBreak, dCont, ne_eq, not_false_eq_true, true_and, and_true, List.getElem?_cons_zero, List.getElem?_cons_succ, List.set_cons_zero, List.set_cons_succ, Option.map, List.length_cons, List.length_nil, dLc_eq, dLc2_eq, dFor_eq, dSortSet, dSort, dListOf, dIsN, dNotN, isNo, dAug, dMulA, dgUnl, dCatT, dSlT, onT, titems, dEnum, dZip, dZipM, seqs, dRetL, dPar3, dRevT, dLstRg, dTupRg, dRg1, dRg2, dChainLe, List.nil_append, List.cons_append, if_true, if_false, dFrz, dLcO, dMin2D, dAppX, dParL, dParLL, dRepL, fNeS, fEqS, dgSet, dTupZip, dFgt, fIsB, fNotB, List.map_cons, List.map_nil, fw0, fw1, fw2, fw3, fw4, fw5, fw6, fw7, fw8, fw9, fw10, fw11, fw12, fw13, fw14, fw15]
  refine ⟨ns, rfl, fun bag hb => ?_⟩
  rw [hk]
  refine seqI fun k2 hk2 => ?_
  simp only [dSeq, dAsg, dCB, dCons, dNil, dVar, onVs, vals, val, slot, setR, fGcd, dIfS, dTV, dOp, dBin, onV2, fLt, fLe, fGt, fGe, fAdd, fSub, fMul, fDiv, fMod, fI0, dC, dUn, onV, fNeg, dNext, dRet, dTup, onD, dats, fDivZ, fI, fPow, Few, retP, fAbs, fInt, fMax, fMin, fLen, fSqrt, fEq, fNe, dNot, dAnd, dOr, dAndV, dOrV, dNotV, dIfE, dDrop, dRetN, dPar, noO, dSetL, dLst, dOfL, dOwnM, onOwn, onDat, kAppend, kInsert, dSetItem, dAddItem, dIx, onItems, items, onInt, dNoPart, dPart, dSlice, onL, litems, dSlL, dCat, onM, mitems, dTupOf, dSeqI, dRng1, dRng2, dCallP, dCallB, dCallF, noSelf, onArgs, dats2, dIsi, tyName, dYes, dgTup, dgCons, dgNil, retB, dBreak, dCont, ne_eq, not_false_eq_true, true_and, and_true, List.getElem?_cons_zero, List.getElem?_cons_succ, List.set_cons_zero, List.set_cons_succ, Option.map, List.length_cons, List.length_nil, dLc_eq, dLc2_eq, dFor_eq, dSortSet, dSort, dListOf, dIsN, dNotN, isNo, dAug, dMulA, dgUnl, dCatT, dSlT, onT, titems, dEnum, dZip, dZipM, seqs, dRetL, dPar3, dRevT, dLstRg, dTupRg, dRg1, dRg2, dChainLe, List.nil_append, List.cons_append, if_true, if_false, dFrz, dLcO, dMin2D, dAppX, dParL, dParLL, dRepL, fNeS, fEqS, dgSet, dTupZip, dFgt, fIsB, fNotB, List.map_cons, List.map_nil, fw0, fw1, fw2, fw3, fw4, fw5, fw6, fw7, fw8, fw9, fw10, fw11, fw12, fw13, fw14, fw15]
  refine ⟨⟨by decide, by decide⟩, for_rng (S := List PyData × (Nat → Option Ent)) 0 _ (fun z => [some (.ro (.list (ns.map .int))), some (.own z.1), z.2 0, z.2 1, z.2 2, z.2 3, z.2 4, z.2 5, z.2 6, z.2 7, z.2 8, z.2 9, z.2 10, z.2 11, z.2 12]) (fun i z => Bag (1000 * i) z.1) (bag, fun _ => none) rfl hb (fun i z hi hI C hC => ?_) fun z hz => ?_⟩
  · have hC' : ∀ (b : List PyData) (a0 a1 a2 a3 a4 a5 a6 a7 a8 a9 a10 a11 a12 : Option Ent), Bag (1000 * i + 1000) b → C [some (.ro (.list (ns.map .int))), some (.own b), a0, a1, a2, a3, a4, a5, a6, a7, a8, a9, a10, a11, a12] := fun b a0 a1 a2 a3 a4 a5 a6 a7 a8 a9 a10 a11 a12 h => hC (b, fun n => ([a0, a1, a2, a3, a4, a5, a6, a7, a8, a9, a10, a11, a12] : List (Option Ent)).getD n none) (by rw [Nat.mul_succ]; exact h)
    clear hC
    have hi2 : i ≤ 1000 := by
      have : i < Int.toNat _ := hi
      exact Nat.le_trans (Nat.le_of_lt this) (by decide)
    simp only [setR, List.set_cons_succ, List.set_cons_zero]
    refine seqI fun k3 hk3 => ?_
    simp only [dSeq, dAsg, dCB, dCons, dNil, dVar, onVs, vals, val, slot, setR, fGcd, dIfS, dTV, dOp, dBin, onV2, fLt, fLe, fGt, fGe, fAdd, fSub, fMul, fDiv, fMod, fI0, dC, dUn, onV, fNeg, dNext, dRet, dTup, onD, dats, fDivZ, fI, fPow, Few, retP, fAbs, fInt, fMax, fMin, fLen, fSqrt, fEq, fNe, dNot, dAnd, dOr, dAndV, dOrV, dNotV, dIfE, dDrop, dRetN, dPar, noO, dSetL, dLst, dOfL, dOwnM, onOwn, onDat, kAppend, kInsert, dSetItem, dAddItem, dIx, onItems, items, onInt, dNoPart, dPart, dSlice, onL, litems, dSlL, dCat, onM, mitems, dTupOf, dSeqI, dRng1, dRng2, dCallP, dCallB, dCallF, noSelf, onArgs, dats2, dIsi, tyName, dYes, dgTup, dgCons, dgNil, retB, dBreak, dCont, ne_eq, not_false_eq_true, true_and, and_true, List.getElem?_cons_zero, List.getElem?_cons_succ, List.set_cons_zero, List.set_cons_succ, Option.map, List.length_cons, List.length_nil, dLc_eq, dLc2_eq, dFor_eq, dSortSet, dSort, dListOf, dIsN, dNotN, isNo, dAug, dMulA, dgUnl, dCatT, dSlT, onT, titems, dEnum, dZip, dZipM, seqs, dRetL, dPar3, dRevT, dLstRg, dTupRg, dRg1, dRg2, dChainLe, List.nil_append, List.cons_append, if_true, if_false, dFrz, dLcO, dMin2D, dAppX, dParL, dParLL, dRepL, fNeS, fEqS, dgSet, dTupZip, dFgt, fIsB, fNotB, List.map_cons, List.map_nil, fw0, fw1, fw2, fw3, fw4, fw5, fw6, fw7, fw8, fw9, fw10, fw11, fw12, fw13, fw14, fw15]
    refine u__law_close_picture hI (by omega) fun y bag1 hy hb1 => ?_
    obtain ⟨ls0, rfl, ll0, us0, bx0⟩ := hy
    simp only [dSeq, dAsg, dCB, dCons, dNil, dVar, onVs, vals, val, slot, setR, fGcd, dIfS, dTV, dOp, dBin, onV2, fLt, fLe, fGt, fGe, fAdd, fSub, fMul, fDiv, fMod, fI0, dC, dUn, onV, fNeg, dNext, dRet, dTup, onD, dats, fDivZ, fI, fPow, Few, retP, fAbs, fInt, fMax, fMin, fLen, fSqrt, fEq, fNe, dNot, dAnd, dOr, dAndV, dOrV, dNotV, dIfE, dDrop, dRetN, dPar, noO, dSetL, dLst, dOfL, dOwnM, onOwn, onDat, kAppend, kInsert, dSetItem, dAddItem, dIx, onItems, items, onInt, dNoPart, dPart, dSlice, onL, litems, dSlL, dCat, onM, mitems, dTupOf, dSeqI, dRng1, dRng2, dCallP, dCallB, dCallF, noSelf, onArgs, dats2, dIsi, tyName, dYes, dgTup, dgCons, dgNil, retB, dBreak, dCont, ne_eq, not_false_eq_true, true_and, and_true, List.getElem?_cons_zero, List.getElem?_cons_succ, List.set_cons_zero, List.set_cons_succ, Option.map, List.length_cons, List.length_nil, dLc_eq, dLc2_eq, dFor_eq, dSortSet, dSort, dListOf, dIsN, dNotN, isNo, dAug, dMulA, dgUnl, dCatT, dSlT, onT, titems, dEnum, dZip, dZipM, seqs, dRetL, dPar3, dRevT, dLstRg, dTupRg, dRg1, dRg2, dChainLe, List.nil_append, List.cons_append, if_true, if_false, dFrz, dLcO, dMin2D, dAppX, dParL, dParLL, dRepL, fNeS, fEqS, dgSet, dTupZip, dFgt, fIsB, fNotB, List.map_cons, List.map_nil, fw0, fw1, fw2, fw3, fw4, fw5, fw6, fw7, fw8, fw9, fw10, fw11, fw12, fw13, fw14, fw15, eP]
    have e7 : DV.cutD (ls0.map eLm) none (some 7) = (ls0.take 7).map eLm := eP_take (c := 7) rfl
    rw [e7]
    clear e7
    have ul : UpL (lxs (ls0.take 7)) := by rw [lxs_take]; exact us0.sub (List.take_sublist ..)
    have ll : (ls0.take 7).length ≤ 7 := by rw [List.length_take]; omega
    have bx : ∀ l ∈ ls0.take 7, -20 ≤ l.x ∧ l.x ≤ 40 := fun l hl => bx0 l (List.mem_of_mem_take hl)
    generalize ls0.take 7 = ls at ul ll bx
    clear us0 ll0 bx0 ls0
    have lx := lxs_len ls
    refine u_some hb1 (by omega) (by decide) (by decide) fun y hy bag2 hb2 => ?_
    obtain ⟨sp, rfl, sp1, sp4⟩ := of_all (lo := 1) (hi := 4) (by decide) y hy
    clear hy hb1
    rw [hk3]
    clear hk3
    refine seqI fun k3 hk3 => ?_
    simp only [dSeq, dAsg, dCB, dCons, dNil, dVar, onVs, vals, val, slot, setR, fGcd, dIfS, dTV, dOp, dBin, onV2, fLt, fLe, fGt, fGe, fAdd, fSub, fMul, fDiv, fMod, fI0, dC, dUn, onV, fNeg, dNext, dRet, dTup, onD, dats, fDivZ, fI, fPow, Few, retP, fAbs, fInt, fMax, fMin, fLen, fSqrt, fEq, fNe, dNot, dAnd, dOr, dAndV, dOrV, dNotV, dIfE, dDrop, dRetN, dPar, noO, dSetL, dLst, dOfL, dOwnM, onOwn, onDat, kAppend, kInsert, dSetItem, dAddItem, dIx, onItems, items, onInt, dNoPart, dPart, dSlice, onL, litems, dSlL, dCat, onM, mitems, dTupOf, dSeqI, dRng1, dRng2, dCallP, dCallB, dCallF, noSelf, onArgs, dats2, dIsi, tyName, dYes, dgTup, dgCons, dgNil, retB, dBreak, dCont, ne_eq, not_false_eq_true, true_and, and_true, List.getElem?_cons_zero, List.getElem?_cons_succ, List.set_cons_zero, List.set_cons_succ, Option.map, List.length_cons, List.length_nil, dLc_eq, dLc2_eq, dFor_eq, dSortSet, dSort, dListOf, dIsN, dNotN, isNo, dAug, dMulA, dgUnl, dCatT, dSlT, onT, titems, dEnum, dZip, dZipM, seqs, dRetL, dPar3, dRevT, dLstRg, dTupRg, dRg1, dRg2, dChainLe, List.nil_append, List.cons_append, if_true, if_false, dFrz, dLcO, dMin2D, dAppX, dParL, dParLL, dRepL, fNeS, fEqS, dgSet, dTupZip, dFgt, fIsB, fNotB, List.map_cons, List.map_nil, fw0, fw1, fw2, fw3, fw4, fw5, fw6, fw7, fw8, fw9, fw10, fw11, fw12, fw13, fw14, fw15]
    refine u_rows_of ul sp1 (by omega) fun z hz => ?_
    obtain ⟨rs, n, rfl, col, has⟩ := hz
    refine u_rows_many col has ?_
    have rn := Rown.of col has
    have n7 : n ≤ 7 := by have := has.size; omega
    rw [hk3]
    clear hk3
    refine seqI fun k3 hk3 => ?_
    simp only [dSeq, dAsg, dCB, dCons, dNil, dVar, onVs, vals, val, slot, setR, fGcd, dIfS, dTV, dOp, dBin, onV2, fLt, fLe, fGt, fGe, fAdd, fSub, fMul, fDiv, fMod, fI0, dC, dUn, onV, fNeg, dNext, dRet, dTup, onD, dats, fDivZ, fI, fPow, Few, retP, fAbs, fInt, fMax, fMin, fLen, fSqrt, fEq, fNe, dNot, dAnd, dOr, dAndV, dOrV, dNotV, dIfE, dDrop, dRetN, dPar, noO, dSetL, dLst, dOfL, dOwnM, onOwn, onDat, kAppend, kInsert, dSetItem, dAddItem, dIx, onItems, items, onInt, dNoPart, dPart, dSlice, onL, litems, dSlL, dCat, onM, mitems, dTupOf, dSeqI, dRng1, dRng2, dCallP, dCallB, dCallF, noSelf, onArgs, dats2, dIsi, tyName, dYes, dgTup, dgCons, dgNil, retB, dBreak, dCont, ne_eq, not_false_eq_true, true_and, and_true, List.getElem?_cons_zero, List.getElem?_cons_succ, List.set_cons_zero, List.set_cons_succ, Option.map, List.length_cons, List.length_nil, dLc_eq, dLc2_eq, dFor_eq, dSortSet, dSort, dListOf, dIsN, dNotN, isNo, dAug, dMulA, dgUnl, dCatT, dSlT, onT, titems, dEnum, dZip, dZipM, seqs, dRetL, dPar3, dRevT, dLstRg, dTupRg, dRg1, dRg2, dChainLe, List.nil_append, List.cons_append, if_true, if_false, dFrz, dLcO, dMin2D, dAppX, dParL, dParLL, dRepL, fNeS, fEqS, dgSet, dTupZip, dFgt, fIsB, fNotB, List.map_cons, List.map_nil, fw0, fw1, fw2, fw3, fw4, fw5, fw6, fw7, fw8, fw9, fw10, fw11, fw12, fw13, fw14, fw15]
    refine u__law_has_rows ll n7 ?_
    rw [hasRows_true col]
    simp only [dSeq, dAsg, dCB, dCons, dNil, dVar, onVs, vals, val, slot, setR, fGcd, dIfS, dTV, dOp, dBin, onV2, fLt, fLe, fGt, fGe, fAdd, fSub, fMul, fDiv, fMod, fI0, dC, dUn, onV, fNeg, dNext, dRet, dTup, onD, dats, fDivZ, fI, fPow, Few, retP, fAbs, fInt, fMax, fMin, fLen, fSqrt, fEq, fNe, dNot, dAnd, dOr, dAndV, dOrV, dNotV, dIfE, dDrop, dRetN, dPar, noO, dSetL, dLst, dOfL, dOwnM, onOwn, onDat, kAppend, kInsert, dSetItem, dAddItem, dIx, onItems, items, onInt, dNoPart, dPart, dSlice, onL, litems, dSlL, dCat, onM, mitems, dTupOf, dSeqI, dRng1, dRng2, dCallP, dCallB, dCallF, noSelf, onArgs, dats2, dIsi, tyName, dYes, dgTup, dgCons, dgNil, retB, dBreak, dCont, ne_eq, not_false_eq_true, true_and, and_true, List.getElem?_cons_zero, List.getElem?_cons_succ, List.set_cons_zero, List.set_cons_succ, Option.map, List.length_cons, List.length_nil, dLc_eq, dLc2_eq, dFor_eq, dSortSet, dSort, dListOf, dIsN, dNotN, isNo, dAug, dMulA, dgUnl, dCatT, dSlT, onT, titems, dEnum, dZip, dZipM, seqs, dRetL, dPar3, dRevT, dLstRg, dTupRg, dRg1, dRg2, dChainLe, List.nil_append, List.cons_append, if_true, if_false, dFrz, dLcO, dMin2D, dAppX, dParL, dParLL, dRepL, fNeS, fEqS, dgSet, dTupZip, dFgt, fIsB, fNotB, List.map_cons, List.map_nil, fw0, fw1, fw2, fw3, fw4, fw5, fw6, fw7, fw8, fw9, fw10, fw11, fw12, fw13, fw14, fw15, Bool.not_true, Bool.false_eq_true]
    have next : k3 [some (Ent.ro (PyData.list (List.map PyData.int ns))), some (Ent.own bag2), some (Ent.d (PyData.int (0 + ↑i))), some (Ent.d (PyData.tuple (List.map eLm ls))), some (Ent.d (PyData.int sp)), some (Ent.d (PyData.int ↑n)), z.snd 4, z.snd 5, z.snd 6, z.snd 7, z.snd 8, z.snd 9, z.snd 10, z.snd 11, z.snd 12] := by
      rw [hk3]
      clear hk3
      refine seqI fun k3 hk3 => ?_
      simp only [dSeq, dAsg, dCB, dCons, dNil, dVar, onVs, vals, val, slot, setR, fGcd, dIfS, dTV, dOp, dBin, onV2, fLt, fLe, fGt, fGe, fAdd, fSub, fMul, fDiv, fMod, fI0, dC, dUn, onV, fNeg, dNext, dRet, dTup, onD, dats, fDivZ, fI, fPow, Few, retP, fAbs, fInt, fMax, fMin, fLen, fSqrt, fEq, fNe, dNot, dAnd, dOr, dAndV, dOrV, dNotV, dIfE, dDrop, dRetN, dPar, noO, dSetL, dLst, dOfL, dOwnM, onOwn, onDat, kAppend, kInsert, dSetItem, dAddItem, dIx, onItems, items, onInt, dNoPart, dPart, dSlice, onL, litems, dSlL, dCat, onM, mitems, dTupOf, dSeqI, dRng1, dRng2, dCallP, dCallB, dCallF, noSelf, onArgs, dats2, dIsi, tyName, dYes, dgTup, dgCons, dgNil, retB, dBreak, dCont, ne_eq, not_false_eq_true, true_and, and_true, List.getElem?_cons_zero, List.getElem?_cons_succ, List.set_cons_zero, List.set_cons_succ, Option.map, List.length_cons, List.length_nil, dLc_eq, dLc2_eq, dFor_eq, dSortSet, dSort, dListOf, dIsN, dNotN, isNo, dAug, dMulA, dgUnl, dCatT, dSlT, onT, titems, dEnum, dZip, dZipM, seqs, dRetL, dPar3, dRevT, dLstRg, dTupRg, dRg1, dRg2, dChainLe, List.nil_append, List.cons_append, if_true, if_false, dFrz, dLcO, dMin2D, dAppX, dParL, dParLL, dRepL, fNeS, fEqS, dgSet, dTupZip, dFgt, fIsB, fNotB, List.map_cons, List.map_nil, fw0, fw1, fw2, fw3, fw4, fw5, fw6, fw7, fw8, fw9, fw10, fw11, fw12, fw13, fw14, fw15, List.length_map]
      refine u_take hb2 (by omega) (by omega) (by omega) fun v bag3 v0 v1 hb3 => ?_
      obtain ⟨c, rfl⟩ : ∃ c : Nat, v = c := ⟨v.toNat, by omega⟩
      rw [hk3]
      clear hk3
      refine seqI fun k3 hk3 => ?_
      simp only [dSeq, dAsg, dCB, dCons, dNil, dVar, onVs, vals, val, slot, setR, fGcd, dIfS, dTV, dOp, dBin, onV2, fLt, fLe, fGt, fGe, fAdd, fSub, fMul, fDiv, fMod, fI0, dC, dUn, onV, fNeg, dNext, dRet, dTup, onD, dats, fDivZ, fI, fPow, Few, retP, fAbs, fInt, fMax, fMin, fLen, fSqrt, fEq, fNe, dNot, dAnd, dOr, dAndV, dOrV, dNotV, dIfE, dDrop, dRetN, dPar, noO, dSetL, dLst, dOfL, dOwnM, onOwn, onDat, kAppend, kInsert, dSetItem, dAddItem, dIx, onItems, items, onInt, dNoPart, dPart, dSlice, onL, litems, dSlL, dCat, onM, mitems, dTupOf, dSeqI, dRng1, dRng2, dCallP, dCallB, dCallF, noSelf, onArgs, dats2, dIsi, tyName, dYes, dgTup, dgCons, dgNil, retB, dBreak, dCont, ne_eq, not_false_eq_true, true_and, and_true, List.getElem?_cons_zero, List.getElem?_cons_succ, List.set_cons_zero, List.set_cons_succ, Option.map, List.length_cons, List.length_nil, dLc_eq, dLc2_eq, dFor_eq, dSortSet, dSort, dListOf, dIsN, dNotN, isNo, dAug, dMulA, dgUnl, dCatT, dSlT, onT, titems, dEnum, dZip, dZipM, seqs, dRetL, dPar3, dRevT, dLstRg, dTupRg, dRg1, dRg2, dChainLe, List.nil_append, List.cons_append, if_true, if_false, dFrz, dLcO, dMin2D, dAppX, dParL, dParLL, dRepL, fNeS, fEqS, dgSet, dTupZip, dFgt, fIsB, fNotB, List.map_cons, List.map_nil, fw0, fw1, fw2, fw3, fw4, fw5, fw6, fw7, fw8, fw9, fw10, fw11, fw12, fw13, fw14, fw15]
      have e1 : DV.cutD (ls.map eLm) none (some (c : Int)) = (ls.take c).map eLm := eP_take rfl
      have e2 : DV.cutD (ls.map eLm) (some ((c : Int) + 1)) none = (ls.drop (c + 1)).map eLm := eP_drop (c := c + 1) rfl
      rw [e1, e2, ← List.map_append]
      clear e1 e2
      have sub : (ls.take c ++ ls.drop (c + 1)).Sublist ls := by
        have := List.Sublist.append_left (List.drop_sublist 1 (ls.drop c)) (ls.take c)
        rw [List.drop_drop, List.take_append_drop] at this
        rw [Nat.add_comm]
        first | exact this | (rw [Nat.add_comm]; exact this)
      refine ⟨few_le (by rw [List.length_map, List.length_map, List.length_take, List.length_drop]; omega), u_rows_of (ls := ls.take c ++ ls.drop (c + 1)) (ul.sub (sub.map _)) sp1 (by have := sub.length_le; omega) fun z hz => ?_⟩
      obtain ⟨rs2, n2, rfl, col2, has2⟩ := hz
      refine u_rows_many col2 has2 ?_
      have rn2 := Rown.of col2 has2
      rw [lxs_app, lxs_take, lxs_drop] at rn2
      have out2 := rn.out rn2
      rw [hk3]
      clear hk3
      refine seqI fun k3 hk3 => ?_
      simp only [dSeq, dAsg, dCB, dCons, dNil, dVar, onVs, vals, val, slot, setR, fGcd, dIfS, dTV, dOp, dBin, onV2, fLt, fLe, fGt, fGe, fAdd, fSub, fMul, fDiv, fMod, fI0, dC, dUn, onV, fNeg, dNext, dRet, dTup, onD, dats, fDivZ, fI, fPow, Few, retP, fAbs, fInt, fMax, fMin, fLen, fSqrt, fEq, fNe, dNot, dAnd, dOr, dAndV, dOrV, dNotV, dIfE, dDrop, dRetN, dPar, noO, dSetL, dLst, dOfL, dOwnM, onOwn, onDat, kAppend, kInsert, dSetItem, dAddItem, dIx, onItems, items, onInt, dNoPart, dPart, dSlice, onL, litems, dSlL, dCat, onM, mitems, dTupOf, dSeqI, dRng1, dRng2, dCallP, dCallB, dCallF, noSelf, onArgs, dats2, dIsi, tyName, dYes, dgTup, dgCons, dgNil, retB, dBreak, dCont, ne_eq, not_false_eq_true, true_and, and_true, List.getElem?_cons_zero, List.getElem?_cons_succ, List.set_cons_zero, List.set_cons_succ, Option.map, List.length_cons, List.length_nil, dLc_eq, dLc2_eq, dFor_eq, dSortSet, dSort, dListOf, dIsN, dNotN, isNo, dAug, dMulA, dgUnl, dCatT, dSlT, onT, titems, dEnum, dZip, dZipM, seqs, dRetL, dPar3, dRevT, dLstRg, dTupRg, dRg1, dRg2, dChainLe, List.nil_append, List.cons_append, if_true, if_false, dFrz, dLcO, dMin2D, dAppX, dParL, dParLL, dRepL, fNeS, fEqS, dgSet, dTupZip, dFgt, fIsB, fNotB, List.map_cons, List.map_nil, fw0, fw1, fw2, fw3, fw4, fw5, fw6, fw7, fw8, fw9, fw10, fw11, fw12, fw13, fw14, fw15]
      refine ite_b (c := (n : Int) - 1 ≤ n2) (fun _ => ?_) fun z => absurd (show (n : Int) - 1 ≤ n2 by omega) z
      refine ite_nf (c := (n2 : Int) ≤ n) (by omega) (u_rows_of ul (by omega) (by omega) fun z hz => ?_)
      obtain ⟨rs3, n3, rfl, col3, has3⟩ := hz
      refine u_rows_many col3 has3 ?_
      have wd := rn.wide (Rown.of col3 has3) (by omega)
      simp only [dSeq, dAsg, dCB, dCons, dNil, dVar, onVs, vals, val, slot, setR, fGcd, dIfS, dTV, dOp, dBin, onV2, fLt, fLe, fGt, fGe, fAdd, fSub, fMul, fDiv, fMod, fI0, dC, dUn, onV, fNeg, dNext, dRet, dTup, onD, dats, fDivZ, fI, fPow, Few, retP, fAbs, fInt, fMax, fMin, fLen, fSqrt, fEq, fNe, dNot, dAnd, dOr, dAndV, dOrV, dNotV, dIfE, dDrop, dRetN, dPar, noO, dSetL, dLst, dOfL, dOwnM, onOwn, onDat, kAppend, kInsert, dSetItem, dAddItem, dIx, onItems, items, onInt, dNoPart, dPart, dSlice, onL, litems, dSlL, dCat, onM, mitems, dTupOf, dSeqI, dRng1, dRng2, dCallP, dCallB, dCallF, noSelf, onArgs, dats2, dIsi, tyName, dYes, dgTup, dgCons, dgNil, retB, dBreak, dCont, ne_eq, not_false_eq_true, true_and, and_true, List.getElem?_cons_zero, List.getElem?_cons_succ, List.set_cons_zero, List.set_cons_succ, Option.map, List.length_cons, List.length_nil, dLc_eq, dLc2_eq, dFor_eq, dSortSet, dSort, dListOf, dIsN, dNotN, isNo, dAug, dMulA, dgUnl, dCatT, dSlT, onT, titems, dEnum, dZip, dZipM, seqs, dRetL, dPar3, dRevT, dLstRg, dTupRg, dRg1, dRg2, dChainLe, List.nil_append, List.cons_append, if_true, if_false, dFrz, dLcO, dMin2D, dAppX, dParL, dParLL, dRepL, fNeS, fEqS, dgSet, dTupZip, dFgt, fIsB, fNotB, List.map_cons, List.map_nil, fw0, fw1, fw2, fw3, fw4, fw5, fw6, fw7, fw8, fw9, fw10, fw11, fw12, fw13, fw14, fw15]
      refine ite_f (c := (n3 : Int) < n) (by omega) ?_
      rw [hk3]
      clear hk3
      refine seqI fun k3 hk3 => ?_
      simp only [dSeq, dAsg, dCB, dCons, dNil, dVar, onVs, vals, val, slot, setR, fGcd, dIfS, dTV, dOp, dBin, onV2, fLt, fLe, fGt, fGe, fAdd, fSub, fMul, fDiv, fMod, fI0, dC, dUn, onV, fNeg, dNext, dRet, dTup, onD, dats, fDivZ, fI, fPow, Few, retP, fAbs, fInt, fMax, fMin, fLen, fSqrt, fEq, fNe, dNot, dAnd, dOr, dAndV, dOrV, dNotV, dIfE, dDrop, dRetN, dPar, noO, dSetL, dLst, dOfL, dOwnM, onOwn, onDat, kAppend, kInsert, dSetItem, dAddItem, dIx, onItems, items, onInt, dNoPart, dPart, dSlice, onL, litems, dSlL, dCat, onM, mitems, dTupOf, dSeqI, dRng1, dRng2, dCallP, dCallB, dCallF, noSelf, onArgs, dats2, dIsi, tyName, dYes, dgTup, dgCons, dgNil, retB, dBreak, dCont, ne_eq, not_false_eq_true, true_and, and_true, List.getElem?_cons_zero, List.getElem?_cons_succ, List.set_cons_zero, List.set_cons_succ, Option.map, List.length_cons, List.length_nil, dLc_eq, dLc2_eq, dFor_eq, dSortSet, dSort, dListOf, dIsN, dNotN, isNo, dAug, dMulA, dgUnl, dCatT, dSlT, onT, titems, dEnum, dZip, dZipM, seqs, dRetL, dPar3, dRevT, dLstRg, dTupRg, dRg1, dRg2, dChainLe, List.nil_append, List.cons_append, if_true, if_false, dFrz, dLcO, dMin2D, dAppX, dParL, dParLL, dRepL, fNeS, fEqS, dgSet, dTupZip, dFgt, fIsB, fNotB, List.map_cons, List.map_nil, fw0, fw1, fw2, fw3, fw4, fw5, fw6, fw7, fw8, fw9, fw10, fw11, fw12, fw13, fw14, fw15]
      refine u_take hb3 (by omega) (by omega) (by omega) fun dx bag4 dx0 dx1 hb4 => ?_
      try simp only [dSeq, dAsg, dCB, dCons, dNil, dVar, onVs, vals, val, slot, setR, fGcd, dIfS, dTV, dOp, dBin, onV2, fLt, fLe, fGt, fGe, fAdd, fSub, fMul, fDiv, fMod, fI0, dC, dUn, onV, fNeg, dNext, dRet, dTup, onD, dats, fDivZ, fI, fPow, Few, retP, fAbs, fInt, fMax, fMin, fLen, fSqrt, fEq, fNe, dNot, dAnd, dOr, dAndV, dOrV, dNotV, dIfE, dDrop, dRetN, dPar, noO, dSetL, dLst, dOfL, dOwnM, onOwn, onDat, kAppend, kInsert, dSetItem, dAddItem, dIx, onItems, items, onInt, dNoPart, dPart, dSlice, onL, litems, dSlL, dCat, onM, mitems, dTupOf, dSeqI, dRng1, dRng2, dCallP, dCallB, dCallF, noSelf, onArgs, dats2, dIsi, tyName, dYes, dgTup, dgCons, dgNil, retB, dBreak, dCont, ne_eq, not_false_eq_true, true_and, and_true, List.getElem?_cons_zero, List.getElem?_cons_succ, List.set_cons_zero, List.set_cons_succ, Option.map, List.length_cons, List.length_nil, dLc_eq, dLc2_eq, dFor_eq, dSortSet, dSort, dListOf, dIsN, dNotN, isNo, dAug, dMulA, dgUnl, dCatT, dSlT, onT, titems, dEnum, dZip, dZipM, seqs, dRetL, dPar3, dRevT, dLstRg, dTupRg, dRg1, dRg2, dChainLe, List.nil_append, List.cons_append, if_true, if_false, dFrz, dLcO, dMin2D, dAppX, dParL, dParLL, dRepL, fNeS, fEqS, dgSet, dTupZip, dFgt, fIsB, fNotB, List.map_cons, List.map_nil, fw0, fw1, fw2, fw3, fw4, fw5, fw6, fw7, fw8, fw9, fw10, fw11, fw12, fw13, fw14, fw15]
      refine u_take hb4 (by omega) (by omega) (by omega) fun dz bag5 dz0 dz1 hb5 => ?_
      try simp only [dSeq, dAsg, dCB, dCons, dNil, dVar, onVs, vals, val, slot, setR, fGcd, dIfS, dTV, dOp, dBin, onV2, fLt, fLe, fGt, fGe, fAdd, fSub, fMul, fDiv, fMod, fI0, dC, dUn, onV, fNeg, dNext, dRet, dTup, onD, dats, fDivZ, fI, fPow, Few, retP, fAbs, fInt, fMax, fMin, fLen, fSqrt, fEq, fNe, dNot, dAnd, dOr, dAndV, dOrV, dNotV, dIfE, dDrop, dRetN, dPar, noO, dSetL, dLst, dOfL, dOwnM, onOwn, onDat, kAppend, kInsert, dSetItem, dAddItem, dIx, onItems, items, onInt, dNoPart, dPart, dSlice, onL, litems, dSlL, dCat, onM, mitems, dTupOf, dSeqI, dRng1, dRng2, dCallP, dCallB, dCallF, noSelf, onArgs, dats2, dIsi, tyName, dYes, dgTup, dgCons, dgNil, retB, dBreak, dCont, ne_eq, not_false_eq_true, true_and, and_true, List.getElem?_cons_zero, List.getElem?_cons_succ, List.set_cons_zero, List.set_cons_succ, Option.map, List.length_cons, List.length_nil, dLc_eq, dLc2_eq, dFor_eq, dSortSet, dSort, dListOf, dIsN, dNotN, isNo, dAug, dMulA, dgUnl, dCatT, dSlT, onT, titems, dEnum, dZip, dZipM, seqs, dRetL, dPar3, dRevT, dLstRg, dTupRg, dRg1, dRg2, dChainLe, List.nil_append, List.cons_append, if_true, if_false, dFrz, dLcO, dMin2D, dAppX, dParL, dParLL, dRepL, fNeS, fEqS, dgSet, dTupZip, dFgt, fIsB, fNotB, List.map_cons, List.map_nil, fw0, fw1, fw2, fw3, fw4, fw5, fw6, fw7, fw8, fw9, fw10, fw11, fw12, fw13, fw14, fw15]
      rw [hk3]
      clear hk3
      refine seqI fun k3 hk3 => ?_
      simp only [dSeq, dAsg, dCB, dCons, dNil, dVar, onVs, vals, val, slot, setR, fGcd, dIfS, dTV, dOp, dBin, onV2, fLt, fLe, fGt, fGe, fAdd, fSub, fMul, fDiv, fMod, fI0, dC, dUn, onV, fNeg, dNext, dRet, dTup, onD, dats, fDivZ, fI, fPow, Few, retP, fAbs, fInt, fMax, fMin, fLen, fSqrt, fEq, fNe, dNot, dAnd, dOr, dAndV, dOrV, dNotV, dIfE, dDrop, dRetN, dPar, noO, dSetL, dLst, dOfL, dOwnM, onOwn, onDat, kAppend, kInsert, dSetItem, dAddItem, dIx, onItems, items, onInt, dNoPart, dPart, dSlice, onL, litems, dSlL, dCat, onM, mitems, dTupOf, dSeqI, dRng1, dRng2, dCallP, dCallB, dCallF, noSelf, onArgs, dats2, dIsi, tyName, dYes, dgTup, dgCons, dgNil, retB, dBreak, dCont, ne_eq, not_false_eq_true, true_and, and_true, List.getElem?_cons_zero, List.getElem?_cons_succ, List.set_cons_zero, List.set_cons_succ, Option.map, List.length_cons, List.length_nil, dLc_eq, dLc2_eq, dFor_eq, dSortSet, dSort, dListOf, dIsN, dNotN, isNo, dAug, dMulA, dgUnl, dCatT, dSlT, onT, titems, dEnum, dZip, dZipM, seqs, dRetL, dPar3, dRevT, dLstRg, dTupRg, dRg1, dRg2, dChainLe, List.nil_append, List.cons_append, if_true, if_false, dFrz, dLcO, dMin2D, dAppX, dParL, dParLL, dRepL, fNeS, fEqS, dgSet, dTupZip, dFgt, fIsB, fNotB, List.map_cons, List.map_nil, fw0, fw1, fw2, fw3, fw4, fw5, fw6, fw7, fw8, fw9, fw10, fw11, fw12, fw13, fw14, fw15]
      refine u_moved_lamps (ls := ls) (x := dx - 50) (z := dz - 50) (by show ls.length ≤ 1000; omega) ?_
      try simp only [dSeq, dAsg, dCB, dCons, dNil, dVar, onVs, vals, val, slot, setR, fGcd, dIfS, dTV, dOp, dBin, onV2, fLt, fLe, fGt, fGe, fAdd, fSub, fMul, fDiv, fMod, fI0, dC, dUn, onV, fNeg, dNext, dRet, dTup, onD, dats, fDivZ, fI, fPow, Few, retP, fAbs, fInt, fMax, fMin, fLen, fSqrt, fEq, fNe, dNot, dAnd, dOr, dAndV, dOrV, dNotV, dIfE, dDrop, dRetN, dPar, noO, dSetL, dLst, dOfL, dOwnM, onOwn, onDat, kAppend, kInsert, dSetItem, dAddItem, dIx, onItems, items, onInt, dNoPart, dPart, dSlice, onL, litems, dSlL, dCat, onM, mitems, dTupOf, dSeqI, dRng1, dRng2, dCallP, dCallB, dCallF, noSelf, onArgs, dats2, dIsi, tyName, dYes, dgTup, dgCons, dgNil, retB, dBreak, dCont, ne_eq, not_false_eq_true, true_and, and_true, List.getElem?_cons_zero, List.getElem?_cons_succ, List.set_cons_zero, List.set_cons_succ, Option.map, List.length_cons, List.length_nil, dLc_eq, dLc2_eq, dFor_eq, dSortSet, dSort, dListOf, dIsN, dNotN, isNo, dAug, dMulA, dgUnl, dCatT, dSlT, onT, titems, dEnum, dZip, dZipM, seqs, dRetL, dPar3, dRevT, dLstRg, dTupRg, dRg1, dRg2, dChainLe, List.nil_append, List.cons_append, if_true, if_false, dFrz, dLcO, dMin2D, dAppX, dParL, dParLL, dRepL, fNeS, fEqS, dgSet, dTupZip, dFgt, fIsB, fNotB, List.map_cons, List.map_nil, fw0, fw1, fw2, fw3, fw4, fw5, fw6, fw7, fw8, fw9, fw10, fw11, fw12, fw13, fw14, fw15]
      refine u_mirrored_lamps (ls := ls) (d := dx - 50) (by omega) (by omega) (by omega) fun z hz => ?_
      obtain ⟨ms, rfl, um, lm, pm⟩ := hz
      try simp only [dSeq, dAsg, dCB, dCons, dNil, dVar, onVs, vals, val, slot, setR, fGcd, dIfS, dTV, dOp, dBin, onV2, fLt, fLe, fGt, fGe, fAdd, fSub, fMul, fDiv, fMod, fI0, dC, dUn, onV, fNeg, dNext, dRet, dTup, onD, dats, fDivZ, fI, fPow, Few, retP, fAbs, fInt, fMax, fMin, fLen, fSqrt, fEq, fNe, dNot, dAnd, dOr, dAndV, dOrV, dNotV, dIfE, dDrop, dRetN, dPar, noO, dSetL, dLst, dOfL, dOwnM, onOwn, onDat, kAppend, kInsert, dSetItem, dAddItem, dIx, onItems, items, onInt, dNoPart, dPart, dSlice, onL, litems, dSlL, dCat, onM, mitems, dTupOf, dSeqI, dRng1, dRng2, dCallP, dCallB, dCallF, noSelf, onArgs, dats2, dIsi, tyName, dYes, dgTup, dgCons, dgNil, retB, dBreak, dCont, ne_eq, not_false_eq_true, true_and, and_true, List.getElem?_cons_zero, List.getElem?_cons_succ, List.set_cons_zero, List.set_cons_succ, Option.map, List.length_cons, List.length_nil, dLc_eq, dLc2_eq, dFor_eq, dSortSet, dSort, dListOf, dIsN, dNotN, isNo, dAug, dMulA, dgUnl, dCatT, dSlT, onT, titems, dEnum, dZip, dZipM, seqs, dRetL, dPar3, dRevT, dLstRg, dTupRg, dRg1, dRg2, dChainLe, List.nil_append, List.cons_append, if_true, if_false, dFrz, dLcO, dMin2D, dAppX, dParL, dParLL, dRepL, fNeS, fEqS, dgSet, dTupZip, dFgt, fIsB, fNotB, List.map_cons, List.map_nil, fw0, fw1, fw2, fw3, fw4, fw5, fw6, fw7, fw8, fw9, fw10, fw11, fw12, fw13, fw14, fw15]
      have emv : lxs (ls.map fun l => (⟨l.x + (dx - 50), l.z + (dz - 50), l.sh, l.w⟩ : Lmp)) = (lxs ls).map fun x => x + (dx - 50) := by
        unfold lxs
        rw [List.map_map, List.map_map]
        rfl
      have lmv : (ls.map fun l => (⟨l.x + (dx - 50), l.z + (dz - 50), l.sh, l.w⟩ : Lmp)).length = ls.length := List.length_map ..
      generalize (ls.map fun l => (⟨l.x + (dx - 50), l.z + (dz - 50), l.sh, l.w⟩ : Lmp)) = vs at emv lmv
      have uv : UpL (lxs vs) := by
        rw [emv]
        unfold UpL
        rw [List.pairwise_map]
        exact ul.imp fun {a b} h => by omega
      have iv : ∀ k, HasC (lxs vs) sp k ↔ HasC (lxs ls) sp k := fun k => by rw [emv]; exact HasC.move_iff
      have im : ∀ k, HasC (lxs ms) sp k ↔ HasC (lxs ls) sp k := fun k => ⟨fun h => HasC.mirror_iff.mp (h.perm pm), fun h => (HasC.mirror_iff.mpr h).perm pm.symm⟩
      rw [hk3]
      clear hk3
      refine seqI fun k3 hk3 => ?_
      simp only [dSeq, dAsg, dCB, dCons, dNil, dVar, onVs, vals, val, slot, setR, fGcd, dIfS, dTV, dOp, dBin, onV2, fLt, fLe, fGt, fGe, fAdd, fSub, fMul, fDiv, fMod, fI0, dC, dUn, onV, fNeg, dNext, dRet, dTup, onD, dats, fDivZ, fI, fPow, Few, retP, fAbs, fInt, fMax, fMin, fLen, fSqrt, fEq, fNe, dNot, dAnd, dOr, dAndV, dOrV, dNotV, dIfE, dDrop, dRetN, dPar, noO, dSetL, dLst, dOfL, dOwnM, onOwn, onDat, kAppend, kInsert, dSetItem, dAddItem, dIx, onItems, items, onInt, dNoPart, dPart, dSlice, onL, litems, dSlL, dCat, onM, mitems, dTupOf, dSeqI, dRng1, dRng2, dCallP, dCallB, dCallF, noSelf, onArgs, dats2, dIsi, tyName, dYes, dgTup, dgCons, dgNil, retB, dBreak, dCont, ne_eq, not_false_eq_true, true_and, and_true, List.getElem?_cons_zero, List.getElem?_cons_succ, List.set_cons_zero, List.set_cons_succ, Option.map, List.length_cons, List.length_nil, dLc_eq, dLc2_eq, dFor_eq, dSortSet, dSort, dListOf, dIsN, dNotN, isNo, dAug, dMulA, dgUnl, dCatT, dSlT, onT, titems, dEnum, dZip, dZipM, seqs, dRetL, dPar3, dRevT, dLstRg, dTupRg, dRg1, dRg2, dChainLe, List.nil_append, List.cons_append, if_true, if_false, dFrz, dLcO, dMin2D, dAppX, dParL, dParLL, dRepL, fNeS, fEqS, dgSet, dTupZip, dFgt, fIsB, fNotB, List.map_cons, List.map_nil, fw0, fw1, fw2, fw3, fw4, fw5, fw6, fw7, fw8, fw9, fw10, fw11, fw12, fw13, fw14, fw15]
      rw [show [eP vs, eP ms] = List.map eP [vs, ms] from rfl]
      refine for_st [vs, ms] eP (fun a : Option Ent => [some (Ent.ro (PyData.list (List.map PyData.int ns))), some (Ent.own bag5), some (Ent.d (PyData.int (0 + ↑i))), some (Ent.d (PyData.tuple (List.map eLm ls))), some (Ent.d (PyData.int sp)), some (Ent.d (PyData.int ↑n)), some (Ent.d (PyData.int ↑c)), some (Ent.d (PyData.int ↑n2)), some (Ent.d (PyData.int (dx - 50))), some (Ent.d (PyData.int (dz - 50))), some (Ent.d (PyData.list (List.map eP [vs, ms]))), a, z.snd 10, z.snd 11, z.snd 12]) (fun _ _ => True) (z.snd 9) rfl trivial (fun j a s ha _ C2 hC2 => ?_) fun s _ => ?_
      · have fa : UpL (lxs a) ∧ a.length ≤ 7 ∧ ∀ k, HasC (lxs a) sp k ↔ HasC (lxs ls) sp k := by
          have := List.mem_of_getElem? ha
          simp only [List.mem_cons, List.not_mem_nil, or_false] at this
          rcases this with rfl | rfl
          · exact ⟨uv, by omega, iv⟩
          · exact ⟨um, by omega, im⟩
        obtain ⟨ua, la, ia⟩ := fa
        simp only [dSeq, dAsg, dCB, dCons, dNil, dVar, onVs, vals, val, slot, setR, fGcd, dIfS, dTV, dOp, dBin, onV2, fLt, fLe, fGt, fGe, fAdd, fSub, fMul, fDiv, fMod, fI0, dC, dUn, onV, fNeg, dNext, dRet, dTup, onD, dats, fDivZ, fI, fPow, Few, retP, fAbs, fInt, fMax, fMin, fLen, fSqrt, fEq, fNe, dNot, dAnd, dOr, dAndV, dOrV, dNotV, dIfE, dDrop, dRetN, dPar, noO, dSetL, dLst, dOfL, dOwnM, onOwn, onDat, kAppend, kInsert, dSetItem, dAddItem, dIx, onItems, items, onInt, dNoPart, dPart, dSlice, onL, litems, dSlL, dCat, onM, mitems, dTupOf, dSeqI, dRng1, dRng2, dCallP, dCallB, dCallF, noSelf, onArgs, dats2, dIsi, tyName, dYes, dgTup, dgCons, dgNil, retB, dBreak, dCont, ne_eq, not_false_eq_true, true_and, and_true, List.getElem?_cons_zero, List.getElem?_cons_succ, List.set_cons_zero, List.set_cons_succ, Option.map, List.length_cons, List.length_nil, dLc_eq, dLc2_eq, dFor_eq, dSortSet, dSort, dListOf, dIsN, dNotN, isNo, dAug, dMulA, dgUnl, dCatT, dSlT, onT, titems, dEnum, dZip, dZipM, seqs, dRetL, dPar3, dRevT, dLstRg, dTupRg, dRg1, dRg2, dChainLe, List.nil_append, List.cons_append, if_true, if_false, dFrz, dLcO, dMin2D, dAppX, dParL, dParLL, dRepL, fNeS, fEqS, dgSet, dTupZip, dFgt, fIsB, fNotB, List.map_cons, List.map_nil, fw0, fw1, fw2, fw3, fw4, fw5, fw6, fw7, fw8, fw9, fw10, fw11, fw12, fw13, fw14, fw15]
        refine u_rows_of ua sp1 (by omega) fun z hz => ?_
        obtain ⟨rs4, n4, rfl, col4, has4⟩ := hz
        refine u_rows_many col4 has4 ?_
        have e4 : n4 = n := (Rown.of col4 has4).same rn (ia n4).mp (ia n).mpr
        simp only [dSeq, dAsg, dCB, dCons, dNil, dVar, onVs, vals, val, slot, setR, fGcd, dIfS, dTV, dOp, dBin, onV2, fLt, fLe, fGt, fGe, fAdd, fSub, fMul, fDiv, fMod, fI0, dC, dUn, onV, fNeg, dNext, dRet, dTup, onD, dats, fDivZ, fI, fPow, Few, retP, fAbs, fInt, fMax, fMin, fLen, fSqrt, fEq, fNe, dNot, dAnd, dOr, dAndV, dOrV, dNotV, dIfE, dDrop, dRetN, dPar, noO, dSetL, dLst, dOfL, dOwnM, onOwn, onDat, kAppend, kInsert, dSetItem, dAddItem, dIx, onItems, items, onInt, dNoPart, dPart, dSlice, onL, litems, dSlL, dCat, onM, mitems, dTupOf, dSeqI, dRng1, dRng2, dCallP, dCallB, dCallF, noSelf, onArgs, dats2, dIsi, tyName, dYes, dgTup, dgCons, dgNil, retB, dBreak, dCont, ne_eq, not_false_eq_true, true_and, and_true, List.getElem?_cons_zero, List.getElem?_cons_succ, List.set_cons_zero, List.set_cons_succ, Option.map, List.length_cons, List.length_nil, dLc_eq, dLc2_eq, dFor_eq, dSortSet, dSort, dListOf, dIsN, dNotN, isNo, dAug, dMulA, dgUnl, dCatT, dSlT, onT, titems, dEnum, dZip, dZipM, seqs, dRetL, dPar3, dRevT, dLstRg, dTupRg, dRg1, dRg2, dChainLe, List.nil_append, List.cons_append, if_true, if_false, dFrz, dLcO, dMin2D, dAppX, dParL, dParLL, dRepL, fNeS, fEqS, dgSet, dTupZip, dFgt, fIsB, fNotB, List.map_cons, List.map_nil, fw0, fw1, fw2, fw3, fw4, fw5, fw6, fw7, fw8, fw9, fw10, fw11, fw12, fw13, fw14, fw15, sh_int, eqv_int]
        refine ite_nf (c := (n4 : Int) = n) (by omega) ?_
        refine u_most_abreast ua sp1 (by omega) fun z hz => ?_
        obtain ⟨m5, y5, rfl, has5, max5⟩ := hz
        have e5 : m5 = n := Rown.same ⟨has5, max5⟩ rn (ia m5).mp (ia n).mpr
        simp only [dSeq, dAsg, dCB, dCons, dNil, dVar, onVs, vals, val, slot, setR, fGcd, dIfS, dTV, dOp, dBin, onV2, fLt, fLe, fGt, fGe, fAdd, fSub, fMul, fDiv, fMod, fI0, dC, dUn, onV, fNeg, dNext, dRet, dTup, onD, dats, fDivZ, fI, fPow, Few, retP, fAbs, fInt, fMax, fMin, fLen, fSqrt, fEq, fNe, dNot, dAnd, dOr, dAndV, dOrV, dNotV, dIfE, dDrop, dRetN, dPar, noO, dSetL, dLst, dOfL, dOwnM, onOwn, onDat, kAppend, kInsert, dSetItem, dAddItem, dIx, onItems, items, onInt, dNoPart, dPart, dSlice, onL, litems, dSlL, dCat, onM, mitems, dTupOf, dSeqI, dRng1, dRng2, dCallP, dCallB, dCallF, noSelf, onArgs, dats2, dIsi, tyName, dYes, dgTup, dgCons, dgNil, retB, dBreak, dCont, ne_eq, not_false_eq_true, true_and, and_true, List.getElem?_cons_zero, List.getElem?_cons_succ, List.set_cons_zero, List.set_cons_succ, Option.map, List.length_cons, List.length_nil, dLc_eq, dLc2_eq, dFor_eq, dSortSet, dSort, dListOf, dIsN, dNotN, isNo, dAug, dMulA, dgUnl, dCatT, dSlT, onT, titems, dEnum, dZip, dZipM, seqs, dRetL, dPar3, dRevT, dLstRg, dTupRg, dRg1, dRg2, dChainLe, List.nil_append, List.cons_append, if_true, if_false, dFrz, dLcO, dMin2D, dAppX, dParL, dParLL, dRepL, fNeS, fEqS, dgSet, dTupZip, dFgt, fIsB, fNotB, List.map_cons, List.map_nil, fw0, fw1, fw2, fw3, fw4, fw5, fw6, fw7, fw8, fw9, fw10, fw11, fw12, fw13, fw14, fw15, on0, sh_int, eqv_int]
        refine ite_nf (c := (m5 : Int) = n) (by omega) ?_
        exact hC2 _ trivial
      rw [hk3]
      clear hk3
      refine seqI fun k3 hk3 => ?_
      simp only [dSeq, dAsg, dCB, dCons, dNil, dVar, onVs, vals, val, slot, setR, fGcd, dIfS, dTV, dOp, dBin, onV2, fLt, fLe, fGt, fGe, fAdd, fSub, fMul, fDiv, fMod, fI0, dC, dUn, onV, fNeg, dNext, dRet, dTup, onD, dats, fDivZ, fI, fPow, Few, retP, fAbs, fInt, fMax, fMin, fLen, fSqrt, fEq, fNe, dNot, dAnd, dOr, dAndV, dOrV, dNotV, dIfE, dDrop, dRetN, dPar, noO, dSetL, dLst, dOfL, dOwnM, onOwn, onDat, kAppend, kInsert, dSetItem, dAddItem, dIx, onItems, items, onInt, dNoPart, dPart, dSlice, onL, litems, dSlL, dCat, onM, mitems, dTupOf, dSeqI, dRng1, dRng2, dCallP, dCallB, dCallF, noSelf, onArgs, dats2, dIsi, tyName, dYes, dgTup, dgCons, dgNil, retB, dBreak, dCont, ne_eq, not_false_eq_true, true_and, and_true, List.getElem?_cons_zero, List.getElem?_cons_succ, List.set_cons_zero, List.set_cons_succ, Option.map, List.length_cons, List.length_nil, dLc_eq, dLc2_eq, dFor_eq, dSortSet, dSort, dListOf, dIsN, dNotN, isNo, dAug, dMulA, dgUnl, dCatT, dSlT, onT, titems, dEnum, dZip, dZipM, seqs, dRetL, dPar3, dRevT, dLstRg, dTupRg, dRg1, dRg2, dChainLe, List.nil_append, List.cons_append, if_true, if_false, dFrz, dLcO, dMin2D, dAppX, dParL, dParLL, dRepL, fNeS, fEqS, dgSet, dTupZip, dFgt, fIsB, fNotB, List.map_cons, List.map_nil, fw0, fw1, fw2, fw3, fw4, fw5, fw6, fw7, fw8, fw9, fw10, fw11, fw12, fw13, fw14, fw15]
      rw [hk3]
      clear hk3
      refine seqI fun k3 hk3 => ?_
      simp only [dSeq, dAsg, dCB, dCons, dNil, dVar, onVs, vals, val, slot, setR, fGcd, dIfS, dTV, dOp, dBin, onV2, fLt, fLe, fGt, fGe, fAdd, fSub, fMul, fDiv, fMod, fI0, dC, dUn, onV, fNeg, dNext, dRet, dTup, onD, dats, fDivZ, fI, fPow, Few, retP, fAbs, fInt, fMax, fMin, fLen, fSqrt, fEq, fNe, dNot, dAnd, dOr, dAndV, dOrV, dNotV, dIfE, dDrop, dRetN, dPar, noO, dSetL, dLst, dOfL, dOwnM, onOwn, onDat, kAppend, kInsert, dSetItem, dAddItem, dIx, onItems, items, onInt, dNoPart, dPart, dSlice, onL, litems, dSlL, dCat, onM, mitems, dTupOf, dSeqI, dRng1, dRng2, dCallP, dCallB, dCallF, noSelf, onArgs, dats2, dIsi, tyName, dYes, dgTup, dgCons, dgNil, retB, dBreak, dCont, ne_eq, not_false_eq_true, true_and, and_true, List.getElem?_cons_zero, List.getElem?_cons_succ, List.set_cons_zero, List.set_cons_succ, Option.map, List.length_cons, List.length_nil, dLc_eq, dLc2_eq, dFor_eq, dSortSet, dSort, dListOf, dIsN, dNotN, isNo, dAug, dMulA, dgUnl, dCatT, dSlT, onT, titems, dEnum, dZip, dZipM, seqs, dRetL, dPar3, dRevT, dLstRg, dTupRg, dRg1, dRg2, dChainLe, List.nil_append, List.cons_append, if_true, if_false, dFrz, dLcO, dMin2D, dAppX, dParL, dParLL, dRepL, fNeS, fEqS, dgSet, dTupZip, dFgt, fIsB, fNotB, List.map_cons, List.map_nil, fw0, fw1, fw2, fw3, fw4, fw5, fw6, fw7, fw8, fw9, fw10, fw11, fw12, fw13, fw14, fw15]
      refine u__law_close_picture hb5 (by omega) fun y bag6 hy hb6 => ?_
      obtain ⟨ws0, rfl, wl0, wu0, wx0⟩ := hy
      simp only [dSeq, dAsg, dCB, dCons, dNil, dVar, onVs, vals, val, slot, setR, fGcd, dIfS, dTV, dOp, dBin, onV2, fLt, fLe, fGt, fGe, fAdd, fSub, fMul, fDiv, fMod, fI0, dC, dUn, onV, fNeg, dNext, dRet, dTup, onD, dats, fDivZ, fI, fPow, Few, retP, fAbs, fInt, fMax, fMin, fLen, fSqrt, fEq, fNe, dNot, dAnd, dOr, dAndV, dOrV, dNotV, dIfE, dDrop, dRetN, dPar, noO, dSetL, dLst, dOfL, dOwnM, onOwn, onDat, kAppend, kInsert, dSetItem, dAddItem, dIx, onItems, items, onInt, dNoPart, dPart, dSlice, onL, litems, dSlL, dCat, onM, mitems, dTupOf, dSeqI, dRng1, dRng2, dCallP, dCallB, dCallF, noSelf, onArgs, dats2, dIsi, tyName, dYes, dgTup, dgCons, dgNil, retB, dBreak, dCont, ne_eq, not_false_eq_true, true_and, and_true, List.getElem?_cons_zero, List.getElem?_cons_succ, List.set_cons_zero, List.set_cons_succ, Option.map, List.length_cons, List.length_nil, dLc_eq, dLc2_eq, dFor_eq, dSortSet, dSort, dListOf, dIsN, dNotN, isNo, dAug, dMulA, dgUnl, dCatT, dSlT, onT, titems, dEnum, dZip, dZipM, seqs, dRetL, dPar3, dRevT, dLstRg, dTupRg, dRg1, dRg2, dChainLe, List.nil_append, List.cons_append, if_true, if_false, dFrz, dLcO, dMin2D, dAppX, dParL, dParLL, dRepL, fNeS, fEqS, dgSet, dTupZip, dFgt, fIsB, fNotB, List.map_cons, List.map_nil, fw0, fw1, fw2, fw3, fw4, fw5, fw6, fw7, fw8, fw9, fw10, fw11, fw12, fw13, fw14, fw15, eP]
      have e7 : DV.cutD (ws0.map eLm) none (some 7) = (ws0.take 7).map eLm := eP_take (c := 7) rfl
      rw [e7]
      clear e7
      have uw : UpL (lxs (ws0.take 7)) := by rw [lxs_take]; exact wu0.sub (List.take_sublist ..)
      have lw : (ws0.take 7).length ≤ 7 := by rw [List.length_take]; omega
      have wx : ∀ l ∈ ws0.take 7, -20 ≤ l.x ∧ l.x ≤ 40 := fun l hl => wx0 l (List.mem_of_mem_take hl)
      generalize ws0.take 7 = ws at uw lw wx
      clear wu0 wl0 wx0 ws0
      refine lc_map ws eLm (fun l => eLm ⟨l.x + 1000, l.z, l.sh, l.w⟩) (hv1 rfl) (by omega) (fun i l hl C1 C2 n hn hc => ?_) ?_
      · simp only [dSeq, dAsg, dCB, dCons, dNil, dVar, onVs, vals, val, slot, setR, fGcd, dIfS, dTV, dOp, dBin, onV2, fLt, fLe, fGt, fGe, fAdd, fSub, fMul, fDiv, fMod, fI0, dC, dUn, onV, fNeg, dNext, dRet, dTup, onD, dats, fDivZ, fI, fPow, Few, retP, fAbs, fInt, fMax, fMin, fLen, fSqrt, fEq, fNe, dNot, dAnd, dOr, dAndV, dOrV, dNotV, dIfE, dDrop, dRetN, dPar, noO, dSetL, dLst, dOfL, dOwnM, onOwn, onDat, kAppend, kInsert, dSetItem, dAddItem, dIx, onItems, items, onInt, dNoPart, dPart, dSlice, onL, litems, dSlL, dCat, onM, mitems, dTupOf, dSeqI, dRng1, dRng2, dCallP, dCallB, dCallF, noSelf, onArgs, dats2, dIsi, tyName, dYes, dgTup, dgCons, dgNil, retB, dBreak, dCont, ne_eq, not_false_eq_true, true_and, and_true, List.getElem?_cons_zero, List.getElem?_cons_succ, List.set_cons_zero, List.set_cons_succ, Option.map, List.length_cons, List.length_nil, dLc_eq, dLc2_eq, dFor_eq, dSortSet, dSort, dListOf, dIsN, dNotN, isNo, dAug, dMulA, dgUnl, dCatT, dSlT, onT, titems, dEnum, dZip, dZipM, seqs, dRetL, dPar3, dRevT, dLstRg, dTupRg, dRg1, dRg2, dChainLe, List.nil_append, List.cons_append, if_true, if_false, dFrz, dLcO, dMin2D, dAppX, dParL, dParLL, dRepL, fNeS, fEqS, dgSet, dTupZip, dFgt, fIsB, fNotB, List.map_cons, List.map_nil, fw0, fw1, fw2, fw3, fw4, fw5, fw6, fw7, fw8, fw9, fw10, fw11, fw12, fw13, fw14, fw15, eLm, on0, cut_tail, List.drop_one, List.tail_cons, wipeR]
        exact ⟨hn, hc⟩
      rw [show ws.map (fun l => eLm ⟨l.x + 1000, l.z, l.sh, l.w⟩) = (ws.map fun l => (⟨l.x + 1000, l.z, l.sh, l.w⟩ : Lmp)).map eLm by rw [List.map_map]; rfl]
      have eo : lxs (ws.map fun l => (⟨l.x + 1000, l.z, l.sh, l.w⟩ : Lmp)) = (lxs ws).map fun x => x + 1000 := by
        unfold lxs
        rw [List.map_map, List.map_map]
        rfl
      have lo : (ws.map fun l => (⟨l.x + 1000, l.z, l.sh, l.w⟩ : Lmp)).length = ws.length := List.length_map ..
      generalize (ws.map fun l => (⟨l.x + 1000, l.z, l.sh, l.w⟩ : Lmp)) = os at eo lo
      have farx : ∀ y ∈ lxs os, 980 ≤ y := fun y hy => by
        rw [eo] at hy
        obtain ⟨x, hx, rfl⟩ := List.mem_map.mp hy
        obtain ⟨l, hl, rfl⟩ := List.mem_map.mp hx
        have := wx l hl
        omega
      have nearx : ∀ x ∈ lxs ls, x ≤ 40 := fun x hx => by
        obtain ⟨l, hl, rfl⟩ := List.mem_map.mp hx
        exact (bx l hl).2
      have uo : UpL (lxs os) := by
        rw [eo]
        unfold UpL
        rw [List.pairwise_map]
        exact uw.imp fun {a b} h => by omega
      have ub : UpL (lxs (ls ++ os)) := by
        rw [lxs_app]
        exact List.pairwise_append.mpr ⟨ul, uo, fun x hx y hy => by have := nearx x hx; have := farx y hy; omega⟩
      simp only [wipeR, List.set_cons_succ, List.set_cons_zero]
      rw [hk3]
      clear hk3
      refine seqI fun k3 hk3 => ?_
      simp only [dSeq, dAsg, dCB, dCons, dNil, dVar, onVs, vals, val, slot, setR, fGcd, dIfS, dTV, dOp, dBin, onV2, fLt, fLe, fGt, fGe, fAdd, fSub, fMul, fDiv, fMod, fI0, dC, dUn, onV, fNeg, dNext, dRet, dTup, onD, dats, fDivZ, fI, fPow, Few, retP, fAbs, fInt, fMax, fMin, fLen, fSqrt, fEq, fNe, dNot, dAnd, dOr, dAndV, dOrV, dNotV, dIfE, dDrop, dRetN, dPar, noO, dSetL, dLst, dOfL, dOwnM, onOwn, onDat, kAppend, kInsert, dSetItem, dAddItem, dIx, onItems, items, onInt, dNoPart, dPart, dSlice, onL, litems, dSlL, dCat, onM, mitems, dTupOf, dSeqI, dRng1, dRng2, dCallP, dCallB, dCallF, noSelf, onArgs, dats2, dIsi, tyName, dYes, dgTup, dgCons, dgNil, retB, dBreak, dCont, ne_eq, not_false_eq_true, true_and, and_true, List.getElem?_cons_zero, List.getElem?_cons_succ, List.set_cons_zero, List.set_cons_succ, Option.map, List.length_cons, List.length_nil, dLc_eq, dLc2_eq, dFor_eq, dSortSet, dSort, dListOf, dIsN, dNotN, isNo, dAug, dMulA, dgUnl, dCatT, dSlT, onT, titems, dEnum, dZip, dZipM, seqs, dRetL, dPar3, dRevT, dLstRg, dTupRg, dRg1, dRg2, dChainLe, List.nil_append, List.cons_append, if_true, if_false, dFrz, dLcO, dMin2D, dAppX, dParL, dParLL, dRepL, fNeS, fEqS, dgSet, dTupZip, dFgt, fIsB, fNotB, List.map_cons, List.map_nil, fw0, fw1, fw2, fw3, fw4, fw5, fw6, fw7, fw8, fw9, fw10, fw11, fw12, fw13, fw14, fw15]
      rw [← List.map_append]
      refine ⟨few_le (by rw [List.length_map, List.length_map]; omega), u_rows_of (ls := ls ++ os) ub sp1 (by rw [List.length_append]; omega) fun z hz => ?_⟩
      obtain ⟨rs6, n6, rfl, col6, has6⟩ := hz
      refine u_rows_many col6 has6 ?_
      have rn6 := Rown.of col6 has6
      rw [lxs_app] at rn6
      rw [hk3]
      clear hk3
      simp only [dSeq, dAsg, dCB, dCons, dNil, dVar, onVs, vals, val, slot, setR, fGcd, dIfS, dTV, dOp, dBin, onV2, fLt, fLe, fGt, fGe, fAdd, fSub, fMul, fDiv, fMod, fI0, dC, dUn, onV, fNeg, dNext, dRet, dTup, onD, dats, fDivZ, fI, fPow, Few, retP, fAbs, fInt, fMax, fMin, fLen, fSqrt, fEq, fNe, dNot, dAnd, dOr, dAndV, dOrV, dNotV, dIfE, dDrop, dRetN, dPar, noO, dSetL, dLst, dOfL, dOwnM, onOwn, onDat, kAppend, kInsert, dSetItem, dAddItem, dIx, onItems, items, onInt, dNoPart, dPart, dSlice, onL, litems, dSlL, dCat, onM, mitems, dTupOf, dSeqI, dRng1, dRng2, dCallP, dCallB, dCallF, noSelf, onArgs, dats2, dIsi, tyName, dYes, dgTup, dgCons, dgNil, retB, dBreak, dCont, ne_eq, not_false_eq_true, true_and, and_true, List.getElem?_cons_zero, List.getElem?_cons_succ, List.set_cons_zero, List.set_cons_succ, Option.map, List.length_cons, List.length_nil, dLc_eq, dLc2_eq, dFor_eq, dSortSet, dSort, dListOf, dIsN, dNotN, isNo, dAug, dMulA, dgUnl, dCatT, dSlT, onT, titems, dEnum, dZip, dZipM, seqs, dRetL, dPar3, dRevT, dLstRg, dTupRg, dRg1, dRg2, dChainLe, List.nil_append, List.cons_append, if_true, if_false, dFrz, dLcO, dMin2D, dAppX, dParL, dParLL, dRepL, fNeS, fEqS, dgSet, dTupZip, dFgt, fIsB, fNotB, List.map_cons, List.map_nil, fw0, fw1, fw2, fw3, fw4, fw5, fw6, fw7, fw8, fw9, fw10, fw11, fw12, fw13, fw14, fw15]
      refine u_rows_of uo sp1 (by omega) fun z hz => ?_
      obtain ⟨rs7, n7', rfl, col7, has7⟩ := hz
      refine u_rows_many col7 has7 ?_
      have fin := rn.two (Rown.of col7 has7) rn6 fun x hx y hy => by have := nearx x hx; have := farx y hy; omega
      simp only [dSeq, dAsg, dCB, dCons, dNil, dVar, onVs, vals, val, slot, setR, fGcd, dIfS, dTV, dOp, dBin, onV2, fLt, fLe, fGt, fGe, fAdd, fSub, fMul, fDiv, fMod, fI0, dC, dUn, onV, fNeg, dNext, dRet, dTup, onD, dats, fDivZ, fI, fPow, Few, retP, fAbs, fInt, fMax, fMin, fLen, fSqrt, fEq, fNe, dNot, dAnd, dOr, dAndV, dOrV, dNotV, dIfE, dDrop, dRetN, dPar, noO, dSetL, dLst, dOfL, dOwnM, onOwn, onDat, kAppend, kInsert, dSetItem, dAddItem, dIx, onItems, items, onInt, dNoPart, dPart, dSlice, onL, litems, dSlL, dCat, onM, mitems, dTupOf, dSeqI, dRng1, dRng2, dCallP, dCallB, dCallF, noSelf, onArgs, dats2, dIsi, tyName, dYes, dgTup, dgCons, dgNil, retB, dBreak, dCont, ne_eq, not_false_eq_true, true_and, and_true, List.getElem?_cons_zero, List.getElem?_cons_succ, List.set_cons_zero, List.set_cons_succ, Option.map, List.length_cons, List.length_nil, dLc_eq, dLc2_eq, dFor_eq, dSortSet, dSort, dListOf, dIsN, dNotN, isNo, dAug, dMulA, dgUnl, dCatT, dSlT, onT, titems, dEnum, dZip, dZipM, seqs, dRetL, dPar3, dRevT, dLstRg, dTupRg, dRg1, dRg2, dChainLe, List.nil_append, List.cons_append, if_true, if_false, dFrz, dLcO, dMin2D, dAppX, dParL, dParLL, dRepL, fNeS, fEqS, dgSet, dTupZip, dFgt, fIsB, fNotB, List.map_cons, List.map_nil, fw0, fw1, fw2, fw3, fw4, fw5, fw6, fw7, fw8, fw9, fw10, fw11, fw12, fw13, fw14, fw15, sh_int, eqv_int]
      exact ite_nf fin (hC' _ _ _ _ _ _ _ _ _ _ _ _ _ _ (hb6.up (by omega)))
    refine ite_b (c := 0 < (n : Int)) (fun pos => ?_) fun _ => next
    rw [show (n : Int) - 1 = ((n - 1 : Nat) : Int) by omega]
    refine u__law_has_rows ll (by omega) ?_
    rw [hasRows_false fun rs2 c2 => by have := rn.1; have := col_has c2 this; omega]
    simp only [Bool.false_eq_true, if_false]
    exact next
  · rw [hk2]
    simp only [dSeq, dAsg, dCB, dCons, dNil, dVar, onVs, vals, val, slot, setR, fGcd, dIfS, dTV, dOp, dBin, onV2, fLt, fLe, fGt, fGe, fAdd, fSub, fMul, fDiv, fMod, fI0, dC, dUn, onV, fNeg, dNext, dRet, dTup, onD, dats, fDivZ, fI, fPow, Few, retP, fAbs, fInt, fMax, fMin, fLen, fSqrt, fEq, fNe, dNot, dAnd, dOr, dAndV, dOrV, dNotV, dIfE, dDrop, dRetN, dPar, noO, dSetL, dLst, dOfL, dOwnM, onOwn, onDat, kAppend, kInsert, dSetItem, dAddItem, dIx, onItems, items, onInt, dNoPart, dPart, dSlice, onL, litems, dSlL, dCat, onM, mitems, dTupOf, dSeqI, dRng1, dRng2, dCallP, dCallB, dCallF, noSelf, onArgs, dats2, dIsi, tyName, dYes, dgTup, dgCons, dgNil, retB, dBreak, dCont, ne_eq, not_false_eq_true, true_and, and_true, List.getElem?_cons_zero, List.getElem?_cons_succ, List.set_cons_zero, List.set_cons_succ, Option.map, List.length_cons, List.length_nil, dLc_eq, dLc2_eq, dFor_eq, dSortSet, dSort, dListOf, dIsN, dNotN, isNo, dAug, dMulA, dgUnl, dCatT, dSlT, onT, titems, dEnum, dZip, dZipM, seqs, dRetL, dPar3, dRevT, dLstRg, dTupRg, dRg1, dRg2, dChainLe, List.nil_append, List.cons_append, if_true, if_false, dFrz, dLcO, dMin2D, dAppX, dParL, dParLL, dRepL, fNeS, fEqS, dgSet, dTupZip, dFgt, fIsB, fNotB, List.map_cons, List.map_nil, fw0, fw1, fw2, fw3, fw4, fw5, fw6, fw7, fw8, fw9, fw10, fw11, fw12, fw13, fw14, fw15]
    exact hQ
end
set_option maxHeartbeats 8000000 in
theorem all_mk {l : PySem.W.OpenLaw} {w : World} {K : PySem.W.Frag} {h : Heap} {mg : Str → Option Value} {fa : Addr} (X : K.In h) (G : h.Ns mainGlobals mg) (hfa : mg "law" = some (.ref fa))
    {od1 an1 : Option Addr} {sl1 : Array (Option Value)} {oc1 kV1 dc1 pm1 cd1 ct1 : Value} {f1 : Addr}
    (a1 : PySem.W.nsIn K mainGlobals "rows_of" = some (some (.ref f1))) (l1 : K.lookup f1 = some ⟨oc1, od1, .func (PySem.W.fnOf "rows_of" "rows_of" (defArgs s_rows_of) (defBody s_rows_of) (defScope s_rows_of) .none kV1 dc1 pm1 an1 cd1 ct1), sl1⟩) (c1 : PySem.W.codeIn K cd1 "rows_of" = true) (k1 : PySem.W.keepIn K (.ref f1) = true)
    {od2 an2 : Option Addr} {sl2 : Array (Option Value)} {oc2 kV2 dc2 pm2 cd2 ct2 : Value} {f2 : Addr}
    (a2 : PySem.W.nsIn K mainGlobals "rows_many" = some (some (.ref f2))) (l2 : K.lookup f2 = some ⟨oc2, od2, .func (PySem.W.fnOf "rows_many" "rows_many" (defArgs s_rows_many) (defBody s_rows_many) (defScope s_rows_many) .none kV2 dc2 pm2 an2 cd2 ct2), sl2⟩) (c2 : PySem.W.codeIn K cd2 "rows_many" = true) (k2 : PySem.W.keepIn K (.ref f2) = true)
    {od3 an3 : Option Addr} {sl3 : Array (Option Value)} {oc3 kV3 dc3 pm3 cd3 ct3 : Value} {f3 : Addr}
    (a3 : PySem.W.nsIn K mainGlobals "most_abreast" = some (some (.ref f3))) (l3 : K.lookup f3 = some ⟨oc3, od3, .func (PySem.W.fnOf "most_abreast" "most_abreast" (defArgs s_most_abreast) (defBody s_most_abreast) (defScope s_most_abreast) .none kV3 dc3 pm3 an3 cd3 ct3), sl3⟩) (c3 : PySem.W.codeIn K cd3 "most_abreast" = true) (k3 : PySem.W.keepIn K (.ref f3) = true)
    {od4 an4 : Option Addr} {sl4 : Array (Option Value)} {oc4 kV4 dc4 pm4 cd4 ct4 : Value} {f4 : Addr}
    (a4 : PySem.W.nsIn K mainGlobals "moved_lamps" = some (some (.ref f4))) (l4 : K.lookup f4 = some ⟨oc4, od4, .func (PySem.W.fnOf "moved_lamps" "moved_lamps" (defArgs s_moved_lamps) (defBody s_moved_lamps) (defScope s_moved_lamps) .none kV4 dc4 pm4 an4 cd4 ct4), sl4⟩) (c4 : PySem.W.codeIn K cd4 "moved_lamps" = true) (k4 : PySem.W.keepIn K (.ref f4) = true)
    {od5 an5 : Option Addr} {sl5 : Array (Option Value)} {oc5 kV5 dc5 pm5 cd5 ct5 : Value} {f5 : Addr}
    (a5 : PySem.W.nsIn K mainGlobals "mirrored_lamps" = some (some (.ref f5))) (l5 : K.lookup f5 = some ⟨oc5, od5, .func (PySem.W.fnOf "mirrored_lamps" "mirrored_lamps" (defArgs s_mirrored_lamps) (defBody s_mirrored_lamps) (defScope s_mirrored_lamps) .none kV5 dc5 pm5 an5 cd5 ct5), sl5⟩) (c5 : PySem.W.codeIn K cd5 "mirrored_lamps" = true) (k5 : PySem.W.keepIn K (.ref f5) = true)
    {od6 an6 : Option Addr} {sl6 : Array (Option Value)} {oc6 kV6 dc6 pm6 cd6 ct6 : Value} {f6 : Addr}
    (a6 : PySem.W.nsIn K mainGlobals "_law_bag" = some (some (.ref f6))) (l6 : K.lookup f6 = some ⟨oc6, od6, .func (PySem.W.fnOf "_law_bag" "_law_bag" (defArgs s__law_bag) (defBody s__law_bag) (defScope s__law_bag) .none kV6 dc6 pm6 an6 cd6 ct6), sl6⟩) (c6 : PySem.W.codeIn K cd6 "_law_bag" = true) (k6 : PySem.W.keepIn K (.ref f6) = true)
    {od7 an7 : Option Addr} {sl7 : Array (Option Value)} {oc7 kV7 dc7 pm7 cd7 ct7 : Value} {f7 : Addr}
    (a7 : PySem.W.nsIn K mainGlobals "_law_take" = some (some (.ref f7))) (l7 : K.lookup f7 = some ⟨oc7, od7, .func (PySem.W.fnOf "_law_take" "_law_take" (defArgs s__law_take) (defBody s__law_take) (defScope s__law_take) .none kV7 dc7 pm7 an7 cd7 ct7), sl7⟩) (c7 : PySem.W.codeIn K cd7 "_law_take" = true) (k7 : PySem.W.keepIn K (.ref f7) = true)
    {od8 an8 : Option Addr} {sl8 : Array (Option Value)} {oc8 kV8 dc8 pm8 cd8 ct8 : Value} {f8 : Addr}
    (a8 : PySem.W.nsIn K mainGlobals "_law_some" = some (some (.ref f8))) (l8 : K.lookup f8 = some ⟨oc8, od8, .func (PySem.W.fnOf "_law_some" "_law_some" (defArgs s__law_some) (defBody s__law_some) (defScope s__law_some) .none kV8 dc8 pm8 an8 cd8 ct8), sl8⟩) (c8 : PySem.W.codeIn K cd8 "_law_some" = true) (k8 : PySem.W.keepIn K (.ref f8) = true)
    {od9 an9 : Option Addr} {sl9 : Array (Option Value)} {oc9 kV9 dc9 pm9 cd9 ct9 : Value} {f9 : Addr}
    (a9 : PySem.W.nsIn K mainGlobals "_law_shades" = some (some (.ref f9))) (l9 : K.lookup f9 = some ⟨oc9, od9, .func (PySem.W.fnOf "_law_shades" "_law_shades" (defArgs s__law_shades) (defBody s__law_shades) (defScope s__law_shades) .none kV9 dc9 pm9 an9 cd9 ct9), sl9⟩) (c9 : PySem.W.codeIn K cd9 "_law_shades" = true) (k9 : PySem.W.keepIn K (.ref f9) = true)
    {od10 an10 : Option Addr} {sl10 : Array (Option Value)} {oc10 kV10 dc10 pm10 cd10 ct10 : Value} {f10 : Addr}
    (a10 : PySem.W.nsIn K mainGlobals "_law_shape" = some (some (.ref f10))) (l10 : K.lookup f10 = some ⟨oc10, od10, .func (PySem.W.fnOf "_law_shape" "_law_shape" (defArgs s__law_shape) (defBody s__law_shape) (defScope s__law_shape) .none kV10 dc10 pm10 an10 cd10 ct10), sl10⟩) (c10 : PySem.W.codeIn K cd10 "_law_shape" = true) (k10 : PySem.W.keepIn K (.ref f10) = true)
    {od11 an11 : Option Addr} {sl11 : Array (Option Value)} {oc11 kV11 dc11 pm11 cd11 ct11 : Value} {f11 : Addr}
    (a11 : PySem.W.nsIn K mainGlobals "_law_close_picture" = some (some (.ref f11))) (l11 : K.lookup f11 = some ⟨oc11, od11, .func (PySem.W.fnOf "_law_close_picture" "_law_close_picture" (defArgs s__law_close_picture) (defBody s__law_close_picture) (defScope s__law_close_picture) .none kV11 dc11 pm11 an11 cd11 ct11), sl11⟩) (c11 : PySem.W.codeIn K cd11 "_law_close_picture" = true) (k11 : PySem.W.keepIn K (.ref f11) = true)
    {od12 an12 : Option Addr} {sl12 : Array (Option Value)} {oc12 kV12 dc12 pm12 cd12 ct12 : Value} {f12 : Addr}
    (a12 : PySem.W.nsIn K mainGlobals "_law_has_rows" = some (some (.ref f12))) (l12 : K.lookup f12 = some ⟨oc12, od12, .func (PySem.W.fnOf "_law_has_rows" "_law_has_rows" (defArgs s__law_has_rows) (defBody s__law_has_rows) (defScope s__law_has_rows) .none kV12 dc12 pm12 an12 cd12 ct12), sl12⟩) (c12 : PySem.W.codeIn K cd12 "_law_has_rows" = true) (k12 : PySem.W.keepIn K (.ref f12) = true)
    {od13 an13 : Option Addr} {sl13 : Array (Option Value)} {oc13 kV13 dc13 pm13 cd13 ct13 : Value} {f13 : Addr}
    (a13 : PySem.W.nsIn K mainGlobals "law" = some (some (.ref f13))) (l13 : K.lookup f13 = some ⟨oc13, od13, .func (PySem.W.fnOf "law" "law" (defArgs s_law) (defBody s_law) (defScope s_law) .none kV13 dc13 pm13 an13 cd13 ct13), sl13⟩) (c13 : PySem.W.codeIn K cd13 "law" = true) (k13 : PySem.W.keepIn K (.ref f13) = true)
    (z_tuple : PySem.W.nsIn K mainGlobals "tuple" = some none)
    (z_len : PySem.W.nsIn K mainGlobals "len" = some none)
    (z_max : PySem.W.nsIn K mainGlobals "max" = some none)
    (z_enumerate : PySem.W.nsIn K mainGlobals "enumerate" = some none)
    (z_sorted : PySem.W.nsIn K mainGlobals "sorted" = some none)
    (z_abs : PySem.W.nsIn K mainGlobals "abs" = some none)
    (z_int : PySem.W.nsIn K mainGlobals "int" = some none)
    (z_range : PySem.W.nsIn K mainGlobals "range" = some none)
    (z_set : PySem.W.nsIn K mainGlobals "set" = some none)
    (y_heappush : PySem.W.nsIn K mainGlobals "heappush" = some (some (.builtin "_heapq.heappush")))
    (y_heappop : PySem.W.nsIn K mainGlobals "heappop" = some (some (.builtin "_heapq.heappop"))) :
    ∃ fd : FuncData, (∀ (s : Shared) (v : Value), BindsTo s fd ⟨[v], []⟩ [("_law_script", v)]) ∧ ∀ base : Heap, K.In base → base.Ns mainGlobals mg → FnG l.prog w K mg base CX0 5 fa fd ["_law_script"] (spP K [.ro] S_law) := by
  have e := hfa.symm.trans (PySem.W.mg_of X G a13)
  cases e
  have T : Bi mg := ⟨PySem.W.mg_none_of X G z_tuple, PySem.W.mg_none_of X G z_len, PySem.W.mg_none_of X G z_max, PySem.W.mg_none_of X G z_enumerate, PySem.W.mg_none_of X G z_sorted, PySem.W.mg_none_of X G z_abs, PySem.W.mg_none_of X G z_int, PySem.W.mg_none_of X G z_range, PySem.W.mg_none_of X G z_set, PySem.W.mg_of X G y_heappush, PySem.W.mg_of X G y_heappop⟩
  have F1 := fun_mk (st := s_rows_of) l1 c1 k1
  have b1 := F1.binds (ps := ["picture", "spacing"]) fun _ _ _ _ _ _ us hl => match us, hl with | [_, _], _ => rfl
  have F2 := fun_mk (st := s_rows_many) l2 c2 k2
  have b2 := F2.binds (ps := ["rows"]) fun _ _ _ _ _ _ us hl => match us, hl with | [_], _ => rfl
  have F3 := fun_mk (st := s_most_abreast) l3 c3 k3
  have b3 := F3.binds (ps := ["picture", "spacing"]) fun _ _ _ _ _ _ us hl => match us, hl with | [_, _], _ => rfl
  have F4 := fun_mk (st := s_moved_lamps) l4 c4 k4
  have b4 := F4.binds (ps := ["picture", "x", "z"]) fun _ _ _ _ _ _ us hl => match us, hl with | [_, _, _], _ => rfl
  have F5 := fun_mk (st := s_mirrored_lamps) l5 c5 k5
  have b5 := F5.binds (ps := ["picture", "x"]) fun _ _ _ _ _ _ us hl => match us, hl with | [_, _], _ => rfl
  have F6 := fun_mk (st := s__law_bag) l6 c6 k6
  have b6 := F6.binds (ps := ["_law_script"]) fun _ _ _ _ _ _ us hl => match us, hl with | [_], _ => rfl
  have F7 := fun_mk (st := s__law_take) l7 c7 k7
  have b7 := F7.binds (ps := ["_law_bag_here", "_law_many"]) fun _ _ _ _ _ _ us hl => match us, hl with | [_, _], _ => rfl
  have F8 := fun_mk (st := s__law_some) l8 c8 k8
  have b8 := F8.binds (ps := ["_law_bag_here", "_law_things"]) fun _ _ _ _ _ _ us hl => match us, hl with | [_, _], _ => rfl
  have F9 := fun_mk (st := s__law_shades) l9 c9 k9
  have b9 := F9.binds (ps := ["_law_bag_here"]) fun _ _ _ _ _ _ us hl => match us, hl with | [_], _ => rfl
  have F10 := fun_mk (st := s__law_shape) l10 c10 k10
  have b10 := F10.binds (ps := ["_law_points"]) fun _ _ _ _ _ _ us hl => match us, hl with | [_], _ => rfl
  have F11 := fun_mk (st := s__law_close_picture) l11 c11 k11
  have b11 := F11.binds (ps := ["_law_bag_here"]) fun _ _ _ _ _ _ us hl => match us, hl with | [_], _ => rfl
  have F12 := fun_mk (st := s__law_has_rows) l12 c12 k12
  have b12 := F12.binds (ps := ["_law_picture", "_law_spacing", "_law_many"]) fun _ _ _ _ _ _ us hl => match us, hl with | [_, _, _], _ => rfl
  have F13 := fun_mk (st := s_law) l13 c13 k13
  have b13 := F13.binds (ps := ["_law_script"]) fun _ _ _ _ _ _ us hl => match us, hl with | [_], _ => rfl
  refine ⟨PySem.W.fnOf "law" "law" (defArgs s_law) (defBody s_law) (defScope s_law) .none kV13 dc13 pm13 an13 cd13 ct13, fun s v => .of_eq rfl, fun base _ _ => ?_⟩
  have G1 := ok_rows_of (P := l.prog) (w := w) (base := base) F1 T 
  have G2 := ok_rows_many (P := l.prog) (w := w) (base := base) F2 T 
  have G3 := ok_most_abreast (P := l.prog) (w := w) (base := base) F3 T 
  have G4 := ok_moved_lamps (P := l.prog) (w := w) (base := base) F4 T 
  have G5 := ok_mirrored_lamps (P := l.prog) (w := w) (base := base) F5 T 
  have G6 := ok__law_bag (P := l.prog) (w := w) (base := base) F6 T 
  have G7 := ok__law_take (P := l.prog) (w := w) (base := base) F7 T 
  have G10 := ok__law_shape (P := l.prog) (w := w) (base := base) F10 T 
  have G12 := ok__law_has_rows (P := l.prog) (w := w) (base := base) F12 T 
  have G8 := ok__law_some (P := l.prog) (w := w) (base := base) F8 T G7 (PySem.W.mg_of X G a7) k7 b7
  have G9 := ok__law_shades (P := l.prog) (w := w) (base := base) F9 T G8 (PySem.W.mg_of X G a8) k8 b8
  have G11 := ok__law_close_picture (P := l.prog) (w := w) (base := base) F11 T G8 (PySem.W.mg_of X G a8) k8 b8 G7 (PySem.W.mg_of X G a7) k7 b7 G9 (PySem.W.mg_of X G a9) k9 b9 G10 (PySem.W.mg_of X G a10) k10 b10
  exact ok_law F13 T G6 (PySem.W.mg_of X G a6) k6 b6 G2 (PySem.W.mg_of X G a2) k2 b2 G7 (PySem.W.mg_of X G a7) k7 b7 G8 (PySem.W.mg_of X G a8) k8 b8 G1 (PySem.W.mg_of X G a1) k1 b1 G4 (PySem.W.mg_of X G a4) k4 b4 G5 (PySem.W.mg_of X G a5) k5 b5 G11 (PySem.W.mg_of X G a11) k11 b11 G12 (PySem.W.mg_of X G a12) k12 b12 G3 (PySem.W.mg_of X G a3) k3 b3
theorem walk {l : PySem.W.OpenLaw} {q : Program} {loose : List Str} {XP : (Str → Option Value) → Heap → Prop} {YP : World → Heap → Prop} {d : DefRec} {K : Params → PySem.W.Frag} (hn : l.most = some 63) (hdf : d.params.defaults = [])
    (hY : ∀ (w : World) (h : Heap), YP w h → (K w.params).In h)
    (F : ∀ (w : World) (mg : Str → Option Value) (fa : Addr) (h : Heap), (K w.params).In h → h.Ns mainGlobals mg → mg d.name = some (.ref fa) →
      ∃ fd : FuncData, (∀ (s : Shared) (u : Value), BindsTo s fd ⟨[u], []⟩ [("_law_script", u)]) ∧ ∀ base : Heap, (K w.params).In base → base.Ns mainGlobals mg → FnG l.prog w (K w.params) mg base CX0 5 fa fd ["_law_script"] (spP (K w.params) [.ro] S_law)) :
    PySem.W.WalkO q loose XP YP l.row.toRowW d [] (fun f vs => PySem.call f vs) :=
  walk_goes (n := 63) (k := 5) (x := "_law_script") (sp := fun K => spP K [.ro] S_law) hn (by decide) hdf ⟨rfl, by decide, by decide⟩ hY F fun K H a ns hl hS => law_args hl hS m_law law_spec
end K16
open PySem PySem.W PyProof.Rows
set_option maxRecDepth 100000 in
set_option maxHeartbeats 0 in
theorem PySem.Challenge.cw_lampsaloft_k16_whole_never_fewer_rows_holds : PySem.Challenge.rw_lampsaloft_k16_whole_never_fewer_rows.Holds := by
  w_on; o_law; k_head; (case hw => w_witness2)
  k_fill
  refine K16.walk (l := PySem.Challenge.rw_lampsaloft_k16_whole_never_fewer_rows) rfl rfl (fun w h Y => PySem.W.kIn_of Y) ?F
  case F =>
    intro w mg fa h KX G hmg
    refine' K16.all_mk KX G hmg ?a1 ?l1 ?c1 ?k1 ?a2 ?l2 ?c2 ?k2 ?a3 ?l3 ?c3 ?k3 ?a4 ?l4 ?c4 ?k4 ?a5 ?l5 ?c5 ?k5 ?a6 ?l6 ?c6 ?k6 ?a7 ?l7 ?c7 ?k7 ?a8 ?l8 ?c8 ?k8 ?a9 ?l9 ?c9 ?k9 ?a10 ?l10 ?c10 ?k10 ?a11 ?l11 ?c11 ?k11 ?a12 ?l12 ?c12 ?k12 ?a13 ?l13 ?c13 ?k13 ?z_tuple ?z_len ?z_max ?z_enumerate ?z_sorted ?z_abs ?z_int ?z_range ?z_set ?y_heappush ?y_heappop
    (case a1 => k_is)
    (case l1 => k_is)
    (case c1 => k_is)
    (case k1 => k_is)
    (case a2 => k_is)
    (case l2 => k_is)
    (case c2 => k_is)
    (case k2 => k_is)
    (case a3 => k_is)
    (case l3 => k_is)
    (case c3 => k_is)
    (case k3 => k_is)
    (case a4 => k_is)
    (case l4 => k_is)
    (case c4 => k_is)
    (case k4 => k_is)
    (case a5 => k_is)
    (case l5 => k_is)
    (case c5 => k_is)
    (case k5 => k_is)
    (case a6 => k_is)
    (case l6 => k_is)
    (case c6 => k_is)
    (case k6 => k_is)
    (case a7 => k_is)
    (case l7 => k_is)
    (case c7 => k_is)
    (case k7 => k_is)
    (case a8 => k_is)
    (case l8 => k_is)
    (case c8 => k_is)
    (case k8 => k_is)
    (case a9 => k_is)
    (case l9 => k_is)
    (case c9 => k_is)
    (case k9 => k_is)
    (case a10 => k_is)
    (case l10 => k_is)
    (case c10 => k_is)
    (case k10 => k_is)
    (case a11 => k_is)
    (case l11 => k_is)
    (case c11 => k_is)
    (case k11 => k_is)
    (case a12 => k_is)
    (case l12 => k_is)
    (case c12 => k_is)
    (case k12 => k_is)
    (case a13 => k_is)
    (case l13 => k_is)
    (case c13 => k_is)
    (case k13 => k_is)
    (case z_tuple => k_is)
    (case z_len => k_is)
    (case z_max => k_is)
    (case z_enumerate => k_is)
    (case z_sorted => k_is)
    (case z_abs => k_is)
    (case z_int => k_is)
    (case z_range => k_is)
    (case z_set => k_is)
    (case y_heappush => k_is)
    (case y_heappop => k_is)
