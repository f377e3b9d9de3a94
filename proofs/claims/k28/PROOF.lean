import PyProof.Rows.All
import Wide.All
import OpenK.AllK
import Wide.FinOn
import HandS.ForMost
import HandS.Wide
import HandS.Gcd
import HandS.Walk
import HandS.TupAny
import HandS.TupMul
import HandS.IsInst
import HandS.More
import KE.KMathG
import Flt.RightSqrt
import PyProof.StrLawsRepr
import HandS.Deep
import HandS.Zip
import HandS.Style
import PyProof.EnumMake
import KE.GoesMore
import HandS.SortRule
import HandS.TupSets
import HandS.SortInts
import PyProof.Rows.SortShell
import PyProof.SumAny
import KE.SortData
import KE.DataMinMax
import HandS.SortKw
import PyProof.StrBlock2
import HandS.Conv
import PySem.Challenge.RW_lampsaloft_k28_places_and_corners
set_option Elab.async false
set_option linter.all false
set_option maxRecDepth 100000
namespace DV
open PySem PySem.Spec PyProof.Rows L2
/-! ## values as data, away from what may be changed -/
def LkL (K : PySem.W.Frag) (N : Addr → Prop) (H : Hp) (a : Addr) (xs : List V) : Prop := H a = some (.lst xs) ∧ ¬ N a
def LkT (K : PySem.W.Frag) (N : Addr → Prop) (H : Hp) (a : Addr) (xs : List V) : Prop := (Rd H a (.tup xs) ∧ ¬ N a) ∨ SqT K (fun _ => none) a xs
theorem sql_none {K : PySem.W.Frag} {H : Hp} {a : Addr} {xs : List V} (h : SqL K (fun _ => none) a xs) : SqL K H a xs := by
  rcases h with (h | ⟨o, h⟩) | h
  · cases h
  · cases h
  · exact .inr h
theorem sqt_none {K : PySem.W.Frag} {H : Hp} {a : Addr} {xs : List V} (h : SqT K (fun _ => none) a xs) : SqT K H a xs := by
  rcases h with (h | ⟨o, h⟩) | h
  · cases h
  · cases h
  · exact .inr h
theorem LkL.sq {K : PySem.W.Frag} {N : Addr → Prop} {H : Hp} {a : Addr} {xs : List V} (h : LkL K N H a xs) : SqL K H a xs := .of h.1
theorem LkT.sq {K : PySem.W.Frag} {N : Addr → Prop} {H : Hp} {a : Addr} {xs : List V} (h : LkT K N H a xs) : SqT K H a xs := by
  rcases h with ⟨h, _⟩ | h
  · exact .inl h
  · exact sqt_none h
/-- from one heap to the next: all but N stands; N grows by new ones alone -/
structure Go (N N' : Addr → Prop) (H H' : Hp) : Prop where
  st : ∀ a o, ¬ N a → H a = some o → H' a = some o
  nw : ∀ a, N' a → N a ∨ H a = none
theorem Rd.go {N N' : Addr → Prop} {H H' : Hp} (g : Go N N' H H') {a : Addr} {u : HO} (h : Rd H a u) (n : ¬ N a) : Rd H' a u ∧ ¬ N' a := by
  refine ⟨?_, fun z => ?_⟩
  · rcases h with h | ⟨o, h⟩
    · exact .inl (g.st _ _ n h)
    · exact .inr ⟨o, g.st _ _ n h⟩
  · rcases g.nw a z with z | z
    · exact n z
    · rcases h with h | ⟨o, h⟩
      · rw [z] at h; cases h
      · rw [z] at h; cases h
theorem LkL.go {K : PySem.W.Frag} {N N' : Addr → Prop} {H H' : Hp} (g : Go N N' H H') {a : Addr} {xs : List V} (h : LkL K N H a xs) : LkL K N' H' a xs := by
  refine ⟨g.st _ _ h.2 h.1, fun z => ?_⟩
  rcases g.nw a z with z | z
  · exact h.2 z
  · have := h.1; rw [z] at this; cases this
theorem LkT.go {K : PySem.W.Frag} {N N' : Addr → Prop} {H H' : Hp} (g : Go N N' H H') {a : Addr} {xs : List V} (h : LkT K N H a xs) : LkT K N' H' a xs := by
  rcases h with ⟨h, n⟩ | h
  · exact .inl (Rd.go g h n)
  · exact .inr h
mutual
def Im (K : PySem.W.Frag) (N : Addr → Prop) (H : Hp) : PyData → V → Prop
  | .none, v => v = .non
  | .bool b, v => v = .bl b
  | .int i, v => v = .int i
  | .str x, v => v = .str x
  | .list ds, v => ∃ a xs, v = .ref a ∧ LkL K N H a xs ∧ ImAll K N H ds xs
  | .tuple ds, v => ∃ a xs, v = .ref a ∧ LkT K N H a xs ∧ ImAll K N H ds xs
  | .dict _, _ => False
def ImAll (K : PySem.W.Frag) (N : Addr → Prop) (H : Hp) : List PyData → List V → Prop
  | [], vs => vs = []
  | d :: ds, vs => ∃ x xs, vs = x :: xs ∧ Im K N H d x ∧ ImAll K N H ds xs
end
section
variable {K : PySem.W.Frag} {N N' : Addr → Prop} {H H' : Hp}
mutual
theorem Im.go (g : Go N N' H H') : ∀ {d : PyData} {v : V}, Im K N H d v → Im K N' H' d v
  | .none, _, h => by simpa only [Im] using h
  | .bool _, _, h => by simpa only [Im] using h
  | .int _, _, h => by simpa only [Im] using h
  | .str _, _, h => by simpa only [Im] using h
  | .list _, _, h => by
    simp only [Im] at h ⊢
    obtain ⟨a, xs, e, l, t⟩ := h
    exact ⟨a, xs, e, l.go g, ImAll.go g t⟩
  | .tuple _, _, h => by
    simp only [Im] at h ⊢
    obtain ⟨a, xs, e, l, t⟩ := h
    exact ⟨a, xs, e, l.go g, ImAll.go g t⟩
  | .dict _, _, h => by simp only [Im] at h
theorem ImAll.go (g : Go N N' H H') : ∀ {ds : List PyData} {vs : List V}, ImAll K N H ds vs → ImAll K N' H' ds vs
  | [], _, h => by simpa only [ImAll] using h
  | _ :: _, _, h => by
    simp only [ImAll] at h ⊢
    obtain ⟨x, xs, e, l, t⟩ := h
    exact ⟨x, xs, e, Im.go g l, ImAll.go g t⟩
end
mutual
theorem Im.dp : ∀ {d : PyData} {v : V}, Im K N H d v → Dp K H v d
  | .none, _, h => by simp only [Im] at h; subst h; exact .non
  | .bool _, _, h => by simp only [Im] at h; subst h; exact .bl _
  | .int _, _, h => by simp only [Im] at h; subst h; exact .int _
  | .str _, _, h => by simp only [Im] at h; subst h; exact .str _
  | .list _, _, h => by
    simp only [Im] at h
    obtain ⟨a, xs, rfl, l, t⟩ := h
    exact .lst l.sq (ImAll.dp t)
  | .tuple _, _, h => by
    simp only [Im] at h
    obtain ⟨a, xs, rfl, l, t⟩ := h
    exact .tup l.sq (ImAll.dp t)
  | .dict _, _, h => by simp only [Im] at h
theorem ImAll.dp : ∀ {ds : List PyData} {vs : List V}, ImAll K N H ds vs → DpAll K H vs ds
  | [], _, h => by simp only [ImAll] at h; subst h; exact .nil
  | _ :: _, _, h => by
    simp only [ImAll] at h
    obtain ⟨x, xs, rfl, l, t⟩ := h
    exact .cons (Im.dp l) (ImAll.dp t)
end
theorem ImAll.length : ∀ {ds : List PyData} {vs : List V}, ImAll K N H ds vs → vs.length = ds.length
  | [], _, h => by simp only [ImAll] at h; subst h; rfl
  | _ :: _, _, h => by
    simp only [ImAll] at h
    obtain ⟨x, xs, rfl, l, t⟩ := h
    simp [ImAll.length t]
theorem ImAll.get : ∀ {ds : List PyData} {vs : List V} {i : Nat} {d : PyData}, ImAll K N H ds vs → ds[i]? = some d → ∃ v, vs[i]? = some v ∧ Im K N H d v
  | [], _, _, _, _, e => by simp at e
  | d :: ds, _, 0, _, h, e => by
    simp only [ImAll] at h
    obtain ⟨x, xs, rfl, l, t⟩ := h
    simp at e; subst e
    exact ⟨x, rfl, l⟩
  | d :: ds, _, i + 1, _, h, e => by
    simp only [ImAll] at h
    obtain ⟨x, xs, rfl, l, t⟩ := h
    obtain ⟨v, e1, l1⟩ := ImAll.get (i := i) t (by simpa using e)
    exact ⟨v, by simpa using e1, l1⟩
theorem ImAll.getV : ∀ {ds : List PyData} {vs : List V} {i : Nat} {v : V}, ImAll K N H ds vs → vs[i]? = some v → ∃ d, ds[i]? = some d ∧ Im K N H d v
  | [], _, _, _, h, e => by simp only [ImAll] at h; subst h; simp at e
  | d :: ds, _, 0, _, h, e => by
    simp only [ImAll] at h
    obtain ⟨x, xs, rfl, l, t⟩ := h
    simp at e; subst e
    exact ⟨d, rfl, l⟩
  | d :: ds, _, i + 1, _, h, e => by
    simp only [ImAll] at h
    obtain ⟨x, xs, rfl, l, t⟩ := h
    obtain ⟨v, e1, l1⟩ := ImAll.getV (i := i) t (by simpa using e)
    exact ⟨v, by simpa using e1, l1⟩
theorem ImAll.append : ∀ {ds es : List PyData} {vs us : List V}, ImAll K N H ds vs → ImAll K N H es us → ImAll K N H (ds ++ es) (vs ++ us)
  | [], _, _, _, h, k => by simp only [ImAll] at h; subst h; exact k
  | d :: ds, es, _, us, h, k => by
    simp only [ImAll] at h
    obtain ⟨x, xs, rfl, l, t⟩ := h
    show ImAll K N H (d :: (ds ++ es)) (x :: (xs ++ us))
    simp only [ImAll]
    exact ⟨x, _, rfl, l, ImAll.append t k⟩
theorem ImAll.cons {d : PyData} {ds : List PyData} {v : V} {vs : List V} (h : Im K N H d v) (k : ImAll K N H ds vs) : ImAll K N H (d :: ds) (v :: vs) := by
  simp only [ImAll]; exact ⟨v, vs, rfl, h, k⟩
theorem ImAll.nil : ImAll K N H [] [] := by simp only [ImAll]
theorem ImAll.take : ∀ {ds : List PyData} {vs : List V} (n : Nat), ImAll K N H ds vs → ImAll K N H (ds.take n) (vs.take n)
  | _, _, 0, _ => by simp only [List.take_zero]; exact .nil
  | [], _, n + 1, h => by simp only [ImAll] at h; subst h; exact .nil
  | d :: ds, _, n + 1, h => by
    simp only [ImAll] at h
    obtain ⟨x, xs, rfl, l, t⟩ := h
    exact ImAll.cons l (ImAll.take n t)
theorem ImAll.drop : ∀ {ds : List PyData} {vs : List V} (n : Nat), ImAll K N H ds vs → ImAll K N H (ds.drop n) (vs.drop n)
  | _, _, 0, h => h
  | [], _, n + 1, h => by simp only [ImAll] at h; subst h; exact .nil
  | d :: ds, _, n + 1, h => by
    simp only [ImAll] at h
    obtain ⟨x, xs, rfl, l, t⟩ := h
    exact ImAll.drop n t
theorem ImAll.set : ∀ {ds : List PyData} {vs : List V} {d : PyData} {v : V} (i : Nat), ImAll K N H ds vs → Im K N H d v → ImAll K N H (ds.set i d) (vs.set i v)
  | [], _, _, _, _, h, _ => by simp only [ImAll] at h; subst h; exact .nil
  | d :: ds, _, _, _, 0, h, k => by
    simp only [ImAll] at h
    obtain ⟨x, xs, rfl, l, t⟩ := h
    exact ImAll.cons k t
  | d :: ds, _, _, _, i + 1, h, k => by
    simp only [ImAll] at h
    obtain ⟨x, xs, rfl, l, t⟩ := h
    exact ImAll.cons l (ImAll.set i t k)
theorem Im.int {i : Int} : Im K N H (.int i) (.int i) := by simp only [Im]
theorem Im.bool {b : Bool} : Im K N H (.bool b) (.bl b) := by simp only [Im]
theorem Im.none : Im K N H .none .non := by simp only [Im]
theorem Im.str {x : Str} : Im K N H (.str x) (.str x) := by simp only [Im]
theorem Im.int_iff {i : Int} {v : V} : Im K N H (.int i) v ↔ v = .int i := by simp only [Im]
theorem Im.bool_iff {b : Bool} {v : V} : Im K N H (.bool b) v ↔ v = .bl b := by simp only [Im]
theorem ImAll.ints : ∀ ns : List Int, ImAll K N H (ns.map .int) (ns.map .int)
  | [] => .nil
  | n :: ns => .cons .int (ImAll.ints ns)
end
/-! ## the state of a def's body -/
/-- K the written part; H0 the heap at its start; N what callers may change; L what is lent to this body -/
structure Fm where
  K : PySem.W.Frag
  H0 : Hp
  N : Addr → Prop
  L : Addr → Prop
  fix : Nat → Prop
inductive Ent
  | d (x : PyData)
  | own (xs : List PyData)
  | ro (x : PyData)
  | raw (v : V)
abbrev Rho := List (Option Ent)
inductive R
  | d (x : PyData)
  | o (i : Nat)
  | raw (v : V)
inductive Pin
  | val (v : V) (r : R)
  | acc (a : Addr) (xs : List PyData)
def accs : List Pin → List Addr
  | [] => []
  | .acc a _ :: ps => a :: accs ps
  | .val _ _ :: ps => accs ps
theorem mem_accs {a : Addr} : ∀ {ps : List Pin}, a ∈ accs ps ↔ ∃ xs, Pin.acc a xs ∈ ps
  | [] => by simp [accs]
  | .acc b ys :: ps => by
    simp only [accs, List.mem_cons, mem_accs (ps := ps)]
    constructor
    · rintro (rfl | ⟨xs, h⟩)
      · exact ⟨ys, .inl rfl⟩
      · exact ⟨xs, .inr h⟩
    · rintro ⟨xs, h | h⟩
      · cases h; exact .inl rfl
      · exact .inr ⟨xs, h⟩
  | .val v r :: ps => by
    simp only [accs, mem_accs (ps := ps), List.mem_cons]
    constructor
    · rintro ⟨xs, h⟩; exact ⟨xs, .inr h⟩
    · rintro ⟨xs, h | h⟩
      · cases h
      · exact ⟨xs, h⟩
def OwnAt (ρ : Rho) (σ : L2.St) (i : Nat) (a : Addr) : Prop := (∃ xs, ρ[i]? = some (some (.own xs))) ∧ σ[i]? = some (some (.ref a))
/-- what may be changed while this body runs -/
def Av (F : Fm) (pins : List Pin) (ρ : Rho) (σ : L2.St) : Addr → Prop := fun a => F.N a ∨ (∃ i, OwnAt ρ σ i a) ∨ a ∈ accs pins
/-- a list that callers may change, but nobody while this body runs -/
def LkR (F : Fm) (a : Addr) (us : List V) : Prop := (Rd F.H0 a (.lst us) ∧ ¬ F.L a) ∨ SqL F.K (fun _ => none) a us
def RoOk (F : Fm) (A : Addr → Prop) (H : Hp) (x : PyData) (v : V) : Prop := Im F.K A H x v ∨ ∃ a us xs, v = .ref a ∧ x = .list xs ∧ LkR F a us ∧ ImAll F.K A H xs us
def EntOk (F : Fm) (A : Addr → Prop) (H : Hp) : Ent → V → Prop
  | .d x, v => Im F.K A H x v
  | .own xs, v => ∃ a vs, v = .ref a ∧ H a = some (.lst vs) ∧ ImAll F.K A H xs vs ∧ (F.L a ∨ F.H0 a = none)
  | .ro x, v => RoOk F A H x v
  | .raw u, v => v = u
/-- a slot's data -/
def slot (ρ : Rho) (i : Nat) : Option PyData :=
  match ρ[i]? with
  | some (some (.d x)) => some x
  | some (some (.own xs)) => some (.list xs)
  | some (some (.ro x)) => some x
  | _ => none
def val (ρ : Rho) : R → Option PyData
  | .d x => some x
  | .o i => slot ρ i
  | .raw _ => none
def ROk (F : Fm) (A : Addr → Prop) (ρ : Rho) (σ : L2.St) (H : Hp) : R → V → Prop
  | .d x, v => Im F.K A H x v
  | .o i, v => σ[i]? = some (some v) ∧ ∃ x, slot ρ i = some x
  | .raw u, v => v = u
def PinOk (F : Fm) (A : Addr → Prop) (ρ : Rho) (σ : L2.St) (H : Hp) : Pin → Prop
  | .val v r => ROk F A ρ σ H r v
  | .acc a xs => ∃ vs, H a = some (.lst vs) ∧ ImAll F.K A H xs vs ∧ F.H0 a = none ∧ (¬ ∃ i, OwnAt ρ σ i a)
structure Ok (F : Fm) (pins : List Pin) (ρ : Rho) (σ : L2.St) (H : Hp) : Prop where
  len : σ.length = ρ.length
  ent : ∀ (i : Nat) (e : Ent), ρ[i]? = some (some e) → ∃ v, σ[i]? = some (some v) ∧ EntOk F (Av F pins ρ σ) H e v
  own : ∀ (i j : Nat) (a : Addr), OwnAt ρ σ i a → OwnAt ρ σ j a → i = j
  pin : ∀ p ∈ pins, PinOk F (Av F pins ρ σ) ρ σ H p
  acs : (accs pins).Nodup
  fr : ∀ a o, ¬ F.L a → F.H0 a = some o → H a = some o
  nh : ∀ a, F.N a → ∃ o, H a = some o
  ln : ∀ a, F.L a → F.N a
  h0 : ∀ a, F.N a → ∃ o, F.H0 a = some o
  lf : ∀ (i : Nat) (a : Addr), OwnAt ρ σ i a → F.L a → F.fix i
section
variable {F : Fm} {pins : List Pin} {ρ : Rho} {σ : L2.St} {H H' : Hp}
theorem Ok.ownL (O : Ok F pins ρ σ H) {i : Nat} {a : Addr} (h : OwnAt ρ σ i a) : ∃ vs, H a = some (.lst vs) ∧ (F.L a ∨ F.H0 a = none) := by
  obtain ⟨⟨xs, h1⟩, h2⟩ := h
  obtain ⟨v, h3, h4⟩ := O.ent i _ h1
  rw [h2] at h3
  cases h3
  obtain ⟨b, vs, e, h5, _, h6⟩ := h4
  cases e
  exact ⟨vs, h5, h6⟩
theorem Ok.avH (O : Ok F pins ρ σ H) {a : Addr} (h : Av F pins ρ σ a) : ∃ o, H a = some o := by
  rcases h with h | ⟨i, h⟩ | h
  · exact O.nh a h
  · obtain ⟨vs, h, _⟩ := O.ownL h; exact ⟨_, h⟩
  · obtain ⟨xs, h⟩ := mem_accs.mp h
    obtain ⟨vs, h, _⟩ := O.pin _ h
    exact ⟨_, h⟩
theorem RoOk.go {A A' : Addr → Prop} (g : Go A A' H H') {x : PyData} {v : V} (h : RoOk F A H x v) : RoOk F A' H' x v := by
  rcases h with h | ⟨a, us, xs, e, e2, l, t⟩
  · exact .inl (h.go g)
  · exact .inr ⟨a, us, xs, e, e2, l, t.go g⟩
/-- a change of the heap that Av does not feel -/
theorem Ok.heap (O : Ok F pins ρ σ H) (g : ∀ a o, H a = some o → H' a = some o) : Ok F pins ρ σ H' := by
  have G : Go (Av F pins ρ σ) (Av F pins ρ σ) H H' := ⟨fun a o _ h => g a o h, fun a h => .inl h⟩
  refine ⟨O.len, fun i e h => ?_, O.own, fun p hp => ?_, O.acs, fun a o n h => g _ _ (O.fr a o n h), fun a h => ?_, O.ln, O.h0, O.lf⟩
  · obtain ⟨v, h1, h2⟩ := O.ent i e h
    refine ⟨v, h1, ?_⟩
    cases e with
    | d x => exact Im.go G h2
    | own xs =>
      obtain ⟨a, vs, e, h5, h6, h7⟩ := h2
      exact ⟨a, vs, e, g _ _ h5, h6.go G, h7⟩
    | ro x => exact RoOk.go G h2
    | raw u => exact h2
  · have h := O.pin p hp
    cases p with
    | val v r =>
      cases r with
      | d x => exact Im.go G h
      | o i => exact h
      | raw u => exact h
    | acc a xs =>
      obtain ⟨vs, h1, h2, h3⟩ := h
      exact ⟨vs, g _ _ h1, h2.go G, h3⟩
  · obtain ⟨o, h⟩ := O.nh a h
    exact ⟨o, g _ _ h⟩
theorem grow_new {p : Addr} {o : HO} (h : H p = none) : ∀ a u, H a = some u → upd H p o a = some u := fun a u e => by
  rw [upd_ne (ne_of_none e h)]; exact e
theorem Ok.new (O : Ok F pins ρ σ H) {p : Addr} {o : HO} (h : H p = none) : Ok F pins ρ σ (upd H p o) := O.heap (grow_new h)
/-- a value is kept in mind -/
theorem Ok.push (O : Ok F pins ρ σ H) {v : V} {r : R} (h : ROk F (Av F pins ρ σ) ρ σ H r v) : Ok F (.val v r :: pins) ρ σ H := by
  have e : Av F (.val v r :: pins) ρ σ = Av F pins ρ σ := rfl
  refine ⟨O.len, by rw [e]; exact O.ent, O.own, fun p hp => ?_, O.acs, O.fr, O.nh, O.ln, O.h0, O.lf⟩
  rw [e]
  rcases List.mem_cons.mp hp with rfl | hp
  · exact h
  · exact O.pin p hp
theorem Ok.popV {v : V} {r : R} (O : Ok F (.val v r :: pins) ρ σ H) : Ok F pins ρ σ H ∧ ROk F (Av F pins ρ σ) ρ σ H r v := by
  have e : Av F (.val v r :: pins) ρ σ = Av F pins ρ σ := rfl
  refine ⟨⟨O.len, by have := O.ent; rw [e] at this; exact this, O.own, fun p hp => ?_, O.acs, O.fr, O.nh, O.ln, O.h0, O.lf⟩, ?_⟩
  · have := O.pin p (List.mem_cons_of_mem _ hp)
    rw [e] at this; exact this
  · have := O.pin _ (List.mem_cons_self ..)
    rw [e] at this; exact this
theorem ROk.go {A A' : Addr → Prop} (g : Go A A' H H') {r : R} {v : V} (h : ROk F A ρ σ H r v) : ROk F A' ρ σ H' r v := by
  cases r with
  | d x => exact Im.go g h
  | o i => exact h
  | raw u => exact h
/-- a new list, kept in mind: nobody else knows it -/
theorem Ok.pushL (O : Ok F pins ρ σ H) {p : Addr} {xs : List PyData} {vs : List V} (hp : H p = none) (h : ImAll F.K (Av F pins ρ σ) H xs vs) : Ok F (.acc p xs :: pins) ρ σ (upd H p (.lst vs)) := by
  have G : Go (Av F pins ρ σ) (Av F (.acc p xs :: pins) ρ σ) H (upd H p (.lst vs)) := by
    refine ⟨fun a o _ h => grow_new hp a o h, fun a h => ?_⟩
    rcases h with h | h | h
    · exact .inl (.inl h)
    · exact .inl (.inr (.inl h))
    · rcases List.mem_cons.mp (show a ∈ p :: accs pins from h) with rfl | h
      · exact .inr hp
      · exact .inl (.inr (.inr h))
  have nAv : ¬ Av F pins ρ σ p := fun h => by obtain ⟨o, h⟩ := O.avH h; rw [hp] at h; cases h
  have g := grow_new (o := .lst vs) hp
  refine ⟨O.len, fun i e h => ?_, O.own, fun q hq => ?_, ?_, fun a o n h => g _ _ (O.fr a o n h), fun a h => ?_, O.ln, O.h0, O.lf⟩
  · obtain ⟨v, h1, h2⟩ := O.ent i e h
    refine ⟨v, h1, ?_⟩
    cases e with
    | d x => exact Im.go G h2
    | own ys =>
      obtain ⟨a, us, e, h5, h6, h7⟩ := h2
      exact ⟨a, us, e, g _ _ h5, h6.go G, h7⟩
    | ro x => exact RoOk.go G h2
    | raw u => exact h2
  · rcases List.mem_cons.mp hq with rfl | hq
    · refine ⟨vs, upd_same, h.go G, ?_, fun ⟨i, z⟩ => nAv (.inr (.inl ⟨i, z⟩))⟩
      cases e : F.H0 p with
      | none => rfl
      | some o =>
        by_cases hl : F.L p
        · exact absurd (.inl (O.ln p hl)) nAv
        · rw [O.fr p o hl e] at hp; cases hp
    · have h := O.pin q hq
      cases q with
      | val v r => exact ROk.go G h
      | acc a ys =>
        obtain ⟨us, h1, h2, h3⟩ := h
        exact ⟨us, g _ _ h1, h2.go G, h3⟩
  · show (p :: accs pins).Nodup
    refine List.nodup_cons.mpr ⟨fun h => nAv (.inr (.inr h)), O.acs⟩
  · obtain ⟨o, h⟩ := O.nh a h
    exact ⟨o, g _ _ h⟩
/-- it is data from now on -/
theorem Ok.popL {p : Addr} {xs : List PyData} (O : Ok F (.acc p xs :: pins) ρ σ H) : Ok F pins ρ σ H ∧ Im F.K (Av F pins ρ σ) H (.list xs) (.ref p) := by
  have G : Go (Av F (.acc p xs :: pins) ρ σ) (Av F pins ρ σ) H H := by
    refine ⟨fun a o _ h => h, fun a h => .inl ?_⟩
    rcases h with h | h | h
    · exact .inl h
    · exact .inr (.inl h)
    · exact .inr (.inr (List.mem_cons_of_mem _ h))
  obtain ⟨vs, h1, h2, h3, h4⟩ := O.pin _ (List.mem_cons_self ..)
  have hnd := List.nodup_cons.mp (show (p :: accs pins).Nodup from O.acs)
  refine ⟨⟨O.len, fun i e h => ?_, O.own, fun q hq => ?_, hnd.2, O.fr, O.nh, O.ln, O.h0, O.lf⟩, ?_⟩
  · obtain ⟨v, h1, h2⟩ := O.ent i e h
    refine ⟨v, h1, ?_⟩
    cases e with
    | d x => exact Im.go G h2
    | own ys =>
      obtain ⟨a, us, e, h5, h6, h7⟩ := h2
      exact ⟨a, us, e, h5, h6.go G, h7⟩
    | ro x => exact RoOk.go G h2
    | raw u => exact h2
  · have h := O.pin q (List.mem_cons_of_mem _ hq)
    cases q with
    | val v r => exact ROk.go G h
    | acc a ys =>
      obtain ⟨us, h1, h2, h3⟩ := h
      exact ⟨us, h1, h2.go G, h3⟩
  · simp only [Im]
    refine ⟨p, vs, rfl, ⟨h1, ?_⟩, h2.go G⟩
    rintro (h | h | h)
    · obtain ⟨o, h⟩ := O.h0 p h
      rw [h3] at h; cases h
    · exact h4 h
    · exact hnd.1 h
end
end DV
namespace DV
open PySem PySem.Spec PyProof.Rows L2
section
variable {F : Fm} {pins : List Pin} {ρ : Rho} {σ : L2.St} {H H' : Hp}
theorem EntOk.go {A A' : Addr → Prop} (g : Go A A' H H') {e : Ent} {v : V} (h : EntOk F A H e v) (hown : ∀ a vs, v = .ref a → H a = some (.lst vs) → (∃ xs, e = .own xs) → H' a = some (.lst vs)) : EntOk F A' H' e v := by
  cases e with
  | d x => exact Im.go g h
  | own ys =>
    obtain ⟨a, us, e, h5, h6, h7⟩ := h
    exact ⟨a, us, e, hown a us e h5 ⟨_, rfl⟩, h6.go g, h7⟩
  | ro x => exact RoOk.go g h
  | raw u => exact h
theorem setOwn_iff {i : Nat} {a : Addr} {xs : List PyData} (h : OwnAt ρ σ i a) (j : Nat) (b : Addr) : OwnAt (ρ.set i (some (.own xs))) σ j b ↔ OwnAt ρ σ j b := by
  obtain ⟨⟨ys, h1⟩, h2⟩ := h
  have hi : i < ρ.length := by
    rcases Nat.lt_or_ge i ρ.length with z | z
    · exact z
    · rw [List.getElem?_eq_none z] at h1; cases h1
  by_cases e : i = j
  · subst e
    constructor
    · rintro ⟨_, h3⟩; exact ⟨⟨ys, h1⟩, h3⟩
    · rintro ⟨_, h3⟩; exact ⟨⟨xs, by simp [hi]⟩, h3⟩
  · unfold OwnAt
    rw [List.getElem?_set_ne e]
theorem Ok.setOwn (O : Ok F pins ρ σ H) {i : Nat} {a : Addr} {xs : List PyData} {vs : List V} (h : OwnAt ρ σ i a) (hx : ImAll F.K (Av F pins ρ σ) H xs vs) :
    Ok F pins (ρ.set i (some (.own xs))) σ (upd H a (.lst vs)) := by
  have oe := setOwn_iff (xs := xs) h
  have ae : Av F pins (ρ.set i (some (.own xs))) σ = Av F pins ρ σ := by
    funext b
    unfold Av
    simp only [oe]
  have aa : Av F pins ρ σ a := .inr (.inl ⟨i, h⟩)
  have G : Go (Av F pins ρ σ) (Av F pins ρ σ) H (upd H a (.lst vs)) := ⟨fun b o n e => by
    have hb : b ≠ a := fun z => n (by rw [z]; exact aa)
    rw [upd_ne hb]; exact e, fun b z => .inl z⟩
  obtain ⟨vs0, hH, hl⟩ := O.ownL h
  obtain ⟨⟨ys, h1⟩, h2⟩ := id h
  have hi : i < ρ.length := by
    rcases Nat.lt_or_ge i ρ.length with z | z
    · exact z
    · rw [List.getElem?_eq_none z] at h1; cases h1
  refine ⟨by rw [List.length_set]; exact O.len, fun j e hj => ?_, fun j k b z1 z2 => O.own j k b ((oe j b).mp z1) ((oe k b).mp z2), fun p hp => ?_, O.acs, fun b o n e => ?_, fun b z => ?_, O.ln, O.h0, fun j b z => O.lf j b ((oe j b).mp z)⟩
  · rw [ae]
    by_cases e2 : i = j
    · subst e2
      rw [List.getElem?_set_self hi] at hj
      cases hj
      exact ⟨.ref a, h2, a, vs, rfl, upd_same, hx.go G, hl⟩
    · rw [List.getElem?_set_ne e2] at hj
      obtain ⟨v, h3, h4⟩ := O.ent j e hj
      refine ⟨v, h3, EntOk.go G h4 fun b us ev hb ⟨zs, ex⟩ => ?_⟩
      subst ev ex
      rw [upd_ne (fun z => e2 (O.own i j a h (by subst z; exact ⟨⟨zs, hj⟩, h3⟩)))]
      exact hb
  · rw [ae]
    have hq := O.pin p hp
    cases p with
    | val v r =>
      cases r with
      | d x => exact Im.go G hq
      | o j =>
        refine ⟨hq.1, ?_⟩
        by_cases e2 : i = j
        · subst e2
          exact ⟨.list xs, by unfold slot; rw [List.getElem?_set_self hi]⟩
        · obtain ⟨x, hx2⟩ := hq.2
          refine ⟨x, ?_⟩
          unfold slot at hx2 ⊢
          rw [List.getElem?_set_ne e2]
          exact hx2
      | raw u => exact hq
    | acc b ys =>
      obtain ⟨us, h3, h4, h5, h6⟩ := hq
      refine ⟨us, ?_, h4.go G, h5, fun ⟨j, z⟩ => h6 ⟨j, (oe j b).mp z⟩⟩
      rw [upd_ne (fun z => h6 (by subst z; exact ⟨i, h⟩))]
      exact h3
  · rw [upd_ne (fun z => ?_)]
    · exact O.fr b o n e
    · subst z
      rcases hl with hl | hl
      · exact n hl
      · rw [hl] at e; cases e
  · by_cases e : b = a
    · subst e; exact ⟨_, upd_same⟩
    · rw [upd_ne e]; exact O.nh b z
theorem Ok.setAcc {a : Addr} {xs ys : List PyData} {vs : List V} (O : Ok F (.acc a xs :: pins) ρ σ H) (hx : ImAll F.K (Av F (.acc a xs :: pins) ρ σ) H ys vs) :
    Ok F (.acc a ys :: pins) ρ σ (upd H a (.lst vs)) := by
  have ae : Av F (.acc a ys :: pins) ρ σ = Av F (.acc a xs :: pins) ρ σ := rfl
  have aa : Av F (.acc a xs :: pins) ρ σ a := .inr (.inr (List.mem_cons_self ..))
  have G : Go (Av F (.acc a xs :: pins) ρ σ) (Av F (.acc a xs :: pins) ρ σ) H (upd H a (.lst vs)) := ⟨fun b o n e => by
    have hb : b ≠ a := fun z => n (by rw [z]; exact aa)
    rw [upd_ne hb]; exact e, fun b z => .inl z⟩
  obtain ⟨vs0, hH, hi0, h00, hno⟩ := O.pin _ (List.mem_cons_self ..)
  have hnd := List.nodup_cons.mp (show (a :: accs pins).Nodup from O.acs)
  refine ⟨O.len, fun j e hj => ?_, O.own, fun p hp => ?_, O.acs, fun b o n e => ?_, fun b z => ?_, O.ln, O.h0, O.lf⟩
  · rw [ae]
    obtain ⟨v, h3, h4⟩ := O.ent j e hj
    refine ⟨v, h3, EntOk.go G h4 fun b us ev hb ⟨zs, ex⟩ => ?_⟩
    subst ev ex
    rw [upd_ne (fun z => hno (by subst z; exact ⟨j, ⟨zs, hj⟩, h3⟩))]
    exact hb
  · rw [ae]
    rcases List.mem_cons.mp hp with rfl | hp1
    · exact ⟨vs, upd_same, hx.go G, h00, hno⟩
    · have hq := O.pin p (List.mem_cons_of_mem _ hp1)
      cases p with
      | val v r => exact ROk.go G hq
      | acc b zs =>
        obtain ⟨us, h3, h4, h5⟩ := hq
        refine ⟨us, ?_, h4.go G, h5⟩
        rw [upd_ne (fun z => hnd.1 (by subst z; exact mem_accs.mpr ⟨zs, hp1⟩))]
        exact h3
  · rw [upd_ne (fun z => ?_)]
    · exact O.fr b o n e
    · subst z; rw [h00] at e; cases e
  · by_cases e : b = a
    · subst e; exact ⟨_, upd_same⟩
    · rw [upd_ne e]; exact O.nh b z
/-- no value in mind stands for the i-th slot -/
def Fr (pins : List Pin) (i : Nat) : Prop := ∀ v j, Pin.val v (.o j) ∈ pins → j ≠ i
def SPn (F : Fm) (pins : List Pin) : Prop := ∀ v j, Pin.val v (.o j) ∈ pins → F.fix j
theorem SPn.fr (h : SPn F pins) {i : Nat} (hi : ¬ F.fix i) : Fr pins i := fun v j hp e => hi (e ▸ h v j hp)
theorem SPn.cons (h : SPn F pins) {v : V} {x : PyData} : SPn F (.val v (.d x) :: pins) := fun u j hp => by
  rcases List.mem_cons.mp hp with z | z
  · cases z
  · exact h u j z
theorem slot_ne {i j : Nat} {e : Option Ent} (h : j ≠ i) : slot (ρ.set i e) j = slot ρ j := by
  unfold slot; rw [List.getElem?_set_ne (fun z => h z.symm)]
theorem getset {α : Type} {l : List α} {i j : Nat} {x y : α} (h : (l.set i x)[j]? = some y) : (j = i ∧ y = x ∧ i < l.length) ∨ (j ≠ i ∧ l[j]? = some y) := by
  by_cases e : i = j
  · subst e
    by_cases hl : i < l.length
    · rw [List.getElem?_set_self hl] at h; cases h; exact .inl ⟨rfl, rfl, hl⟩
    · rw [List.getElem?_eq_none (by rw [List.length_set]; omega)] at h; cases h
  · rw [List.getElem?_set_ne e] at h
    exact .inr ⟨fun z => e z.symm, h⟩
theorem own_put {i j : Nat} {b : Addr} {e : Option Ent} {u : Option V} (he : ∀ xs, e ≠ some (.own xs)) (h : OwnAt (ρ.set i e) (σ.set i u) j b) : j ≠ i ∧ OwnAt ρ σ j b := by
  obtain ⟨⟨xs, h1⟩, h2⟩ := h
  rcases getset h1 with ⟨_, q, _⟩ | ⟨ne, q⟩
  · exact absurd q.symm (he xs)
  · rw [List.getElem?_set_ne (fun z => ne z.symm)] at h2
    exact ⟨ne, ⟨xs, q⟩, h2⟩
/-- a name takes a value that is no list of its own -/
theorem Ok.put (O : Ok F pins ρ σ H) {i : Nat} {e : Option Ent} {u : Option V} (hi : Fr pins i) (he : ∀ xs, e ≠ some (.own xs)) (hv : ∀ f, e = some f → ∃ v, u = some v ∧ EntOk F (Av F pins ρ σ) H f v) :
    Ok F pins (ρ.set i e) (σ.set i u) H := by
  have G : Go (Av F pins ρ σ) (Av F pins (ρ.set i e) (σ.set i u)) H H := by
    refine ⟨fun _ _ _ h => h, fun a h => .inl ?_⟩
    rcases h with h | ⟨j, h⟩ | h
    · exact .inl h
    · exact .inr (.inl ⟨j, (own_put he h).2⟩)
    · exact .inr (.inr h)
  refine ⟨by rw [List.length_set, List.length_set]; exact O.len, fun j f hj => ?_, fun j k b z1 z2 => O.own j k b (own_put he z1).2 (own_put he z2).2, fun p hp => ?_, O.acs, O.fr, O.nh, O.ln, O.h0, fun j b z => O.lf j b (own_put he z).2⟩
  · rcases getset hj with ⟨rfl, q, hl⟩ | ⟨ne, q⟩
    · obtain ⟨v, hu, ho⟩ := hv f q.symm
      subst hu
      exact ⟨v, by rw [List.getElem?_set_self (by rw [O.len]; exact hl)], EntOk.go G ho fun _ _ _ z _ => z⟩
    · obtain ⟨v, h3, h4⟩ := O.ent j f q
      exact ⟨v, by rw [List.getElem?_set_ne (fun z => ne z.symm)]; exact h3, EntOk.go G h4 fun _ _ _ z _ => z⟩
  · have hq := O.pin p hp
    cases p with
    | val v r =>
      cases r with
      | d x => exact Im.go G hq
      | o j =>
        have ne := hi v j hp
        obtain ⟨h1, x, h2⟩ := hq
        exact ⟨by rw [List.getElem?_set_ne (fun z => ne z.symm)]; exact h1, x, by rw [slot_ne ne]; exact h2⟩
      | raw u => exact hq
    | acc b ys =>
      obtain ⟨us, h3, h4, h5, h6⟩ := hq
      exact ⟨us, h3, h4.go G, h5, fun ⟨j, z⟩ => h6 ⟨j, (own_put he z).2⟩⟩
/-- a name takes a new list of its own -/
theorem Ok.putL {p : Addr} {xs : List PyData} (O : Ok F (.acc p xs :: pins) ρ σ H) {i : Nat} (hi : Fr pins i) :
    Ok F pins (ρ.set i (some (.own xs))) (σ.set i (some (.ref p))) H := by
  obtain ⟨vs, hH, hx, h00, hno⟩ := O.pin _ (List.mem_cons_self ..)
  have hnd := List.nodup_cons.mp (show (p :: accs pins).Nodup from O.acs)
  have ow : ∀ j b, OwnAt (ρ.set i (some (.own xs))) (σ.set i (some (.ref p))) j b → (j = i ∧ b = p) ∨ (j ≠ i ∧ OwnAt ρ σ j b) := fun j b h => by
    obtain ⟨⟨ys, h1⟩, h2⟩ := h
    rcases getset h1 with ⟨rfl, q, hl⟩ | ⟨ne, q⟩
    · rw [List.getElem?_set_self (by rw [O.len]; exact hl)] at h2
      cases h2; exact .inl ⟨rfl, rfl⟩
    · rw [List.getElem?_set_ne (fun z => ne z.symm)] at h2
      exact .inr ⟨ne, ⟨ys, q⟩, h2⟩
  have G : Go (Av F (.acc p xs :: pins) ρ σ) (Av F pins (ρ.set i (some (.own xs))) (σ.set i (some (.ref p)))) H H := by
    refine ⟨fun _ _ _ h => h, fun a h => .inl ?_⟩
    rcases h with h | ⟨j, h⟩ | h
    · exact .inl h
    · rcases ow j a h with ⟨_, rfl⟩ | ⟨_, h⟩
      · exact .inr (.inr (List.mem_cons_self ..))
      · exact .inr (.inl ⟨j, h⟩)
    · exact .inr (.inr (List.mem_cons_of_mem _ h))
  refine ⟨by rw [List.length_set, List.length_set]; exact O.len, fun j f hj => ?_, fun j k b z1 z2 => ?_, fun q hq => ?_, hnd.2, O.fr, O.nh, O.ln, O.h0, fun j b z hL => ?_⟩
  · rcases getset hj with ⟨rfl, q, hl⟩ | ⟨ne, q⟩
    · cases q
      exact ⟨.ref p, by rw [List.getElem?_set_self (by rw [O.len]; exact hl)], p, vs, rfl, hH, hx.go G, .inr h00⟩
    · obtain ⟨v, h3, h4⟩ := O.ent j f q
      exact ⟨v, by rw [List.getElem?_set_ne (fun z => ne z.symm)]; exact h3, EntOk.go G h4 fun _ _ _ z _ => z⟩
  · rcases ow j b z1 with ⟨e1, e2⟩ | ⟨n1, y1⟩
    · rcases ow k b z2 with ⟨e3, _⟩ | ⟨n2, y2⟩
      · rw [e1, e3]
      · rw [e2] at y2; exact absurd ⟨k, y2⟩ hno
    · rcases ow k b z2 with ⟨e3, e4⟩ | ⟨n2, y2⟩
      · rw [e4] at y1; exact absurd ⟨j, y1⟩ hno
      · exact O.own j k b y1 y2
  · have h := O.pin q (List.mem_cons_of_mem _ hq)
    cases q with
    | val v r =>
      cases r with
      | d x => exact Im.go G h
      | o j =>
        have ne := hi v j hq
        obtain ⟨h1, x, h2⟩ := h
        exact ⟨by rw [List.getElem?_set_ne (fun z => ne z.symm)]; exact h1, x, by rw [slot_ne ne]; exact h2⟩
      | raw u => exact h
    | acc b ys =>
      obtain ⟨us, h3, h4, h5, h6⟩ := h
      refine ⟨us, h3, h4.go G, h5, fun ⟨j, z⟩ => ?_⟩
      rcases ow j b z with ⟨_, rfl⟩ | ⟨_, z⟩
      · exact hnd.1 (mem_accs.mpr ⟨ys, hq⟩)
      · exact h6 ⟨j, z⟩
  · rcases ow j b z with ⟨_, rfl⟩ | ⟨_, z⟩
    · obtain ⟨o, h⟩ := O.h0 b (O.ln b hL)
      rw [h00] at h; cases h
    · exact O.lf j b z hL
/-- a list of one's own is data from now on -/
theorem Ok.frz (O : Ok F pins ρ σ H) {i : Nat} {xs : List PyData} (h : ρ[i]? = some (some (.own xs))) (hf : ¬ F.fix i) : Ok F pins (ρ.set i (some (.d (.list xs)))) σ H := by
  obtain ⟨v, hσ, a, vs, rfl, hH, hx, hl⟩ := O.ent i _ h
  have hil : i < ρ.length := by
    rcases Nat.lt_or_ge i ρ.length with z | z
    · exact z
    · rw [List.getElem?_eq_none z] at h; cases h
  have hown : OwnAt ρ σ i a := ⟨⟨xs, h⟩, hσ⟩
  have ow : ∀ j b, OwnAt (ρ.set i (some (.d (.list xs)))) σ j b → j ≠ i ∧ OwnAt ρ σ j b := fun j b h => by
    obtain ⟨⟨ys, h1⟩, h2⟩ := h
    rcases getset h1 with ⟨_, q, _⟩ | ⟨ne, q⟩
    · cases q
    · exact ⟨ne, ⟨ys, q⟩, h2⟩
  have G : Go (Av F pins ρ σ) (Av F pins (ρ.set i (some (.d (.list xs)))) σ) H H := by
    refine ⟨fun _ _ _ h => h, fun a h => .inl ?_⟩
    rcases h with h | ⟨j, h⟩ | h
    · exact .inl h
    · exact .inr (.inl ⟨j, (ow j a h).2⟩)
    · exact .inr (.inr h)
  have h0a : F.H0 a = none := by
    rcases hl with hl | hl
    · exact absurd (O.lf i a hown hl) hf
    · exact hl
  have nav : ¬ Av F pins (ρ.set i (some (.d (.list xs)))) σ a := by
    rintro (z | ⟨j, z⟩ | z)
    · obtain ⟨o, e⟩ := O.h0 a z
      rw [h0a] at e; cases e
    · exact (ow j a z).1 (O.own j i a (ow j a z).2 hown)
    · obtain ⟨ys, hp⟩ := mem_accs.mp z
      obtain ⟨_, _, _, _, hno⟩ := O.pin _ hp
      exact hno ⟨i, hown⟩
  have im : Im F.K (Av F pins (ρ.set i (some (.d (.list xs)))) σ) H (.list xs) (.ref a) := by
    simp only [Im]
    exact ⟨a, vs, rfl, ⟨hH, nav⟩, hx.go G⟩
  refine ⟨by rw [List.length_set]; exact O.len, fun j f hj => ?_, fun j k b z1 z2 => O.own j k b (ow j b z1).2 (ow k b z2).2, fun p hp => ?_, O.acs, O.fr, O.nh, O.ln, O.h0, fun j b z => O.lf j b (ow j b z).2⟩
  · rcases getset hj with ⟨rfl, q, hl⟩ | ⟨ne, q⟩
    · cases q
      exact ⟨.ref a, hσ, im⟩
    · obtain ⟨v, h3, h4⟩ := O.ent j f q
      exact ⟨v, h3, EntOk.go G h4 fun _ _ _ z _ => z⟩
  · have hq := O.pin p hp
    cases p with
    | val v r =>
      cases r with
      | d x => exact Im.go G hq
      | o j =>
        obtain ⟨h1, x, h2⟩ := hq
        refine ⟨h1, ?_⟩
        by_cases e : j = i
        · subst e
          exact ⟨.list xs, by unfold slot; rw [List.getElem?_set_self hil]⟩
        · exact ⟨x, by rw [slot_ne e]; exact h2⟩
      | raw u => exact hq
    | acc b ys =>
      obtain ⟨us, h3, h4, h5, h6⟩ := hq
      exact ⟨us, h3, h4.go G, h5, fun ⟨j, z⟩ => h6 ⟨j, (ow j b z).2⟩⟩
/-- slots forgotten -/
theorem Ok.clr (O : Ok F pins ρ σ H) {i : Nat} (hi : Fr pins i) : Ok F pins (ρ.set i none) (σ.set i none) H := O.put hi (fun _ z => nomatch z) fun _ z => nomatch z
theorem Ok.unclr {i : Nat} (O : Ok F pins ρ (σ.set i none) H) (hi : ρ[i]? = some none) : Ok F pins ρ σ H := by
  have hs : ∀ j v, (σ.set i none)[j]? = some (some v) → σ[j]? = some (some v) := fun j v h => by
    rcases getset h with ⟨_, q, _⟩ | ⟨_, q⟩
    · cases q
    · exact q
  have hs' : ∀ j v, j ≠ i → σ[j]? = some (some v) → (σ.set i none)[j]? = some (some v) := fun j v ne h => by rw [List.getElem?_set_ne (fun z => ne z.symm)]; exact h
  have ne : ∀ j e, ρ[j]? = some (some e) → j ≠ i := fun j e h z => by subst z; rw [hi] at h; cases h
  have ow : ∀ j b, OwnAt ρ σ j b ↔ OwnAt ρ (σ.set i none) j b := fun j b =>
    ⟨fun ⟨⟨xs, h1⟩, h2⟩ => ⟨⟨xs, h1⟩, hs' j _ (ne j _ h1) h2⟩, fun ⟨h1, h2⟩ => ⟨h1, hs j _ h2⟩⟩
  have ae : Av F pins ρ σ = Av F pins ρ (σ.set i none) := by
    funext b; unfold Av; simp only [ow]
  refine ⟨by have := O.len; rw [List.length_set] at this; exact this, fun j e h => ?_, fun j k b z1 z2 => O.own j k b ((ow j b).mp z1) ((ow k b).mp z2), fun p hp => ?_, O.acs, O.fr, O.nh, O.ln, O.h0, fun j b z => O.lf j b ((ow j b).mp z)⟩
  · obtain ⟨v, h1, h2⟩ := O.ent j e h
    exact ⟨v, hs j v h1, by rw [ae]; exact h2⟩
  · have hq := O.pin p hp
    cases p with
    | val v r =>
      cases r with
      | d x => rw [ae]; exact hq
      | o j => exact ⟨hs j v hq.1, hq.2⟩
      | raw u => exact hq
    | acc b ys =>
      obtain ⟨us, h3, h4, h5, h6⟩ := hq
      exact ⟨us, h3, by rw [ae]; exact h4, h5, fun ⟨j, z⟩ => h6 ⟨j, (ow j b).mp z⟩⟩
def wipeR (ρ : Rho) : List Nat → Rho
  | [] => ρ
  | i :: r => (wipeR ρ r).set i none
theorem Ok.wipe (O : Ok F pins ρ σ H) : ∀ {vs : List Nat}, (∀ i ∈ vs, Fr pins i) → Ok F pins (wipeR ρ vs) (wipe σ vs) H
  | [], _ => O
  | i :: r, h => by
    have := Ok.wipe O (vs := r) fun j hj => h j (List.mem_cons_of_mem _ hj)
    exact this.clr (h i (List.mem_cons_self ..))
theorem wipeR_len : ∀ vs : List Nat, (wipeR ρ vs).length = ρ.length
  | [] => rfl
  | i :: r => by show ((wipeR ρ r).set i none).length = _; rw [List.length_set]; exact wipeR_len r
theorem wipeR_none : ∀ {vs : List Nat} {i : Nat}, i ∈ vs → i < ρ.length → (wipeR ρ vs)[i]? = some none
  | j :: r, i, h, hl => by
    show ((wipeR ρ r).set j none)[i]? = some none
    by_cases e : j = i
    · subst e
      rw [List.getElem?_set_self (by rw [wipeR_len]; exact hl)]
    · rw [List.getElem?_set_ne e]
      rcases List.mem_cons.mp h with z | z
      · exact absurd z.symm e
      · exact wipeR_none z hl
theorem Ok.unwipe : ∀ {vs : List Nat} {σ : L2.St}, Ok F pins ρ (L2.wipe σ vs) H → (∀ i ∈ vs, ρ[i]? = some none ∨ ρ[i]? = none) → Ok F pins ρ σ H
  | [], _, O, _ => O
  | i :: r, σ, O, h => by
    have O' : Ok F pins ρ ((L2.wipe σ r).set i none) H := O
    rcases h i (List.mem_cons_self ..) with z | z
    · exact Ok.unwipe (O'.unclr z) fun j hj => h j (List.mem_cons_of_mem _ hj)
    · have hl : ρ.length ≤ i := List.getElem?_eq_none_iff.mp z
      have hw : (L2.wipe σ r).length = ρ.length := by have := O'.len; rw [List.length_set] at this; exact this
      rw [List.set_eq_of_length_le (by omega)] at O'
      exact Ok.unwipe O' fun j hj => h j (List.mem_cons_of_mem _ hj)
end
end DV
namespace DV
open PySem PySem.Spec PyProof.Rows L2
abbrev TDE := Rho → (R → Rho → Prop) → Prop
abbrev TDL := Rho → (List PyData → Rho → Prop) → Prop
abbrev TDA := Rho → (List R → Rho → Prop) → Prop
abbrev TDT := Rho → (Bool → Rho → Prop) → Prop
abbrev TDG := V → R → Rho → (Rho → Prop) → Prop
structure DEnds where
  nx : Rho → Prop
  rt : R → Rho → Prop
  bk : Rho → Prop := fun _ => False
  ct : Rho → Prop := fun _ => False
  rl : List PyData → Rho → Prop := fun _ _ => False
abbrev TDS := DEnds → Rho → Prop
/-- what a reading tells of data -/
structure DE (F : Fm) (te : TE) (td : TDE) : Prop where
  run : ∀ (pins : List Pin) (ρ : Rho) (σ : L2.St) (H : Hp) (Q : VK), Ok F pins ρ σ H →
    td ρ (fun r ρ' => ∀ v H', Ok F pins ρ' σ H' → ROk F (Av F pins ρ' σ) ρ' σ H' r v → Q v H') → te σ H Q
  mono : ∀ ρ Q Q', (∀ r ρ', Q r ρ' → Q' r ρ') → td ρ Q → td ρ Q'
structure DL (F : Fm) (te : TE) (td : TDL) : Prop where
  run : ∀ (pins : List Pin) (ρ : Rho) (σ : L2.St) (H : Hp) (Q : VK), Ok F pins ρ σ H →
    td ρ (fun xs ρ' => ∀ p H', Ok F (.acc p xs :: pins) ρ' σ H' → Q (.ref p) H') → te σ H Q
  mono : ∀ ρ Q Q', (∀ r ρ', Q r ρ' → Q' r ρ') → td ρ Q → td ρ Q'
structure DT (F : Fm) (tt : TT) (td : TDT) : Prop where
  run : ∀ (pins : List Pin) (ρ : Rho) (σ : L2.St) (H : Hp) (Q : Bool → Hp → Prop), Ok F pins ρ σ H →
    td ρ (fun b ρ' => ∀ H', Ok F pins ρ' σ H' → Q b H') → tt σ H Q
  mono : ∀ ρ Q Q', (∀ r ρ', Q r ρ' → Q' r ρ') → td ρ Q → td ρ Q'
def ROks (F : Fm) (A : Addr → Prop) (ρ : Rho) (σ : L2.St) (H : Hp) : List R → List V → Prop
  | [], vs => vs = []
  | r :: rs, vs => ∃ v us, vs = v :: us ∧ ROk F A ρ σ H r v ∧ ROks F A ρ σ H rs us
structure DA (F : Fm) (ta : TA) (td : TDA) : Prop where
  run : ∀ (pins : List Pin) (ρ : Rho) (σ : L2.St) (H : Hp) (Q : List V → Hp → Prop), Ok F pins ρ σ H →
    td ρ (fun rs ρ' => ∀ vs H', Ok F pins ρ' σ H' → ROks F (Av F pins ρ' σ) ρ' σ H' rs vs → Q vs H') → ta σ H Q
  mono : ∀ ρ Q Q', (∀ r ρ', Q r ρ' → Q' r ρ') → td ρ Q → td ρ Q'
structure PD (X : Cx) (F : Fm) (e : Expr) (te : TE) (td : TDE) : Prop where
  pe : PE X e te
  de : DE F te td
structure PDL (X : Cx) (F : Fm) (e : Expr) (te : TE) (td : TDL) : Prop where
  pe : PE X e te
  dl : DL F te td
structure PDT (X : Cx) (F : Fm) (e : Expr) (tt : TT) (td : TDT) : Prop where
  pt : PT X e tt
  dt : DT F tt td
structure PDW (X : Cx) (F : Fm) (e : Expr) (tt : TT) (td : TDT) : Prop where
  pw : PW X e tt
  dt : DT F tt td
structure PDA (X : Cx) (F : Fm) (es : List Expr) (ta : TA) (td : TDA) : Prop where
  pa : PA X es ta
  da : DA F ta td
section
variable {F : Fm} {pins : List Pin} {ρ : Rho} {σ : L2.St} {H H' : Hp}
theorem LkR.sq (O : Ok F pins ρ σ H) {a : Addr} {us : List V} (h : LkR F a us) : SqL F.K H a us := by
  rcases h with ⟨h | ⟨o, h⟩, n⟩ | h
  · exact .inl (.inl (O.fr _ _ n h))
  · exact .inl (.inr ⟨o, O.fr _ _ n h⟩)
  · exact sql_none h
theorem slot_dp (O : Ok F pins ρ σ H) {i : Nat} {v : V} {x : PyData} (h1 : σ[i]? = some (some v)) (h2 : slot ρ i = some x) : Dp F.K H v x := by
  unfold slot at h2
  cases e : ρ[i]? with
  | none => rw [e] at h2; cases h2
  | some f =>
    rw [e] at h2
    cases f with
    | none => cases h2
    | some f =>
      obtain ⟨u, h3, h4⟩ := O.ent i f e
      rw [h1] at h3; cases h3
      cases f with
      | d y => cases h2; exact Im.dp h4
      | own ys =>
        cases h2
        obtain ⟨a, vs, rfl, h5, h6, _⟩ := h4
        exact .lst (.of h5) h6.dp
      | ro y =>
        cases h2
        rcases h4 with h4 | ⟨a, us, xs, rfl, rfl, l, t⟩
        · exact Im.dp h4
        · exact .lst (l.sq O) t.dp
      | raw u => cases h2
theorem val_dp (O : Ok F pins ρ σ H) {A : Addr → Prop} {r : R} {v : V} {x : PyData} (h : ROk F A ρ σ H r v) (h2 : val ρ r = some x) : Dp F.K H v x := by
  cases r with
  | d y => cases h2; exact Im.dp h
  | o i => exact slot_dp O h.1 h2
  | raw u => cases h2
def vals (ρ : Rho) : List R → Option (List PyData)
  | [] => some []
  | r :: rs => match val ρ r, vals ρ rs with
    | some x, some xs => some (x :: xs)
    | _, _ => none
theorem vals_dp (O : Ok F pins ρ σ H) {A : Addr → Prop} : ∀ {rs : List R} {vs : List V} {xs : List PyData}, ROks F A ρ σ H rs vs → vals ρ rs = some xs → DpAll F.K H vs xs
  | [], _, _, h, e => by
    simp only [ROks] at h; simp only [vals] at e; subst h; cases e; exact .nil
  | r :: rs, _, _, h, e => by
    simp only [ROks] at h
    obtain ⟨v, us, rfl, h1, h2⟩ := h
    simp only [vals] at e
    cases e1 : val ρ r with
    | none => rw [e1] at e; cases e
    | some x =>
      cases e2 : vals ρ rs with
      | none => rw [e1, e2] at e; cases e
      | some xs =>
        rw [e1, e2] at e; cases e
        exact .cons (val_dp O h1 e1) (vals_dp O h2 e2)
end
/-- a value without a heap -/
def Sc (z : PyData) (v : V) : Prop := ∀ K N H, Im K N H z v
theorem Sc.int {i : Int} : Sc (.int i) (.int i) := fun _ _ _ => Im.int
theorem Sc.bool {b : Bool} : Sc (.bool b) (.bl b) := fun _ _ _ => Im.bool
theorem Sc.str {x : Str} : Sc (.str x) (.str x) := fun _ _ _ => Im.str
theorem Sc.none : Sc .none .non := fun _ _ _ => Im.none
theorem ROk.sc {F : Fm} {A : Addr → Prop} {ρ : Rho} {σ : L2.St} {H : Hp} {z : PyData} {v : V} (h : Sc z v) : ROk F A ρ σ H (.d z) v := h _ _ _
section
variable {X : Cx} {F : Fm} {a b c e : Expr} {es : List Expr} {ta tb tc te : TE} {da db dc de : TDE} {pos : Pos}
/-! ### names and constants -/
def dVar (i : Nat) : TDE := fun ρ Q => match ρ[i]? with
  | some (some (.d x)) => Q (.d x) ρ
  | some (some (.own _)) => Q (.o i) ρ
  | some (some (.ro _)) => Q (.o i) ρ
  | some (some (.raw v)) => Q (.raw v) ρ
  | _ => False
theorem de_var (i : Nat) : DE F (tVar i) (dVar i) := by
  constructor
  · intro pins ρ σ H Q O h
    unfold dVar at h
    cases e : ρ[i]? with
    | none => rw [e] at h; exact h.elim
    | some f =>
      rw [e] at h
      cases f with
      | none => exact h.elim
      | some f =>
        obtain ⟨v, h1, h2⟩ := O.ent i f e
        refine ⟨v, h1, ?_⟩
        cases f with
        | d x => exact h v H O h2
        | own xs => exact h v H O ⟨h1, .list xs, by unfold slot; rw [e]⟩
        | ro x => exact h v H O ⟨h1, x, by unfold slot; rw [e]⟩
        | raw u => exact h v H O h2
  · intro ρ Q Q' hq h
    unfold dVar at h ⊢
    split at h <;> first | exact hq _ _ h | exact h
theorem pdv (i : Nat) {x : Str} (hN : X.N[i]? = some x := by rfl) (hv : Vis X.env.scope x := by first | exact Or.inl rfl | exact Or.inr (Or.inl rfl) | exact Or.inr (Or.inr rfl)) (hd : (x == ("__debug__" : Str)) = false := by decide)
    (hcd : (x == ("__classdict__" : Str)) = false := by decide) : PD X F (.Name x pos) (tVar i) (dVar i) := ⟨pe_var hN hv hd hcd, de_var i⟩
def dC (z : PyData) : TDE := fun ρ Q => Q (.d z) ρ
theorem de_c {v : V} {z : PyData} (h : Sc z v) : DE F (tC v) (dC z) := ⟨fun pins ρ σ H Q O h2 => h2 v H O (h _ _ _), fun _ _ _ hq h => hq _ _ h⟩
theorem pd_int {i : Int} {j} : PD X F (.Constant (.int i) j pos) (tC (.int i)) (dC (.int i)) := ⟨pe_int, de_c .int⟩
theorem pd_bl {i : Bool} {j} : PD X F (.Constant (.bool i) j pos) (tC (.bl i)) (dC (.bool i)) := ⟨pe_bl, de_c .bool⟩
theorem pd_str {i : Str} {j} : PD X F (.Constant (.str i) j pos) (tC (.str i)) (dC (.str i)) := ⟨pe_str, de_c .str⟩
theorem pd_non {j} : PD X F (.Constant .none j pos) (tC .non) (dC .none) := ⟨pe_non, de_c .none⟩
/-! ### operators on values -/
abbrev F2 := PyData → PyData → (PyData → Prop) → Prop
/-- the operator's reading from data, the answer without a heap -/
structure SO (K : PySem.W.Frag) (r : R2) (f : F2) : Prop where
  run : ∀ (H : Hp) (x y : V) (dx dy : PyData) (Q : VK), Dp K H x dx → Dp K H y dy → f dx dy (fun z => ∀ v, Sc z v → Q v H) → r x y H Q
  mono : ∀ x y Q Q', (∀ z, Q z → Q' z) → f x y Q → f x y Q'
def onV2 (ρ : Rho) (r s : R) (f : PyData → PyData → Prop) : Prop := match val ρ r, val ρ s with
  | some x, some y => f x y
  | _, _ => False
theorem onV2_of {ρ : Rho} {r s : R} {f : PyData → PyData → Prop} (h : onV2 ρ r s f) : ∃ x y, val ρ r = some x ∧ val ρ s = some y ∧ f x y := by
  unfold onV2 at h
  split at h
  · exact ⟨_, _, by assumption, by assumption, h⟩
  · exact h.elim
theorem onV2_mono {ρ : Rho} {r s : R} {f g : PyData → PyData → Prop} (h : onV2 ρ r s f) (k : ∀ x y, f x y → g x y) : onV2 ρ r s g := by
  unfold onV2 at h ⊢
  split at h
  · exact k _ _ h
  · exact h.elim
def onV (ρ : Rho) (r : R) (f : PyData → Prop) : Prop := match val ρ r with
  | some x => f x
  | _ => False
theorem onV_of {ρ : Rho} {r : R} {f : PyData → Prop} (h : onV ρ r f) : ∃ x, val ρ r = some x ∧ f x := by
  unfold onV at h
  split at h
  · exact ⟨_, by assumption, h⟩
  · exact h.elim
theorem onV_mono {ρ : Rho} {r : R} {f g : PyData → Prop} (h : onV ρ r f) (k : ∀ x, f x → g x) : onV ρ r g := by
  unfold onV at h ⊢
  split at h
  · exact k _ h
  · exact h.elim
def onVs (ρ : Rho) (rs : List R) (f : List PyData → Prop) : Prop := match vals ρ rs with
  | some xs => f xs
  | _ => False
theorem onVs_of {ρ : Rho} {rs : List R} {f : List PyData → Prop} (h : onVs ρ rs f) : ∃ xs, vals ρ rs = some xs ∧ f xs := by
  unfold onVs at h
  split at h
  · exact ⟨_, by assumption, h⟩
  · exact h.elim
theorem onVs_mono {ρ : Rho} {rs : List R} {f g : List PyData → Prop} (h : onVs ρ rs f) (k : ∀ xs, f xs → g xs) : onVs ρ rs g := by
  unfold onVs at h ⊢
  split at h
  · exact k _ h
  · exact h.elim
def dBin (ta tb : TDE) (k : R → R → Rho → (R → Rho → Prop) → Prop) : TDE := fun ρ Q => ta ρ fun r ρ1 => tb ρ1 fun s ρ2 => k r s ρ2 Q
/-- two operands, one behind the other -/
theorem de_bin {t : V → V → Hp → VK → Prop} {k : R → R → Rho → (R → Rho → Prop) → Prop} (ha : DE F ta da) (hb : DE F tb db)
    (hk : ∀ pins ρ σ H x y r s (Q : VK), Ok F pins ρ σ H → ROk F (Av F pins ρ σ) ρ σ H r x → ROk F (Av F pins ρ σ) ρ σ H s y → k r s ρ (fun z ρ' => ∀ v H', Ok F pins ρ' σ H' → ROk F (Av F pins ρ' σ) ρ' σ H' z v → Q v H') → t x y H Q)
    (hm : ∀ r s ρ Q Q', (∀ r ρ', Q r ρ' → Q' r ρ') → k r s ρ Q → k r s ρ Q') :
    DE F (fun σ H Q => ta σ H fun x H1 => tb σ H1 fun y H2 => t x y H2 Q) (dBin da db k) := by
  constructor
  · intro pins ρ σ H Q O h
    refine ha.run pins ρ σ H _ O (ha.mono _ _ _ (fun r ρ1 h1 x H1 O1 R1 => ?_) h)
    refine hb.run (.val x r :: pins) ρ1 σ H1 _ (O1.push R1) (hb.mono _ _ _ (fun s ρ2 h2 y H2 O2 R2 => ?_) h1)
    obtain ⟨O3, R3⟩ := O2.popV
    exact hk pins ρ2 σ H2 x y r s Q O3 R3 R2 h2
  · intro ρ Q Q' hq h
    exact ha.mono _ _ _ (fun r ρ1 h1 => hb.mono _ _ _ (fun s ρ2 h2 => hm r s ρ2 Q Q' hq h2) h1) h
def dOp (f : F2) (ta tb : TDE) : TDE := dBin ta tb fun r s ρ Q => onV2 ρ r s fun x y => f x y fun z => Q (.d z) ρ
theorem de_op {r : R2} {f : F2} (hf : SO F.K r f) (ha : DE F ta da) (hb : DE F tb db) : DE F (tOp r ta tb) (dOp f da db) := by
  refine de_bin ha hb (fun pins ρ σ H x y r s Q O R1 R2 h => ?_) fun r s ρ Q Q' hq h => onV2_mono h fun x y h => hf.mono _ _ _ _ (fun z => hq _ _) h
  obtain ⟨dx, dy, e1, e2, h⟩ := onV2_of h
  exact hf.run H x y dx dy Q (val_dp O R1 e1) (val_dp O R2 e2) (hf.mono _ _ _ _ (fun z q v hv => q v H O (hv _ _ _)) h)
theorem pd_op {op : Operator} {r : R2} {f : F2} (ho : OpR X (binaryOp op) r) (hf : SO F.K r f) (ha : PD X F a ta da) (hb : PD X F b tb db) : PD X F (.BinOp a op b pos) (tOp r ta tb) (dOp f da db) := ⟨pe_op ho ha.pe hb.pe, de_op hf ha.de hb.de⟩
theorem pd_cmp {op : CmpOp} {r : R2} {f : F2} (ho : OpR X (compareOp op) r) (hm : behindInMarks op b = false) (hf : SO F.K r f) (ha : PD X F a ta da) (hb : PD X F b tb db) : PD X F (.Compare a [op] [b] pos) (tOp r ta tb) (dOp f da db) := ⟨pe_cmpR ho ha.pe hb.pe hm, de_op hf ha.de hb.de⟩
/-- of two whole numbers -/
def fI (C : Int → Int → Prop) (g : Int → Int → PyData) : F2
  | .int i, .int j, Q => C i j ∧ Q (g i j)
  | _, _, _ => False
theorem so_I {K : PySem.W.Frag} {C : Int → Int → Prop} {g : Int → Int → PyData} {g' : Int → Int → V} (h : ∀ i j, Sc (g i j) (g' i j)) : SO K (rI C g') (fI C g) := by
  constructor
  · intro H x y dx dy Q h1 h2 q
    cases dx <;> cases dy <;> first | exact q.elim | skip
    cases h1; cases h2
    exact ⟨_, _, rfl, rfl, q.1, q.2 _ (h _ _)⟩
  · intro x y Q Q' hq q
    cases x <;> cases y <;> first | exact q.elim | skip
    exact ⟨q.1, hq _ q.2⟩
def fI0 (g : Int → Int → PyData) : F2
  | .int i, .int j, Q => Q (g i j)
  | _, _, _ => False
theorem so_I0 {K : PySem.W.Frag} {g : Int → Int → PyData} {g' : Int → Int → V} (h : ∀ i j, Sc (g i j) (g' i j)) : SO K (rI0 g') (fI0 g) := by
  constructor
  · intro H x y dx dy Q h1 h2 q
    cases dx <;> cases dy <;> first | exact q.elim | skip
    cases h1; cases h2
    exact ⟨_, _, rfl, rfl, q _ (h _ _)⟩
  · intro x y Q Q' hq q
    cases x <;> cases y <;> first | exact q.elim | skip
    exact hq _ q
abbrev fAdd : F2 := fI0 fun i j => .int (i + j)
abbrev fSub : F2 := fI0 fun i j => .int (i - j)
abbrev fMul : F2 := fI CMulW fun i j => .int (i * j)
abbrev fDiv : F2 := fI CDivW fun i j => .int (i / j)
abbrev fMod : F2 := fI (fun _ j => 0 < j) fun i j => .int (i % j)
abbrev fLt : F2 := fI0 fun i j => .bool (decide (i < j))
abbrev fLe : F2 := fI0 fun i j => .bool (decide (i ≤ j))
abbrev fGt : F2 := fI0 fun i j => .bool (decide (j < i))
abbrev fGe : F2 := fI0 fun i j => .bool (decide (j ≤ i))
theorem pd_add (ha : PD X F a ta da) (hb : PD X F b tb db) : PD X F (.BinOp a .Add b pos) (tOp (rI0 fun i j => .int (i + j)) ta tb) (dOp fAdd da db) := pd_op op_add (so_I0 fun _ _ => .int) ha hb
theorem pd_sub (ha : PD X F a ta da) (hb : PD X F b tb db) : PD X F (.BinOp a .Sub b pos) (tOp (rI0 fun i j => .int (i - j)) ta tb) (dOp fSub da db) := pd_op op_sub (so_I0 fun _ _ => .int) ha hb
theorem pd_mul (ha : PD X F a ta da) (hb : PD X F b tb db) : PD X F (.BinOp a .Mult b pos) (tOp (rI CMulW fun i j => .int (i * j)) ta tb) (dOp fMul da db) := pd_op op_mulW (so_I fun _ _ => .int) ha hb
theorem pd_div (ha : PD X F a ta da) (hb : PD X F b tb db) : PD X F (.BinOp a .FloorDiv b pos) (tOp (rI CDivW fun i j => .int (i / j)) ta tb) (dOp fDiv da db) := pd_op op_fdivW (so_I fun _ _ => .int) ha hb
/-- by any divisor but 0 -/
def CDivZ (_ j : Int) : Prop := j ≠ 0 ∧ j.natAbs.log2 < 9000
theorem op_fdivZ : OpR X (binaryOp .FloorDiv) (rI CDivZ fun i j => .int (i.fdiv j)) := opI fun i j _ _ _ _ _ hc q => floordiv_int hc.1 q (.inl (PyProof.noPylong_of_log2 hc.2))
abbrev fDivZ : F2 := fI CDivZ fun i j => .int (i.fdiv j)
theorem pd_divZ (ha : PD X F a ta da) (hb : PD X F b tb db) : PD X F (.BinOp a .FloorDiv b pos) (tOp (rI CDivZ fun i j => .int (i.fdiv j)) ta tb) (dOp fDivZ da db) := pd_op op_fdivZ (so_I fun _ _ => .int) ha hb
theorem pd_mod (ha : PD X F a ta da) (hb : PD X F b tb db) : PD X F (.BinOp a .Mod b pos) (tOp (rI (fun _ j => 0 < j) fun i j => .int (i % j)) ta tb) (dOp fMod da db) := pd_op op_mod (so_I fun _ _ => .int) ha hb
theorem pd_lt (ha : PD X F a ta da) (hb : PD X F b tb db) : PD X F (.Compare a [.Lt] [b] pos) (tOp (rI0 fun i j => .bl (decide (i < j))) ta tb) (dOp fLt da db) := pd_cmp op_lt (nomark _) (so_I0 fun _ _ => .bool) ha hb
theorem pd_le (ha : PD X F a ta da) (hb : PD X F b tb db) : PD X F (.Compare a [.LtE] [b] pos) (tOp (rI0 fun i j => .bl (decide (i ≤ j))) ta tb) (dOp fLe da db) := pd_cmp op_le (nomark _) (so_I0 fun _ _ => .bool) ha hb
theorem pd_gt (ha : PD X F a ta da) (hb : PD X F b tb db) : PD X F (.Compare a [.Gt] [b] pos) (tOp (rI0 fun i j => .bl (decide (j < i))) ta tb) (dOp fGt da db) := pd_cmp op_gt (nomark _) (so_I0 fun _ _ => .bool) ha hb
theorem pd_ge (ha : PD X F a ta da) (hb : PD X F b tb db) : PD X F (.Compare a [.GtE] [b] pos) (tOp (rI0 fun i j => .bl (decide (j ≤ i))) ta tb) (dOp fGe da db) := pd_cmp op_ge (nomark _) (so_I0 fun _ _ => .bool) ha hb
/-- == of any data -/
def fEq : F2 := fun x y Q => SeqAt.shaped x = true ∧ SeqAt.shaped y = true ∧ Q (.bool (PyData.eqv x y))
def fNe : F2 := fun x y Q => SeqAt.shaped x = true ∧ SeqAt.shaped y = true ∧ Q (.bool (!PyData.eqv x y))
theorem so_Eq {K : PySem.W.Frag} : SO K (rEqD K) fEq := ⟨fun H x y dx dy Q h1 h2 q => ⟨dx, dy, h1, h2, q.1, q.2.1, q.2.2 _ .bool⟩, fun _ _ _ _ hq q => ⟨q.1, q.2.1, hq _ q.2.2⟩⟩
theorem so_Ne {K : PySem.W.Frag} : SO K (rNeD K) fNe := ⟨fun H x y dx dy Q h1 h2 q => ⟨dx, dy, h1, h2, q.1, q.2.1, q.2.2 _ .bool⟩, fun _ _ _ _ hq q => ⟨q.1, q.2.1, hq _ q.2.2⟩⟩
theorem pd_eq (hu : X.A.units + 64 < cLine) (hK : X.K = F.K := by rfl) (ha : PD X F a ta da) (hb : PD X F b tb db) : PD X F (.Compare a [.Eq] [b] pos) (tOp (rEqD F.K) ta tb) (dOp fEq da db) := by
  have h := pd_cmp (X := X) (F := F) (pos := pos) (op_eqD hu) (nomark _) (by rw [hK]; exact so_Eq) ha hb
  rw [hK] at h; exact h
theorem pd_ne (hu : X.A.units + 64 < cLine) (hK : X.K = F.K := by rfl) (ha : PD X F a ta da) (hb : PD X F b tb db) : PD X F (.Compare a [.NotEq] [b] pos) (tOp (rNeD F.K) ta tb) (dOp fNe da db) := by
  have h := pd_cmp (X := X) (F := F) (pos := pos) (op_neD hu) (nomark _) (by rw [hK]; exact so_Ne) ha hb
  rw [hK] at h; exact h
/-- == of two texts -/
def fEqS : F2
  | .str x, .str y, Q => Q (.bool (decide (x = y)))
  | _, _, _ => False
theorem so_EqS {K : PySem.W.Frag} : SO K rEq fEqS := by
  constructor
  · intro H x y dx dy Q h1 h2 q
    cases dx <;> cases dy <;> first | exact q.elim | skip
    cases h1; cases h2
    refine ⟨rfl, q _ ?_⟩
    rw [dec_str, ← Bool.beq_eq_decide_eq]
    exact .bool
  · intro x y Q Q' hq q
    cases x <;> cases y <;> first | exact q.elim | skip
    exact hq _ q
theorem pd_eqS (ha : PD X F a ta da) (hb : PD X F b tb db) : PD X F (.Compare a [.Eq] [b] pos) (tOp rEq ta tb) (dOp fEqS da db) := pd_cmp op_eq (nomark _) so_EqS ha hb
def dUn (f : PyData → (PyData → Prop) → Prop) (ta : TDE) : TDE := fun ρ Q => ta ρ fun r ρ1 => onV ρ1 r fun x => f x fun z => Q (.d z) ρ1
def fNeg : PyData → (PyData → Prop) → Prop
  | .int i, Q => Q (.int (-i))
  | _, _ => False
theorem pd_neg (ha : PD X F a ta da) : PD X F (.UnaryOp .USub a pos) (tUn (rU fun i => .int (-i)) ta) (dUn fNeg da) := by
  refine ⟨pe_un un_neg ha.pe, ?_, ?_⟩
  · intro pins ρ σ H Q O h
    refine ha.de.run pins ρ σ H _ O (ha.de.mono _ _ _ (fun r ρ1 h1 x H1 O1 R1 => ?_) h)
    obtain ⟨dx, e, h2⟩ := onV_of h1
    have d := val_dp O1 R1 e
    cases dx <;> first | exact h2.elim | skip
    cases d
    exact ⟨_, rfl, h2 _ _ O1 (.sc .int)⟩
  · intro ρ Q Q' hq h
    refine ha.de.mono _ _ _ (fun r ρ1 h1 => onV_mono h1 fun x h2 => ?_) h
    cases x <;> first | exact h2.elim | skip
    exact hq _ _ h2
end
end DV
namespace DV
open PySem PySem.Spec PyProof.Rows L2
section
variable {X : Cx} {F : Fm} {a b c e : Expr} {es : List Expr} {ta tb tc te : TE} {da db dc de : TDE} {pos : Pos} {t : TA} {d : TDA}
/-! ### arguments -/
def dNil : TDA := fun ρ Q => Q [] ρ
def dCons (te : TDE) (t : TDA) : TDA := fun ρ Q => te ρ fun r ρ1 => t ρ1 fun rs ρ2 => Q (r :: rs) ρ2
theorem da_nil : DA F tNil dNil := ⟨fun pins ρ σ H Q O h => h [] H O (by simp only [ROks]), fun _ _ _ hq h => hq _ _ h⟩
theorem da_cons (h1 : DE F te de) (h2 : DA F t d) : DA F (tCons te t) (dCons de d) := by
  constructor
  · intro pins ρ σ H Q O h
    refine h1.run pins ρ σ H _ O (h1.mono _ _ _ (fun r ρ1 h3 x H1 O1 R1 => ?_) h)
    refine h2.run (.val x r :: pins) ρ1 σ H1 _ (O1.push R1) (h2.mono _ _ _ (fun rs ρ2 h4 vs H2 O2 R2 => ?_) h3)
    obtain ⟨O3, R3⟩ := O2.popV
    refine h4 _ H2 O3 ?_
    simp only [ROks]
    exact ⟨x, vs, rfl, R3, R2⟩
  · intro ρ Q Q' hq h
    exact h1.mono _ _ _ (fun r ρ1 h3 => h2.mono _ _ _ (fun rs ρ2 h4 => hq _ _ h4) h3) h
theorem pda_nil : PDA X F [] tNil dNil := ⟨pa_nil, da_nil⟩
theorem pda_cons (h1 : PD X F e te de) (h2 : PDA X F es t d) (hs : starEach (e :: es) X.env = (false, eval e X.env) :: starEach es X.env := by rfl) : PDA X F (e :: es) (tCons te t) (dCons de d) := ⟨pa_cons h1.pe h2.pa hs, da_cons h1.de h2.da⟩
/-- all of them data that nobody changes -/
def dats : List R → Option (List PyData)
  | [] => some []
  | .d x :: rs => (dats rs).map (x :: ·)
  | _ :: _ => none
theorem dats_im {A : Addr → Prop} {ρ : Rho} {σ : L2.St} {H : Hp} : ∀ {rs : List R} {vs : List V} {xs : List PyData}, ROks F A ρ σ H rs vs → dats rs = some xs → ImAll F.K A H xs vs
  | [], _, _, h, e => by simp only [ROks] at h; simp only [dats] at e; subst h; cases e; exact .nil
  | .d x :: rs, _, _, h, e => by
    simp only [ROks] at h
    obtain ⟨v, us, rfl, h1, h2⟩ := h
    simp only [dats] at e
    cases e1 : dats rs with
    | none => rw [e1] at e; cases e
    | some xs => rw [e1] at e; cases e; exact .cons h1 (dats_im h2 e1)
  | .o _ :: _, _, _, _, e => by cases e
  | .raw _ :: _, _, _, _, e => by cases e
def onD (rs : List R) (f : List PyData → Prop) : Prop := match dats rs with
  | some xs => f xs
  | _ => False
theorem onD_of {rs : List R} {f : List PyData → Prop} (h : onD rs f) : ∃ xs, dats rs = some xs ∧ f xs := by
  unfold onD at h
  split at h
  · exact ⟨_, by assumption, h⟩
  · exact h.elim
theorem onD_mono {rs : List R} {f g : List PyData → Prop} (h : onD rs f) (k : ∀ xs, f xs → g xs) : onD rs g := by
  unfold onD at h ⊢
  split at h
  · exact k _ h
  · exact h.elim
/-! ### displays -/
def Few (n : Nat) : Prop := n ≤ sizeLine
def dTup (t : TDA) : TDE := fun ρ Q => t ρ fun rs ρ1 => onD rs fun xs => Few xs.length ∧ Q (.d (.tuple xs)) ρ1
theorem newTup {pins : List Pin} {ρ : Rho} {σ : L2.St} {H : Hp} (O : Ok F pins ρ σ H) {p : Addr} {xs : List PyData} {vs : List V} (hp : H p = none) (h : ImAll F.K (Av F pins ρ σ) H xs vs) :
    Ok F pins ρ σ (upd H p (.tup vs)) ∧ Im F.K (Av F pins ρ σ) (upd H p (.tup vs)) (.tuple xs) (.ref p) := by
  have g := grow_new (o := .tup vs) hp
  refine ⟨O.new hp, ?_⟩
  simp only [Im]
  refine ⟨p, vs, rfl, .inl ⟨.inl upd_same, fun z => ?_⟩, h.go ⟨fun a o _ e => g a o e, fun a z => .inl z⟩⟩
  obtain ⟨o, e⟩ := O.avH z
  rw [hp] at e; cases e
theorem pd_tup {x1} (h : PDA X F es t d) : PD X F (.Tuple es x1 pos) (tTup t) (dTup d) := by
  refine ⟨pe_tup h.pa, ?_, ?_⟩
  · intro pins ρ σ H Q O hq
    refine h.da.run pins ρ σ H _ O (h.da.mono _ _ _ (fun rs ρ1 h1 vs H1 O1 R1 => ?_) hq)
    obtain ⟨xs, e, hl, h2⟩ := onD_of h1
    have im := dats_im R1 e
    refine ⟨by rw [im.length]; exact hl, fun p hp => ?_⟩
    obtain ⟨O2, i2⟩ := newTup O1 hp im
    exact h2 _ _ O2 i2
  · intro ρ Q Q' hq hh
    exact h.da.mono _ _ _ (fun rs ρ1 h1 => onD_mono h1 fun xs h2 => ⟨h2.1, hq _ _ h2.2⟩) hh
def dLst (t : TDA) : TDL := fun ρ Q => t ρ fun rs ρ1 => onD rs fun xs => Few xs.length ∧ Q xs ρ1
theorem pl_lst (h : PDA X F es t d) : PDL X F (.List es pos) (tLst t) (dLst d) := by
  refine ⟨pe_lst h.pa, ?_, ?_⟩
  · intro pins ρ σ H Q O hq
    refine h.da.run pins ρ σ H _ O (h.da.mono _ _ _ (fun rs ρ1 h1 vs H1 O1 R1 => ?_) hq)
    obtain ⟨xs, e, hl, h2⟩ := onD_of h1
    have im := dats_im R1 e
    refine ⟨by rw [im.length]; exact hl, fun p hp => ?_⟩
    exact h2 _ _ (O1.pushL hp im)
  · intro ρ Q Q' hq hh
    exact h.da.mono _ _ _ (fun rs ρ1 h1 => onD_mono h1 fun xs h2 => ⟨h2.1, hq _ _ h2.2⟩) hh
/-- a new list as data -/
def dOfL (t : TDL) : TDE := fun ρ Q => t ρ fun xs ρ1 => Q (.d (.list xs)) ρ1
theorem pd_l {dl : TDL} (h : PDL X F e te dl) : PD X F e te (dOfL dl) := by
  refine ⟨h.pe, ?_, ?_⟩
  · intro pins ρ σ H Q O hq
    refine h.dl.run pins ρ σ H _ O (h.dl.mono _ _ _ (fun xs ρ1 h1 p H1 O1 => ?_) hq)
    obtain ⟨O2, i2⟩ := O1.popL
    exact h1 _ _ O2 i2
  · intro ρ Q Q' hq hh
    exact h.dl.mono _ _ _ (fun xs ρ1 h1 => hq _ _ h1) hh
/-! ### built-ins, by values -/
abbrev FA := List PyData → (PyData → Prop) → Prop
structure SC (K : PySem.W.Frag) (r : List V → Hp → VK → Prop) (f : FA) : Prop where
  run : ∀ (H : Hp) (vs : List V) (ds : List PyData) (Q : VK), DpAll K H vs ds → f ds (fun z => ∀ v, Sc z v → Q v H) → r vs H Q
  mono : ∀ ds Q Q', (∀ z, Q z → Q' z) → f ds Q → f ds Q'
def dCB (f : FA) (t : TDA) : TDE := fun ρ Q => t ρ fun rs ρ1 => onVs ρ1 rs fun xs => f xs fun z => Q (.d z) ρ1
theorem de_cb {r : List V → Hp → VK → Prop} {f : FA} (hf : SC F.K r f) (h : DA F t d) : DE F (tCB r t) (dCB f d) := by
  constructor
  · intro pins ρ σ H Q O hq
    refine h.run pins ρ σ H _ O (h.mono _ _ _ (fun rs ρ1 h1 vs H1 O1 R1 => ?_) hq)
    obtain ⟨xs, e, h2⟩ := onVs_of h1
    exact hf.run H1 vs xs Q (vals_dp O1 R1 e) (hf.mono _ _ _ (fun z q v hv => q v H1 O1 (.sc hv)) h2)
  · intro ρ Q Q' hq hh
    exact h.mono _ _ _ (fun rs ρ1 h1 => onVs_mono h1 fun xs h2 => hf.mono _ _ _ (fun z => hq _ _) h2) hh
theorem pd_callB {r : List V → Hp → VK → Prop} {f : FA} {x : Str} {p : Pos} {id : String} (hc : CallR X (.builtin id) r) (hf : SC F.K r f) (hg : Gl X x) (hm : X.mg x = none) (hv : bootBuiltins x = some (.builtin id)) (ha : PDA X F (e :: es) t d) (hn : x ≠ "__name__" := by decide) (hdb : (x == ("__debug__" : Str)) = false := by decide)
    (he : starEach (e :: es) X.env = (false, eval e X.env) :: starEach es X.env := by rfl) (hpl : (backTo pos (starEach es X.env)).any (·.1) = false := by rfl) : PD X F (.Call (.Name x p) (e :: es) [] pos) (tCB r t) (dCB f d) :=
  ⟨pe_callB hc hg hm hv ha.pa hn hdb he hpl, de_cb hf ha.da⟩
theorem pd_callTy {r : List V → Hp → VK → Prop} {f : FA} {x : Str} {p : Pos} {T : String} (hc : CallR X (.type T) r) (hf : SC F.K r f) (hg : Gl X x) (hm : X.mg x = none) (hv : bootBuiltins x = some (.type T)) (ha : PDA X F (e :: es) t d) (hn : x ≠ "__name__" := by decide) (hdb : (x == ("__debug__" : Str)) = false := by decide)
    (he : starEach (e :: es) X.env = (false, eval e X.env) :: starEach es X.env := by rfl) (hpl : (backTo pos (starEach es X.env)).any (·.1) = false := by rfl) : PD X F (.Call (.Name x p) (e :: es) [] pos) (tCB r t) (dCB f d) :=
  ⟨pe_callTy hc hg hm hv ha.pa hn hdb he hpl, de_cb hf ha.da⟩
/-- f, a function of a module that the program imports by name -/
theorem pd_callM {r : List V → Hp → VK → Prop} {f : FA} {x : Str} {p : Pos} {id : String} (hc : CallR X (.builtin id) r) (hf : SC F.K r f) (hg : Gl X x) (hm : X.mg x = some (.builtin id)) (ha : PDA X F (e :: es) t d) (hdb : (x == ("__debug__" : Str)) = false := by decide)
    (he : starEach (e :: es) X.env = (false, eval e X.env) :: starEach es X.env := by rfl) (hpl : (backTo pos (starEach es X.env)).any (·.1) = false := by rfl) : PD X F (.Call (.Name x p) (e :: es) [] pos) (tCB r t) (dCB f d) :=
  ⟨pe_callBfun hc hg hm ha.pa hdb he hpl, de_cb hf ha.da⟩
def fAbs : FA
  | [.int i], Q => Q (.int (if i < 0 then -i else i))
  | _, _ => False
theorem dpall1 {K : PySem.W.Frag} {H : Hp} {vs : List V} {d : PyData} (h : DpAll K H vs [d]) : ∃ v, vs = [v] ∧ Dp K H v d := by
  cases h with
  | cons h1 h2 => cases h2; exact ⟨_, rfl, h1⟩
theorem dpall2 {K : PySem.W.Frag} {H : Hp} {vs : List V} {d e : PyData} (h : DpAll K H vs [d, e]) : ∃ v u, vs = [v, u] ∧ Dp K H v d ∧ Dp K H u e := by
  cases h with
  | cons h1 h2 =>
    obtain ⟨u, rfl, h3⟩ := dpall1 h2
    exact ⟨_, u, rfl, h1, h3⟩
theorem dp_int {K : PySem.W.Frag} {H : Hp} {v : V} {i : Int} (h : Dp K H v (.int i)) : v = .int i := by cases h; rfl
theorem dp_bool {K : PySem.W.Frag} {H : Hp} {v : V} {i : Bool} (h : Dp K H v (.bool i)) : v = .bl i := by cases h; rfl
theorem dp_str {K : PySem.W.Frag} {H : Hp} {v : V} {i : Str} (h : Dp K H v (.str i)) : v = .str i := by cases h; rfl
theorem sc_abs {K : PySem.W.Frag} : SC K (fun xs H Q => ∃ i, xs = [.int i] ∧ Q (.int (if i < 0 then -i else i)) H) fAbs := by
  constructor
  · intro H vs ds Q h q
    unfold fAbs at q
    split at q
    · obtain ⟨v, rfl, h1⟩ := dpall1 h
      cases dp_int h1
      exact ⟨_, rfl, q _ .int⟩
    · exact q.elim
  · intro ds Q Q' hq q
    unfold fAbs at q ⊢
    split at q
    · exact hq _ q
    · exact q.elim
def fInt : FA
  | [.int i], Q => Q (.int i)
  | [.bool k], Q => Q (.int (if k then 1 else 0))
  | _, _ => False
theorem sc_int {K : PySem.W.Frag} : SC K (fun xs H Q => (∃ i, xs = [.int i] ∧ Q (.int i) H) ∨ ∃ k, xs = [.bl k] ∧ Q (.int (if k then 1 else 0)) H) fInt := by
  constructor
  · intro H vs ds Q h q
    unfold fInt at q
    split at q
    · obtain ⟨v, rfl, h1⟩ := dpall1 h
      cases dp_int h1
      exact .inl ⟨_, rfl, q _ .int⟩
    · obtain ⟨v, rfl, h1⟩ := dpall1 h
      cases dp_bool h1
      exact .inr ⟨_, rfl, q _ .int⟩
    · exact q.elim
  · intro ds Q Q' hq q
    unfold fInt at q ⊢
    split at q <;> first | exact hq _ q | exact q.elim
def fMax : FA
  | [.int i, .int j], Q => Q (.int (if j > i then j else i))
  | _, _ => False
theorem sc_max {K : PySem.W.Frag} : SC K (fun xs H Q => ∃ i j, xs = [.int i, .int j] ∧ Q (.int (if j > i then j else i)) H) fMax := by
  constructor
  · intro H vs ds Q h q
    unfold fMax at q
    split at q
    · obtain ⟨v, u, rfl, h1, h2⟩ := dpall2 h
      cases dp_int h1; cases dp_int h2
      exact ⟨_, _, rfl, q _ .int⟩
    · exact q.elim
  · intro ds Q Q' hq q
    unfold fMax at q ⊢
    split at q <;> first | exact hq _ q | exact q.elim
def fMin : FA
  | [.int i, .int j], Q => Q (.int (if j < i then j else i))
  | _, _ => False
theorem sc_min {K : PySem.W.Frag} : SC K (fun xs H Q => ∃ i j, xs = [.int i, .int j] ∧ Q (.int (if j < i then j else i)) H) fMin := by
  constructor
  · intro H vs ds Q h q
    unfold fMin at q
    split at q
    · obtain ⟨v, u, rfl, h1, h2⟩ := dpall2 h
      cases dp_int h1; cases dp_int h2
      exact ⟨_, _, rfl, q _ .int⟩
    · exact q.elim
  · intro ds Q Q' hq q
    unfold fMin at q ⊢
    split at q <;> first | exact hq _ q | exact q.elim
def fGcd : FA
  | [.int i, .int j], Q => Q (.int ((Nat.gcd i.natAbs j.natAbs : Nat) : Int))
  | _, _ => False
theorem sc_gcd {K : PySem.W.Frag} : SC K rGcd fGcd := by
  constructor
  · intro H vs ds Q h q
    unfold fGcd at q
    split at q
    · obtain ⟨v, u, rfl, h1, h2⟩ := dpall2 h
      cases dp_int h1; cases dp_int h2
      exact ⟨_, _, rfl, q _ .int⟩
    · exact q.elim
  · intro ds Q Q' hq q
    unfold fGcd at q ⊢
    split at q <;> first | exact hq _ q | exact q.elim
/-- len of a list or a tuple -/
def fLen : FA
  | [.list xs], Q => Q (.int (xs.length : Nat))
  | [.tuple xs], Q => Q (.int (xs.length : Nat))
  | _, _ => False
theorem DpAll.length {K : PySem.W.Frag} {H : Hp} : ∀ {vs : List V} {ds : List PyData}, DpAll K H vs ds → vs.length = ds.length
  | _, [], h => by cases h; rfl
  | _, _ :: _, h => by cases h with | cons h1 h2 => simp [DpAll.length h2]
theorem sc_len {K : PySem.W.Frag} : SC K (fun xs H Q => ∃ p ys, xs = [.ref p] ∧ (SqL K H p ys ∨ SqT K H p ys) ∧ Q (.int ys.length) H) fLen := by
  constructor
  · intro H vs ds Q h q
    unfold fLen at q
    split at q
    · obtain ⟨v, rfl, h1⟩ := dpall1 h
      cases h1 with
      | lst h2 h3 => exact ⟨_, _, rfl, .inl h2, by rw [DpAll.length h3]; exact q _ .int⟩
    · obtain ⟨v, rfl, h1⟩ := dpall1 h
      cases h1 with
      | tup h2 h3 => exact ⟨_, _, rfl, .inr h2, by rw [DpAll.length h3]; exact q _ .int⟩
    · exact q.elim
  · intro ds Q Q' hq q
    unfold fLen at q ⊢
    split at q <;> first | exact hq _ q | exact q.elim
/-- repr of data -/
def rRepr (K : PySem.W.Frag) : List V → Hp → VK → Prop := fun vs H Q => ∃ v d, vs = [v] ∧ Dp K H v d ∧ d.showable = true ∧ d.hasDict = false ∧ d.depth ≤ 60 ∧ d.shown.length ≤ sizeLine ∧ Q (.str d.shown) H
theorem call_repr (hr : X.A.guards = some []) (hu : X.A.units + 64 < cLine) : CallR X (.builtin "repr") (rRepr X.K) := by
  intro pins s σ H vs us Q I r h
  obtain ⟨v, d, rfl, hd, hs, hn, hdp, hsz, q⟩ := h
  obtain ⟨u, rfl, ru⟩ := vals1 r
  obtain ⟨as, rd⟩ := Dp.reads I d v u hd ru
  have fin : ∀ (h' : Heap) (u' : Tok) (tk : Nat), (∀ b o, s.heap.get? b = some o → h'.get? b = some o) → EP X pins σ Q (.str d.shown u') { s with heap := h', toks := tk } := fun h' u' tk hk =>
    ⟨.str d.shown, H, I.kept hk, ⟨u', rfl⟩, q⟩
  cases d with
  | none =>
    cases hd; cases (show u = Value.none from ru)
    rw [PyData.shown_none] at q
    exact PySem.P.repr_of_none ⟨.str _, H, I.tok _, ⟨_, rfl⟩, q⟩
  | bool b =>
    cases hd; cases (show u = Value.bool b from ru)
    rw [PyData.shown_bool] at q
    exact PySem.P.repr_of_bool ⟨.str _, H, I.tok _, ⟨_, rfl⟩, q⟩
  | int i =>
    cases hd; obtain ⟨tk, rfl⟩ := (show ∃ t, u = Value.int i t from ru)
    have hz : i.natAbs.log2 < 1920 := by simpa [PyData.showable] using hs
    rw [PyData.shown_int] at q
    exact PySem.P.repr_of_int hz ⟨.str _, H, I.tok _, ⟨_, rfl⟩, q⟩
  | str x =>
    cases hd; obtain ⟨tk, rfl⟩ := (show ∃ t, u = Value.str x t from ru)
    rw [PyData.shown_str] at q hsz
    exact PySem.P.repr_of_str ⟨.str _, H, I.tok _, ⟨_, rfl⟩, q⟩ hsz
  | list xs =>
    cases hd; rename_i a vs h1 h2; cases (show u = Value.ref a from ru)
    exact repr_of_reads' rd hs (PyData.noDict_hsm hn) hr (by omega) (fun _ _ e => e) fin hsz
  | tuple xs =>
    cases hd; rename_i a vs h1 h2; cases (show u = Value.ref a from ru)
    exact repr_of_reads' rd hs (PyData.noDict_hsm hn) hr (by omega) (fun _ _ e => e) fin hsz
  | dict _ => cases hd
def Plain (d : PyData) : Prop := d.showable = true ∧ d.hasDict = false ∧ d.depth ≤ 60 ∧ d.shown.length ≤ sizeLine
def fRepr : FA
  | [d], Q => Plain d ∧ Q (.str d.shown)
  | _, _ => False
theorem sc_repr {K : PySem.W.Frag} : SC K (rRepr K) fRepr := by
  constructor
  · intro H vs ds Q h q
    unfold fRepr at q
    split at q
    · obtain ⟨v, rfl, h1⟩ := dpall1 h
      exact ⟨v, _, rfl, h1, q.1.1, q.1.2.1, q.1.2.2.1, q.1.2.2.2, q.2 _ .str⟩
    · exact q.elim
  · intro ds Q Q' hq q
    unfold fRepr at q ⊢
    split at q
    · exact ⟨q.1, hq _ q.2⟩
    · exact q.elim
end
end DV
namespace DV
open PySem PySem.Spec PyProof.Rows L2
/-! ## defs, where nothing is being shown by repr around them -/
structure FnG (P : Program) (w : World) (K : PySem.W.Frag) (mg : Str → Option Value) (base : Heap) (CX : CXT) (k : Nat) (f : Addr) (fd : FuncData) (ps : List Str) (sp : Sp) : Prop where
  size : ∀ vs H Q E, sp vs H Q E → vs.length = ps.length
  goes : ∀ (A : Around) (out : List Env) (s : Shared) (H : Hp) (ar : Args) (us : List Value) (vs : List V) (Q : VK) (E : XK),
    Room k A → A.guards = some [] → Env0 P w K mg base A out s H → BindsTo s fd ar (ps.zip us) → Vals vs us → sp vs H Q E → codeAny (model P w) A (.call (.ref f) ar) (CR CX out P w H s Q E) s
theorem FnG.up {P : Program} {w : World} {K : PySem.W.Frag} {mg : Str → Option Value} {base : Heap} {CX : CXT} {j k : Nat} {f : Addr} {fd : FuncData} {ps : List Str} {sp : Sp} (G : FnG P w K mg base CX j f fd ps sp) (h : j ≤ k) : FnG P w K mg base CX k f fd ps sp :=
  ⟨G.size, fun A out s H ar us vs Q E hr => G.goes A out s H ar us vs Q E (hr.mono h)⟩
section
variable {P : Program} {w : World} {K : PySem.W.Frag} {mg : Str → Option Value} {base : Heap}
theorem fg_of {x qual : Str} {st : Stmt} {f : Addr} {fd : FuncData} {N ps : List Str} {k : Nat} {sp : Sp} (W : Fun K x qual st f fd) (S : FnScope N ps (defScope st)) (hlen : ∀ vs H Q E, sp vs H Q E → vs.length = ps.length)
    (body : ∀ (cdv : Value) (A : Around) (out : List Env) (s : Shared) (H : Hp) (vs : List V) (Q : VK) (E : XK), Room k (A.deeper (envOfC qual (defScope st) s.heap.objs.size f cdv)) → A.guards = some [] → sp vs H Q E →
      ∃ t, PSs (cxOf CX0 P w K mg base N qual (defScope st) f cdv A out s H E).nox (defBody st) t ∧ t { nx := fun _ H' => Q .non H', rt := Q } (start N vs) H) : FnG P w K mg base CX0 (k + 1) f fd ps sp := by
  obtain ⟨oc, od, kV, doc, pm, an, cdv, ct, osl, rfl, lk, cd⟩ := W.ex
  constructor
  · exact hlen
  intro A out s H ar us vs Q E room hgd env0 hbind rel hs
  have inK : K.In s.heap := env0.mod.kin.keeps fun b o e => (env0.bs b o e).1
  have names : ∀ y ∈ ps.zip us, (defScope st).names.lookup y.1 = some .local ∨ ((defScope st).names.lookup y.1 = some .cell ∧ ((cellsFrom (s.heap.objs.size + 1) (defScope st).names []).lookup y.1).isSome = true) := by
    rintro ⟨n, v⟩ hy
    cases S.par n (List.of_mem_zip hy).1 with
    | inl q => exact .inl q
    | inr q => exact .inr ⟨q, PySem.W.cellsFrom_some _ _ _ (.inl q)⟩
  apply codeAny_call_function room.depth (inK _ _ lk) rfl S.co S.gen rfl (PySem.W.codeRec_of inK cd)
  apply hbind
  apply wpAny_newFunctionEnv_cells S.kind names
  rintro env rfl s1 ic
  constructor
  · exact (env0.mod.nolimit.keeps fun b o e => (env0.bs b o e).1).keeps ic.toInCall.keep
  apply codeAny_func
  obtain ⟨t, ht0, hq⟩ := body cdv A out s H vs Q E (room.deeper _) hgd hs
  have ht := ht0.nox
  have I0 := inv_start (CX := CX0) (E := E) S room.hd env0 (hlen _ _ _ _ hs) rel ic
  refine wpAny_mono (ht.run [] s1 (start N vs) H _ I0 hq) ?_ fun _ _ z => z
  intro fl s' z
  cases fl with
  | ret u =>
    obtain ⟨v, σ', H', J, rv, q⟩ := z
    exact ⟨v, H', J.os, J.bare, J.base, J.hok, rv, q⟩
  | next =>
    obtain ⟨σ', H', J, q⟩ := z
    exact ⟨V.non, H', J.os, J.bare, J.base, J.hok, rfl, q⟩
  | brk => exact z.elim fun _ z => z.elim fun _ z => z.2.elim
  | cont => exact z.elim fun _ z => z.elim fun _ z => z.2.elim
end
section
variable {X : Cx} {k : Nat} {f : Addr} {fd : FuncData} {ps : List Str} {sp : Sp} {E : XK} {x : Str} {p pos : Pos} {e : Expr} {es : List Expr} {t : TA}
theorem goes_fn {pins : List (Addr × Obj)} {σ : L2.St} {H : Hp} {s : Shared} {Q : VK} {us : List Value} {vs : List V} (G : FnG X.prog X.w X.K X.mg X.base CX0 k f fd ps sp) (hr : Room k X.A) (hgd : X.A.guards = some []) (hb : Binds X.K fd ps [])
    (I : Inv X pins σ H s) (r : Vals vs us) (h : sp vs H Q E) : wpAny (model X.prog X.w) X.A (call (.ref f) us) (EP X pins σ Q) X.xe s := by
  have bl : (us ++ []).length = ps.length := by rw [List.append_nil, ← r.length]; exact G.size _ _ _ _ h
  have bd := hb s us I.kIn bl
  rw [List.append_nil] at bd
  apply wpAny_call
  refine codeAny_mono (G.goes X.A X.stack s H ⟨us, []⟩ us vs Q E hr hgd I.env0 bd r h) ?_
  rintro (e | (u | _ | _ | _)) s' z
  all_goals first | exact I.after z | exact False.elim z
/-- f(e, ..) -/
theorem pe_callG (G : FnG X.prog X.w X.K X.mg X.base CX0 k f fd ps sp) (hr : Room k X.A) (hgd : X.A.guards = some []) (hg : Gl X x) (hm : X.mg x = some (.ref f)) (hk : PySem.W.keepIn X.K (.ref f) = true) (hb : Binds X.K fd ps [])
    (ha : PA X (e :: es) t) (hdb : (x == ("__debug__" : Str)) = false := by decide) (he : starEach (e :: es) X.env = (false, eval e X.env) :: starEach es X.env := by rfl) (hpl : (backTo pos (starEach es X.env)).any (·.1) = false := by rfl) :
    PE X (.Call (.Name x p) (e :: es) [] pos) (fun σ H Q => t σ H fun vs H1 => sp vs H1 Q E) := by
  constructor
  intro pins s σ H Q I h
  apply wpAny_Call_Name_kw
  apply ld_glob I hg hm _ hdb
  refine PySem.W.callWith_K (h₀ := X.base) I.ok.mod.kin hk (thn (ha.run pos pins s σ H _ I h) ?_) he hpl
  rintro us s1 ⟨vs, H1, I1, r, q⟩
  exact ⟨I1.kIn, goes_fn G hr hgd hb I1 r q⟩
end
/-! ## the end -/
theorem law_goes {P : Program} {w : World} {K : PySem.W.Frag} {mg mb : Str → Option Value} {k : Nat} {fa a : Addr} {fd : FuncData} {x : Str} {sp : Sp} {s₁ : Shared} {vs : List Value} {ns : List Int}
    (inK : K.In s₁.heap) (nm : s₁.heap.Ns mainGlobals mg) (nb : s₁.heap.Ns builtinsNs mb) (bb : ∀ x : Str, x ≠ "__name__" → mb x = bootBuiltins x) (nl : s₁.heap.NoLimit) (ng : s₁.gens = #[])
    (at_a : s₁.heap.get? a = some { cls := .type "list", data := .seq vs.toArray }) (hin : IntsAre vs ns) (short : ns.length ≤ sizeLine) (room : Room k callerA)
    (G : ∀ base : Heap, K.In base → base.Ns mainGlobals mg → FnG P w K mg base CX0 k fa fd [x] sp) (bind : ∀ (s : Shared) (u : Value), BindsTo s fd ⟨[u], []⟩ [(x, u)])
    (hs : ∀ H : Hp, SqL K H a (ns.map V.int) → sp [.ref a] H (fun v _ => v = .bl true) fun _ _ _ => False) :
    codeAny (model P w) callerA (.call (.ref fa) ⟨[.ref a], []⟩) (fun r s' => r = .ok (.ret (.bool true)) ∧ OldK s₁.heap s'.heap ∧ s'.os = s₁.os ∧ AllBare s'.gens) s₁ := by
  let ob : Obj := { cls := .type "list", data := .seq vs.toArray }
  let Hs : Hp := fun b => if b = a ∧ K.lookup a = none then some (.frz ob (.lst (ns.map V.int))) else none
  have Hs_some : ∀ {b u}, Hs b = some u → b = a ∧ K.lookup a = none ∧ u = .frz ob (.lst (ns.map V.int)) := by
    intro b u q
    have q : (if b = a ∧ K.lookup a = none then some (HO.frz ob (.lst (ns.map V.int))) else none) = some u := q
    split at q
    · rename_i c; cases q; exact ⟨c.1, c.2, rfl⟩
    · cases q
  have rel := vals_ints hin
  have sq : SqL K Hs a (ns.map V.int) := by
    cases hk : K.lookup a with
    | none => exact .inl (.inr ⟨ob, if_pos ⟨rfl, hk⟩⟩)
    | some o =>
      have e := inK a o hk
      rw [at_a] at e; cases e
      exact .inr ⟨_, vs.toArray, _, hk, rfl, rfl, rfl, by rw [List.size_toArray, hin.length]; exact short, by simpa using rel⟩
  have hok : HOk P w Hs s₁.heap := by
    intro b u q
    obtain ⟨rfl, _, rfl⟩ := Hs_some q
    exact ⟨at_a, by rw [List.length_map]; exact short, vs, _, rel, at_a⟩
  have keepK : ∀ {b : Addr} {o : Obj}, K.lookup b = some o → Hs b = none := by
    intro b o e
    cases q : Hs b with
    | none => rfl
    | some u => obtain ⟨rfl, z, _⟩ := Hs_some q; rw [z] at e; cases e
  have keepD : ∀ {b : Addr} {o : Obj} {es : Array DictEntry} {ep : Nat}, s₁.heap.get? b = some o → o.data = .dict es ep → Hs b = none := by
    intro b o es ep e d
    cases q : Hs b with
    | none => rfl
    | some u =>
      obtain ⟨rfl, _, _⟩ := Hs_some q
      rw [at_a] at e; cases e
      exact absurd d (by intro z; cases z)
  have ns_of : ∀ {b : Addr} {m : Str → Option Value}, s₁.heap.Ns b m → (hidT s₁.heap Hs).Ns b m := by
    rintro b m ⟨o, es, ep, e, d, r⟩
    exact ⟨o, es, ep, hidT_get e (keepD e d), d, r⟩
  have kb : K.In (hidT s₁.heap Hs) := fun b o e => hidT_get (inK b o e) (keepK e)
  have md : Mod K mg (hidT s₁.heap Hs) := by
    obtain ⟨mc, l1, l2⟩ := nl
    exact ⟨kb, ns_of nm, ⟨mb, ns_of nb, bb⟩, ⟨mc, ns_of l1, l2⟩⟩
  have env0 : Env0 P w K mg (hidT s₁.heap Hs) callerA [] s₁ Hs :=
    ⟨rfl, md, fun b o => of_hidT, Nat.le_of_eq (hidT_size _ _), trivial, (fun b hb => nomatch hb), hok, .of_eq ng⟩
  refine codeAny_mono ((G _ kb (ns_of nm)).goes callerA [] s₁ Hs ⟨[.ref a], []⟩ [.ref a] [.ref a] _ _ room rfl env0 (bind s₁ (.ref a)) (.cons rfl .nil) (hs Hs sq)) ?_
  rintro (e | fl) s' z
  · exact False.elim z
  cases fl with
  | next => exact False.elim z
  | brk => exact False.elim z
  | cont => exact False.elim z
  | ret u =>
    obtain ⟨v, H', os, bare, un, hok', rv, q⟩ := z
    have q : v = .bl true := q
    subst q
    obtain rfl : u = Value.bool true := rv
    refine ⟨rfl, .of_keep ?_, os, bare⟩
    intro b o e
    cases q : Hs b with
    | none => exact un.keep b o e q (fun z => nomatch z) (fun z => nomatch z)
    | some u =>
      obtain ⟨rfl, _, rfl⟩ := Hs_some q
      obtain ⟨e2, _⟩ := hok' _ _ (un.frzs _ _ _ q)
      rw [at_a] at e; cases e
      exact e2
theorem walk_goes {l : PySem.W.OpenLaw} {n k : Nat} {q : Program} {loose : List Str} {XP : (Str → Option Value) → Heap → Prop} {YP : World → Heap → Prop} {d : DefRec} {K : Params → PySem.W.Frag} {sp : PySem.W.Frag → Sp} {x : Str}
    (hn : l.most = some n) (hn2 : n ≤ sizeLine) (hdf : d.params.defaults = []) (hr : Room k callerA) (hY : ∀ (w : World) (h : Heap), YP w h → (K w.params).In h)
    (G : ∀ (w : World) (mg : Str → Option Value) (fa : Addr) (h : Heap), (K w.params).In h → h.Ns mainGlobals mg → mg d.name = some (.ref fa) →
      ∃ fd : FuncData, (∀ (s : Shared) (u : Value), BindsTo s fd ⟨[u], []⟩ [(x, u)]) ∧ ∀ base : Heap, (K w.params).In base → base.Ns mainGlobals mg → FnG l.prog w (K w.params) mg base CX0 k fa fd [x] (sp (K w.params)))
    (hsp : ∀ (K : PySem.W.Frag) (H : Hp) (a : Addr) (ns : List Int), ns.length ≤ n → SqL K H a (ns.map V.int) → sp K [.ref a] H (fun v _ => v = .bl true) fun _ _ _ => False) :
    PySem.W.WalkO q loose XP YP l.row.toRowW d [] (fun f vs => PySem.call f vs) := by
  apply Att.attach_call hn hdf
  intro w s₀ s₁ mg mb fa o pm cd doc a vs ns Gr Y ho hd hcd hmg hobj hints hlen hg
  have inK := hY w _ Y
  obtain ⟨fd, hb, hF⟩ := G w mg fa _ inK Gr.T.g hmg
  exact law_goes inK Gr.T.g Gr.T.b Gr.T.builtins Gr.T.nolimit hg hobj hints (Nat.le_trans hlen hn2) hr hF hb fun H => hsp _ H a ns hlen
end DV
namespace DV
open PySem PySem.Spec PyProof.Rows L2
section
variable {X : Cx} {F : Fm} {a b c e : Expr} {es : List Expr} {ta tb tc te : TE} {da db dc de : TDE} {pos : Pos} {t : TA} {d : TDA} {tt tu : TT} {dt du : TDT}
/-! ### tests -/
def dTV (te : TDE) : TDT := fun ρ Q => te ρ fun r ρ1 => match val ρ1 r with
  | some (.bool k) => Q k ρ1
  | _ => False
theorem dt_tv {k : TE → TT} (hk : ∀ te, k te = fun σ H Q => te σ H fun x H1 => ∃ c, x = .bl c ∧ Q c H1) (h : DE F te de) : DT F (k te) (dTV de) := by
  rw [hk]
  constructor
  · intro pins ρ σ H Q O hq
    refine h.run pins ρ σ H _ O (h.mono _ _ _ (fun r ρ1 h1 v H1 O1 R1 => ?_) hq)
    split at h1
    · rename_i k e
      cases dp_bool (val_dp O1 R1 e)
      exact ⟨k, rfl, h1 H1 O1⟩
    · exact h1.elim
  · intro ρ Q Q' hq hh
    refine h.mono _ _ _ (fun r ρ1 h1 => ?_) hh
    show match val ρ1 r with
      | some (.bool k) => Q' k ρ1
      | _ => False
    split at h1
    · rename_i k e
      exact hq _ _ h1
    · exact h1.elim
theorem pt_v (h : PD X F e te de) (he : ∀ whole, isTrue e X.env whole = (do let v ← whole; standAt e.pos; holding [v] (truthy v)) := by intro _; rfl) : PDT X F e (tB te) (dTV de) := ⟨pt_val h.pe he, dt_tv (k := tB) (fun _ => rfl) h.de⟩
def dNot (t : TDT) : TDT := fun ρ Q => t ρ fun k ρ1 => Q (!k) ρ1
theorem pt_no (h : PDT X F a tt dt) : PDT X F (.UnaryOp .Not a pos) (tNot tt) (dNot dt) :=
  ⟨pt_not h.pt, fun pins ρ σ H Q O hq => h.dt.run pins ρ σ H _ O (h.dt.mono _ _ _ (fun k ρ1 h1 H1 O1 => h1 H1 O1) hq), fun ρ Q Q' hq hh => h.dt.mono _ _ _ (fun k ρ1 h1 => hq _ _ h1) hh⟩
def dAnd (t u : TDT) : TDT := fun ρ Q => t ρ fun k ρ1 => if k = true then u ρ1 Q else Q false ρ1
def dOr (t u : TDT) : TDT := fun ρ Q => t ρ fun k ρ1 => if k = true then Q true ρ1 else u ρ1 Q
theorem dt_and (h1 : DT F tt dt) (h2 : DT F tu du) : DT F (tAnd tt tu) (dAnd dt du) := by
  constructor
  · intro pins ρ σ H Q O hq
    refine h1.run pins ρ σ H _ O (h1.mono _ _ _ (fun k ρ1 h3 H1 O1 => ?_) hq)
    cases k with
    | true => exact h2.run pins ρ1 σ H1 Q O1 h3
    | false => exact h3 H1 O1
  · intro ρ Q Q' hq hh
    refine h1.mono _ _ _ (fun k ρ1 h3 => ?_) hh
    cases k with
    | true => exact h2.mono _ _ _ hq h3
    | false => exact hq _ _ h3
theorem dt_or (h1 : DT F tt dt) (h2 : DT F tu du) : DT F (tOr tt tu) (dOr dt du) := by
  constructor
  · intro pins ρ σ H Q O hq
    refine h1.run pins ρ σ H _ O (h1.mono _ _ _ (fun k ρ1 h3 H1 O1 => ?_) hq)
    cases k with
    | false => exact h2.run pins ρ1 σ H1 Q O1 h3
    | true => exact h3 H1 O1
  · intro ρ Q Q' hq hh
    refine h1.mono _ _ _ (fun k ρ1 h3 => ?_) hh
    cases k with
    | false => exact h2.mono _ _ _ hq h3
    | true => exact hq _ _ h3
theorem pwd_and1 (h : PDT X F a tt dt) : PDW X F (.BoolOp .And [a] pos) tt dt := ⟨pw_and1 h.pt, h.dt⟩
theorem pwd_or1 (h : PDT X F a tt dt) : PDW X F (.BoolOp .Or [a] pos) tt dt := ⟨pw_or1 h.pt, h.dt⟩
theorem pwd_and {rest : List Expr} (h : PDT X F a tt dt) (k : PDW X F (.BoolOp .And (b :: rest) pos) tu du) : PDW X F (.BoolOp .And (a :: b :: rest) pos) (tAnd tt tu) (dAnd dt du) := ⟨pw_and h.pt k.pw, dt_and h.dt k.dt⟩
theorem pwd_or {rest : List Expr} (h : PDT X F a tt dt) (k : PDW X F (.BoolOp .Or (b :: rest) pos) tu du) : PDW X F (.BoolOp .Or (a :: b :: rest) pos) (tOr tt tu) (dOr dt du) := ⟨pw_or h.pt k.pw, dt_or h.dt k.dt⟩
theorem pt_w (h : PDW X F e tt dt) : PDT X F e tt dt := ⟨h.pw.pt, h.dt⟩
/-- and, or, not as values: truths -/
def dAndV (ta tb : TDE) : TDE := fun ρ Q => ta ρ fun r ρ1 => match val ρ1 r with
  | some (.bool k) => if k = true then tb ρ1 Q else Q (.d (.bool false)) ρ1
  | _ => False
def dOrV (ta tb : TDE) : TDE := fun ρ Q => ta ρ fun r ρ1 => match val ρ1 r with
  | some (.bool k) => if k = true then Q (.d (.bool true)) ρ1 else tb ρ1 Q
  | _ => False
def dNotV (ta : TDE) : TDE := fun ρ Q => ta ρ fun r ρ1 => match val ρ1 r with
  | some (.bool k) => Q (.d (.bool !k)) ρ1
  | _ => False
theorem pdn_one {op : BoolOp} (h : PD X F a ta da) : PD X F (.BoolOp op [a] pos) ta da := ⟨pe_one h.pe, h.de⟩
theorem pd_and {rest : List Expr} (ha : PD X F a ta da) (hb : PD X F (.BoolOp .And (b :: rest) pos) tb db) : PD X F (.BoolOp .And (a :: b :: rest) pos) (L2.tAndV ta tb) (dAndV da db) := by
  refine ⟨pe_and ha.pe hb.pe, ?_, ?_⟩
  · intro pins ρ σ H Q O hq
    refine ha.de.run pins ρ σ H _ O (ha.de.mono _ _ _ (fun r ρ1 h1 v H1 O1 R1 => ?_) hq)
    split at h1
    · rename_i k e
      cases dp_bool (val_dp O1 R1 e)
      refine ⟨k, rfl, ?_⟩
      cases k with
      | true => exact hb.de.run pins ρ1 σ H1 Q O1 h1
      | false => exact h1 _ H1 O1 (.sc .bool)
    · exact h1.elim
  · intro ρ Q Q' hq hh
    refine ha.de.mono _ _ _ (fun r ρ1 h1 => ?_) hh
    revert h1
    split
    · rename_i k e
      cases k with
      | true => exact fun h1 => hb.de.mono _ _ _ hq h1
      | false => exact fun h1 => hq _ _ h1
    · exact fun h1 => h1
theorem pd_or {rest : List Expr} (ha : PD X F a ta da) (hb : PD X F (.BoolOp .Or (b :: rest) pos) tb db) : PD X F (.BoolOp .Or (a :: b :: rest) pos) (L2.tOrV ta tb) (dOrV da db) := by
  refine ⟨pe_or ha.pe hb.pe, ?_, ?_⟩
  · intro pins ρ σ H Q O hq
    refine ha.de.run pins ρ σ H _ O (ha.de.mono _ _ _ (fun r ρ1 h1 v H1 O1 R1 => ?_) hq)
    split at h1
    · rename_i k e
      cases dp_bool (val_dp O1 R1 e)
      refine ⟨k, rfl, ?_⟩
      cases k with
      | false => exact hb.de.run pins ρ1 σ H1 Q O1 h1
      | true => exact h1 _ H1 O1 (.sc .bool)
    · exact h1.elim
  · intro ρ Q Q' hq hh
    refine ha.de.mono _ _ _ (fun r ρ1 h1 => ?_) hh
    revert h1
    split
    · rename_i k e
      cases k with
      | false => exact fun h1 => hb.de.mono _ _ _ hq h1
      | true => exact fun h1 => hq _ _ h1
    · exact fun h1 => h1
theorem pd_not (ha : PD X F a ta da) : PD X F (.UnaryOp .Not a pos) (L2.tNotV ta) (dNotV da) := by
  refine ⟨pe_not ha.pe, ?_, ?_⟩
  · intro pins ρ σ H Q O hq
    refine ha.de.run pins ρ σ H _ O (ha.de.mono _ _ _ (fun r ρ1 h1 v H1 O1 R1 => ?_) hq)
    split at h1
    · rename_i k e
      cases dp_bool (val_dp O1 R1 e)
      exact ⟨k, rfl, h1 _ H1 O1 (.sc .bool)⟩
    · exact h1.elim
  · intro ρ Q Q' hq hh
    refine ha.de.mono _ _ _ (fun r ρ1 h1 => ?_) hh
    revert h1
    split
    · exact fun h1 => hq _ _ h1
    · exact fun h1 => h1
def dIfE (t : TDT) (ta tb : TDE) : TDE := fun ρ Q => t ρ fun k ρ1 => if k = true then ta ρ1 Q else tb ρ1 Q
theorem pd_ifExp (hc : PDT X F c tt dt) (ha : PD X F a ta da) (hb : PD X F b tb db) : PD X F (.IfExp c a b pos) (tIf tt ta tb) (dIfE dt da db) := by
  refine ⟨pe_ifExp hc.pt ha.pe hb.pe, ?_, ?_⟩
  · intro pins ρ σ H Q O hq
    refine hc.dt.run pins ρ σ H _ O (hc.dt.mono _ _ _ (fun k ρ1 h1 H1 O1 => ?_) hq)
    cases k with
    | true => exact ha.de.run pins ρ1 σ H1 Q O1 h1
    | false => exact hb.de.run pins ρ1 σ H1 Q O1 h1
  · intro ρ Q Q' hq hh
    refine hc.dt.mono _ _ _ (fun k ρ1 h1 => ?_) hh
    cases k with
    | true => exact ha.de.mono _ _ _ hq h1
    | false => exact hb.de.mono _ _ _ hq h1
/-- a < b < c -/
def dChain (f g : F2) (ta tb tc : TDE) : TDE := fun ρ Q => ta ρ fun r ρ1 => tb ρ1 fun s ρ2 => onV2 ρ2 r s fun x y => f x y fun z => match z with
  | .bool k => if k = true then tc ρ2 fun u ρ3 => onV2 ρ3 s u fun y z => g y z fun o => Q (.d o) ρ3 else Q (.d (.bool false)) ρ2
  | _ => False
end
/-! ## statements -/
structure Rel (F : Fm) (pins : List Pin) (D : Ends) (DD : DEnds) : Prop where
  nx : ∀ ρ σ H, Ok F pins ρ σ H → DD.nx ρ → D.nx σ H
  rt : ∀ ρ σ H v r, Ok F pins ρ σ H → ROk F (Av F pins ρ σ) ρ σ H r v → DD.rt r ρ → D.rt v H
  bk : ∀ ρ σ H, Ok F pins ρ σ H → DD.bk ρ → D.bk σ H
  ct : ∀ ρ σ H, Ok F pins ρ σ H → DD.ct ρ → D.ct σ H
  rl : ∀ ρ σ H p xs, Ok F (.acc p xs :: pins) ρ σ H → DD.rl xs ρ → D.rt (.ref p) H
def DS (F : Fm) (ts : TS) (tds : TDS) : Prop := ∀ (pins : List Pin) (ρ : Rho) (σ : L2.St) (H : Hp) (D : Ends) (DD : DEnds), Ok F pins ρ σ H → SPn F pins → Rel F pins D DD → tds DD ρ → ts D σ H
structure PDS (X : Cx) (F : Fm) (st : Stmt) (ts : TS) (tds : TDS) : Prop where
  ps : PS X st ts
  ds : DS F ts tds
structure PDSs (X : Cx) (F : Fm) (st : List Stmt) (ts : TS) (tds : TDS) : Prop where
  pss : PSs X st ts
  ds : DS F ts tds
section
variable {X : Cx} {F : Fm} {a b c e : Expr} {es : List Expr} {ta tb tc te : TE} {da db dc de : TDE} {pos : Pos} {t : TA} {d : TDA} {tt tu : TT} {dt du : TDT} {st : Stmt} {rest sts : List Stmt} {ts us : TS} {ds dus : TDS}
def dNext : TDS := fun DD ρ => DD.nx ρ
def dSeq (t u : TDS) : TDS := fun DD ρ => t { DD with nx := u DD } ρ
theorem dss_nil : PDSs X F [] tNext dNext := ⟨pss_nil, fun pins ρ σ H D DD O S R h => R.nx ρ σ H O h⟩
theorem dss_cons (h1 : PDS X F st ts ds) (h2 : PDSs X F rest us dus) : PDSs X F (st :: rest) (tSeq ts us) (dSeq ds dus) :=
  ⟨pss_cons h1.ps h2.pss, fun pins ρ σ H D DD O S R h => h1.ds pins ρ σ H { D with nx := us D } { DD with nx := dus DD } O S
    ⟨fun ρ1 σ1 H1 O1 q => h2.ds pins ρ1 σ1 H1 D DD O1 S R q, R.rt, R.bk, R.ct, R.rl⟩ h⟩
theorem dss_one (h1 : PDS X F st ts ds) : PDSs X F [st] ts ds := ⟨pss_one h1.ps, h1.ds⟩
def dBreak : TDS := fun DD ρ => DD.bk ρ
def dCont : TDS := fun DD ρ => DD.ct ρ
theorem ds_pass : PDS X F (.Pass pos) tNext dNext := ⟨ps_pass, fun pins ρ σ H D DD O S R h => R.nx ρ σ H O h⟩
theorem ds_break : PDS X F (.Break pos) tBreak dBreak := ⟨ps_break, fun pins ρ σ H D DD O S R h => R.bk ρ σ H O h⟩
theorem ds_continue : PDS X F (.Continue pos) tCont dCont := ⟨ps_continue, fun pins ρ σ H D DD O S R h => R.ct ρ σ H O h⟩
def dDrop (te : TDE) : TDS := fun DD ρ => te ρ fun _ ρ1 => DD.nx ρ1
theorem ds_expr (he : PD X F e te de) (hs : swapsWith e none pos.line X.env = pure false := by rfl) : PDS X F (.Expr e pos) (tDrop te) (dDrop de) :=
  ⟨ps_expr he.pe hs, fun pins ρ σ H D DD O S R h => he.de.run pins ρ σ H _ O (he.de.mono _ _ _ (fun r ρ1 h1 v H1 O1 _ => R.nx ρ1 σ H1 O1 h1) h)⟩
def dRet (te : TDE) : TDS := fun DD ρ => te ρ DD.rt
theorem ds_ret (he : PD X F e te de) : PDS X F (.Return (some e) pos) (tRet te) (dRet de) :=
  ⟨ps_ret he.pe, fun pins ρ σ H D DD O S R h => he.de.run pins ρ σ H _ O (he.de.mono _ _ _ (fun r ρ1 h1 v H1 O1 R1 => R.rt ρ1 σ H1 v r O1 R1 h1) h)⟩
def dRetN : TDS := fun DD ρ => DD.rt (.d .none) ρ
theorem ds_retN : PDS X F (.Return none pos) tRetN dRetN := ⟨ps_retN, fun pins ρ σ H D DD O S R h => R.rt ρ σ H .non _ O (.sc .none) h⟩
def dIfS (c : TDT) (t u : TDS) : TDS := fun DD ρ => c ρ fun k ρ1 => if k = true then t DD ρ1 else u DD ρ1
theorem ds_if {c : Expr} {x y : List Stmt} (hc : PDT X F c tt dt) (h1 : PDSs X F x ts ds) (h2 : PDSs X F y us dus) : PDS X F (.If c x y pos) (tIfS tt ts us) (dIfS dt ds dus) := by
  refine ⟨ps_if hc.pt h1.pss h2.pss, fun pins ρ σ H D DD O S R h => ?_⟩
  refine hc.dt.run pins ρ σ H _ O (hc.dt.mono _ _ _ (fun k ρ1 h3 H1 O1 => ?_) h)
  cases k with
  | true => exact h1.ds pins ρ1 σ H1 D DD O1 S R h3
  | false => exact h2.ds pins ρ1 σ H1 D DD O1 S R h3
/-! ### targets -/
def setR (i : Nat) (r : R) (ρ : Rho) (k : Rho → Prop) : Prop := match r with
  | .d x => k (ρ.set i (some (.d x)))
  | .raw v => k (ρ.set i (some (.raw v)))
  | .o j => match ρ[j]? with
    | some (some (.ro x)) => k (ρ.set i (some (.ro x)))
    | _ => False
def SameOut (σ σ' : L2.St) (sl : List Nat) : Prop := ∀ vs : List Nat, (∀ i ∈ sl, i ∈ vs) → wipe σ' vs = wipe σ vs
abbrev TDGt := R → Rho → (Rho → Prop) → Prop
structure DG (F : Fm) (g : TG) (dg : TDGt) (sl : List Nat) : Prop where
  run : ∀ (pins : List Pin) (ρ : Rho) (σ : L2.St) (H : Hp) (v : V) (r : R) (Q : L2.St → Hp → Prop) (P : Rho → Prop), Ok F pins ρ σ H → (∀ i ∈ sl, Fr pins i) → ROk F (Av F pins ρ σ) ρ σ H r v → dg r ρ P →
    (∀ ρ' σ' H', Ok F pins ρ' σ' H' → SameOut σ σ' sl → P ρ' → Q σ' H') → g v σ H Q
  mono : ∀ r ρ P P', (∀ ρ', P ρ' → P' ρ') → dg r ρ P → dg r ρ P'
theorem wipe_out1 {σ : L2.St} {i : Nat} {u : Option V} : ∀ {vs : List Nat}, i ∈ vs → wipe (σ.set i u) vs = wipe σ vs
  | j :: r, h => by
    show (wipe (σ.set i u) r).set j none = (wipe σ r).set j none
    by_cases hr : i ∈ r
    · rw [wipe_out1 hr]
    · have e : i = j := by
        rcases List.mem_cons.mp h with z | z
        · exact z
        · exact absurd z hr
      subst e
      have : ∀ (vs : List Nat) (σ : L2.St), i ∉ vs → wipe (σ.set i u) vs = (wipe σ vs).set i u := fun vs => by
        induction vs with
        | nil => intro σ _; rfl
        | cons k ks ih =>
          intro σ hn
          show (wipe (σ.set i u) ks).set k none = ((wipe σ ks).set k none).set i u
          rw [ih σ (fun z => hn (List.mem_cons_of_mem _ z)), List.set_comm _ _ (fun z => hn (by rw [z]; exact List.mem_cons_self ..))]
      rw [this r σ hr, List.set_set]
theorem dg_name (i : Nat) : DG F (gName i) (setR i) [i] := by
  constructor
  · intro pins ρ σ H v r Q P O hf Rv h k
    have so : SameOut σ (σ.set i (some v)) [i] := fun vs hv => wipe_out1 (hv i (List.mem_singleton.mpr rfl))
    have hi := hf i (List.mem_singleton.mpr rfl)
    cases r with
    | d x => exact k _ _ _ (O.put hi (fun _ z => by cases z) fun f e => by cases e; exact ⟨v, rfl, Rv⟩) so h
    | raw u => exact k _ _ _ (O.put hi (fun _ z => by cases z) fun f e => by cases e; exact ⟨v, rfl, Rv⟩) so h
    | o j =>
      unfold setR at h
      dsimp only at h
      split at h
      · rename_i x e
        obtain ⟨u, h1, h2⟩ := O.ent j _ e
        have h3 := Rv.1
        rw [h1] at h3; cases h3
        exact k _ _ _ (O.put hi (fun _ z => by cases z) fun f e => by cases e; exact ⟨_, rfl, h2⟩) so h
      · exact h.elim
  · intro r ρ P P' hp h
    cases r with
    | d x => exact hp _ h
    | raw v => exact hp _ h
    | o j =>
      unfold setR at h ⊢
      dsimp only at h ⊢
      split at h
      · exact hp _ h
      · exact h.elim
structure DGs (F : Fm) (g : TGs) (dg : List PyData → Rho → (Rho → Prop) → Prop) (sl : List Nat) : Prop where
  run : ∀ (pins : List Pin) (ρ : Rho) (σ : L2.St) (H : Hp) (vs : List V) (xs : List PyData) (Q : L2.St → Hp → Prop) (P : Rho → Prop), Ok F pins ρ σ H → (∀ i ∈ sl, Fr pins i) → ImAll F.K (Av F pins ρ σ) H xs vs → dg xs ρ P →
    (∀ ρ' σ' H', Ok F pins ρ' σ' H' → SameOut σ σ' sl → P ρ' → Q σ' H') → g vs σ H Q
  mono : ∀ xs ρ P P', (∀ ρ', P ρ' → P' ρ') → dg xs ρ P → dg xs ρ P'
def dgNil : List PyData → Rho → (Rho → Prop) → Prop
  | [], ρ, P => P ρ
  | _, _, _ => False
def dgCons (g : TDGt) (gs : List PyData → Rho → (Rho → Prop) → Prop) : List PyData → Rho → (Rho → Prop) → Prop
  | x :: xs, ρ, P => g (.d x) ρ fun ρ' => gs xs ρ' P
  | _, _, _ => False
theorem dgs_nil : DGs F gNil dgNil [] := by
  constructor
  · intro pins ρ σ H vs xs Q P O hf hv h k
    cases xs with
    | nil => simp only [ImAll] at hv; exact ⟨hv, k ρ σ H O (fun _ _ => rfl) h⟩
    | cons x xs => exact h.elim
  · intro xs ρ P P' hp h
    cases xs with
    | nil => exact hp _ h
    | cons x xs => exact h.elim
def pinsOf : List V → List PyData → List Pin
  | v :: vs, x :: xs => .val v (.d x) :: pinsOf vs xs
  | _, _ => []
theorem Ok.pushAll {pins : List Pin} {ρ : Rho} {σ : L2.St} {H : Hp} (O : Ok F pins ρ σ H) : ∀ {xs : List PyData} {vs : List V}, ImAll F.K (Av F pins ρ σ) H xs vs → Ok F (pinsOf vs xs ++ pins) ρ σ H ∧ Av F (pinsOf vs xs ++ pins) ρ σ = Av F pins ρ σ
  | [], vs, h => by simp only [ImAll] at h; subst h; exact ⟨O, rfl⟩
  | x :: xs, vs, h => by
    simp only [ImAll] at h
    obtain ⟨v, us, rfl, h1, h2⟩ := h
    obtain ⟨O1, e⟩ := O.pushAll h2
    exact ⟨O1.push (v := v) (r := .d x) (by rw [e]; exact h1), e⟩
theorem Ok.popAll {pins : List Pin} {ρ : Rho} {σ : L2.St} {H : Hp} : ∀ {xs : List PyData} {vs : List V}, vs.length = xs.length → Ok F (pinsOf vs xs ++ pins) ρ σ H → Ok F pins ρ σ H ∧ Av F (pinsOf vs xs ++ pins) ρ σ = Av F pins ρ σ ∧ ImAll F.K (Av F pins ρ σ) H xs vs
  | [], [], _, O => ⟨O, rfl, .nil⟩
  | x :: xs, [], h, _ => by cases h
  | [], v :: vs, h, _ => by cases h
  | x :: xs, v :: vs, h, O => by
    obtain ⟨O1, r1⟩ := Ok.popV (show Ok F (.val v (.d x) :: (pinsOf vs xs ++ pins)) ρ σ H from O)
    obtain ⟨O2, e, r2⟩ := Ok.popAll (by simpa using h) O1
    have r1 : Im F.K (Av F (pinsOf vs xs ++ pins) ρ σ) H x v := r1
    rw [e] at r1
    exact ⟨O2, e, .cons r1 r2⟩
theorem fr_pinsOf {pins : List Pin} {i : Nat} (h : Fr pins i) : ∀ (vs : List V) (xs : List PyData), Fr (pinsOf vs xs ++ pins) i
  | [], _ => h
  | v :: vs, [] => h
  | v :: vs, x :: xs => fun u j hp => by
    rcases List.mem_cons.mp (show Pin.val u (.o j) ∈ Pin.val v (.d x) :: (pinsOf vs xs ++ pins) from hp) with z | z
    · cases z
    · exact fr_pinsOf h vs xs u j z
theorem SameOut.trans {σ σ1 σ2 : L2.St} {s t : List Nat} (h : SameOut σ σ1 s) (k : SameOut σ1 σ2 t) : SameOut σ σ2 (s ++ t) := fun vs hv =>
  (k vs fun i hi => hv i (List.mem_append_right _ hi)).trans (h vs fun i hi => hv i (List.mem_append_left _ hi))
theorem dgs_cons {g : TG} {dg : TDGt} {s t : List Nat} {gs : TGs} {dgs : List PyData → Rho → (Rho → Prop) → Prop} (h1 : DG F g dg s) (h2 : DGs F gs dgs t) : DGs F (gCons g gs) (dgCons dg dgs) (s ++ t) := by
  constructor
  · intro pins ρ σ H vs xs Q P O hf hv h k
    cases xs with
    | nil => exact h.elim
    | cons x xs =>
      simp only [ImAll] at hv
      obtain ⟨v, us, rfl, h3, h4⟩ := hv
      obtain ⟨O1, e1⟩ := O.pushAll h4
      refine ⟨v, us, rfl, h1.run (pinsOf us xs ++ pins) ρ σ H v (.d x) _ _ O1 (fun i hi => fr_pinsOf (hf i (List.mem_append_left _ hi)) us xs) (by rw [e1]; exact h3) h fun ρ' σ' H' O2 so q => ?_⟩
      obtain ⟨O3, _, r3⟩ := Ok.popAll h4.length O2
      exact h2.run pins ρ' σ' H' us xs Q P O3 (fun i hi => hf i (List.mem_append_right _ hi)) r3 q fun ρ2 σ2 H2 O4 so2 q2 => k ρ2 σ2 H2 O4 (so.trans so2) q2
  · intro xs ρ P P' hp h
    cases xs with
    | nil => exact h.elim
    | cons x xs => exact h1.mono _ _ _ _ (fun ρ' q => h2.mono _ _ _ _ hp q) h
def dgTup (n : Nat) (gs : List PyData → Rho → (Rho → Prop) → Prop) : TDGt := fun r ρ P => match r with
  | .d (.tuple xs) => xs.length = n ∧ gs xs ρ P
  | _ => False
theorem dg_tup {n : Nat} {gs : TGs} {dgs : List PyData → Rho → (Rho → Prop) → Prop} {s : List Nat} (h : DGs F gs dgs s) : DG F (gTup F.K n gs) (dgTup n dgs) s := by
  constructor
  · intro pins ρ σ H v r Q P O hf Rv hd k
    unfold dgTup at hd
    split at hd
    · rename_i xs
      have Rv : Im F.K (Av F pins ρ σ) H (.tuple xs) v := Rv
      simp only [Im] at Rv
      obtain ⟨a, vs, rfl, l, im⟩ := Rv
      exact ⟨a, vs, rfl, l.sq, by rw [im.length]; exact hd.1, h.run pins ρ σ H vs xs Q P O hf im hd.2 k⟩
    · exact hd.elim
  · intro r ρ P P' hp hd
    unfold dgTup at hd ⊢
    split at hd
    · exact ⟨hd.1, h.mono _ _ _ _ hp hd.2⟩
    · exact hd.elim
structure PDG (X : Cx) (F : Fm) (tg : Expr) (g : TG) (dg : TDGt) (sl : List Nat) : Prop where
  pg : PG X tg g
  dg : DG F g dg sl
structure PDGs (X : Cx) (F : Fm) (tgs : List Expr) (g : TGs) (dg : List PyData → Rho → (Rho → Prop) → Prop) (sl : List Nat) : Prop where
  pgs : PGs X tgs g
  dgs : DGs F g dg sl
theorem pgd_name {i : Nat} {x : Str} (hN : X.N.Nodup) (hi : X.N[i]? = some x := by rfl) (hx : Loc X.env.scope x := by first | exact Or.inl rfl | exact Or.inr rfl) (hf : X.fn x = true ∨ X.env.scope.names.lookup x = some .local := by first | exact .inl rfl | exact .inr rfl) : PDG X F (.Name x pos) (gName i) (setR i) [i] := ⟨pg_name hN hi hx hf, dg_name i⟩
theorem pgds_nil : PDGs X F [] gNil dgNil [] := ⟨pgs_nil, dgs_nil⟩
end
end DV
namespace DV
open PySem PySem.Spec PyProof.Rows L2
section
variable {X : Cx} {F : Fm} {a b c e : Expr} {es : List Expr} {ta tb tc te : TE} {da db dc de : TDE} {dl : TDL} {pos : Pos} {t : TA} {d : TDA} {tt tu : TT} {dt du : TDT} {st : Stmt} {rest sts : List Stmt} {ts us : TS} {ds dus : TDS}
theorem pgds_cons {tg : Expr} {tgs : List Expr} {g : TG} {dg : TDGt} {s u : List Nat} {gs : TGs} {dgs : List PyData → Rho → (Rho → Prop) → Prop} (h1 : PDG X F tg g dg s) (h2 : PDGs X F tgs gs dgs u)
    (hs : (assignEach (tg :: tgs) X.env).map (·.2) = assign tg X.env :: (assignEach tgs X.env).map (·.2) := by rfl) : PDGs X F (tg :: tgs) (gCons g gs) (dgCons dg dgs) (s ++ u) := ⟨pgs_cons h1.pg h2.pgs hs, dgs_cons h1.dg h2.dgs⟩
theorem pgd_tup {tgs : List Expr} {k n : Nat} {gs : TGs} {dgs : List PyData → Rho → (Rho → Prop) → Prop} {s : List Nat} (hc : X.calm = true) (h : PDGs X F tgs gs dgs s) (hK : X.K = F.K := by rfl)
    (hn : (assignEach tgs X.env).length = n := by rfl) (hst : (assignEach tgs X.env).findIdx? (·.1) = none := by rfl) : PDG X F (.Tuple tgs k pos) (gTup F.K n gs) (dgTup n dgs) s := by
  refine ⟨?_, dg_tup h.dgs⟩
  have := pg_tup (pos := pos) (k := k) hc h.pgs hn hst
  rw [hK] at this
  exact this
def dAsg (te : TDE) (dg : TDGt) : TDS := fun DD ρ => te ρ fun r ρ1 => dg r ρ1 DD.nx
theorem dsa {g : TG} {dg : TDGt} {s : List Nat} (he : DE F te de) (hg : DG F g dg s) (hf : ∀ i ∈ s, ¬ F.fix i) : DS F (tAsg te g) (dAsg de dg) := fun pins ρ σ H D DD O S R h =>
  he.run pins ρ σ H _ O (he.mono _ _ _ (fun r ρ1 h1 v H1 O1 R1 => hg.run pins ρ1 σ H1 v r _ _ O1 (fun i hi => S.fr (hf i hi)) R1 h1 fun ρ2 σ2 H2 O2 _ q => R.nx ρ2 σ2 H2 O2 q) h)
theorem ds_asg {tg : Expr} {g : TG} {dg : TDGt} {s : List Nat} (he : PD X F e te de) (hg : PDG X F tg g dg s) (hf : ∀ i ∈ s, ¬ F.fix i) (hs : swapsWithSole [tg] e pos.line X.env = pure false := by rfl) (hw : swappedStores [tg] e X.env = pure none := by rfl)
    (h1 : (assignEach [tg] X.env).map (·.2) = [assign tg X.env] := by rfl) : PDS X F (.Assign [tg] e pos) (tAsg te g) (dAsg de dg) := ⟨ps_asg he.pe hg.pg hs hw h1, dsa he.de hg.dg hf⟩
theorem ds_set {i : Nat} {x : Str} {pos' : Pos} (hN : X.N.Nodup) (he : PD X F e te de) (hf : ¬ F.fix i) (hi : X.N[i]? = some x := by rfl) (hx : Loc X.env.scope x := by first | exact Or.inl rfl | exact Or.inr rfl) (hs : swapsWith e (some (.Name x pos')) pos.line X.env = pure false := by rfl) (hfn : X.fn x = true ∨ X.env.scope.names.lookup x = some .local := by first | exact .inl rfl | exact .inr rfl) :
    PDS X F (.Assign [.Name x pos'] e pos) (tAsg te (gName i)) (dAsg de (setR i)) := ⟨ps_set hN hi hx he.pe hs hfn, dsa he.de (dg_name i) fun j hj => by rw [List.mem_singleton.mp hj]; exact hf⟩
/-- x = a new list that is changed later -/
def dSetL (i : Nat) (tl : TDL) : TDS := fun DD ρ => tl ρ fun xs ρ1 => DD.nx (ρ1.set i (some (.own xs)))
theorem dsl {i : Nat} (he : DL F te dl) (hf : ¬ F.fix i) : DS F (tAsg te (gName i)) (dSetL i dl) := fun pins ρ σ H D DD O S R h =>
  he.run pins ρ σ H _ O (he.mono _ _ _ (fun xs ρ1 h1 p H1 O1 => R.nx _ _ H1 (O1.putL (S.fr hf)) h1) h)
theorem ds_setL {i : Nat} {x : Str} {pos' : Pos} (hN : X.N.Nodup) (he : PDL X F e te dl) (hf : ¬ F.fix i) (hi : X.N[i]? = some x := by rfl) (hx : Loc X.env.scope x := by first | exact Or.inl rfl | exact Or.inr rfl) (hs : swapsWith e (some (.Name x pos')) pos.line X.env = pure false := by rfl) (hfn : X.fn x = true ∨ X.env.scope.names.lookup x = some .local := by first | exact .inl rfl | exact .inr rfl) :
    PDS X F (.Assign [.Name x pos'] e pos) (tAsg te (gName i)) (dSetL i dl) := ⟨ps_set hN hi hx he.pe hs hfn, dsl he.dl hf⟩
def noO : R → Prop
  | .o _ => False
  | _ => True
/-- x, y = e, e' with plain locals -/
def dPar (i j : Nat) (t : TDA) : TDS := fun DD ρ => t ρ fun rs ρ1 => match rs with
  | [r, s] => noO s ∧ setR i r ρ1 fun ρ2 => setR j s ρ2 DD.nx
  | _ => False
theorem ds_par {i j : Nat} {x y : Str} {px py pt : Pos} {pt2 : Pos} {kt' k2'} (hc : X.calm = true) (hN : X.N.Nodup) (ha : PDA X F [a, b] t d) (hfi : ¬ F.fix i) (hfj : ¬ F.fix j) (hij : i ≠ j := by decide) (hi : X.N[i]? = some x := by rfl) (hj : X.N[j]? = some y := by rfl)
    (hx : X.env.scope.names.lookup x = some .local := by rfl) (hy : X.env.scope.names.lookup y = some .local := by rfl)
    (hw : swappedStores [.Tuple [.Name x px, .Name y py] kt' pt] (.Tuple [a, b] k2' pt2) X.env = pure (some [x, y]) := by rfl)
    (hs : swapsWithSole [.Tuple [.Name x px, .Name y py] kt' pt] (.Tuple [a, b] k2' pt2) pos.line X.env = pure false := by rfl) :
    PDS X F (.Assign [.Tuple [.Name x px, .Name y py] kt' pt] (.Tuple [a, b] k2' pt2) pos) (tPar i j t) (dPar i j d) := by
  refine ⟨ps_par hc hN hi hj hij hx hy ha.pa hw hs, fun pins ρ σ H D DD O S R h => ?_⟩
  refine ha.da.run pins ρ σ H _ O (ha.da.mono _ _ _ (fun rs ρ1 h1 vs H1 O1 R1 => ?_) h)
  split at h1
  · rename_i r s
    simp only [ROks] at R1
    obtain ⟨v, us, rfl, r1, w, us2, rfl, r2, rfl⟩ := R1
    refine ⟨v, w, rfl, ?_⟩
    have O2 := O1.push r2
    have g1 : gName i v σ H1 fun σ2 H2 => gName j w σ2 H2 fun σ3 H3 => D.nx σ3 H3 := by
      refine (dg_name (F := F) i).run (.val w s :: pins) ρ1 σ H1 v r _ _ O2 (fun k hk => ?_) (by exact r1) h1.2 fun ρ2 σ2 H2 O3 _ q => ?_
      · rw [List.mem_singleton.mp hk]
        intro u l hp
        rcases List.mem_cons.mp hp with z | z
        · cases z
          exact h1.1.elim
        · exact S.fr hfi u l z
      · obtain ⟨O4, r3⟩ := O3.popV
        exact (dg_name (F := F) j).run pins ρ2 σ2 H2 w s _ _ O4 (fun k hk => by rw [List.mem_singleton.mp hk]; exact S.fr hfj) r3 q fun ρ4 σ4 H4 O5 _ q2 => R.nx _ _ _ O5 q2
    exact g1
  · exact h1.elim
/-! ### lists of one's own: append, insert, x[k] = e, x[k] += e -/
/-- the own list that stands in slot i -/
def onOwn (ρ : Rho) (i : Nat) (f : List PyData → Prop) : Prop := match ρ[i]? with
  | some (some (.own xs)) => f xs
  | _ => False
theorem onOwn_of {ρ : Rho} {i : Nat} {f : List PyData → Prop} (h : onOwn ρ i f) : ∃ xs, ρ[i]? = some (some (.own xs)) ∧ f xs := by
  unfold onOwn at h
  split at h
  · exact ⟨_, by assumption, h⟩
  · exact h.elim
theorem onOwn_mono {ρ : Rho} {i : Nat} {f g : List PyData → Prop} (h : onOwn ρ i f) (k : ∀ x, f x → g x) : onOwn ρ i g := by
  unfold onOwn at h ⊢
  split at h
  · exact k _ h
  · exact h.elim
/-- a datum -/
def onDat (r : R) (f : PyData → Prop) : Prop := match r with
  | .d x => f x
  | _ => False
theorem Ok.ownGet {pins : List Pin} {ρ : Rho} {σ : L2.St} {H : Hp} (O : Ok F pins ρ σ H) {i : Nat} {xs : List PyData} (h : ρ[i]? = some (some (.own xs))) :
    ∃ p vs, σ[i]? = some (some (.ref p)) ∧ H p = some (.lst vs) ∧ ImAll F.K (Av F pins ρ σ) H xs vs ∧ OwnAt ρ σ i p := by
  obtain ⟨v, h1, p, vs, rfl, h2, h3, _⟩ := O.ent i _ h
  exact ⟨p, vs, h1, h2, h3, ⟨xs, h⟩, h1⟩
/-- a method of the own list at slot i -/
def dOwnM (i : Nat) (t : TDA) (k : List PyData → List R → (PyData → List PyData → Prop) → Prop) : TDE := fun ρ Q => onOwn ρ i fun _ => t ρ fun rs ρ1 => onOwn ρ1 i fun xs => k xs rs fun z ys => Q (.d z) (ρ1.set i (some (.own ys)))
/-- its reading r by values, from data; the answer is without a heap -/
structure SM (F : Fm) (r : V → List V → Hp → VK → Prop) (k : List PyData → List R → (PyData → List PyData → Prop) → Prop) : Prop where
  run : ∀ (pins : List Pin) (ρ : Rho) (σ : L2.St) (H : Hp) (p : Addr) (vs us : List V) (xs : List PyData) (rs : List R) (Q : VK), Ok F pins ρ σ H → H p = some (.lst vs) → ImAll F.K (Av F pins ρ σ) H xs vs → ROks F (Av F pins ρ σ) ρ σ H rs us →
    k xs rs (fun z ys => ∀ v ws, Sc z v → ImAll F.K (Av F pins ρ σ) H ys ws → Q v (upd H p (.lst ws))) → r (.ref p) us H Q
  mono : ∀ xs rs Q Q', (∀ z ys, Q z ys → Q' z ys) → k xs rs Q → k xs rs Q'
theorem de_ownM {i : Nat} {r : V → List V → Hp → VK → Prop} {k : List PyData → List R → (PyData → List PyData → Prop) → Prop} (hr : SM F r k) (ha : DA F t d) : DE F (tBM F.K "list" r (tVar i) t) (dOwnM i d k) := by
  constructor
  · intro pins ρ σ H Q O h
    obtain ⟨xs0, e0, h⟩ := onOwn_of h
    obtain ⟨p, vs0, h1, h2, h3, _⟩ := O.ownGet e0
    refine ⟨.ref p, h1, .inl ⟨rfl, vs0, .of h2⟩, ?_⟩
    refine ha.run pins ρ σ H _ O (ha.mono _ _ _ (fun rs ρ1 h4 us H1 O1 R1 => ?_) h)
    obtain ⟨xs, e1, h5⟩ := onOwn_of h4
    obtain ⟨q, vs, g1, g2, g3, g4⟩ := O1.ownGet e1
    rw [h1] at g1; cases g1
    refine hr.run pins ρ1 σ H1 p vs us xs rs Q O1 g2 g3 R1 (hr.mono _ _ _ _ (fun z ys q v ws hv hw => ?_) h5)
    exact q v _ (O1.setOwn g4 hw) (.sc hv)
  · intro ρ Q Q' hq h
    exact onOwn_mono h fun xs0 h => ha.mono _ _ _ (fun rs ρ1 h4 => onOwn_mono h4 fun xs h5 => hr.mono _ _ _ _ (fun z ys q => hq _ _ q) h5) h
def kAppend : List PyData → List R → (PyData → List PyData → Prop) → Prop
  | xs, [.d y], Q => Few (xs.length + 1) ∧ Q .none (xs ++ [y])
  | _, _, _ => False
theorem sm_append : SM F rAppend kAppend := by
  constructor
  · intro pins ρ σ H p vs us xs rs Q O h1 h2 h3 h
    unfold kAppend at h
    split at h
    · rename_i xs y
      simp only [ROks] at h3
      obtain ⟨v, _, rfl, h4, rfl⟩ := h3
      refine ⟨p, vs, v, rfl, rfl, h1, ?_, h.2 _ _ .none (h2.append (.cons h4 .nil))⟩
      have := h.1
      unfold Few at this
      rw [h2.length]; omega
    · exact h.elim
  · intro xs rs Q Q' hq h
    unfold kAppend at h ⊢
    split at h
    · exact ⟨h.1, hq _ _ h.2⟩
    · exact h.elim
def rInsert : V → List V → Hp → VK → Prop := fun x vs H Q => ∃ (l : Addr) (xs : List V) (i : Int) (y : V), x = .ref l ∧ vs = [.int i, y] ∧ H l = some (.lst xs) ∧ xs.length < sizeLine ∧ 0 ≤ i ∧ i < 2 ^ 63 ∧
    Q .non (upd H l (.lst (xs.take i.toNat ++ [y] ++ xs.drop i.toNat)))
def kInsert : List PyData → List R → (PyData → List PyData → Prop) → Prop
  | xs, [.d (.int i), .d y], Q => (Few (xs.length + 1) ∧ 0 ≤ i ∧ i < 2 ^ 63) ∧ Q .none (xs.take i.toNat ++ [y] ++ xs.drop i.toNat)
  | _, _, _ => False
theorem sm_insert : SM F rInsert kInsert := by
  constructor
  · intro pins ρ σ H p vs us xs rs Q O h1 h2 h3 h
    unfold kInsert at h
    split at h
    · rename_i i y
      simp only [ROks] at h3
      obtain ⟨v1, _, rfl, h5, v, _, rfl, h4, rfl⟩ := h3
      have h5 : Im F.K (Av F pins ρ σ) H (.int i) v1 := h5
      cases (Im.int_iff.mp h5)
      refine ⟨p, vs, i, v, rfl, rfl, h1, ?_, h.1.2.1, h.1.2.2, h.2 _ _ .none (((h2.take _).append (.cons h4 .nil)).append (h2.drop _))⟩
      have := h.1.1
      unfold Few at this
      rw [h2.length]; omega
    · exact h.elim
  · intro xs rs Q Q' hq h
    unfold kInsert at h ⊢
    split at h
    · exact ⟨h.1, hq _ _ h.2⟩
    · exact h.elim
section
variable {name : Str} {apos cpos : Pos} {x : Str} {vpos : Pos} {i : Nat}
theorem pd_append (ha : PDA X F [e] t d) (hK : X.K = F.K := by rfl) (hN : X.N[i]? = some x := by rfl) (hv : Vis X.env.scope x := by first | exact Or.inl rfl | exact Or.inr (Or.inl rfl) | exact Or.inr (Or.inr rfl)) (hd : (x == ("__debug__" : Str)) = false := by decide)
    (hcd : (x == ("__classdict__" : Str)) = false := by decide)
    (hbase : attributeBase (.Name x vpos) "append" X.env (eval (.Name x vpos) X.env) = eval (.Name x vpos) X.env := by rfl)
    (hfew : ((backTo cpos (starEach [e] X.env)).all (fun x => !x.1) && (backToKw cpos (keywordEach [] X.env)).all (fun x => x.1.isSome)
      && decide (([e] : List Expr).length + ([] : List Keyword).length + (if ([] : List Keyword).isEmpty then 0 else 1) < 30)) = true := by rfl)
    (hline : (apos.endLine == cpos.line) = true := by rfl) (hs : starEach [e] X.env = (false, eval e X.env) :: starEach [] X.env := by rfl) (hplain : (backTo cpos (starEach [] X.env)).any (·.1) = false := by rfl) :
    PD X F (.Call (.Attribute (.Name x vpos) "append" apos) [e] [] cpos) (tBM F.K "list" rAppend (tVar i) t) (dOwnM i d kAppend) := by
  refine ⟨?_, de_ownM sm_append ha.da⟩
  have := pe_bm (cpos := cpos) (apos := apos) PySem.F.plainAttrs_list PySem.F.slot_list_append PySem.F.type_list_append mt_append (pe_var (pos := vpos) hN hv hd hcd) ha.pa hbase hfew hline hs hplain
  rw [hK] at this
  exact this
theorem pd_insert {e2 : Expr} (ha : PDA X F [e, e2] t d) (hK : X.K = F.K := by rfl) (hN : X.N[i]? = some x := by rfl) (hv : Vis X.env.scope x := by first | exact Or.inl rfl | exact Or.inr (Or.inl rfl) | exact Or.inr (Or.inr rfl)) (hd : (x == ("__debug__" : Str)) = false := by decide)
    (hcd : (x == ("__classdict__" : Str)) = false := by decide)
    (hbase : attributeBase (.Name x vpos) "insert" X.env (eval (.Name x vpos) X.env) = eval (.Name x vpos) X.env := by rfl)
    (hfew : ((backTo cpos (starEach [e, e2] X.env)).all (fun x => !x.1) && (backToKw cpos (keywordEach [] X.env)).all (fun x => x.1.isSome)
      && decide (([e, e2] : List Expr).length + ([] : List Keyword).length + (if ([] : List Keyword).isEmpty then 0 else 1) < 30)) = true := by rfl)
    (hline : (apos.endLine == cpos.line) = true := by rfl) (hs : starEach [e, e2] X.env = (false, eval e X.env) :: starEach [e2] X.env := by rfl) (hplain : (backTo cpos (starEach [e2] X.env)).any (·.1) = false := by rfl) :
    PD X F (.Call (.Attribute (.Name x vpos) "insert" apos) [e, e2] [] cpos) (tBM F.K "list" rInsert (tVar i) t) (dOwnM i d kInsert) := by
  refine ⟨?_, de_ownM sm_insert ha.da⟩
  have := pe_bm (cpos := cpos) (apos := apos) PySem.F.plainAttrs_list PySem.F.slot_list_insert PySem.F.type_list_insert mt_insert (pe_var (pos := vpos) hN hv hd hcd) ha.pa hbase hfew hline hs hplain
  rw [hK] at this
  exact this
end
/-- x[k] = e -/
def dSetItem (i : Nat) (te tk : TDE) : TDS := fun DD ρ => te ρ fun r ρ1 => onDat r fun y => onOwn ρ1 i fun _ => tk ρ1 fun s ρ2 => onV ρ2 s fun k => onOwn ρ2 i fun xs => match k with
  | .int k => (0 ≤ k ∧ k < xs.length) ∧ DD.nx (ρ2.set i (some (.own (xs.set k.toNat y))))
  | _ => False
theorem ixN_nat {n : Nat} {k : Int} (h0 : 0 ≤ k) (h1 : k < n) : ixN n k = some k.toNat := by
  unfold ixN; rw [if_pos h0, if_pos h1]
theorem ds_setItem {i : Nat} {k : Expr} {tk : TE} {dk : TDE} {x : Str} {vpos spos : Pos} (he : PD X F e te de) (hk : PD X F k tk dk) (hg : PG X (.Subscript (.Name x vpos) k spos) (gSub (tVar i) tk rSetL)) (hs : swapsWithSole [.Subscript (.Name x vpos) k spos] e pos.line X.env = pure false := by rfl) (hw : swappedStores [.Subscript (.Name x vpos) k spos] e X.env = pure none := by rfl)
    (h1 : (assignEach [.Subscript (.Name x vpos) k spos] X.env).map (·.2) = [assign (.Subscript (.Name x vpos) k spos) X.env] := by rfl) :
    PDS X F (.Assign [.Subscript (.Name x vpos) k spos] e pos) (tAsg te (gSub (tVar i) tk rSetL)) (dSetItem i de dk) := by
  refine ⟨ps_asg he.pe hg hs hw h1, fun pins ρ σ H D DD O S R h => ?_⟩
  refine he.de.run pins ρ σ H _ O (he.de.mono _ _ _ (fun r ρ1 h2 v H1 O1 R1 => ?_) h)
  cases r with
  | o j => exact h2.elim
  | raw u => exact h2.elim
  | d y =>
    obtain ⟨xs0, e0, h2⟩ := onOwn_of h2
    obtain ⟨p, vs0, g1, g2, g3, _⟩ := O1.ownGet e0
    refine ⟨.ref p, g1, ?_⟩
    refine hk.de.run (.val v (.d y) :: pins) ρ1 σ H1 _ (O1.push R1) (hk.de.mono _ _ _ (fun s ρ2 h3 u H2 O2 R2 => ?_) h2)
    obtain ⟨O3, R3⟩ := O2.popV
    obtain ⟨kk, e1, h4⟩ := onV_of h3
    obtain ⟨xs, e2, h5⟩ := onOwn_of h4
    obtain ⟨q, vs, f1, f2, f3, f4⟩ := O3.ownGet e2
    rw [g1] at f1; cases f1
    cases kk <;> first | exact h5.elim | skip
    rename_i k0
    cases dp_int (val_dp O2 R2 e1)
    refine ⟨p, vs, k0, k0.toNat, rfl, rfl, f2, ?_, R.nx _ _ _ (O3.setOwn f4 (f3.set _ R3)) h5.2⟩
    rw [f3.length]
    exact ixN_nat h5.1.1 h5.1.2
/-- x[k] += e, whole numbers -/
def dAddItem (i : Nat) (tk te : TDE) : TDS := fun DD ρ => onOwn ρ i fun _ => tk ρ fun s ρ1 => onV ρ1 s fun k => onOwn ρ1 i fun xs => match k with
  | .int k => (0 ≤ k ∧ k < xs.length) ∧ match xs[k.toNat]? with
    | some (.int n) => te ρ1 fun r ρ2 => onV ρ2 r fun y => onOwn ρ2 i fun ys => match y with
      | .int m => ys.length = xs.length ∧ DD.nx (ρ2.set i (some (.own (ys.set k.toNat (.int (n + m))))))
      | _ => False
    | _ => False
  | _ => False
theorem ds_addItem {i : Nat} {k : Expr} {tk : TE} {dk : TDE} {x : Str} {vpos spos : Pos} (hk : PD X F k tk dk) (he : PD X F e te de) (hp : PS X (.AugAssign (.Subscript (.Name x vpos) k spos) .Add e pos) (tAugS (tVar i) tk te (rIxL F.K) (ipI fun i j => i + j) rSetL)) :
    PDS X F (.AugAssign (.Subscript (.Name x vpos) k spos) .Add e pos) (tAugS (tVar i) tk te (rIxL F.K) (ipI fun i j => i + j) rSetL) (dAddItem i dk de) := by
  refine ⟨hp, fun pins ρ σ H D DD O S R h => ?_⟩
  obtain ⟨xs0, e0, h⟩ := onOwn_of h
  obtain ⟨p, vs0, g1, g2, g3, _⟩ := O.ownGet e0
  refine ⟨.ref p, g1, ?_⟩
  refine hk.de.run pins ρ σ H _ O (hk.de.mono _ _ _ (fun s ρ1 h3 u H1 O1 R1 => ?_) h)
  obtain ⟨kk, e1, h4⟩ := onV_of h3
  obtain ⟨xs, e2, h5⟩ := onOwn_of h4
  obtain ⟨q, vs, f1, f2, f3, f4⟩ := O1.ownGet e2
  rw [g1] at f1; cases f1
  cases kk <;> first | exact h5.elim | skip
  rename_i k0
  cases dp_int (val_dp O1 R1 e1)
  obtain ⟨hb, h6⟩ := h5
  split at h6
  · rename_i n en
    obtain ⟨v0, ev, iv⟩ := f3.get en
    cases (Im.int_iff.mp iv)
    refine ⟨p, vs, k0, .int n, rfl, rfl, .of f2, ?_, ?_⟩
    · unfold atI
      rw [f3.length, ixN_nat hb.1 hb.2]
      exact ev
    refine he.de.run pins ρ1 σ H1 _ O1 (he.de.mono _ _ _ (fun r ρ2 h7 w H2 O2 R2 => ?_) h6)
    obtain ⟨y, e3, h8⟩ := onV_of h7
    obtain ⟨ys, e4, h9⟩ := onOwn_of h8
    obtain ⟨q2, us, j1, j2, j3, j4⟩ := O2.ownGet e4
    rw [g1] at j1; cases j1
    cases y <;> first | exact h9.elim | skip
    rename_i m
    cases dp_int (val_dp O2 R2 e3)
    refine ⟨n, m, rfl, rfl, p, us, k0, k0.toNat, rfl, rfl, j2, ?_, R.nx _ _ _ (O2.setOwn j4 (j3.set _ .int)) h9.2⟩
    rw [j3.length, h9.1]
    exact ixN_nat hb.1 hb.2
  · exact h6.elim
end
end DV
namespace DV
open PySem PySem.Spec PyProof.Rows L2
/-! ## loops -/
section
variable {X : Cx} {F : Fm} {a b c e : Expr} {es : List Expr} {ta tb tc te : TE} {da db dc de : TDE} {dl : TDL} {pos : Pos} {t : TA} {d : TDA} {tt tu : TT} {dt du : TDT} {st : Stmt} {rest sts : List Stmt} {ts us : TS} {ds dus : TDS}
def dWhile (c : TDT) (tb : TDS) : TDS := fun DD ρ => ∃ (I : Rho → Prop) (μ : Rho → Nat), I ρ ∧ ∀ ρ, I ρ → c ρ fun k ρ1 => if k = true then tb { DD with nx := fun ρ' => I ρ' ∧ μ ρ' < μ ρ, ct := fun ρ' => I ρ' ∧ μ ρ' < μ ρ, bk := DD.nx } ρ1 else DD.nx ρ1
theorem ds_while {c : Expr} {body : List Stmt} (hp : PassesOwn (model X.prog X.w) X.A X.env X.xe) (hc : PDT X F c tt dt) (hb : PDSs X F body ts ds) : PDS X F (.While c body [] pos) (tWhile tt ts) (dWhile dt ds) := by
  refine ⟨ps_while hp hc.pt hb.pss, fun pins ρ σ H D DD O S R h => ?_⟩
  obtain ⟨I, μ, h0, h⟩ := h
  refine ⟨fun m σ H => ∃ ρ, Ok F pins ρ σ H ∧ I ρ ∧ m = μ ρ, ⟨_, ρ, O, h0, rfl⟩, ?_⟩
  rintro m σ1 H1 ⟨ρ1, O1, i1, rfl⟩
  refine hc.dt.run pins ρ1 σ1 H1 _ O1 (hc.dt.mono _ _ _ (fun k ρ2 h2 H2 O2 => ?_) (h ρ1 i1))
  cases k with
  | false => exact R.nx _ _ _ O2 h2
  | true =>
    refine ⟨fun σ' H' => ∃ ρ', Ok F pins ρ' σ' H' ∧ I ρ' ∧ μ ρ' < μ ρ1, fun σ' H' ⟨ρ', O', i', lt⟩ => ⟨μ ρ', lt, ρ', O', i', rfl⟩, ?_⟩
    exact hb.ds pins ρ2 σ1 H2 _ { DD with nx := fun ρ' => I ρ' ∧ μ ρ' < μ ρ1, ct := fun ρ' => I ρ' ∧ μ ρ' < μ ρ1, bk := DD.nx } O2 S ⟨fun ρ3 σ3 H3 O3 q => ⟨ρ3, O3, q⟩, R.rt, R.nx, fun ρ3 σ3 H3 O3 q => ⟨ρ3, O3, q⟩, R.rl⟩ h2
/-- what is walked: J gives the items, while the values pl are in mind -/
structure WOk (F : Fm) (J : It) (items : List PyData) (pl : List Pin) : Prop where
  goes : ∀ (i : Nat) (pins : List Pin) (ρ : Rho) (σ : L2.St) (H : Hp), (∀ p ∈ pl, p ∈ pins) → i < items.length → Ok F pins ρ σ H → J.go i H
  stops : ∀ (pins : List Pin) (ρ : Rho) (σ : L2.St) (H : Hp), (∀ p ∈ pl, p ∈ pins) → Ok F pins ρ σ H → J.stop items.length H
  yld : ∀ (i : Nat) (pins : List Pin) (ρ : Rho) (σ : L2.St) (H : Hp) (x : V) (H' : Hp), (∀ p ∈ pl, p ∈ pins) → i < items.length → Ok F pins ρ σ H → J.yld i H x H' → ∃ y, items[i]? = some y ∧ Ok F pins ρ σ H' ∧ Im F.K (Av F pins ρ σ) H' y x
abbrev TDI := Rho → (List PyData → Rho → Prop) → Prop
def Vp (pl : List Pin) : Prop := ∀ p ∈ pl, ∃ v r, p = .val v r
structure DI (F : Fm) (wi : TI) (dw : TDI) : Prop where
  run : ∀ (pins : List Pin) (ρ : Rho) (σ : L2.St) (H : Hp) (R : It → Hp → Prop), Ok F pins ρ σ H →
    dw ρ (fun items ρ' => ∀ J H' pl, WOk F J items pl → (∀ p ∈ pl, ∃ v x, p = .val v (.d x)) → Ok F (pl ++ pins) ρ' σ H' → R J H') → wi σ H R
  mono : ∀ ρ Q Q', (∀ r ρ', Q r ρ' → Q' r ρ') → dw ρ Q → dw ρ Q'
structure PDI (X : Cx) (F : Fm) (tg iter : Expr) (wi : TI) (dw : TDI) : Prop where
  pi : PI X tg iter wi
  di : DI F wi dw
theorem Ok.popVs {pins : List Pin} {ρ : Rho} {σ : L2.St} {H : Hp} : ∀ {pl : List Pin}, (∀ p ∈ pl, ∃ v x, p = .val v (.d x)) → Ok F (pl ++ pins) ρ σ H → Ok F pins ρ σ H ∧ Av F (pl ++ pins) ρ σ = Av F pins ρ σ
  | [], _, O => ⟨O, rfl⟩
  | p :: pl, h, O => by
    obtain ⟨v, x, rfl⟩ := h p (List.mem_cons_self ..)
    obtain ⟨O1, _⟩ := Ok.popV (show Ok F (.val v (.d x) :: (pl ++ pins)) ρ σ H from O)
    obtain ⟨O2, e⟩ := O1.popVs fun q hq => h q (List.mem_cons_of_mem _ hq)
    exact ⟨O2, e⟩
theorem SPn.app {pins : List Pin} (S : SPn F pins) {pl : List Pin} (h : ∀ p ∈ pl, ∃ v x, p = .val v (.d x)) : SPn F (pl ++ pins) := fun v j hp => by
  rcases List.mem_append.mp hp with z | z
  · obtain ⟨u, x, e⟩ := h _ z
    cases e
  · exact S v j z
theorem accs_app {pins : List Pin} : ∀ {pl : List Pin}, (∀ p ∈ pl, ∃ v x, p = .val v (.d x)) → accs (pl ++ pins) = accs pins
  | [], _ => rfl
  | p :: pl, h => by
    obtain ⟨v, x, rfl⟩ := h p (List.mem_cons_self ..)
    exact accs_app (pl := pl) fun q hq => h q (List.mem_cons_of_mem _ hq)
/-- fewer things in mind -/
theorem Ok.sub {pins qs : List Pin} {ρ : Rho} {σ : L2.St} {H : Hp} (O : Ok F pins ρ σ H) (h : ∀ p ∈ qs, p ∈ pins) (e : accs qs = accs pins) : Ok F qs ρ σ H := by
  have ae : Av F qs ρ σ = Av F pins ρ σ := by unfold Av; rw [e]
  exact ⟨O.len, by rw [ae]; exact O.ent, O.own, fun p hp => by rw [ae]; exact O.pin p (h p hp), by rw [e]; exact O.acs, O.fr, O.nh, O.ln, O.h0, O.lf⟩
theorem Ok.popAV {pins : List Pin} {ρ : Rho} {σ : L2.St} {H : Hp} {p : Addr} {xs : List PyData} {pl : List Pin} (O : Ok F (.acc p xs :: (pl ++ pins)) ρ σ H) (h : ∀ p ∈ pl, ∃ v x, p = .val v (.d x)) : Ok F (.acc p xs :: pins) ρ σ H := by
  refine O.sub (fun q hq => ?_) ?_
  · rcases List.mem_cons.mp hq with z | z
    · rw [z]; exact List.mem_cons_self ..
    · exact List.mem_cons_of_mem _ (List.mem_append_right _ z)
  · show p :: accs pins = p :: accs (pl ++ pins)
    rw [accs_app h]
theorem Rel.app {pins : List Pin} {D : Ends} {DD : DEnds} (R : Rel F pins D DD) {pl : List Pin} (h : ∀ p ∈ pl, ∃ v x, p = .val v (.d x)) : Rel F (pl ++ pins) D DD :=
  ⟨fun ρ σ H O q => R.nx ρ σ H (O.popVs h).1 q, fun ρ σ H v r O r1 q => R.rt ρ σ H v r (O.popVs h).1 (by rw [(O.popVs h).2] at r1; exact r1) q, fun ρ σ H O q => R.bk ρ σ H (O.popVs h).1 q, fun ρ σ H O q => R.ct ρ σ H (O.popVs h).1 q, fun ρ σ H p xs O q => R.rl ρ σ H p xs (O.popAV h) q⟩
def dFor (wi : TDI) (g : TDGt) (tb : TDS) : TDS := fun DD ρ => wi ρ fun xs ρ1 => ∃ I : Nat → Rho → Prop, I 0 ρ1 ∧
  (∀ i x ρ, xs[i]? = some x → I i ρ → g (.d x) ρ fun ρ2 => tb { DD with nx := I (i + 1), ct := I (i + 1), bk := DD.nx } ρ2) ∧ ∀ ρ, I xs.length ρ → DD.nx ρ
theorem ds_for {tg iter : Expr} {body : List Stmt} {wi : TI} {dw : TDI} {g : TG} {dg : TDGt} {sl : List Nat} (hp : PassesOwn (model X.prog X.w) X.A X.env X.xe) (hc : X.calm = true) (hi : PDI X F tg iter wi dw) (hg : PDG X F tg g dg sl) (hb : PDSs X F body ts ds) (hf : ∀ i ∈ sl, ¬ F.fix i)
    (hs : ∀ x, foldedSetIterable iter X.env x = pure x := by intro _; rfl) : PDS X F (.For tg iter body [] pos) (tFor wi g ts) (dFor dw dg ds) := by
  refine ⟨?_, fun pins ρ σ H D DD O S R h => ?_⟩
  · first | exact ps_for hp hc hi.pi hg.pg hb.pss | exact ps_for hp hc hi.pi hg.pg hb.pss hs
  refine hi.di.run pins ρ σ H _ O (hi.di.mono _ _ _ (fun xs ρ1 h1 J H1 pl W hpl O1 => ?_) h)
  obtain ⟨I, h0, hturn, hend⟩ := h1
  have hin : ∀ p ∈ pl, p ∈ pl ++ pins := fun p hp => List.mem_append_left _ hp
  have R2 := R.app hpl
  refine ⟨fun i m σ H => ∃ ρ, Ok F (pl ++ pins) ρ σ H ∧ I i ρ ∧ i ≤ xs.length ∧ m = xs.length - i, ⟨_, ρ1, O1, h0, Nat.zero_le _, rfl⟩, ?_⟩
  rintro i m σ2 H2 ⟨ρ2, O2, i2, hle, rfl⟩
  by_cases hlt : i < xs.length
  · refine .inr ⟨W.goes i _ ρ2 σ2 H2 hin hlt O2, fun σ' H' => ∃ ρ', Ok F (pl ++ pins) ρ' σ' H' ∧ I (i + 1) ρ', fun σ' H' ⟨ρ', O', i'⟩ => ⟨xs.length - (i + 1), by omega, ρ', O', i', by omega, rfl⟩, fun x H3 hy => ?_⟩
    obtain ⟨y, ey, O3, im⟩ := W.yld i _ ρ2 σ2 H2 x H3 hin hlt O2 hy
    refine hg.dg.run _ ρ2 σ2 H3 x (.d y) _ _ O3 (fun j hj => (S.app hpl).fr (hf j hj)) im (hturn i y ρ2 ey i2) fun ρ4 σ4 H4 O4 _ q => ?_
    exact hb.ds _ ρ4 σ4 H4 _ { DD with nx := I (i + 1), ct := I (i + 1), bk := DD.nx } O4 (S.app hpl) ⟨fun ρ5 σ5 H5 O5 q => ⟨ρ5, O5, q⟩, R2.rt, R2.nx, fun ρ5 σ5 H5 O5 q => ⟨ρ5, O5, q⟩, R2.rl⟩ q
  · have e : i = xs.length := by omega
    subst e
    exact .inl ⟨W.stops _ ρ2 σ2 H2 hin O2, R2.nx _ _ _ O2 (hend ρ2 i2)⟩
/-! ### comprehensions -/
def dLc (wi : TDI) (g : TDGt) (tt : TDT) (te : TDE) (vs : List Nat) : TDL := fun ρ Q => wi ρ fun xs ρ1 => (∀ i ∈ vs, ρ1[i]? = some none) ∧ ∃ I : Nat → List PyData → Rho → Prop, I 0 [] ρ1 ∧
  (∀ i x acc ρ, xs[i]? = some x → I i acc ρ → g (.d x) ρ fun ρ2 => tt ρ2 fun k ρ3 => if k = true then te ρ3 fun r ρ4 => onDat r fun y => Few (acc.length + 1) ∧ I (i + 1) (acc ++ [y]) (wipeR ρ4 vs) else I (i + 1) acc (wipeR ρ3 vs)) ∧
  ∀ acc ρ, I xs.length acc ρ → Q acc (wipeR ρ vs)
def dYes : TDT := fun ρ Q => Q true ρ
structure PDTs (X : Cx) (F : Fm) (ifs : List Expr) (tt : TT) (td : TDT) : Prop where
  pts : PTs X ifs tt
  dt : DT F tt td
theorem dts_nil : PDTs X F [] tYes dYes := ⟨pts_nil, fun pins ρ σ H Q O h => h H O, fun ρ Q Q' hq h => hq _ _ h⟩
theorem dts_one (h : PDT X F c tt dt) : PDTs X F [c] tt dt := ⟨pts_one h.pt, h.dt⟩
theorem dl_lc {wi : TI} {dw : TDI} {g : TG} {dg : TDGt} {vs : List Nat} (hi : DI F wi dw) (hg : DG F g dg vs) (ht : DT F tt dt) (he : DE F te de) : DL F (tLc wi g tt te vs) (dLc dw dg dt de vs) := by
  constructor
  · intro pins ρ σ H Q O h
    refine hi.run pins ρ σ H _ O (hi.mono _ _ _ (fun xs ρ1 h1 J H1 pl W hpl O1 D hD => ?_) h)
    obtain ⟨hno, I, h0, hturn, hend⟩ := h1
    have hfr : ∀ {p : List Pin}, (∀ q ∈ p, q ∈ pl ++ pins ∨ ∃ a ys, q = .acc a ys) → ∀ i ∈ vs, Fr p i := fun {p} hp i hi v j hm e => by
      subst e
      rcases hp _ hm with z | ⟨a, ys, z⟩
      · obtain ⟨_, x, hx⟩ := O1.pin _ z
        unfold slot at hx
        rw [hno j hi] at hx
        cases hx
      · cases z
    -- the state of a turn: the values pl, the new list, at the wiped slots
    have hin : ∀ acc, ∀ p ∈ pl, p ∈ (Pin.acc D acc :: (pl ++ pins)) := fun acc p hp => List.mem_cons_of_mem _ (List.mem_append_left _ hp)
    have hfr2 : ∀ acc, ∀ i ∈ vs, Fr (Pin.acc D acc :: (pl ++ pins)) i := fun acc => hfr fun q hq => by
      rcases List.mem_cons.mp hq with z | z
      · exact .inr ⟨_, _, z⟩
      · exact .inl z
    have start : Ok F (.acc D [] :: (pl ++ pins)) ρ1 σ (upd H1 D (.lst [])) := O1.pushL hD .nil
    have hw1 : wipeR ρ1 vs = ρ1 := by
      have : ∀ (us : List Nat), (∀ i ∈ us, ρ1[i]? = some none) → wipeR ρ1 us = ρ1 := fun us => by
        induction us with
        | nil => intro _; rfl
        | cons k ks ih =>
          intro hk
          show (wipeR ρ1 ks).set k none = ρ1
          rw [ih fun i hi => hk i (List.mem_cons_of_mem _ hi)]
          apply List.ext_getElem?
          intro n
          by_cases e : k = n
          · subst e
            have := hk k (List.mem_cons_self ..)
            have hl : k < ρ1.length := by
              rcases Nat.lt_or_ge k ρ1.length with z | z
              · exact z
              · rw [List.getElem?_eq_none z] at this; cases this
            rw [List.getElem?_set_self hl, this]
          · rw [List.getElem?_set_ne e]
      exact this vs hno
    have start2 : Ok F (.acc D [] :: (pl ++ pins)) ρ1 (wipe σ vs) (upd H1 D (.lst [])) := by
      have := start.wipe (hfr2 [])
      rw [hw1] at this
      exact this
    refine ⟨fun i m H => ∃ acc ρ, Ok F (.acc D acc :: (pl ++ pins)) ρ (wipe σ vs) H ∧ I i acc ρ ∧ i ≤ xs.length ∧ m = xs.length - i, ⟨_, [], ρ1, start2, h0, Nat.zero_le _, rfl⟩, ?_⟩
    rintro i m H2 ⟨acc, ρ2, O2, i2, hle, rfl⟩
    by_cases hlt : i < xs.length
    · refine .inr ⟨W.goes i _ ρ2 _ H2 (hin acc) hlt O2, fun H' => ∃ acc ρ, Ok F (.acc D acc :: (pl ++ pins)) ρ (wipe σ vs) H' ∧ I (i + 1) acc ρ, fun H' ⟨acc', ρ', O', i'⟩ => ⟨xs.length - (i + 1), by omega, acc', ρ', O', i', by omega, rfl⟩, fun x H3 hy => ?_⟩
      obtain ⟨y, ey, O3, im⟩ := W.yld i _ ρ2 _ H2 x H3 (hin acc) hlt O2 hy
      refine hg.run _ ρ2 _ H3 x (.d y) _ _ O3 (hfr2 acc) im (hturn i y acc ρ2 ey i2) fun ρ4 σ4 H4 O4 so q => ?_
      have hw4 : wipe σ4 vs = wipe σ vs := by
        have := so vs fun _ h => h
        rw [this]
        have idem : ∀ (us : List Nat) (τ : L2.St), (∀ i ∈ us, i ∈ vs) → wipe (wipe σ vs) us = wipe σ vs := fun us => by
          induction us with
          | nil => intro _ _; rfl
          | cons k ks ih =>
            intro τ hk
            show (wipe (wipe σ vs) ks).set k none = wipe σ vs
            rw [ih τ fun i hi => hk i (List.mem_cons_of_mem _ hi)]
            apply List.ext_getElem?
            intro n
            by_cases e : k = n
            · subst e
              have hk1 := hk k (List.mem_cons_self ..)
              by_cases hl : k < (wipe σ vs).length
              · rw [List.getElem?_set_self hl]
                have : ∀ (ws : List Nat), k ∈ ws → k < σ.length → (wipe σ ws)[k]? = some none := fun ws => by
                  induction ws with
                  | nil => intro h _; cases h
                  | cons w ws ih2 =>
                    intro h hl2
                    show ((wipe σ ws).set w none)[k]? = some none
                    by_cases e2 : w = k
                    · subst e2
                      rw [List.getElem?_set_self (by rw [wipe_length]; exact hl2)]
                    · rw [List.getElem?_set_ne e2]
                      rcases List.mem_cons.mp h with z | z
                      · exact absurd z.symm e2
                      · exact ih2 z hl2
                rw [this vs hk1 (by rw [wipe_length] at hl; exact hl)]
              · rw [List.getElem?_eq_none (by rw [List.length_set]; omega), List.getElem?_eq_none (by omega)]
            · rw [List.getElem?_set_ne e]
        exact idem vs σ fun _ h => h
      refine ⟨hw4, ?_⟩
      refine ht.run _ ρ4 σ4 H4 _ O4 (ht.mono _ _ _ (fun k ρ5 h5 H5 O5 => ?_) q)
      cases k with
      | false =>
        have := O5.wipe (hfr2 acc)
        rw [hw4] at this
        exact ⟨acc, _, this, h5⟩
      | true =>
        refine he.run _ ρ5 σ4 H5 _ O5 (he.mono _ _ _ (fun r ρ6 h6 w H6 O6 R6 => ?_) h5)
        cases r with
        | o j => exact h6.elim
        | raw u => exact h6.elim
        | d z =>
          obtain ⟨vsD, hHD, hiD, _, _⟩ := O6.pin _ (List.mem_cons_self ..)
          refine ⟨vsD, hHD, ?_, acc ++ [z], wipeR ρ6 vs, ?_, h6.2⟩
          · have := h6.1
            unfold Few at this
            rw [hiD.length]; omega
          · have O7 := (O6.setAcc (hiD.append (.cons R6 .nil))).wipe (hfr2 (acc ++ [z]))
            rw [hw4] at O7
            exact O7
    · have e : i = xs.length := by omega
      subst e
      refine .inl ⟨W.stops _ ρ2 _ H2 (hin acc) O2, ?_⟩
      have hq := hend acc ρ2 i2
      refine hq D H2 ?_
      have O3 := O2.wipe (hfr2 acc)
      have hww : wipe (wipe σ vs) vs = wipe (wipe σ vs) vs := rfl
      have O4 : Ok F (.acc D acc :: (pl ++ pins)) (wipeR ρ2 vs) σ H2 := by
        refine Ok.unwipe (vs := vs) (Ok.unwipe (vs := vs) O3 ?_) ?_
        all_goals
          intro i hi
          by_cases hl : i < ρ2.length
          · exact .inl (wipeR_none hi hl)
          · exact .inr (List.getElem?_eq_none (by rw [wipeR_len]; omega))
      refine O4.sub (fun p hp => ?_) (by show D :: accs pins = D :: accs (pl ++ pins); rw [accs_app hpl])
      rcases List.mem_cons.mp hp with z | z
      · exact z ▸ List.mem_cons_self ..
      · exact List.mem_cons_of_mem _ (List.mem_append_right _ z)
  · intro ρ Q Q' hq h
    refine hi.mono _ _ _ (fun xs ρ1 h1 => ?_) h
    obtain ⟨hno, I, h0, hturn, hend⟩ := h1
    exact ⟨hno, I, h0, hturn, fun acc ρ i => hq _ _ (hend acc ρ i)⟩
end
end DV
namespace DV
open PySem PySem.Spec PyProof.Rows L2
section
variable {X : Cx} {F : Fm} {a b c e : Expr} {es : List Expr} {ta tb tc te : TE} {da db dc de : TDE} {dl : TDL} {pos : Pos} {t : TA} {d : TDA} {tt tu : TT} {dt du : TDT}
/-! ## calls of defs -/
/-- what a def's parameter is handed: data that nobody changes (d), or a list that is read alone (ro) -/
inductive Kd
  | d | ro
def ArgOk (K : PySem.W.Frag) (N Z : Addr → Prop) (H : Hp) : Kd → PyData → V → Prop
  | .d, x, v => Im K N H x v
  | .ro, x, v => Im K N H x v ∨ ∃ a us xs, v = .ref a ∧ x = .list xs ∧ ((Rd H a (.lst us) ∧ ¬ Z a) ∨ SqL K (fun _ => none) a us) ∧ ImAll K N H xs us
def ArgsOk (K : PySem.W.Frag) (N Z : Addr → Prop) (H : Hp) : List Kd → List PyData → List V → Prop
  | k :: ks, x :: xs, vs => ∃ v us, vs = v :: us ∧ ArgOk K N Z H k x v ∧ ArgsOk K N Z H ks xs us
  | [], [], vs => vs = []
  | _, _, _ => False
def noZ : Addr → Prop := fun _ => False
abbrev Sd := List PyData → (PyData → Prop) → Prop
/-- the promise of a def that changes nothing -/
def spP (K : PySem.W.Frag) (ks : List Kd) (S : Sd) : Sp := fun vs H Q _ => ∃ (N : Addr → Prop) (xs : List PyData), (∀ a, N a → ∃ o, H a = some o) ∧ ArgsOk K N noZ H ks xs vs ∧
  S xs fun z => ∀ v H', (∀ a o, H a = some o → H' a = some o) → Im K N H' z v → Q v H'
abbrev Sb := List PyData → List PyData → (PyData → List PyData → Prop) → Prop
/-- of one that changes its first argument, a list, alone -/
def spB (K : PySem.W.Frag) (ks : List Kd) (S : Sb) : Sp := fun vs H Q _ => ∃ (N : Addr → Prop) (B : Addr) (bvs ws : List V) (bag xs : List PyData), vs = .ref B :: ws ∧ N B ∧ (∀ a, N a → ∃ o, H a = some o) ∧ H B = some (.lst bvs) ∧ ImAll K N H bag bvs ∧ ArgsOk K N (fun a => a = B) H ks xs ws ∧
  S bag xs fun z bag' => ∀ v H' bvs', (∀ a o, a ≠ B → H a = some o → H' a = some o) → H' B = some (.lst bvs') → ImAll K N H' bag' bvs' → Im K N H' z v → Q v H'
def dats2 (ρ : Rho) : List Kd → List R → Option (List PyData)
  | .d :: ks, .d x :: rs => (dats2 ρ ks rs).map (x :: ·)
  | .ro :: ks, r :: rs => match val ρ r, dats2 ρ ks rs with
    | some x, some xs => some (x :: xs)
    | _, _ => none
  | [], [] => some []
  | _, _ => none
theorem ro_arg {Z : Addr → Prop} {pins : List Pin} {ρ : Rho} {σ : L2.St} {H : Hp} (O : Ok F pins ρ σ H) {r : R} {v : V} {x : PyData} (h2 : ∀ a, Z a → F.L a ∨ F.H0 a = none) (h1 : ∀ j a, r = .o j → OwnAt ρ σ j a → ¬ Z a)
    (h : ROk F (Av F pins ρ σ) ρ σ H r v) (hv : val ρ r = some x) : ArgOk F.K (Av F pins ρ σ) Z H .ro x v := by
  have ro : ∀ {x : PyData} {v : V}, RoOk F (Av F pins ρ σ) H x v → ArgOk F.K (Av F pins ρ σ) Z H .ro x v := by
    rintro x v (h | ⟨a, us, xs, e, e2, l, t⟩)
    · exact .inl h
    · refine .inr ⟨a, us, xs, e, e2, ?_, t⟩
      rcases l with ⟨l, n⟩ | l
      · refine .inl ⟨?_, fun z => ?_⟩
        · rcases l with l | ⟨o, l⟩
          · exact .inl (O.fr _ _ n l)
          · exact .inr ⟨o, O.fr _ _ n l⟩
        · rcases h2 a z with z | z
          · exact n z
          · rcases l with l | ⟨o, l⟩
            · rw [z] at l; cases l
            · rw [z] at l; cases l
      · exact .inr l
  cases r with
  | d y => cases hv; exact .inl h
  | raw u => cases hv
  | o i =>
    have g1 := h.1
    have hv : slot ρ i = some x := hv
    unfold slot at hv
    split at hv
    · rename_i y e; cases hv
      obtain ⟨u, g2, g3⟩ := O.ent i _ e
      rw [g1] at g2; cases g2
      exact .inl g3
    · rename_i ys e; cases hv
      obtain ⟨p, vs, g2, g3, g4, g5⟩ := O.ownGet e
      rw [g1] at g2; cases g2
      exact .inr ⟨p, vs, ys, rfl, rfl, .inl ⟨.inl g3, h1 i p rfl g5⟩, g4⟩
    · rename_i y e; cases hv
      obtain ⟨u, g2, g3⟩ := O.ent i _ e
      rw [g1] at g2; cases g2
      exact ro g3
    · cases hv
theorem args_ok {Z : Addr → Prop} {pins : List Pin} {ρ : Rho} {σ : L2.St} {H : Hp} (O : Ok F pins ρ σ H) (h2 : ∀ a, Z a → F.L a ∨ F.H0 a = none) : ∀ {ks : List Kd} {rs : List R} {vs : List V} {xs : List PyData}, (∀ r ∈ rs, ∀ j a, r = .o j → OwnAt ρ σ j a → ¬ Z a) → ROks F (Av F pins ρ σ) ρ σ H rs vs → dats2 ρ ks rs = some xs → ArgsOk F.K (Av F pins ρ σ) Z H ks xs vs
  | [], [], vs, xs, _, h, e => by
    simp only [ROks] at h; simp only [dats2] at e; cases e
    simp only [ArgsOk]; exact h
  | .d :: ks, .d x :: rs, vs, xs, hz, h, e => by
    simp only [ROks] at h
    obtain ⟨v, us, rfl, h1, h3⟩ := h
    simp only [dats2] at e
    cases e1 : dats2 ρ ks rs with
    | none => rw [e1] at e; cases e
    | some ys =>
      rw [e1] at e; cases e
      simp only [ArgsOk]
      exact ⟨v, us, rfl, h1, args_ok O h2 (fun r hr => hz r (List.mem_cons_of_mem _ hr)) h3 e1⟩
  | .ro :: ks, r :: rs, vs, xs, hz, h, e => by
    simp only [ROks] at h
    obtain ⟨v, us, rfl, h1, h3⟩ := h
    simp only [dats2] at e
    cases e0 : val ρ r with
    | none => rw [e0] at e; cases e
    | some x =>
      cases e1 : dats2 ρ ks rs with
      | none => rw [e0, e1] at e; cases e
      | some ys =>
        rw [e0, e1] at e; cases e
        simp only [ArgsOk]
        exact ⟨v, us, rfl, ro_arg O h2 (hz r (List.mem_cons_self ..)) h1 e0, args_ok O h2 (fun r hr => hz r (List.mem_cons_of_mem _ hr)) h3 e1⟩
  | [], _ :: _, _, _, _, _, e => by simp only [dats2] at e; cases e
  | .d :: _, [], _, _, _, _, e => by simp only [dats2] at e; cases e
  | .ro :: _, [], _, _, _, _, e => by simp only [dats2] at e; cases e
  | .d :: _, .o _ :: _, _, _, _, _, e => by simp only [dats2] at e; cases e
  | .d :: _, .raw _ :: _, _, _, _, _, e => by simp only [dats2] at e; cases e
def onArgs (ρ : Rho) (ks : List Kd) (rs : List R) (f : List PyData → Prop) : Prop := match dats2 ρ ks rs with
  | some xs => f xs
  | _ => False
theorem onArgs_of {ρ : Rho} {ks : List Kd} {rs : List R} {f : List PyData → Prop} (h : onArgs ρ ks rs f) : ∃ xs, dats2 ρ ks rs = some xs ∧ f xs := by
  unfold onArgs at h
  split at h
  · exact ⟨_, by assumption, h⟩
  · exact h.elim
theorem onArgs_mono {ρ : Rho} {ks : List Kd} {rs : List R} {f g : List PyData → Prop} (h : onArgs ρ ks rs f) (k : ∀ xs, f xs → g xs) : onArgs ρ ks rs g := by
  unfold onArgs at h ⊢
  split at h
  · exact k _ h
  · exact h.elim
def MonoP (S : Sd) : Prop := ∀ xs Q Q', (∀ z, Q z → Q' z) → S xs Q → S xs Q'
def MonoB (S : Sb) : Prop := ∀ bag xs Q Q', (∀ z b, Q z b → Q' z b) → S bag xs Q → S bag xs Q'
def dCallP (ks : List Kd) (S : Sd) (t : TDA) : TDE := fun ρ Q => t ρ fun rs ρ1 => onArgs ρ1 ks rs fun xs => S xs fun z => Q (.d z) ρ1
theorem de_callP {ks : List Kd} {S : Sd} {E : XK} (hS : MonoP S) (h : DA F t d) : DE F (fun σ H Q => t σ H fun vs H1 => spP F.K ks S vs H1 Q E) (dCallP ks S d) := by
  constructor
  · intro pins ρ σ H Q O hq
    refine h.run pins ρ σ H _ O (h.mono _ _ _ (fun rs ρ1 h1 vs H1 O1 R1 => ?_) hq)
    obtain ⟨xs, e, h2⟩ := onArgs_of h1
    refine ⟨Av F pins ρ1 σ, xs, fun a ha => O1.avH ha, args_ok O1 (fun a z => z.elim) (fun _ _ _ _ _ _ z => z) R1 e, hS _ _ _ (fun z q v H' g im => ?_) h2⟩
    exact q v H' (O1.heap g) im
  · intro ρ Q Q' hq hh
    exact h.mono _ _ _ (fun rs ρ1 h1 => onArgs_mono h1 fun xs h2 => hS _ _ _ (fun z => hq _ _) h2) hh
theorem pd_callP {ks : List Kd} {S : Sd} {k : Nat} {f : Addr} {fd : FuncData} {ps : List Str} {x : Str} {p : Pos} (G : FnG X.prog X.w X.K X.mg X.base CX0 k f fd ps (spP F.K ks S)) (hS : MonoP S) (hr : Room k X.A) (hgd : X.A.guards = some []) (hg : Gl X x) (hm : X.mg x = some (.ref f)) (hk : PySem.W.keepIn X.K (.ref f) = true) (hb : Binds X.K fd ps [])
    (ha : PDA X F (e :: es) t d) (hdb : (x == ("__debug__" : Str)) = false := by decide) (he : starEach (e :: es) X.env = (false, eval e X.env) :: starEach es X.env := by rfl) (hpl : (backTo pos (starEach es X.env)).any (·.1) = false := by rfl) :
    PD X F (.Call (.Name x p) (e :: es) [] pos) (fun σ H Q => t σ H fun vs H1 => spP F.K ks S vs H1 Q E0) (dCallP ks S d) :=
  ⟨pe_callG G hr hgd hg hm hk hb ha.pa hdb he hpl, de_callP hS ha.da⟩
def noSelf (i : Nat) : List R → Prop
  | [] => True
  | .o j :: rs => j ≠ i ∧ noSelf i rs
  | _ :: rs => noSelf i rs
theorem noSelf_mem {i : Nat} : ∀ {rs : List R}, noSelf i rs → ∀ r ∈ rs, ∀ j, r = .o j → j ≠ i
  | .o k :: rs, h, r, hr, j, e => by
    rcases List.mem_cons.mp hr with z | z
    · rw [z] at e; cases e; exact h.1
    · exact noSelf_mem h.2 r z j e
  | .d _ :: rs, h, r, hr, j, e => by
    rcases List.mem_cons.mp hr with z | z
    · rw [z] at e; cases e
    · exact noSelf_mem (show noSelf i rs from h) r z j e
  | .raw _ :: rs, h, r, hr, j, e => by
    rcases List.mem_cons.mp hr with z | z
    · rw [z] at e; cases e
    · exact noSelf_mem (show noSelf i rs from h) r z j e
/-- f(bag, ..): the first argument the own list at slot i -/
def dCallB (ks : List Kd) (S : Sb) (t : TDA) : TDE := fun ρ Q => t ρ fun rs ρ1 => match rs with
  | .o i :: rs => noSelf i rs ∧ onOwn ρ1 i fun bag => onArgs ρ1 ks rs fun xs => S bag xs fun z bag' => Q (.d z) (ρ1.set i (some (.own bag')))
  | _ => False
theorem Ok.lent {pins : List Pin} {ρ : Rho} {σ : L2.St} {H H' : Hp} (O : Ok F pins ρ σ H) {i : Nat} {B : Addr} {vs : List V} {ys : List PyData} (h : OwnAt ρ σ i B) (g : ∀ a o, a ≠ B → H a = some o → H' a = some o) (hB : H' B = some (.lst vs)) (hv : ImAll F.K (Av F pins ρ σ) H' ys vs) :
    Ok F pins (ρ.set i (some (.own ys))) σ H' ∧ Av F pins (ρ.set i (some (.own ys))) σ = Av F pins ρ σ := by
  have ae : Av F pins (ρ.set i (some (.own ys))) σ = Av F pins ρ σ := by
    funext b
    unfold Av
    simp only [setOwn_iff (xs := ys) h]
  have aB : Av F pins ρ σ B := .inr (.inl ⟨i, h⟩)
  have G : Go (Av F pins ρ σ) (Av F pins ρ σ) H H' := ⟨fun a o n e => g a o (fun z => n (by rw [z]; exact aB)) e, fun a z => .inl z⟩
  -- first a heap with an empty list at B, then the heap H'
  have O1 := O.setOwn (xs := []) (vs := []) h .nil
  have ae1 : Av F pins (ρ.set i (some (.own []))) σ = Av F pins ρ σ := by
    funext b
    unfold Av
    simp only [setOwn_iff (xs := []) h]
  have hi : i < ρ.length := by
    obtain ⟨⟨zs, h1⟩, _⟩ := h
    rcases Nat.lt_or_ge i ρ.length with z | z
    · exact z
    · rw [List.getElem?_eq_none z] at h1; cases h1
  refine ⟨?_, ae⟩
  refine ⟨by rw [List.length_set]; exact O.len, fun j f hj => ?_, fun j k b z1 z2 => O.own j k b ((setOwn_iff h j b).mp z1) ((setOwn_iff h k b).mp z2), fun p hp => ?_, O.acs, fun b o n e => ?_, fun b z => ?_, O.ln, O.h0, fun j b z => O.lf j b ((setOwn_iff h j b).mp z)⟩
  · rw [ae]
    rcases getset hj with ⟨rfl, q, hl⟩ | ⟨ne, q⟩
    · cases q
      obtain ⟨_, _, hl⟩ := O.ownL h
      exact ⟨.ref B, h.2, B, vs, rfl, hB, hv, hl⟩
    · obtain ⟨v, h3, h4⟩ := O.ent j f q
      refine ⟨v, h3, EntOk.go G h4 fun b us ev hb ⟨zs, ex⟩ => ?_⟩
      subst ev ex
      exact g b _ (fun z => ne (O.own j i B (by subst z; exact ⟨⟨zs, q⟩, h3⟩) h)) hb
  · rw [ae]
    have hq := O.pin p hp
    cases p with
    | val v r =>
      cases r with
      | d x => exact Im.go G hq
      | o j =>
        refine ⟨hq.1, ?_⟩
        by_cases e2 : j = i
        · subst e2
          exact ⟨.list ys, by unfold slot; rw [List.getElem?_set_self hi]⟩
        · obtain ⟨x, hx2⟩ := hq.2
          exact ⟨x, by rw [slot_ne e2]; exact hx2⟩
      | raw u => exact hq
    | acc b zs =>
      obtain ⟨us, h3, h4, h5, h6⟩ := hq
      exact ⟨us, g b _ (fun z => h6 (by subst z; exact ⟨i, h⟩)) h3, h4.go G, h5, fun ⟨j, z⟩ => h6 ⟨j, (setOwn_iff h j b).mp z⟩⟩
  · obtain ⟨_, _, hl⟩ := O.ownL h
    refine g b o (fun z => ?_) (O.fr b o n e)
    subst z
    rcases hl with hl | hl
    · exact n hl
    · rw [hl] at e; cases e
  · by_cases e : b = B
    · subst e; exact ⟨_, hB⟩
    · obtain ⟨o, z⟩ := O.nh b z
      exact ⟨o, g b o e z⟩
theorem de_callB {ks : List Kd} {S : Sb} {E : XK} (hS : MonoB S) (h : DA F t d) : DE F (fun σ H Q => t σ H fun vs H1 => spB F.K ks S vs H1 Q E) (dCallB ks S d) := by
  constructor
  · intro pins ρ σ H Q O hq
    refine h.run pins ρ σ H _ O (h.mono _ _ _ (fun rs ρ1 h1 vs H1 O1 R1 => ?_) hq)
    cases rs with
    | nil => exact h1.elim
    | cons r rs =>
      cases r with
      | d x => exact h1.elim
      | raw u => exact h1.elim
      | o i =>
        obtain ⟨hns, h1⟩ := h1
        obtain ⟨bag, e0, h2⟩ := onOwn_of h1
        obtain ⟨xs, e, h3⟩ := onArgs_of h2
        simp only [ROks] at R1
        obtain ⟨v, us, rfl, R0, R1⟩ := R1
        obtain ⟨B, bvs, g1, g2, g3, g4⟩ := O1.ownGet e0
        have := R0.1
        rw [g1] at this; cases this
        refine ⟨Av F pins ρ1 σ, B, bvs, us, bag, xs, rfl, .inr (.inl ⟨i, g4⟩), fun a ha => O1.avH ha, g2, g3, args_ok O1 (fun a z => by obtain ⟨_, _, hl⟩ := O1.ownL g4; rw [z]; exact hl) (fun r hr j a e z ea => noSelf_mem hns r hr j e (O1.own j i B (by rw [← ea]; exact z) g4)) R1 e, hS _ _ _ _ (fun z bag' q v H' bvs' g hB hv im => ?_) h3⟩
        obtain ⟨O2, ae⟩ := O1.lent g4 g hB hv
        exact q v H' O2 (by show Im F.K (Av F pins (ρ1.set i (some (.own bag'))) σ) H' z v; rw [ae]; exact im)
  · intro ρ Q Q' hq hh
    refine h.mono _ _ _ (fun rs ρ1 h1 => ?_) hh
    cases rs with
    | nil => exact h1.elim
    | cons r rs =>
      cases r with
      | d x => exact h1.elim
      | raw u => exact h1.elim
      | o i => exact ⟨h1.1, onOwn_mono h1.2 fun bag h2 => onArgs_mono h2 fun xs h3 => hS _ _ _ _ (fun z b => hq _ _) h3⟩
theorem pd_callBag {ks : List Kd} {S : Sb} {k : Nat} {f : Addr} {fd : FuncData} {ps : List Str} {x : Str} {p : Pos} (G : FnG X.prog X.w X.K X.mg X.base CX0 k f fd ps (spB F.K ks S)) (hS : MonoB S) (hr : Room k X.A) (hgd : X.A.guards = some []) (hg : Gl X x) (hm : X.mg x = some (.ref f)) (hk : PySem.W.keepIn X.K (.ref f) = true) (hb : Binds X.K fd ps [])
    (ha : PDA X F (e :: es) t d) (hdb : (x == ("__debug__" : Str)) = false := by decide) (he : starEach (e :: es) X.env = (false, eval e X.env) :: starEach es X.env := by rfl) (hpl : (backTo pos (starEach es X.env)).any (·.1) = false := by rfl) :
    PD X F (.Call (.Name x p) (e :: es) [] pos) (fun σ H Q => t σ H fun vs H1 => spB F.K ks S vs H1 Q E0) (dCallB ks S d) :=
  ⟨pe_callG G hr hgd hg hm hk hb ha.pa hdb he hpl, de_callB hS ha.da⟩
end
/-! ## a def's body -/
def entOf : Kd → PyData → Ent
  | .d, x => .d x
  | .ro, x => .ro x
def rhoP (n : Nat) (ks : List Kd) (xs : List PyData) : Rho := (ks.zip xs).map (fun p => some (entOf p.1 p.2)) ++ List.replicate (n - xs.length) none
def frP (K : PySem.W.Frag) (H : Hp) (N : Addr → Prop) : Fm := ⟨K, H, N, fun _ => False, fun _ => False⟩
def frB (K : PySem.W.Frag) (H : Hp) (N : Addr → Prop) (B : Addr) : Fm := ⟨K, H, N, fun a => a = B, fun i => i = 0⟩
theorem ArgsOk.len {K : PySem.W.Frag} {N Z : Addr → Prop} {H : Hp} : ∀ {ks : List Kd} {xs : List PyData} {vs : List V}, ArgsOk K N Z H ks xs vs → vs.length = ks.length ∧ xs.length = ks.length
  | [], [], _, h => by simp only [ArgsOk] at h; subst h; exact ⟨rfl, rfl⟩
  | k :: ks, x :: xs, _, h => by
    simp only [ArgsOk] at h
    obtain ⟨v, us, rfl, _, h2⟩ := h
    obtain ⟨e1, e2⟩ := ArgsOk.len h2
    exact ⟨by simp [e1], by simp [e2]⟩
  | [], _ :: _, _, h => by simp only [ArgsOk] at h
  | _ :: _, [], _, h => by simp only [ArgsOk] at h
theorem ArgsOk.at {K : PySem.W.Frag} {N Z : Addr → Prop} {H : Hp} : ∀ {ks : List Kd} {xs : List PyData} {vs : List V} {i : Nat} {e : Ent}, ArgsOk K N Z H ks xs vs → ((ks.zip xs).map (fun p => some (entOf p.1 p.2)))[i]? = some (some e) → ∃ k x v, e = entOf k x ∧ vs[i]? = some v ∧ ArgOk K N Z H k x v
  | [], [], _, _, _, _, h => by simp at h
  | k :: ks, x :: xs, _, 0, e, h, he => by
    simp only [ArgsOk] at h
    obtain ⟨v, us, rfl, h1, _⟩ := h
    simp at he
    exact ⟨k, x, v, he.symm, rfl, h1⟩
  | k :: ks, x :: xs, _, i + 1, e, h, he => by
    simp only [ArgsOk] at h
    obtain ⟨v, us, rfl, _, h2⟩ := h
    obtain ⟨k', x', v', g1, g2, g3⟩ := ArgsOk.at (i := i) h2 (by simpa using he)
    exact ⟨k', x', v', g1, by simpa using g2, g3⟩
  | [], _ :: _, _, _, _, h, _ => by simp only [ArgsOk] at h
  | _ :: _, [], _, _, _, h, _ => by simp only [ArgsOk] at h
end DV
namespace DV
open PySem PySem.Spec PyProof.Rows L2
theorem rhoP_len {n : Nat} {ks : List Kd} {xs : List PyData} (h : xs.length = ks.length) (hn : ks.length ≤ n) : (rhoP n ks xs).length = n := by
  unfold rhoP
  rw [List.length_append, List.length_map, List.length_zip, List.length_replicate]
  omega
theorem rhoP_some {n : Nat} {ks : List Kd} {xs : List PyData} {i : Nat} {e : Ent} (h : (rhoP n ks xs)[i]? = some (some e)) : ((ks.zip xs).map (fun p => some (entOf p.1 p.2)))[i]? = some (some e) := by
  unfold rhoP at h
  by_cases hi : i < ((ks.zip xs).map (fun p => some (entOf p.1 p.2))).length
  · rw [List.getElem?_append_left hi] at h; exact h
  · rw [List.getElem?_append_right (by omega), List.getElem?_replicate] at h
    split at h <;> cases h
theorem arg_ent {K : PySem.W.Frag} {N A Z : Addr → Prop} {H : Hp} {F : Fm} (hF : F.K = K) (hH : F.H0 = H) (hL : ∀ a, F.L a → Z a) (hA : ∀ a, A a → N a) {k : Kd} {x : PyData} {v : V} (h : ArgOk K N Z H k x v) : EntOk F A H (entOf k x) v := by
  subst hF hH
  have G : Go N A F.H0 F.H0 := ⟨fun a o _ e => e, fun a z => .inl (hA a z)⟩
  cases k with
  | d => exact Im.go G h
  | ro =>
    rcases h with h | ⟨a, us, xs, e, e2, l, t⟩
    · exact .inl (Im.go G h)
    · refine .inr ⟨a, us, xs, e, e2, ?_, t.go G⟩
      rcases l with ⟨l, n⟩ | l
      · exact .inl ⟨l, fun z => n (hL a z)⟩
      · exact .inr l
def retP (r : R) (ρ : Rho) (Q : PyData → Prop) : Prop := match r with
  | .d z => Q z
  | .o i => onOwn ρ i fun xs => Q (.list xs)
  | .raw _ => False
def retB (r : R) (ρ : Rho) (Q : PyData → List PyData → Prop) : Prop := onOwn ρ 0 fun bag => match r with
  | .d z => Q z bag
  | .o (i + 1) => onOwn ρ (i + 1) fun xs => Q (.list xs) bag
  | _ => False
theorem fixP {K : PySem.W.Frag} {H : Hp} {N : Addr → Prop} {i : Nat} : ¬ (frP K H N).fix i := fun z => z
theorem fixB {K : PySem.W.Frag} {H : Hp} {N : Addr → Prop} {B : Addr} {i : Nat} (h : i ≠ 0) : ¬ (frB K H N B).fix i := h
theorem nofixP {K : PySem.W.Frag} {H : Hp} {N : Addr → Prop} {l : List Nat} : ∀ i ∈ l, ¬ (frP K H N).fix i := fun _ _ z => z
theorem nofixB {K : PySem.W.Frag} {H : Hp} {N : Addr → Prop} {B : Addr} {l : List Nat} (h : ∀ i ∈ l, i ≠ 0) : ∀ i ∈ l, ¬ (frB K H N B).fix i := h
section
variable {P : Program} {w : World} {K : PySem.W.Frag} {mg : Str → Option Value} {base : Heap}
theorem fnP {x qual : Str} {st : Stmt} {f : Addr} {fd : FuncData} {N ps : List Str} {k : Nat} {ks : List Kd} {S : Sd} (W : Fun K x qual st f fd) (Sc : FnScope N ps (defScope st)) (hks : ks.length = ps.length)
    (body : ∀ (cdv : Value) (A : Around) (out : List Env) (s : Shared) (H : Hp) (E : XK) (Nn : Addr → Prop), Room k (A.deeper (envOfC qual (defScope st) s.heap.objs.size f cdv)) → A.guards = some [] →
      ∃ ts tds, PDSs (cxOf CX0 P w K mg base N qual (defScope st) f cdv A out s H E).nox (frP K H Nn) (defBody st) ts tds ∧
        ∀ xs Q, xs.length = ks.length → S xs Q → tds { nx := fun _ => Q .none, rt := fun r ρ => retP r ρ Q } (rhoP N.length ks xs)) : FnG P w K mg base CX0 (k + 1) f fd ps (spP K ks S) := by
  have hpl : ps.length ≤ N.length := by have := congrArg List.length Sc.pre; rw [List.length_take] at this; omega
  refine fg_of W Sc (fun vs H Q E h => ?_) fun cdv A out s H vs Q E hr hgd h => ?_
  · obtain ⟨Nn, xs, _, ha, _⟩ := h
    rw [ha.len.1, hks]
  obtain ⟨Nn, xs, hN, ha, hS⟩ := h
  obtain ⟨ts, tds, hb, hq⟩ := body cdv A out s H E Nn hr hgd
  refine ⟨ts, hb.pss, ?_⟩
  have hl := ha.len
  have noOwn : ∀ i a, ¬ OwnAt (rhoP N.length ks xs) (L2.start N vs) i a := by
    rintro i a ⟨⟨ys, h1⟩, _⟩
    obtain ⟨k, x, v, e, _⟩ := ha.at (rhoP_some h1)
    cases k <;> cases e
  have O : Ok (frP K H Nn) [] (rhoP N.length ks xs) (L2.start N vs) H := by
    refine ⟨?_, fun i e h1 => ?_, fun i j a h1 _ => absurd h1 (noOwn i a), fun p hp => (nomatch hp), .nil, fun a o _ e => e, hN, fun a h => h.elim, hN, fun i a _ h => h.elim⟩
    · rw [rhoP_len hl.2 (by rw [hks]; exact hpl)]
      unfold L2.start
      rw [List.length_append, List.length_map, List.length_replicate]
      omega
    · obtain ⟨k, x, v, rfl, h2, h3⟩ := ha.at (rhoP_some h1)
      refine ⟨v, ?_, arg_ent (N := Nn) rfl rfl (fun a z => z) (fun a z => ?_) h3⟩
      · have hi : i < vs.length := by
          rcases Nat.lt_or_ge i vs.length with z | z
          · exact z
          · rw [List.getElem?_eq_none z] at h2; cases h2
        unfold L2.start
        rw [List.getElem?_append_left (by simpa using hi), List.getElem?_map, h2]; rfl
      · rcases z with z | ⟨j, z⟩ | z
        · exact z
        · exact absurd z (noOwn j a)
        · cases z
  refine hb.ds [] _ _ H _ _ O (fun v j hp => nomatch hp) ⟨fun ρ σ H' O' q => ?_, fun ρ σ H' v r O' R' q => ?_, fun _ _ _ _ q => False.elim q, fun _ _ _ _ q => False.elim q, fun _ _ _ _ _ _ q => False.elim q⟩ (hq xs _ hl.2 hS)
  · exact q .non H' (fun a o e => O'.fr a o (fun z => z) e) .none
  · have G : Go (Av (frP K H Nn) [] ρ σ) Nn H' H' := ⟨fun _ _ _ e => e, fun a z => .inl (.inl z)⟩
    have fr : ∀ a o, H a = some o → H' a = some o := fun a o e => O'.fr a o (fun z => z) e
    cases r with
    | d z => exact q v H' fr (Im.go G R')
    | raw u => exact q.elim
    | o i =>
      obtain ⟨ys, e, q⟩ := onOwn_of q
      obtain ⟨p, us, h1, h2, h3, h4⟩ := O'.ownGet e
      have := R'.1
      rw [h1] at this; cases this
      refine q _ H' fr ?_
      simp only [Im]
      refine ⟨p, us, rfl, ⟨h2, fun z => ?_⟩, h3.go G⟩
      obtain ⟨_, _, hl⟩ := O'.ownL h4
      rcases hl with hl | hl
      · exact hl
      · obtain ⟨o, e⟩ := hN p z
        have hl : H p = none := hl
        rw [hl] at e; cases e
theorem fnB {x qual : Str} {st : Stmt} {f : Addr} {fd : FuncData} {N ps : List Str} {k : Nat} {ks : List Kd} {S : Sb} (W : Fun K x qual st f fd) (Sc : FnScope N ps (defScope st)) (hks : ks.length + 1 = ps.length)
    (body : ∀ (cdv : Value) (A : Around) (out : List Env) (s : Shared) (H : Hp) (E : XK) (Nn : Addr → Prop) (B : Addr), Room k (A.deeper (envOfC qual (defScope st) s.heap.objs.size f cdv)) → A.guards = some [] →
      ∃ ts tds, PDSs (cxOf CX0 P w K mg base N qual (defScope st) f cdv A out s H E).nox (frB K H Nn B) (defBody st) ts tds ∧
        ∀ bag xs Q, xs.length = ks.length → S bag xs Q → tds { nx := fun ρ => retB (.d .none) ρ Q, rt := fun r ρ => retB r ρ Q } (some (.own bag) :: rhoP (N.length - 1) ks xs)) : FnG P w K mg base CX0 (k + 1) f fd ps (spB K ks S) := by
  have hpl : ps.length ≤ N.length := by have := congrArg List.length Sc.pre; rw [List.length_take] at this; omega
  refine fg_of W Sc (fun vs H Q E h => ?_) fun cdv A out s H vs Q E hr hgd h => ?_
  · obtain ⟨Nn, B, bvs, ws, bag, xs, rfl, _, _, _, _, ha, _⟩ := h
    rw [List.length_cons, ha.len.1, hks]
  obtain ⟨Nn, B, bvs, ws, bag, xs, rfl, hNB, hN, hB, hbag, ha, hS⟩ := h
  obtain ⟨ts, tds, hb, hq⟩ := body cdv A out s H E Nn B hr hgd
  refine ⟨ts, hb.pss, ?_⟩
  have hl := ha.len
  have own0 : ∀ i a, OwnAt (some (.own bag) :: rhoP (N.length - 1) ks xs) (L2.start N (.ref B :: ws)) i a → i = 0 ∧ a = B := by
    rintro i a ⟨⟨ys, h1⟩, h2⟩
    cases i with
    | zero =>
      have h2 : some (some (V.ref B)) = some (some (V.ref a)) := h2
      cases h2; exact ⟨rfl, rfl⟩
    | succ i =>
      obtain ⟨k, x, v, e, _⟩ := ha.at (rhoP_some (show (rhoP (N.length - 1) ks xs)[i]? = some (some (.own ys)) by simpa using h1))
      cases k <;> cases e
  have at0 : OwnAt (some (.own bag) :: rhoP (N.length - 1) ks xs) (L2.start N (.ref B :: ws)) 0 B := ⟨⟨bag, rfl⟩, rfl⟩
  have avN : ∀ a, Av (frB K H Nn B) [.val (.ref B) (.o 0)] (some (.own bag) :: rhoP (N.length - 1) ks xs) (L2.start N (.ref B :: ws)) a → Nn a := by
    rintro a (z | ⟨j, z⟩ | z)
    · exact z
    · rw [(own0 j a z).2]; exact hNB
    · cases z
  have G0 : Go Nn (Av (frB K H Nn B) [.val (.ref B) (.o 0)] (some (.own bag) :: rhoP (N.length - 1) ks xs) (L2.start N (.ref B :: ws))) H H := ⟨fun _ _ _ e => e, fun a z => .inl (avN a z)⟩
  have O : Ok (frB K H Nn B) [.val (.ref B) (.o 0)] (some (.own bag) :: rhoP (N.length - 1) ks xs) (L2.start N (.ref B :: ws)) H := by
    refine ⟨?_, fun i e h1 => ?_, fun i j a h1 h2 => (own0 i a h1).1.trans (own0 j a h2).1.symm, fun p hp => ?_, .nil, fun a o _ e => e, hN, fun a h => ?_, hN, fun i a h _ => (own0 i a h).1⟩
    · rw [List.length_cons, rhoP_len hl.2 (by omega)]
      unfold L2.start
      rw [List.length_append, List.length_map, List.length_replicate, List.length_cons]
      omega
    · cases i with
      | zero =>
        have h1 : some (some (Ent.own bag)) = some (some e) := h1
        cases h1
        exact ⟨.ref B, rfl, B, bvs, rfl, hB, hbag.go G0, .inl rfl⟩
      | succ i =>
        obtain ⟨k, x, v, rfl, h2, h3⟩ := ha.at (rhoP_some (show (rhoP (N.length - 1) ks xs)[i]? = some (some e) by simpa using h1))
        refine ⟨v, ?_, ?_⟩
        · have hi : i < ws.length := by
            rcases Nat.lt_or_ge i ws.length with z | z
            · exact z
            · rw [List.getElem?_eq_none z] at h2; cases h2
          unfold L2.start
          rw [List.getElem?_append_left (by simpa using hi), List.getElem?_map]
          show (ws[i]?).map some = some (some v)
          rw [h2]; rfl
        · exact arg_ent (N := Nn) rfl rfl (fun a z => z) avN h3
    · rcases List.mem_cons.mp hp with rfl | hp
      · exact ⟨rfl, .list bag, rfl⟩
      · cases hp
    · rw [h]; exact hNB
  refine hb.ds [.val (.ref B) (.o 0)] _ _ H _ _ O (fun v j hp => ?_) ⟨fun ρ σ H' O' q => ?_, fun ρ σ H' v r O' R' q => ?_, fun _ _ _ _ q => False.elim q, fun _ _ _ _ q => False.elim q, fun _ _ _ _ _ _ q => False.elim q⟩ (hq bag xs _ hl.2 hS)
  · rcases List.mem_cons.mp hp with z | z
    · cases z; rfl
    · cases z
  all_goals
    have G : Go (Av (frB K H Nn B) [.val (.ref B) (.o 0)] ρ σ) Nn H' H' := ⟨fun _ _ _ e => e, fun a z => .inl (.inl z)⟩
    have fr : ∀ a o, a ≠ B → H a = some o → H' a = some o := fun a o n e => O'.fr a o n e
    obtain ⟨bag', e0, q⟩ := onOwn_of q
    obtain ⟨p, us, h1, h2, h3, h4⟩ := O'.ownGet e0
    have hp0 := (O'.pin _ (List.mem_cons_self ..)).1
    rw [h1] at hp0; cases hp0
  · exact q .non H' us fr h2 (h3.go G) .none
  · cases r with
    | d z => exact q v H' us fr h2 (h3.go G) (Im.go G R')
    | raw u => exact q.elim
    | o i =>
      cases i with
      | zero => exact q.elim
      | succ i =>
        obtain ⟨ys, e, q⟩ := onOwn_of q
        obtain ⟨p, vs, g1, g2, g3, g4⟩ := O'.ownGet e
        have := R'.1
        rw [g1] at this; cases this
        refine q _ H' us fr h2 (h3.go G) ?_
        simp only [Im]
        refine ⟨p, vs, rfl, ⟨g2, fun z => ?_⟩, g3.go G⟩
        obtain ⟨_, _, hl⟩ := O'.ownL g4
        rcases hl with hl | hl
        · have hl : p = B := hl
          subst hl
          have := O'.own _ _ _ g4 h4
          cases this
        · obtain ⟨o, e⟩ := hN p z
          have hl : H p = none := hl
          rw [hl] at e; cases e
end
end DV
namespace DV
open PySem PySem.Spec PyProof.Rows L2
section
variable {X : Cx} {F : Fm} {a b c e : Expr} {es : List Expr} {ta tb tc te : TE} {da db dc de : TDE} {dl dl2 : TDL} {pos : Pos} {t : TA} {d : TDA} {tt tu : TT} {dt du : TDT}
/-! ### lists and tuples that are read -/
theorem get_list : PGet X (rIxL X.K) := by
  intro pins s σ H o i ov iv Q I ro ri h
  obtain ⟨p, xs, k, z, rfl, rfl, hq, he, q⟩ := h
  cases ro
  obtain ⟨tk, rfl⟩ := ri
  obtain ⟨its, r, pl, hz⟩ := I.list hq
  obtain ⟨j, h1, h2, h3, h4, h5⟩ := atI_get he
  obtain ⟨w, ew, rw'⟩ := r.get h2
  have hl := r.length
  have hn := line63
  have fin : EP X pins σ Q w s := ⟨z, H, I, rw', q⟩
  by_cases h0 : 0 ≤ k
  · have hj : k.toNat = j := by
      rw [seqIndex_of h0 h5] at h1
      exact Option.some.inj h1
    exact wpAny_getItem_list pl.isList h0 (by omega) (by rw [hj]; simpa using ew) fin
  · have hj : (k + (its.toArray.size : Int)).toNat = j := by
      rw [seqIndex_neg (by omega) h4] at h1
      rw [List.size_toArray, ← hl]
      exact Option.some.inj h1
    exact wpAny_getItem_list_neg pl.isList (by omega) (by rw [List.size_toArray] <;> omega) (by omega) (by rw [hj]; simpa using ew) fin
/-- the items of a list or tuple -/
def items (ρ : Rho) : R → Option (List PyData)
  | .d (.list xs) => some xs
  | .d (.tuple xs) => some xs
  | .o i => match ρ[i]? with
    | some (some (.own xs)) => some xs
    | some (some (.ro (.list xs))) => some xs
    | some (some (.ro (.tuple xs))) => some xs
    | some (some (.d (.list xs))) => some xs
    | some (some (.d (.tuple xs))) => some xs
    | _ => none
  | _ => none
section
variable {pins : List Pin} {ρ : Rho} {σ : L2.St} {H : Hp}
theorem im_items {A : Addr → Prop} {x : PyData} {v : V} {xs : List PyData} (h : Im F.K A H x v) (e : x = .list xs ∨ x = .tuple xs) : ∃ a vs, v = .ref a ∧ (SqL F.K H a vs ∨ SqT F.K H a vs) ∧ ImAll F.K A H xs vs := by
  rcases e with rfl | rfl
  · simp only [Im] at h
    obtain ⟨a, vs, e, l, t⟩ := h
    exact ⟨a, vs, e, .inl l.sq, t⟩
  · simp only [Im] at h
    obtain ⟨a, vs, e, l, t⟩ := h
    exact ⟨a, vs, e, .inr l.sq, t⟩
theorem items_ok (O : Ok F pins ρ σ H) {r : R} {v : V} {xs : List PyData} (h : ROk F (Av F pins ρ σ) ρ σ H r v) (e : items ρ r = some xs) : ∃ a vs, v = .ref a ∧ (SqL F.K H a vs ∨ SqT F.K H a vs) ∧ ImAll F.K (Av F pins ρ σ) H xs vs := by
  cases r with
  | raw u => cases e
  | d x =>
    cases x <;> first | cases e | skip
    · exact im_items h (.inl rfl)
    · exact im_items h (.inr rfl)
  | o i =>
    have h1 := h.1
    have e : (match ρ[i]? with
      | some (some (.own xs)) => some xs
      | some (some (.ro (.list xs))) => some xs
      | some (some (.ro (.tuple xs))) => some xs
      | some (some (.d (.list xs))) => some xs
      | some (some (.d (.tuple xs))) => some xs
      | _ => none) = some xs := e
    split at e
    · rename_i ys q; cases e
      obtain ⟨p, vs, g1, g2, g3, _⟩ := O.ownGet q
      rw [h1] at g1; cases g1
      exact ⟨p, vs, rfl, .inl (.of g2), g3⟩
    · rename_i ys q; cases e
      obtain ⟨u, g1, g2⟩ := O.ent i _ q
      rw [h1] at g1; cases g1
      rcases g2 with g2 | ⟨p, us, zs, rfl, g4, g5, g6⟩
      · exact im_items g2 (.inl rfl)
      · cases g4; exact ⟨p, us, rfl, .inl (g5.sq O), g6⟩
    · rename_i ys q; cases e
      obtain ⟨u, g1, g2⟩ := O.ent i _ q
      rw [h1] at g1; cases g1
      rcases g2 with g2 | ⟨p, us, zs, rfl, g4, g5, g6⟩
      · exact im_items g2 (.inr rfl)
      · cases g4
    · rename_i ys q; cases e
      obtain ⟨u, g1, g2⟩ := O.ent i _ q
      rw [h1] at g1; cases g1
      exact im_items g2 (.inl rfl)
    · rename_i ys q; cases e
      obtain ⟨u, g1, g2⟩ := O.ent i _ q
      rw [h1] at g1; cases g1
      exact im_items g2 (.inr rfl)
    · cases e
end
def onItems (ρ : Rho) (r : R) (f : List PyData → Prop) : Prop := match items ρ r with
  | some xs => f xs
  | _ => False
theorem onItems_of {ρ : Rho} {r : R} {f : List PyData → Prop} (h : onItems ρ r f) : ∃ xs, items ρ r = some xs ∧ f xs := by
  unfold onItems at h
  split at h
  · exact ⟨_, by assumption, h⟩
  · exact h.elim
theorem onItems_mono {ρ : Rho} {r : R} {f g : List PyData → Prop} (h : onItems ρ r f) (k : ∀ xs, f xs → g xs) : onItems ρ r g := by
  unfold onItems at h ⊢
  split at h
  · exact k _ h
  · exact h.elim
def onInt (ρ : Rho) (r : R) (f : Int → Prop) : Prop := match val ρ r with
  | some (.int k) => f k
  | _ => False
theorem onInt_of {ρ : Rho} {r : R} {f : Int → Prop} (h : onInt ρ r f) : ∃ k, val ρ r = some (.int k) ∧ f k := by
  unfold onInt at h
  split at h
  · exact ⟨_, by assumption, h⟩
  · exact h.elim
theorem onInt_mono {ρ : Rho} {r : R} {f g : Int → Prop} (h : onInt ρ r f) (k : ∀ x, f x → g x) : onInt ρ r g := by
  unfold onInt at h ⊢
  split at h
  · exact k _ h
  · exact h.elim
def onAt (xs : List PyData) (k : Int) (f : PyData → Prop) : Prop := match atI xs k with
  | some y => f y
  | _ => False
theorem onAt_of {xs : List PyData} {k : Int} {f : PyData → Prop} (h : onAt xs k f) : ∃ y, atI xs k = some y ∧ f y := by
  unfold onAt at h
  split at h
  · exact ⟨_, by assumption, h⟩
  · exact h.elim
theorem onAt_mono {xs : List PyData} {k : Int} {f g : PyData → Prop} (h : onAt xs k f) (m : ∀ x, f x → g x) : onAt xs k g := by
  unfold onAt at h ⊢
  split at h
  · exact m _ h
  · exact h.elim
def dIx (ta tb : TDE) : TDE := dBin ta tb fun r s ρ Q => onItems ρ r fun xs => onInt ρ s fun k => onAt xs k fun y => Q (.d y) ρ
theorem at_rel {K : PySem.W.Frag} {N : Addr → Prop} {H : Hp} {xs : List PyData} {vs : List V} {k : Int} {y : PyData} (h : ImAll K N H xs vs) (e : atI xs k = some y) : ∃ v, atI vs k = some v ∧ Im K N H y v := by
  unfold atI at e ⊢
  rw [h.length]
  cases q : ixN xs.length k with
  | none => rw [q] at e; cases e
  | some j =>
    rw [q] at e
    exact h.get e
theorem pd_ix (ha : PD X F a ta da) (hb : PD X F b tb db) (hs : PlainIx b) (hK : X.K = F.K := by rfl) : PD X F (.Subscript a b pos) (tOp (fun x y H Q => rIxL F.K x y H Q ∨ rIxT F.K x y H Q) ta tb) (dIx da db) := by
  refine ⟨?_, de_bin ha.de hb.de (fun pins ρ σ H x y r s Q O R1 R2 h => ?_) fun r s ρ Q Q' hq h => onItems_mono h fun xs h => onInt_mono h fun k h => onAt_mono h fun y h => hq _ _ h⟩
  · have := pe_ix (pos := pos) (ix_list.or ix_tup) ha.pe hb.pe hs
    rw [hK] at this
    exact this
  obtain ⟨xs, e1, h⟩ := onItems_of h
  obtain ⟨k, e2, h⟩ := onInt_of h
  obtain ⟨y, e3, h⟩ := onAt_of h
  obtain ⟨p, vs, rfl, l, im⟩ := items_ok O R1 e1
  cases dp_int (val_dp O R2 e2)
  obtain ⟨v, e4, i4⟩ := at_rel im e3
  rcases l with l | l
  · exact .inl ⟨p, vs, k, v, rfl, rfl, l, e4, h v H O i4⟩
  · exact .inr ⟨p, vs, k, v, rfl, rfl, l, e4, h v H O i4⟩
/-! ### slices -/
def cutD (xs : List PyData) (lo hi : Option Int) : List PyData := (xs.drop (HT.sIx xs.length 0 lo)).take (HT.sIx xs.length xs.length hi - HT.sIx xs.length 0 lo)
theorem ImAll.cut {K : PySem.W.Frag} {N : Addr → Prop} {H : Hp} {xs : List PyData} {vs : List V} (h : ImAll K N H xs vs) (lo hi : Option Int) : ImAll K N H (cutD xs lo hi) (cutV vs lo hi) := by
  unfold cutD cutV
  rw [h.length]
  exact (h.drop _).take _
abbrev TDO := Rho → (Option Int → Rho → Prop) → Prop
structure DO (F : Fm) (to : TO) (td : TDO) : Prop where
  run : ∀ (pins : List Pin) (ρ : Rho) (σ : L2.St) (H : Hp) (Q : Option Int → Hp → Prop), Ok F pins ρ σ H → td ρ (fun o ρ' => ∀ H', Ok F pins ρ' σ H' → Q o H') → to σ H Q
  mono : ∀ ρ Q Q', (∀ r ρ', Q r ρ' → Q' r ρ') → td ρ Q → td ρ Q'
structure PDO (X : Cx) (F : Fm) (e : Option Expr) (to : TO) (td : TDO) : Prop where
  po : PO X e to
  d : DO F to td
def dNoPart : TDO := fun ρ Q => Q none ρ
def dPart (te : TDE) : TDO := fun ρ Q => te ρ fun r ρ1 => onInt ρ1 r fun k => Q (some k) ρ1
theorem pdo_none : PDO X F none tNoPart dNoPart := ⟨po_none, fun pins ρ σ H Q O h => h H O, fun _ _ _ hq h => hq _ _ h⟩
theorem pdo_some (h : PD X F e te de) : PDO X F (some e) (tPart te) (dPart de) := by
  refine ⟨po_some h.pe, fun pins ρ σ H Q O hq => ?_, fun ρ Q Q' hq hh => h.de.mono _ _ _ (fun r ρ1 h1 => onInt_mono h1 fun k => hq _ _) hh⟩
  refine h.de.run pins ρ σ H _ O (h.de.mono _ _ _ (fun r ρ1 h1 v H1 O1 R1 => ?_) hq)
  obtain ⟨k, e, q⟩ := onInt_of h1
  cases dp_int (val_dp O1 R1 e)
  exact ⟨k, rfl, q H1 O1⟩
def dSlice (te : TDE) (tl th : TDO) (k : R → Option Int → Option Int → Rho → Prop) (ρ : Rho) : Prop := te ρ fun r ρ1 => tl ρ1 fun lo ρ2 => th ρ2 fun hi ρ3 => k r lo hi ρ3
variable {lo hi : Option Expr} {tl th : TO} {dlo dhi : TDO} {p2 : Pos}
/-- the items of a list that callers or this body may change -/
def litems (ρ : Rho) : R → Option (List PyData)
  | .d (.list xs) => some xs
  | .o i => match ρ[i]? with
    | some (some (.own xs)) => some xs
    | some (some (.ro (.list xs))) => some xs
    | some (some (.d (.list xs))) => some xs
    | _ => none
  | _ => none
theorem litems_ok {pins : List Pin} {ρ : Rho} {σ : L2.St} {H : Hp} (O : Ok F pins ρ σ H) {r : R} {v : V} {xs : List PyData} (h : ROk F (Av F pins ρ σ) ρ σ H r v) (e : litems ρ r = some xs) : ∃ a vs, v = .ref a ∧ SqL F.K H a vs ∧ ImAll F.K (Av F pins ρ σ) H xs vs := by
  have lst : ∀ {A : Addr → Prop} {v : V} {xs : List PyData}, Im F.K A H (.list xs) v → ∃ a vs, v = .ref a ∧ SqL F.K H a vs ∧ ImAll F.K A H xs vs := fun {A v xs} h => by
    simp only [Im] at h
    obtain ⟨a, vs, e, l, t⟩ := h
    exact ⟨a, vs, e, l.sq, t⟩
  cases r with
  | raw u => cases e
  | d x =>
    cases x <;> first | cases e | skip
    exact lst h
  | o i =>
    have h1 := h.1
    have e : (match ρ[i]? with
      | some (some (.own xs)) => some xs
      | some (some (.ro (.list xs))) => some xs
      | some (some (.d (.list xs))) => some xs
      | _ => none) = some xs := e
    split at e
    · rename_i ys q; cases e
      obtain ⟨p, vs, g1, g2, g3, _⟩ := O.ownGet q
      rw [h1] at g1; cases g1
      exact ⟨p, vs, rfl, .of g2, g3⟩
    · rename_i ys q; cases e
      obtain ⟨u, g1, g2⟩ := O.ent i _ q
      rw [h1] at g1; cases g1
      rcases g2 with g2 | ⟨p, us, zs, rfl, g4, g5, g6⟩
      · exact lst g2
      · cases g4; exact ⟨p, us, rfl, g5.sq O, g6⟩
    · rename_i ys q; cases e
      obtain ⟨u, g1, g2⟩ := O.ent i _ q
      rw [h1] at g1; cases g1
      exact lst g2
    · cases e
def onL (ρ : Rho) (r : R) (f : List PyData → Prop) : Prop := match litems ρ r with
  | some xs => f xs
  | _ => False
theorem onL_of {ρ : Rho} {r : R} {f : List PyData → Prop} (h : onL ρ r f) : ∃ xs, litems ρ r = some xs ∧ f xs := by
  unfold onL at h
  split at h
  · exact ⟨_, by assumption, h⟩
  · exact h.elim
theorem onL_mono {ρ : Rho} {r : R} {f g : List PyData → Prop} (h : onL ρ r f) (k : ∀ xs, f xs → g xs) : onL ρ r g := by
  unfold onL at h ⊢
  split at h
  · exact k _ h
  · exact h.elim
def dSlL (te : TDE) (tl th : TDO) : TDL := fun ρ Q => dSlice te tl th (fun r lo hi ρ3 => onL ρ3 r fun xs => Q (cutD xs lo hi) ρ3) ρ
theorem pl_slice (he : PD X F e te de) (hl : PDO X F lo tl dlo) (hh : PDO X F hi th dhi) (hK : X.K = F.K := by rfl) : PDL X F (.Subscript e (.Slice lo hi none p2) pos) (tSl (rSlL F.K) te tl th) (dSlL de dlo dhi) := by
  refine ⟨?_, fun pins ρ σ H Q O h => ?_, fun ρ Q Q' hq h => he.de.mono _ _ _ (fun r ρ1 h1 => hl.d.mono _ _ _ (fun l ρ2 h2 => hh.d.mono _ _ _ (fun u ρ3 h3 => onL_mono h3 fun xs => hq _ _) h2) h1) h⟩
  · have := pe_slice (pos := pos) (p2 := p2) sl_list he.pe hl.po hh.po
    rw [hK] at this
    exact this
  refine he.de.run pins ρ σ H _ O (he.de.mono _ _ _ (fun r ρ1 h1 v H1 O1 R1 => ?_) h)
  refine hl.d.run (.val v r :: pins) ρ1 σ H1 _ (O1.push R1) (hl.d.mono _ _ _ (fun l ρ2 h2 H2 O2 => ?_) h1)
  refine hh.d.run (.val v r :: pins) ρ2 σ H2 _ O2 (hh.d.mono _ _ _ (fun u ρ3 h3 H3 O3 => ?_) h2)
  obtain ⟨O4, R4⟩ := O3.popV
  obtain ⟨xs, e1, q⟩ := onL_of h3
  obtain ⟨p, vs, rfl, sq, im⟩ := litems_ok O4 R4 e1
  exact ⟨p, vs, rfl, sq, fun p' hp => q p' _ (O4.pushL hp (im.cut l u))⟩
/-! ### xs + ys of lists -/
def mitems (ρ : Rho) : R → Option (List PyData)
  | .d (.list xs) => some xs
  | .o i => match ρ[i]? with
    | some (some (.own xs)) => some xs
    | _ => none
  | _ => none
theorem mitems_ok {pins : List Pin} {ρ : Rho} {σ : L2.St} {H : Hp} (O : Ok F pins ρ σ H) {r : R} {v : V} {xs : List PyData} (h : ROk F (Av F pins ρ σ) ρ σ H r v) (e : mitems ρ r = some xs) : ∃ a vs, v = .ref a ∧ H a = some (.lst vs) ∧ ImAll F.K (Av F pins ρ σ) H xs vs := by
  cases r with
  | raw u => cases e
  | d x =>
    cases x <;> first | cases e | skip
    have h : Im F.K (Av F pins ρ σ) H (.list xs) v := h
    simp only [Im] at h
    obtain ⟨a, vs, e, l, t⟩ := h
    exact ⟨a, vs, e, l.1, t⟩
  | o i =>
    have h1 := h.1
    have e : (match ρ[i]? with
      | some (some (.own xs)) => some xs
      | _ => none) = some xs := e
    split at e
    · rename_i ys q; cases e
      obtain ⟨p, vs, g1, g2, g3, _⟩ := O.ownGet q
      rw [h1] at g1; cases g1
      exact ⟨p, vs, rfl, g2, g3⟩
    · cases e
def onM (ρ : Rho) (r : R) (f : List PyData → Prop) : Prop := match mitems ρ r with
  | some xs => f xs
  | _ => False
theorem onM_of {ρ : Rho} {r : R} {f : List PyData → Prop} (h : onM ρ r f) : ∃ xs, mitems ρ r = some xs ∧ f xs := by
  unfold onM at h
  split at h
  · exact ⟨_, by assumption, h⟩
  · exact h.elim
theorem onM_mono {ρ : Rho} {r : R} {f g : List PyData → Prop} (h : onM ρ r f) (k : ∀ xs, f xs → g xs) : onM ρ r g := by
  unfold onM at h ⊢
  split at h
  · exact k _ h
  · exact h.elim
def dCat (ta tb : TDE) : TDL := fun ρ Q => ta ρ fun r ρ1 => tb ρ1 fun s ρ2 => onM ρ2 r fun xs => onM ρ2 s fun ys => Few (xs.length + ys.length) ∧ Q (xs ++ ys) ρ2
theorem pl_cat (ha : PD X F a ta da) (hb : PD X F b tb db) : PDL X F (.BinOp a .Add b pos) (tOp rCat ta tb) (dCat da db) := by
  refine ⟨pe_op op_cat ha.pe hb.pe, fun pins ρ σ H Q O h => ?_, fun ρ Q Q' hq h => ha.de.mono _ _ _ (fun r ρ1 h1 => hb.de.mono _ _ _ (fun s ρ2 h2 => onM_mono h2 fun xs h3 => onM_mono h3 fun ys h4 => ⟨h4.1, hq _ _ h4.2⟩) h1) h⟩
  refine ha.de.run pins ρ σ H _ O (ha.de.mono _ _ _ (fun r ρ1 h1 x H1 O1 R1 => ?_) h)
  refine hb.de.run (.val x r :: pins) ρ1 σ H1 _ (O1.push R1) (hb.de.mono _ _ _ (fun s ρ2 h2 y H2 O2 R2 => ?_) h1)
  obtain ⟨O3, R3⟩ := O2.popV
  obtain ⟨xs, e1, h3⟩ := onM_of h2
  obtain ⟨ys, e2, h4, q⟩ := onM_of h3
  obtain ⟨p, vs, rfl, g1, i1⟩ := mitems_ok O3 R3 e1
  obtain ⟨p2, us, rfl, g2, i2⟩ := mitems_ok O3 R2 e2
  exact ⟨p, p2, vs, us, rfl, rfl, g1, g2, by rw [i1.length, i2.length]; exact h4, fun p' hp => q p' _ (O3.pushL hp (i1.append i2))⟩
/-! ### tuple(xs), list(xs) -/
def dTupOf (t : TDA) : TDE := fun ρ Q => t ρ fun rs ρ1 => match rs with
  | [.d (.tuple xs)] => Q (.d (.tuple xs)) ρ1
  | [r] => onL ρ1 r fun xs => Q (.d (.tuple xs)) ρ1
  | _ => False
theorem pd_tupleOf {p : Pos} (hg : Gl X "tuple") (hm : X.mg "tuple" = none) (ha : PDA X F [e] t d) (hK : X.K = F.K := by rfl) (he : starEach [e] X.env = (false, eval e X.env) :: starEach [] X.env := by rfl) (hpl : (backTo pos (starEach [] X.env)).any (·.1) = false := by rfl) :
    PD X F (.Call (.Name "tuple" p) [e] [] pos) (tCB (fun xs H Q => ∃ p ys, xs = [.ref p] ∧ ((SqL F.K H p ys ∧ ∀ l, H l = none → Q (.ref l) (upd H l (.tup ys))) ∨ (SqT F.K H p ys ∧ Q (.ref p) H))) t) (dTupOf d) := by
  refine ⟨?_, fun pins ρ σ H Q O h => ?_, fun ρ Q Q' hq h => ?_⟩
  · have := pe_callTy (p := p) (pos := pos) call_tuple_of hg hm (by decide +kernel) ha.pa (by decide) (by decide) he hpl
    rw [hK] at this
    exact this
  · refine ha.da.run pins ρ σ H _ O (ha.da.mono _ _ _ (fun rs ρ1 h1 vs H1 O1 R1 => ?_) h)
    split at h1
    · rename_i xs
      simp only [ROks] at R1
      obtain ⟨v, _, rfl, r1, rfl⟩ := R1
      have r2 : Im F.K (Av F pins ρ1 σ) H1 (.tuple xs) v := r1
      have r3 := r2
      simp only [Im] at r2
      obtain ⟨p, us, rfl, l, im⟩ := r2
      exact ⟨p, us, rfl, .inr ⟨l.sq, h1 _ _ O1 r3⟩⟩
    · rename_i r _
      simp only [ROks] at R1
      obtain ⟨v, _, rfl, r1, rfl⟩ := R1
      obtain ⟨xs, e1, q⟩ := onL_of h1
      obtain ⟨p, us, rfl, l, im⟩ := litems_ok O1 r1 e1
      refine ⟨p, us, rfl, .inl ⟨l, fun l' hl => ?_⟩⟩
      obtain ⟨O2, i2⟩ := newTup O1 hl im
      exact q _ _ O2 i2
    · exact h1.elim
  · refine ha.da.mono _ _ _ (fun rs ρ1 h1 => ?_) h
    revert h1
    split
    · exact fun h1 => hq _ _ h1
    · exact fun h1 => onL_mono h1 fun xs => hq _ _
    · exact fun h1 => h1
end
/-! ### what is walked -/
section
variable {X : Cx} {F : Fm} {tg e e2 : Expr} {te te2 : TE} {de de2 : TDE} {pos p : Pos} {t : TA} {d : TDA}
theorem PI.or {tg iter : Expr} {w1 w2 : TI} (h1 : PI X tg iter w1) (h2 : PI X tg iter w2) : PI X tg iter (fun σ H R => w1 σ H R ∨ w2 σ H R) :=
  ⟨fun pins s σ H R I h => h.elim (h1.run pins s σ H R I) (h2.run pins s σ H R I)⟩
end
end DV
namespace DV
open PySem PySem.Spec PyProof.Rows L2
section
variable {X : Cx} {F : Fm} {tg e e2 a b : Expr} {te te2 ta tb : TE} {de de2 da db : TDE} {pos p : Pos} {t : TA} {d : TDA}
theorem wok_list {v : V} {xs : List PyData} {a : Addr} (hv : v = .ref a) : WOk F (Itl F.K a) xs [.val v (.d (.list xs))] := by
  subst hv
  have key : ∀ (pins : List Pin) (ρ : Rho) (σ : L2.St) (H : Hp), (∀ q ∈ [Pin.val (.ref a) (.d (.list xs))], q ∈ pins) → Ok F pins ρ σ H → ∃ vs, SqL F.K H a vs ∧ ImAll F.K (Av F pins ρ σ) H xs vs := fun pins ρ σ H hp O => by
    have h : Im F.K (Av F pins ρ σ) H (.list xs) (.ref a) := O.pin _ (hp _ (List.mem_cons_self ..))
    simp only [Im] at h
    obtain ⟨q, vs, e, l, im⟩ := h
    cases e
    exact ⟨vs, l.sq, im⟩
  refine ⟨fun i pins ρ σ H hp hi O => ?_, fun pins ρ σ H hp O => ?_, fun i pins ρ σ H x H' hp hi O y => ?_⟩
  · obtain ⟨vs, h1, h2⟩ := key pins ρ σ H hp O
    have hl := h2.length
    exact ⟨vs, vs[i]'(by omega), h1, by simp⟩
  · obtain ⟨vs, h1, h2⟩ := key pins ρ σ H hp O
    exact ⟨vs, h1, by rw [h2.length]; exact Nat.le_refl _⟩
  · obtain ⟨vs, h1, h2⟩ := key pins ρ σ H hp O
    obtain ⟨rfl, y⟩ := y
    obtain ⟨d, e1, e2⟩ := h2.getV (y vs h1)
    exact ⟨d, e1, O, e2⟩
theorem wok_tup {v : V} {xs : List PyData} {a : Addr} (hv : v = .ref a) : WOk F (Itt F.K a) xs [.val v (.d (.tuple xs))] := by
  subst hv
  have key : ∀ (pins : List Pin) (ρ : Rho) (σ : L2.St) (H : Hp), (∀ q ∈ [Pin.val (.ref a) (.d (.tuple xs))], q ∈ pins) → Ok F pins ρ σ H → ∃ vs, SqT F.K H a vs ∧ ImAll F.K (Av F pins ρ σ) H xs vs := fun pins ρ σ H hp O => by
    have h : Im F.K (Av F pins ρ σ) H (.tuple xs) (.ref a) := O.pin _ (hp _ (List.mem_cons_self ..))
    simp only [Im] at h
    obtain ⟨q, vs, e, l, im⟩ := h
    cases e
    exact ⟨vs, l.sq, im⟩
  refine ⟨fun i pins ρ σ H hp hi O => ?_, fun pins ρ σ H hp O => ?_, fun i pins ρ σ H x H' hp hi O y => ?_⟩
  · obtain ⟨vs, h1, h2⟩ := key pins ρ σ H hp O
    have hl := h2.length
    exact ⟨vs, vs[i]'(by omega), h1, by simp⟩
  · obtain ⟨vs, h1, h2⟩ := key pins ρ σ H hp O
    exact ⟨vs, h1, by rw [h2.length]; exact Nat.le_refl _⟩
  · obtain ⟨vs, h1, h2⟩ := key pins ρ σ H hp O
    obtain ⟨rfl, y⟩ := y
    obtain ⟨d, e1, e2⟩ := h2.getV (y vs h1)
    exact ⟨d, e1, O, e2⟩
theorem mem_pinsOf : ∀ {vs : List V} {xs : List PyData} {p : Pin}, p ∈ pinsOf vs xs → ∃ v x, p = .val v (.d x)
  | [], _, _, h => by cases h
  | _ :: _, [], _, h => by cases h
  | v :: vs, x :: xs, p, h => by
    rcases List.mem_cons.mp h with z | z
    · exact ⟨v, x, z⟩
    · exact mem_pinsOf z
theorem all_pinsOf {pins : List Pin} {ρ : Rho} {σ : L2.St} {H : Hp} (O : Ok F pins ρ σ H) : ∀ {vs : List V} {xs : List PyData}, vs.length = xs.length → (∀ q ∈ pinsOf vs xs, q ∈ pins) → ImAll F.K (Av F pins ρ σ) H xs vs
  | [], [], _, _ => .nil
  | v :: vs, x :: xs, hl, h => .cons (O.pin _ (h _ (List.mem_cons_self ..))) (all_pinsOf O (by simpa using hl) fun q hq => h q (List.mem_cons_of_mem _ hq))
  | [], _ :: _, hl, _ => by cases hl
  | _ :: _, [], hl, _ => by cases hl
/-- a list that is read alone -/
theorem wok_ro {xs : List PyData} {us : List V} {a : Addr} (hl : us.length = xs.length) (hr : LkR F a us) : WOk F (Itl F.K a) xs (pinsOf us xs) := by
  refine ⟨fun i pins ρ σ H hp hi O => ?_, fun pins ρ σ H hp O => ?_, fun i pins ρ σ H x H' hp hi O y => ?_⟩
  · exact ⟨us, us[i]'(by omega), hr.sq O, by simp⟩
  · exact ⟨us, hr.sq O, by rw [hl]; exact Nat.le_refl _⟩
  · obtain ⟨rfl, y⟩ := y
    obtain ⟨d, e1, e2⟩ := (all_pinsOf O hl hp).getV (y us (hr.sq O))
    exact ⟨d, e1, O, e2⟩
def dSeqI (te : TDE) : TDI := fun ρ Q => te ρ fun r ρ1 => match r with
  | .d (.list xs) => Q xs ρ1
  | .d (.tuple xs) => Q xs ρ1
  | .o i => match ρ1[i]? with
    | some (some (.ro (.list xs))) => Q xs ρ1
    | some (some (.ro (.tuple xs))) => Q xs ρ1
    | _ => False
  | _ => False
def iSeq (K : PySem.W.Frag) (tl : TE) : TI := fun σ H R => tl σ H fun x H1 => ∃ a, x = .ref a ∧ (((∃ xs, SqL K H1 a xs) ∧ R (Itl K a) H1) ∨ ((∃ xs, SqT K H1 a xs) ∧ R (Itt K a) H1))
theorem pi_seq (he : PE X e te) : PI X tg e (iSeq X.K te) := by
  constructor
  intro pins s σ H R I h
  refine thn (he.run pins s σ H _ I h) ?_
  rintro v s1 ⟨x, H1, I1, r1, a, rfl, hq⟩
  cases r1
  have new : ∀ (o : Obj), ∀ b ∈ [s1.heap.objs.size], FpOk X pins H1 b := fun o b hb => by
    obtain rfl : b = s1.heap.objs.size := by simpa using hb
    exact I1.fpOk (Nat.le_refl _) I1.fresh
  have keep : ∀ (o : Obj), Inv X pins σ H1 { s1 with heap := s1.heap.push o } := fun o => I1.kept (t' := s1.toks) fun b u e => Heap.get?_push_of_some _ e
  rcases hq with ⟨⟨xs, hq⟩, q⟩ | ⟨⟨xs, hq⟩, q⟩
  · obtain ⟨its, rv, pl, _⟩ := I1.list hq
    apply wpAny_pyIter_list pl.isList
    exact ⟨_, [s1.heap.objs.size], _, _, H1, rfl, keep _, turn_list a _, ⟨_, Heap.get?_push_size _ rfl, rfl, rfl⟩, new default, q⟩
  · obtain ⟨its, rv, pl, _⟩ := I1.tuple hq
    apply wpAny_pyIter_tuple (show s1.heap.IsTuple a its.toArray from pl)
    exact ⟨_, [s1.heap.objs.size], _, _, H1, rfl, keep _, turn_tuple a _, ⟨_, Heap.get?_push_size _ rfl, rfl, rfl⟩, new default, q⟩
theorem pdi_seq (he : PD X F e te de) (hK : X.K = F.K := by rfl) : PDI X F tg e (iSeq F.K te) (dSeqI de) := by
  refine ⟨?_, fun pins ρ σ H R O h => ?_, fun ρ Q Q' hq h => ?_⟩
  · have := pi_seq (tg := tg) he.pe
    rw [hK] at this
    exact this
  · refine he.de.run pins ρ σ H _ O (he.de.mono _ _ _ (fun r ρ1 h1 v H1 O1 R1 => ?_) h)
    split at h1
    · rename_i xs
      have im : Im F.K (Av F pins ρ1 σ) H1 (.list xs) v := R1
      have im2 := im
      simp only [Im] at im2
      obtain ⟨a, vs, rfl, l, _⟩ := im2
      refine ⟨a, rfl, .inl ⟨⟨vs, l.sq⟩, h1 _ H1 _ (wok_list rfl) (fun p hp => ?_) (O1.push (v := .ref a) (r := .d (.list xs)) im)⟩⟩
      rcases List.mem_cons.mp hp with z | z
      · exact ⟨_, _, z⟩
      · cases z
    · rename_i xs
      have im : Im F.K (Av F pins ρ1 σ) H1 (.tuple xs) v := R1
      have im2 := im
      simp only [Im] at im2
      obtain ⟨a, vs, rfl, l, _⟩ := im2
      refine ⟨a, rfl, .inr ⟨⟨vs, l.sq⟩, h1 _ H1 _ (wok_tup rfl) (fun p hp => ?_) (O1.push (v := .ref a) (r := .d (.tuple xs)) im)⟩⟩
      rcases List.mem_cons.mp hp with z | z
      · exact ⟨_, _, z⟩
      · cases z
    · rename_i i
      have g0 := R1.1
      split at h1
      · rename_i xs q
        obtain ⟨u, g1, g2⟩ := O1.ent i _ q
        rw [g0] at g1; cases g1
        rcases g2 with im | ⟨a, us, ys, rfl, e1, l, t⟩
        · have im2 := im
          simp only [Im] at im2
          obtain ⟨a, vs, rfl, l, _⟩ := im2
          refine ⟨a, rfl, .inl ⟨⟨vs, l.sq⟩, h1 _ H1 _ (wok_list rfl) (fun p hp => ?_) (O1.push (v := .ref a) (r := .d (.list xs)) im)⟩⟩
          rcases List.mem_cons.mp hp with z | z
          · exact ⟨_, _, z⟩
          · cases z
        · cases e1
          exact ⟨a, rfl, .inl ⟨⟨us, l.sq O1⟩, h1 _ H1 _ (wok_ro t.length l) (fun p hp => mem_pinsOf hp) (O1.pushAll t).1⟩⟩
      · rename_i xs q
        obtain ⟨u, g1, g2⟩ := O1.ent i _ q
        rw [g0] at g1; cases g1
        rcases g2 with im | ⟨a, us, ys, rfl, e1, l, t⟩
        · have im2 := im
          simp only [Im] at im2
          obtain ⟨a, vs, rfl, l, _⟩ := im2
          refine ⟨a, rfl, .inr ⟨⟨vs, l.sq⟩, h1 _ H1 _ (wok_tup rfl) (fun p hp => ?_) (O1.push (v := .ref a) (r := .d (.tuple xs)) im)⟩⟩
          rcases List.mem_cons.mp hp with z | z
          · exact ⟨_, _, z⟩
          · cases z
        · cases e1
      · exact h1.elim
    · exact h1.elim
  · refine he.de.mono _ _ _ (fun r ρ1 h1 => ?_) h
    revert h1
    split
    · exact fun h1 => hq _ _ h1
    · exact fun h1 => hq _ _ h1
    · intro h1
      split at h1
      · exact hq _ _ h1
      · exact hq _ _ h1
      · exact h1.elim
    · exact fun h1 => h1
/-! ### ranges -/
def rng (lo : Int) (n : Nat) : List PyData := (List.range n).map fun k => .int (lo + (k : Nat))
theorem rng_at {lo : Int} {n i : Nat} (h : i < n) : (rng lo n)[i]? = some (.int (lo + (i : Nat))) := by
  unfold rng
  rw [List.getElem?_map, List.getElem?_range h]; rfl
theorem rng_len {lo : Int} {n : Nat} : (rng lo n).length = n := by unfold rng; rw [List.length_map, List.length_range]
theorem wok_rng {lo : Int} {n : Nat} : WOk F (Itr lo n) (rng lo n) [] := by
  refine ⟨fun i pins ρ σ H hp hi O => by rw [rng_len] at hi; exact hi, fun pins ρ σ H hp O => by rw [rng_len]; exact Nat.le_refl _, fun i pins ρ σ H x H' hp hi O y => ?_⟩
  rw [rng_len] at hi
  obtain ⟨rfl, rfl⟩ := y
  exact ⟨_, rng_at hi, O, .int⟩
def dRng1 (t : TDA) : TDI := fun ρ Q => t ρ fun rs ρ1 => match rs with
  | [.d (.int j)] => (-(2 ^ 62) ≤ j ∧ j < 2 ^ 62) ∧ Q (rng 0 j.toNat) ρ1
  | _ => False
def dRng2 (t : TDA) : TDI := fun ρ Q => t ρ fun rs ρ1 => match rs with
  | [.d (.int i), .d (.int j)] => (-(2 ^ 62) ≤ i ∧ i < 2 ^ 62 ∧ -(2 ^ 62) ≤ j ∧ j < 2 ^ 62) ∧ Q (rng i (j - i).toNat) ρ1
  | _ => False
theorem pdi_range1 (hg : Gl X "range") (hm : X.mg "range" = none) (ha : PDA X F [e] t d) (hs : starEach [e] X.env = [(false, eval e X.env)] := by rfl) : PDI X F tg (.Call (.Name "range" p) [e] [] pos) (iRng1 t) (dRng1 d) := by
  refine ⟨pi_range1 hg hm ha.pa hs, fun pins ρ σ H R O h => ?_, fun ρ Q Q' hq h => ?_⟩
  · refine ha.da.run pins ρ σ H _ O (ha.da.mono _ _ _ (fun rs ρ1 h1 vs H1 O1 R1 => ?_) h)
    split at h1
    · rename_i j
      simp only [ROks] at R1
      obtain ⟨v, _, rfl, r1, rfl⟩ := R1
      cases (Im.int_iff.mp (show Im F.K (Av F pins ρ1 σ) H1 (.int j) v from r1))
      exact ⟨j, rfl, h1.1.1, h1.1.2, h1.2 _ H1 [] wok_rng (fun p hp => nomatch hp) O1⟩
    · exact h1.elim
  · refine ha.da.mono _ _ _ (fun rs ρ1 h1 => ?_) h
    revert h1
    split
    · exact fun h1 => ⟨h1.1, hq _ _ h1.2⟩
    · exact fun h1 => h1
theorem pdi_range2 (hg : Gl X "range") (hm : X.mg "range" = none) (ha : PDA X F [e, e2] t d) (hs : starEach [e, e2] X.env = [(false, eval e X.env), (false, eval e2 X.env)] := by rfl) (hs2 : starEach [e2] X.env = [(false, eval e2 X.env)] := by rfl) :
    PDI X F tg (.Call (.Name "range" p) [e, e2] [] pos) (iRng2 t) (dRng2 d) := by
  refine ⟨pi_range2 hg hm ha.pa hs hs2, fun pins ρ σ H R O h => ?_, fun ρ Q Q' hq h => ?_⟩
  · refine ha.da.run pins ρ σ H _ O (ha.da.mono _ _ _ (fun rs ρ1 h1 vs H1 O1 R1 => ?_) h)
    split at h1
    · rename_i i j
      simp only [ROks] at R1
      obtain ⟨v, _, rfl, r1, w, _, rfl, r2, rfl⟩ := R1
      cases (Im.int_iff.mp (show Im F.K (Av F pins ρ1 σ) H1 (.int i) v from r1))
      cases (Im.int_iff.mp (show Im F.K (Av F pins ρ1 σ) H1 (.int j) w from r2))
      exact ⟨i, j, rfl, h1.1, h1.2 _ H1 [] wok_rng (fun p hp => nomatch hp) O1⟩
    · exact h1.elim
  · refine ha.da.mono _ _ _ (fun rs ρ1 h1 => ?_) h
    revert h1
    split
    · exact fun h1 => ⟨h1.1, hq _ _ h1.2⟩
    · exact fun h1 => h1
end
/-- comprehensions -/
theorem pl_lc {X : Cx} {F : Fm} {elt tg iter : Expr} {ifs : List Expr} {scope : Scope} {own : List (Str × Nat)} {pos : Pos} {wi : TI} {dw : TDI} {g : TG} {dg : TDGt} {tt : TT} {dt : TDT} {te : TE} {de : TDE} (hc : X.calm = true) (hN : X.N.Nodup) (hi : PDI X F tg iter wi dw) (ok : BlkOk X.N X.env.scope scope own)
    (hg : ∀ (s : Shared) (H : Hp) (C : Addr) (cl : List (Str × Addr)) (fp : List Addr), PDG (X.blk s H scope (compEnvC scope cl C X.env) fp) F tg g dg (own.map (·.2))) (ht : ∀ (s : Shared) (H : Hp) (C : Addr) (cl : List (Str × Addr)) (fp : List Addr), PDTs (X.blk s H scope (compEnvC scope cl C X.env) fp) F ifs tt dt)
    (he : ∀ (s : Shared) (H : Hp) (C : Addr) (cl : List (Str × Addr)) (fp : List Addr), PD (X.blk s H scope (compEnvC scope cl C X.env) fp) F elt te de) (hs : ∀ x, foldedSetIterable iter X.env x = pure x := by intro _; rfl) :
    PDL X F (.ListComp elt [⟨tg, iter, ifs, 0⟩] scope pos) (tLc wi g tt te (own.map (·.2))) (dLc dw dg dt de (own.map (·.2))) := by
  refine ⟨pe_lc hc hN hi.pi ok (fun s H C cl fp => (hg s H C cl fp).pg) (fun s H C cl fp => (ht s H C cl fp).pts) (fun s H C cl fp => (he s H C cl fp).pe) hs, ?_⟩
  exact dl_lc hi.di (hg (PySem.start X.prog).1 (fun _ => none) 0 [] []).dg (ht (PySem.start X.prog).1 (fun _ => none) 0 [] []).dt (he (PySem.start X.prog).1 (fun _ => none) 0 [] []).de
end DV
namespace DV
open PySem PySem.Spec PyProof.Rows L2
section
variable {X : Cx} {F : Fm} {e a b c : Expr} {es : List Expr} {te ta tb : TE} {de da db : TDE} {dl : TDL} {pos p : Pos} {t : TA} {d : TDA}
/-! ### isinstance, isqrt, ** -/
def tyName : PyData → String
  | .none => "NoneType"
  | .bool _ => "bool"
  | .int _ => "int"
  | .str _ => "str"
  | .list _ => "list"
  | .tuple _ => "tuple"
  | .dict _ => "dict"
theorem tyx_of {K : PySem.W.Frag} {H : Hp} {v : V} {x : PyData} (h : Dp K H v x) : TyX K H v (.type (tyName x)) := by
  cases h with
  | non => exact .base .non
  | bl b => exact .base (.bl b)
  | int i => exact .base (.int i)
  | str z => exact .base (.str z)
  | lst l _ =>
    rcases l with (l | ⟨o, l⟩) | ⟨o, its, n, hk, hc, _⟩
    · exact .base (.lst l)
    · exact .base (.frz l)
    · exact .kList hk hc
  | tup l _ =>
    rcases l with (l | ⟨o, l⟩) | ⟨o, its, n, hk, hc, _⟩
    · exact .base (.tup l)
    · exact .fTuple l
    · exact .kTuple hk hc
def dIsi (n : String) (te : TDE) : TDE := fun ρ Q => te ρ fun r ρ1 => onV ρ1 r fun x => match kitB (tyName x) n with
  | some k => Q (.d (.bool k)) ρ1
  | _ => False
theorem pd_isinst {n : String} {x : Str} {p2 : Pos} (he : PD X F e te de) (hg : Gl X "isinstance") (hm : X.mg "isinstance" = none) (hg2 : Gl X x) (hm2 : X.mg x = none) (hv2 : bootBuiltins x = some (.type n)) (hK : X.K = F.K := by rfl) (hn : x ≠ "__name__" := by decide) (hd : (x == ("__debug__" : Str)) = false := by decide)
    (hs : starEach [e, .Name x p2] X.env = (false, eval e X.env) :: starEach [.Name x p2] X.env := by rfl) (hs2 : starEach [.Name x p2] X.env = (false, eval (.Name x p2) X.env) :: starEach [] X.env := by rfl) (hpl : (backTo pos (starEach [.Name x p2] X.env)).any (·.1) = false := by rfl) :
    PD X F (.Call (.Name "isinstance" p) [e, .Name x p2] [] pos) (tCB (rIsi F.K) (tCons te (tCons (tC (.ty n)) tNil))) (dIsi n de) := by
  refine ⟨?_, fun pins ρ σ H Q O h => ?_, fun ρ Q Q' hq h => ?_⟩
  · have := pe_callB (p := p) (pos := pos) call_isi hg hm (by decide +kernel) (pa_cons he.pe (pa_cons (pe_bltn (pos := p2) (v := .ty n) hg2 hm2 hv2 rfl hn hd) pa_nil hs2) hs) (by decide) (by decide) hs hpl
    rw [hK] at this
    exact this
  · refine he.de.run pins ρ σ H _ O (he.de.mono _ _ _ (fun r ρ1 h1 v H1 O1 R1 => ?_) h)
    obtain ⟨x, e1, h2⟩ := onV_of h1
    split at h2
    · rename_i k ek
      exact ⟨v, .ty n, _, _, k, rfl, .ty n, tyx_of (val_dp O1 R1 e1), kit_ty ek, h2 _ _ O1 (.sc .bool)⟩
    · exact h2.elim
  · refine he.de.mono _ _ _ (fun r ρ1 h1 => onV_mono h1 fun x h2 => ?_) h
    revert h2
    split
    · exact fun h2 => hq _ _ h2
    · exact fun h2 => h2
def rSqrt : List V → Hp → VK → Prop := fun vs H Q => ∃ i : Int, vs = [.int i] ∧ 0 ≤ i ∧ i.toNat.log2 < 13000 ∧ Q (.int ((Float64.isqrt i.toNat : Nat) : Int)) H
theorem cr_sqrt : CallR X (.builtin "math.isqrt") rSqrt := by
  intro pins s σ H vs us Q I r h
  obtain ⟨i, rfl, h0, h1, q⟩ := h
  obtain ⟨u, rfl, t, rfl⟩ := vals1 r
  exact call_function_meets PySem.W.MGF.kind_isqrt PySem.W.MGF.plain_isqrt PySem.W.MGF.entry_isqrt (PySem.W.MGF.args_isqrt _) (PySem.W.mg_run_isqrt i t (by omega) (by omega) (by omega)).meets ⟨.int _, H, I.tok _, ⟨_, rfl⟩, q⟩
def fSqrt : FA
  | [.int i], Q => (0 ≤ i ∧ i.toNat.log2 < 13000) ∧ Q (.int ((Float64.isqrt i.toNat : Nat) : Int))
  | _, _ => False
theorem sc_sqrt {K : PySem.W.Frag} : SC K rSqrt fSqrt := by
  constructor
  · intro H vs ds Q h q
    unfold fSqrt at q
    split at q
    · obtain ⟨v, rfl, h1⟩ := dpall1 h
      cases dp_int h1
      exact ⟨_, rfl, q.1.1, q.1.2, q.2 _ .int⟩
    · exact q.elim
  · intro ds Q Q' hq q
    unfold fSqrt at q ⊢
    split at q
    · exact ⟨q.1, hq _ q.2⟩
    · exact q.elim
abbrev fPow : F2 := fI CPow fun i j => .int (i ^ j.toNat)
theorem pd_pow (ha : PD X F a ta da) (hb : PD X F b tb db) : PD X F (.BinOp a .Pow b pos) (tOp (rI CPow fun i j => .int (i ^ j.toNat)) ta tb) (dOp fPow da db) := pd_op op_pow (so_I fun _ _ => .int) ha hb
/-- a chain of two comparisons of whole numbers -/
def dChainLe (f g : Int → Int → Bool) (ta tb tc : TDE) : TDE := fun ρ Q => ta ρ fun r ρ1 => tb ρ1 fun s ρ2 => onInt ρ2 r fun i => onInt ρ2 s fun j => if f i j = true then tc ρ2 fun u ρ3 => onInt ρ3 u fun k => Q (.d (.bool (g j k))) ρ3 else Q (.d (.bool false)) ρ2
theorem pd_chainI {op op' : CmpOp} {f g : Int → Int → Bool} {tc : TE} {dc : TDE} (ho : OpR X (compareOp op) (rI0 fun i j => .bl (f i j))) (ho' : OpR X (compareOp op') (rI0 fun i j => .bl (g i j))) (ha : PD X F a ta da) (hb : PD X F b tb db) (hc : PD X F c tc dc)
    (h1 : PE X (.Compare a [op, op'] [b, c] pos) (tChain (rI0 fun i j => .bl (f i j)) (rI0 fun i j => .bl (g i j)) ta tb tc)) : PD X F (.Compare a [op, op'] [b, c] pos) (tChain (rI0 fun i j => .bl (f i j)) (rI0 fun i j => .bl (g i j)) ta tb tc) (dChainLe f g da db dc) := by
  refine ⟨h1, fun pins ρ σ H Q O h => ?_, fun ρ Q Q' hq h => ?_⟩
  · refine ha.de.run pins ρ σ H _ O (ha.de.mono _ _ _ (fun r ρ1 h1 x H1 O1 R1 => ?_) h)
    refine hb.de.run (.val x r :: pins) ρ1 σ H1 _ (O1.push R1) (hb.de.mono _ _ _ (fun s ρ2 h2 y H2 O2 R2 => ?_) h1)
    obtain ⟨O3, R3⟩ := O2.popV
    obtain ⟨i, e1, h3⟩ := onInt_of h2
    obtain ⟨j, e2, h4⟩ := onInt_of h3
    cases dp_int (val_dp O3 R3 e1)
    cases dp_int (val_dp O3 R2 e2)
    refine ⟨i, j, rfl, rfl, f i j, rfl, ?_⟩
    by_cases hf : f i j = true
    · rw [if_pos hf] at h4 ⊢
      refine hc.de.run (.val (.int j) s :: pins) ρ2 σ H2 _ (O3.push R2) (hc.de.mono _ _ _ (fun u ρ3 h5 z H3 O4 R4 => ?_) h4)
      obtain ⟨k, e3, h6⟩ := onInt_of h5
      obtain ⟨O5, _⟩ := O4.popV
      cases dp_int (val_dp O5 R4 e3)
      exact ⟨j, k, rfl, rfl, h6 _ _ O5 (.sc .bool)⟩
    · rw [if_neg hf] at h4 ⊢
      exact h4 _ _ O3 (.sc .bool)
  · refine ha.de.mono _ _ _ (fun r ρ1 h1 => hb.de.mono _ _ _ (fun s ρ2 h2 => onInt_mono h2 fun i h3 => onInt_mono h3 fun j h4 => ?_) h1) h
    by_cases hf : f i j = true
    · rw [if_pos hf] at h4 ⊢
      exact hc.de.mono _ _ _ (fun u ρ3 h5 => onInt_mono h5 fun k h6 => hq _ _ h6) h4
    · rw [if_neg hf] at h4 ⊢
      exact hq _ _ h4
end
/-! ### a def that hands back a new list -/
abbrev SdL := List PyData → (List PyData → Prop) → Prop
def spF (K : PySem.W.Frag) (ks : List Kd) (S : SdL) : Sp := fun vs H Q _ => ∃ (N : Addr → Prop) (xs : List PyData), (∀ a, N a → ∃ o, H a = some o) ∧ ArgsOk K N noZ H ks xs vs ∧
  S xs fun zs => ∀ p H' us, (∀ a o, H a = some o → H' a = some o) → H p = none → H' p = some (.lst us) → ImAll K (fun a => N a ∨ a = p) H' zs us → Q (.ref p) H'
def MonoF (S : SdL) : Prop := ∀ xs Q Q', (∀ z, Q z → Q' z) → S xs Q → S xs Q'
section
variable {P : Program} {w : World} {K : PySem.W.Frag} {mg : Str → Option Value} {base : Heap}
/-- its body: return [..] -/
theorem fnF {x qual : Str} {st : Stmt} {f : Addr} {fd : FuncData} {N ps : List Str} {k : Nat} {ks : List Kd} {S : SdL} {e : Expr} {pos : Pos} (W : Fun K x qual st f fd) (Sc : FnScope N ps (defScope st)) (hks : ks.length = ps.length) (hst : defBody st = [.Return (some e) pos])
    (body : ∀ (cdv : Value) (A : Around) (out : List Env) (s : Shared) (H : Hp) (E : XK) (Nn : Addr → Prop), Room k (A.deeper (envOfC qual (defScope st) s.heap.objs.size f cdv)) → A.guards = some [] →
      ∃ te dl, PDL (cxOf CX0 P w K mg base N qual (defScope st) f cdv A out s H E).nox (frP K H Nn) e te dl ∧
        ∀ xs Q, xs.length = ks.length → S xs Q → dl (rhoP N.length ks xs) fun zs _ => Q zs) : FnG P w K mg base CX0 (k + 1) f fd ps (spF K ks S) := by
  have hpl : ps.length ≤ N.length := by have := congrArg List.length Sc.pre; rw [List.length_take] at this; omega
  refine fg_of W Sc (fun vs H Q E h => ?_) fun cdv A out s H vs Q E hr hgd h => ?_
  · obtain ⟨Nn, xs, _, ha, _⟩ := h
    rw [ha.len.1, hks]
  obtain ⟨Nn, xs, hN, ha, hS⟩ := h
  obtain ⟨te, dl, hb, hq⟩ := body cdv A out s H E Nn hr hgd
  refine ⟨_, by rw [hst]; exact pss_one (ps_ret hb.pe), ?_⟩
  have hl := ha.len
  have noOwn : ∀ i a, ¬ OwnAt (rhoP N.length ks xs) (L2.start N vs) i a := by
    rintro i a ⟨⟨ys, h1⟩, _⟩
    obtain ⟨k, x, v, e, _⟩ := ha.at (rhoP_some h1)
    cases k <;> cases e
  have O : Ok (frP K H Nn) [] (rhoP N.length ks xs) (L2.start N vs) H := by
    refine ⟨?_, fun i e h1 => ?_, fun i j a h1 _ => absurd h1 (noOwn i a), fun p hp => (nomatch hp), .nil, fun a o _ e => e, hN, fun a h => h.elim, hN, fun i a _ h => h.elim⟩
    · rw [rhoP_len hl.2 (by rw [hks]; exact hpl)]
      unfold L2.start
      rw [List.length_append, List.length_map, List.length_replicate]
      omega
    · obtain ⟨k, x, v, rfl, h2, h3⟩ := ha.at (rhoP_some h1)
      refine ⟨v, ?_, arg_ent (N := Nn) rfl rfl (fun a z => z) (fun a z => ?_) h3⟩
      · have hi : i < vs.length := by
          rcases Nat.lt_or_ge i vs.length with z | z
          · exact z
          · rw [List.getElem?_eq_none z] at h2; cases h2
        unfold L2.start
        rw [List.getElem?_append_left (by simpa using hi), List.getElem?_map, h2]; rfl
      · rcases z with z | ⟨j, z⟩ | z
        · exact z
        · exact absurd z (noOwn j a)
        · cases z
  refine hb.dl.run [] _ _ H _ O (hb.dl.mono _ _ _ (fun zs ρ q p H' O' => ?_) (hq xs _ hl.2 hS))
  obtain ⟨us, h1, h2, h3, h4⟩ := O'.pin _ (List.mem_cons_self ..)
  have hp : H p = none := h3
  refine q p H' us (fun a o e => O'.fr a o (fun z => z) e) hp h1 (h2.go ⟨fun _ _ _ e => e, fun a z => .inl ?_⟩)
  rcases z with z | rfl
  · exact .inl z
  · exact .inr (.inr (List.mem_cons_self ..))
end
section
variable {X : Cx} {F : Fm} {e : Expr} {es : List Expr} {t : TA} {d : TDA} {pos : Pos}
/-- kept in mind, from one heap to the next -/
theorem Ok.pushL2 {pins : List Pin} {ρ : Rho} {σ : L2.St} {H H' : Hp} (O : Ok F pins ρ σ H) (g : ∀ a o, H a = some o → H' a = some o) {p : Addr} {xs : List PyData} {vs : List V} (hp : H p = none) (hp' : H' p = some (.lst vs)) (h : ImAll F.K (fun a => Av F pins ρ σ a ∨ a = p) H' xs vs) : Ok F (.acc p xs :: pins) ρ σ H' := by
  have avE : ∀ a, Av F (.acc p xs :: pins) ρ σ a → Av F pins ρ σ a ∨ a = p := fun a h => by
    rcases h with h | h | h
    · exact .inl (.inl h)
    · exact .inl (.inr (.inl h))
    · rcases List.mem_cons.mp (show a ∈ p :: accs pins from h) with rfl | h
      · exact .inr rfl
      · exact .inl (.inr (.inr h))
  have G : Go (Av F pins ρ σ) (Av F (.acc p xs :: pins) ρ σ) H H' := ⟨fun a o _ h => g a o h, fun a h => (avE a h).imp_right fun z => by rw [z]; exact hp⟩
  have G2 : Go (fun a => Av F pins ρ σ a ∨ a = p) (Av F (.acc p xs :: pins) ρ σ) H' H' := ⟨fun a o _ h => h, fun a h => .inl (avE a h)⟩
  have nAv : ¬ Av F pins ρ σ p := fun h => by obtain ⟨o, h⟩ := O.avH h; rw [hp] at h; cases h
  refine ⟨O.len, fun i e h => ?_, O.own, fun q hq => ?_, ?_, fun a o n h => g _ _ (O.fr a o n h), fun a h => ?_, O.ln, O.h0, O.lf⟩
  · obtain ⟨v, h1, h2⟩ := O.ent i e h
    exact ⟨v, h1, EntOk.go G h2 fun a us _ z _ => g _ _ z⟩
  · rcases List.mem_cons.mp hq with rfl | hq
    · refine ⟨vs, hp', h.go G2, ?_, fun ⟨i, z⟩ => nAv (.inr (.inl ⟨i, z⟩))⟩
      cases e : F.H0 p with
      | none => rfl
      | some o =>
        by_cases hl : F.L p
        · exact absurd (.inl (O.ln p hl)) nAv
        · rw [O.fr p o hl e] at hp; cases hp
    · have h := O.pin q hq
      cases q with
      | val v r => exact ROk.go G h
      | acc a ys =>
        obtain ⟨us, h1, h2, h3⟩ := h
        exact ⟨us, g _ _ h1, h2.go G, h3⟩
  · exact List.nodup_cons.mpr ⟨fun h => nAv (.inr (.inr h)), O.acs⟩
  · obtain ⟨o, h⟩ := O.nh a h
    exact ⟨o, g _ _ h⟩
def dCallF (ks : List Kd) (S : SdL) (t : TDA) : TDL := fun ρ Q => t ρ fun rs ρ1 => onArgs ρ1 ks rs fun xs => S xs fun zs => Q zs ρ1
theorem pl_callF {ks : List Kd} {S : SdL} {k : Nat} {f : Addr} {fd : FuncData} {ps : List Str} {x : Str} {p : Pos} (G : FnG X.prog X.w X.K X.mg X.base CX0 k f fd ps (spF F.K ks S)) (hS : MonoF S) (hr : Room k X.A) (hgd : X.A.guards = some []) (hg : Gl X x) (hm : X.mg x = some (.ref f)) (hk : PySem.W.keepIn X.K (.ref f) = true) (hb : Binds X.K fd ps [])
    (ha : PDA X F (e :: es) t d) (hdb : (x == ("__debug__" : Str)) = false := by decide) (he : starEach (e :: es) X.env = (false, eval e X.env) :: starEach es X.env := by rfl) (hpl : (backTo pos (starEach es X.env)).any (·.1) = false := by rfl) :
    PDL X F (.Call (.Name x p) (e :: es) [] pos) (fun σ H Q => t σ H fun vs H1 => spF F.K ks S vs H1 Q E0) (dCallF ks S d) := by
  refine ⟨pe_callG G hr hgd hg hm hk hb ha.pa hdb he hpl, fun pins ρ σ H Q O h => ?_, fun ρ Q Q' hq h => ha.da.mono _ _ _ (fun rs ρ1 h1 => onArgs_mono h1 fun xs h2 => hS _ _ _ (fun z => hq _ _) h2) h⟩
  refine ha.da.run pins ρ σ H _ O (ha.da.mono _ _ _ (fun rs ρ1 h1 vs H1 O1 R1 => ?_) h)
  obtain ⟨xs, e, h2⟩ := onArgs_of h1
  exact ⟨Av F pins ρ1 σ, xs, fun a ha => O1.avH ha, args_ok O1 (fun a z => z.elim) (fun _ _ _ _ _ _ z => z) R1 e, hS _ _ _ (fun zs q p H' us g hp hp' im => q p H' (O1.pushL2 g hp hp' im)) h2⟩
end
section
variable {X : Cx} {F : Fm} {a b : Expr} {ta tb : TE} {da db : TDE} {pos : Pos}
/-! ### comparisons as tests -/
theorem pt_cmpD {op : CmpOp} {r : R2} {f : F2} (ho : OpR X (compareOp op) r) (hm : behindInMarks op b = false) (hf : SO F.K r f) (ha : PD X F a ta da) (hb : PD X F b tb db) : PDT X F (.Compare a [op] [b] pos) (tTest (tOp r ta tb)) (dTV (dOp f da db)) :=
  ⟨pt_cmpR ho ha.pe hb.pe hm, dt_tv (k := tTest) (fun _ => rfl) (de_op hf ha.de hb.de)⟩
theorem pt_lt (ha : PD X F a ta da) (hb : PD X F b tb db) : PDT X F (.Compare a [.Lt] [b] pos) (tTest (tOp (rI0 fun i j => .bl (decide (i < j))) ta tb)) (dTV (dOp fLt da db)) := pt_cmpD op_lt (nomark _) (so_I0 fun _ _ => .bool) ha hb
theorem pt_le (ha : PD X F a ta da) (hb : PD X F b tb db) : PDT X F (.Compare a [.LtE] [b] pos) (tTest (tOp (rI0 fun i j => .bl (decide (i ≤ j))) ta tb)) (dTV (dOp fLe da db)) := pt_cmpD op_le (nomark _) (so_I0 fun _ _ => .bool) ha hb
theorem pt_gt (ha : PD X F a ta da) (hb : PD X F b tb db) : PDT X F (.Compare a [.Gt] [b] pos) (tTest (tOp (rI0 fun i j => .bl (decide (j < i))) ta tb)) (dTV (dOp fGt da db)) := pt_cmpD op_gt (nomark _) (so_I0 fun _ _ => .bool) ha hb
theorem pt_ge (ha : PD X F a ta da) (hb : PD X F b tb db) : PDT X F (.Compare a [.GtE] [b] pos) (tTest (tOp (rI0 fun i j => .bl (decide (j ≤ i))) ta tb)) (dTV (dOp fGe da db)) := pt_cmpD op_ge (nomark _) (so_I0 fun _ _ => .bool) ha hb
theorem pt_eq (hu : X.A.units + 64 < cLine) (hK : X.K = F.K) (ha : PD X F a ta da) (hb : PD X F b tb db) : PDT X F (.Compare a [.Eq] [b] pos) (tTest (tOp (rEqD F.K) ta tb)) (dTV (dOp fEq da db)) := by
  have h := pt_cmpD (X := X) (F := F) (pos := pos) (op_eqD hu) (nomark _) (by rw [hK]; exact so_Eq) ha hb
  rw [hK] at h; exact h
theorem pt_ne (hu : X.A.units + 64 < cLine) (hK : X.K = F.K) (ha : PD X F a ta da) (hb : PD X F b tb db) : PDT X F (.Compare a [.NotEq] [b] pos) (tTest (tOp (rNeD F.K) ta tb)) (dTV (dOp fNe da db)) := by
  have h := pt_cmpD (X := X) (F := F) (pos := pos) (op_neD hu) (nomark _) (by rw [hK]; exact so_Ne) ha hb
  rw [hK] at h; exact h
end
end DV
namespace DV
open PySem PySem.Spec PyProof.Rows L2
/-! ## what is shown, and how long it is -/
mutual
def okd : PyData → Bool
  | .none => true
  | .bool _ => true
  | .int i => decide (i.natAbs.log2 < 1000)
  | .str x => (PyData.str x).canLay0 && x.cps.toList.all fun c => decide (c < 16 ^ 8)
  | .list xs => okds xs
  | .tuple xs => okds xs
  | .dict _ => false
def okds : List PyData → Bool
  | [] => true
  | x :: xs => okd x && okds xs
end
mutual
def cost : PyData → Nat
  | .none => 5
  | .bool _ => 5
  | .int _ => 1001
  | .str x => 10 * x.length + 2
  | .list xs => costs xs + 3
  | .tuple xs => costs xs + 3
  | .dict _ => 0
def costs : List PyData → Nat
  | [] => 0
  | x :: xs => cost x + 2 + costs xs
end
theorem piled_costs : ∀ {ts : List Str} {xs : List PyData}, ts = PyData.shownAll xs → (∀ x ∈ xs, x.shown.length ≤ cost x) → (Str.join ", " ts).length ≤ costs xs
  | _, [], h, _ => by
    rw [PyData.shownAll_nil] at h; subst h
    show (Str.join ", " []).length ≤ 0
    decide
  | _, [x], h, hx => by
    rw [PyData.shownAll_cons, PyData.shownAll_nil] at h; subst h
    have := hx x (List.mem_cons_self ..)
    show x.shown.length ≤ cost x + 2 + 0
    omega
  | _, x :: y :: xs, h, hx => by
    rw [PyData.shownAll_cons] at h; subst h
    have ih := piled_costs (ts := PyData.shownAll (y :: xs)) (xs := y :: xs) rfl fun z hz => hx z (List.mem_cons_of_mem _ hz)
    have h1 := hx x (List.mem_cons_self ..)
    have e : Str.join ", " (x.shown :: PyData.shownAll (y :: xs)) = x.shown ++ ", " ++ Str.join ", " (PyData.shownAll (y :: xs)) := by
      rw [PyData.shownAll_cons]; rfl
    rw [e, strLen_append, strLen_append]
    have e2 : (Str.ofString ", ").length = 2 := by decide
    have e3 : costs (x :: y :: xs) = cost x + 2 + costs (y :: xs) := by simp only [costs]
    rw [e3]
    omega
mutual
theorem shown_le : ∀ d : PyData, okd d = true → d.shown.length ≤ cost d
  | .none, _ => by rw [PyData.shown_none]; simp only [cost]; decide
  | .bool b, _ => by rw [PyData.shown_bool]; simp only [cost]; cases b <;> decide
  | .int i, h => by
    simp only [okd, decide_eq_true_eq] at h
    rw [PyData.shown_int, PySem.ofString_length]
    simp only [cost]
    exact int_text_length_le (k := 1000) (by decide) h
  | .str x, h => by
    simp only [okd, Bool.and_eq_true, List.all_eq_true, decide_eq_true_eq] at h
    rw [PyData.shown_str]
    simp only [cost]
    exact StrLaws.reprText_len x h.2
  | .list xs, h => by
    simp only [okd] at h
    rw [PyData.shown_list, strLen_append, strLen_append]
    have := piled_costs (ts := PyData.shownAll xs) rfl (shown_les xs h)
    simp only [cost]
    have e1 : (Str.ofString "[").length = 1 := by decide
    have e2 : (Str.ofString "]").length = 1 := by decide
    omega
  | .tuple xs, h => by
    simp only [okd] at h
    rw [PyData.shown_tuple, strLen_append, strLen_append]
    have := piled_costs (ts := PyData.shownAll xs) rfl (shown_les xs h)
    simp only [cost]
    have e1 : (Str.ofString "(").length = 1 := by decide
    have e2 : (Str.ofString (if (xs.length == 1) = true then ",)" else ")")).length ≤ 2 := by split <;> decide
    omega
  | .dict _, h => by simp only [okd] at h; cases h
theorem shown_les : ∀ xs : List PyData, okds xs = true → ∀ x ∈ xs, x.shown.length ≤ cost x
  | [], _, x, hx => nomatch hx
  | y :: ys, h, x, hx => by
    simp only [okds, Bool.and_eq_true] at h
    rcases List.mem_cons.mp hx with e | hx
    · rw [e]; exact shown_le y h.1
    · exact shown_les ys h.2 x hx
end
mutual
theorem okd_facts : ∀ d : PyData, okd d = true → d.canLay0 = true ∧ d.showable = true ∧ d.hasDict = false
  | .none, _ => ⟨by simp [PyData.canLay0], by simp [PyData.showable], by simp [PyData.hasDict]⟩
  | .bool b, _ => ⟨by simp [PyData.canLay0], by simp [PyData.showable], by simp [PyData.hasDict]⟩
  | .int i, h => by
    simp only [okd, decide_eq_true_eq] at h
    exact ⟨by simp [PyData.canLay0], by simp only [PyData.showable, decide_eq_true_eq]; omega, by simp [PyData.hasDict]⟩
  | .str x, h => by
    simp only [okd, Bool.and_eq_true] at h
    exact ⟨h.1, by simp [PyData.showable], by simp [PyData.hasDict]⟩
  | .list xs, h => by
    simp only [okd] at h
    simp only [PyData.canLay0, PyData.showable, PyData.hasDict]
    exact okds_facts xs h
  | .tuple xs, h => by
    simp only [okd] at h
    simp only [PyData.canLay0, PyData.showable, PyData.hasDict]
    exact okds_facts xs h
  | .dict _, h => by simp only [okd] at h; cases h
theorem okds_facts : ∀ xs : List PyData, okds xs = true → PyData.canLayAll0 xs = true ∧ PyData.showableAll xs = true ∧ PyData.hasDictAll xs = false
  | [], _ => ⟨by simp [PyData.canLayAll0], by simp [PyData.showableAll], by simp [PyData.hasDictAll]⟩
  | y :: ys, h => by
    simp only [okds, Bool.and_eq_true] at h
    obtain ⟨a1, a2, a3⟩ := okd_facts y h.1
    obtain ⟨b1, b2, b3⟩ := okds_facts ys h.2
    simp only [PyData.canLayAll0, PyData.showableAll, PyData.hasDictAll]
    exact ⟨by rw [a1, b1]; rfl, by rw [a2, b2]; rfl, by rw [a3, b3]; rfl⟩
end
/-- data that can be compared and shown -/
structure Fine (d : PyData) : Prop where
  ok : okd d = true
  deep : d.depth ≤ 60
  few : cost d ≤ 16000000
theorem Fine.shaped {d : PyData} (h : Fine d) : SeqAt.shaped d = true := by
  unfold SeqAt.shaped
  rw [Bool.and_eq_true, decide_eq_true_eq]
  exact ⟨(okd_facts d h.ok).1, by have := h.deep; omega⟩
theorem Fine.plain {d : PyData} (h : Fine d) : Plain d := by
  refine ⟨(okd_facts d h.ok).2.1, (okd_facts d h.ok).2.2, h.deep, Nat.le_trans (shown_le d h.ok) (Nat.le_trans h.few ?_)⟩
  rw [sizeLine_eq]; decide
theorem Fine.refl {d : PyData} (h : Fine d) : PyData.eqv d d = true := SeqAt.eqv_refl d (okd_facts d h.ok).1
theorem shaped_str {x : Str} (h : (PyData.str x).canLay0 = true) : SeqAt.shaped (.str x) = true := by
  unfold SeqAt.shaped
  rw [Bool.and_eq_true, decide_eq_true_eq]
  exact ⟨h, by simp [PyData.depth]⟩
end DV
namespace DV
open PySem PySem.Spec PyProof.Rows L2
/-! ## words for readings -/
theorem few_le {n : Nat} (h : n ≤ 100000) : Few n := Nat.le_trans h (by rw [sizeLine_eq]; decide)
theorem few_iff {n : Nat} : (n ≤ sizeLine) = Few n := rfl
theorem sh_int {i : Int} : SeqAt.shaped (.int i) = true := by simp [SeqAt.shaped, PyData.canLay0, PyData.depth]
theorem sh_bool {i : Bool} : SeqAt.shaped (.bool i) = true := by simp [SeqAt.shaped, PyData.canLay0, PyData.depth]
theorem eqv_int {i j : Int} : PyData.eqv (.int i) (.int j) = decide (i = j) := by
  simp only [PyData.eqv]; exact Bool.beq_eq_decide_eq i j
theorem on0 {x : PyData} {xs : List PyData} {f : PyData → Prop} : onAt (x :: xs) 0 f = f x := by
  have e : atI (x :: xs) 0 = some x := by
    unfold atI ixN
    rw [if_pos (by omega), if_pos (by rw [List.length_cons]; omega)]; rfl
  unfold onAt; rw [e]
theorem on1 {x y : PyData} {xs : List PyData} {f : PyData → Prop} : onAt (x :: y :: xs) 1 f = f y := by
  have e : atI (x :: y :: xs) 1 = some y := by
    unfold atI ixN
    rw [if_pos (by omega), if_pos (by rw [List.length_cons, List.length_cons]; omega)]; rfl
  unfold onAt; rw [e]
theorem on2 {x y z : PyData} {xs : List PyData} {f : PyData → Prop} : onAt (x :: y :: z :: xs) 2 f = f z := by
  have e : atI (x :: y :: z :: xs) 2 = some z := by
    unfold atI ixN
    rw [if_pos (by omega), if_pos (by rw [List.length_cons, List.length_cons, List.length_cons]; omega)]; rfl
  unfold onAt; rw [e]
theorem on3 {x y z u : PyData} {xs : List PyData} {f : PyData → Prop} : onAt (x :: y :: z :: u :: xs) 3 f = f u := by
  have e : atI (x :: y :: z :: u :: xs) 3 = some u := by
    unfold atI ixN
    rw [if_pos (by omega), if_pos (by rw [List.length_cons, List.length_cons, List.length_cons, List.length_cons]; omega)]; rfl
  unfold onAt; rw [e]
theorem cutD_sub {xs : List PyData} {lo hi : Option Int} : ∀ y ∈ cutD xs lo hi, y ∈ xs := fun y h => List.mem_of_mem_drop (List.mem_of_mem_take h)
theorem cutD_len {xs : List PyData} {lo hi : Option Int} : (cutD xs lo hi).length ≤ xs.length := by
  unfold cutD
  rw [List.length_take, List.length_drop]; omega
theorem ite_t {c : Prop} [Decidable c] {A B : Prop} (h : c) (k : A) : if decide c = true then A else B := by rw [decide_eq_true h, if_pos rfl]; exact k
theorem ite_f {c : Prop} [Decidable c] {A B : Prop} (h : ¬ c) (k : B) : if decide c = true then A else B := by rw [decide_eq_false h, if_neg (by decide)]; exact k
theorem ite_b {c : Prop} [Decidable c] {A B : Prop} (k : c → A) (m : ¬ c → B) : if decide c = true then A else B := by
  by_cases h : c
  · exact ite_t h (k h)
  · exact ite_f h (m h)
theorem cmw {i j : Int} {a b : Nat} (ha : i.natAbs < 2 ^ a) (hb : j.natAbs < 2 ^ b) (h0 : 0 < a := by decide) (h1 : 0 < b := by decide) (h : a + b ≤ 1000000 := by decide) : CMulW i j := wide_mul ha hb h0 h1 h
theorem cdw {i j : Int} {b : Nat} (h : 0 < j) (hb : j.natAbs < 2 ^ b) (h0 : 0 < b := by decide) (h9 : b ≤ 9000 := by decide) : CDivW i j := wide_div h hb h0 h9
/-- one statement, what follows kept shut -/
theorem seqI {t u : TDS} {DD : DEnds} {ρ : Rho} (h : ∀ k, k = u DD → t { DD with nx := k } ρ) : dSeq t u DD ρ := h _ rfl
theorem tn0 : Int.toNat 0 = 0 := rfl
theorem tn1 : Int.toNat 1 = 1 := rfl
theorem tn2 : Int.toNat 2 = 2 := rfl
theorem tn3 : Int.toNat 3 = 3 := rfl
/-! ## the draws of the laws -/
/-- the state of the draws, behind at most m of them -/
def Bag (m : Nat) (bag : List PyData) : Prop := ∃ (a b c : Int) (cells : List Int), bag = [.int a, .int b, .int c, .list (cells.map .int)] ∧ 0 ≤ a ∧ 0 ≤ b ∧ b < 4294967296 ∧ 0 ≤ c ∧ c ≤ m ∧ cells.length ≤ 63 ∧ ∀ k ∈ cells, (0 : Int) ≤ k
theorem Bag.up {m n : Nat} {bag : List PyData} (h : Bag m bag) (k : m ≤ n) : Bag n bag := by
  obtain ⟨a, b, c, cells, e, h1, h2, h3, h4, h5, h6⟩ := h
  exact ⟨a, b, c, cells, e, h1, h2, h3, h4, by omega, h6⟩
def S_take : Sb := fun bag xs Q => ∃ (m : Nat) (n : Int), Bag m bag ∧ m < 2 ^ 60 ∧ xs = [.int n] ∧ 0 < n ∧ n.natAbs < 2 ^ 8000 ∧ ∀ (v : Int) bag', 0 ≤ v → v < n → Bag (m + 1) bag' → Q (.int v) bag'
theorem m_take : MonoB S_take := fun bag xs Q Q' hq ⟨m, n, h1, h2, h3, h4, h5, h6⟩ => ⟨m, n, h1, h2, h3, h4, h5, fun v b a1 a2 a3 => hq _ _ (h6 v b a1 a2 a3)⟩
def td_take : TDS := dSeq
          (dIfS (dTV (dOp fEq (dIx (dVar 0) (dC (PyData.int 0))) (dC (PyData.int 0))))
            (dSeq
              (dAsg
                (dIx
                  (dOfL
                    (dCat
                      (dOfL
                        (dSlL (dIx (dVar 0) (dC (PyData.int 3))) (dPart (dIx (dVar 0) (dC (PyData.int 2)))) dNoPart))
                      (dOfL (dLst (dCons (dC (PyData.int 0)) dNil)))))
                  (dC (PyData.int 0)))
                (setR 2))
              (dSeq (dAddItem 0 (dC (PyData.int 2)) (dC (PyData.int 1)))
                (dSeq
                  (dIfS (dTV (dOp fGe (dVar 2) (dOp fPow (dC (PyData.int 10)) (dC (PyData.int 18)))))
                    (dSetItem 0 (dVar 2) (dC (PyData.int 0))) dNext)
                  (dSeq
                    (dAsg
                      (dOp fAdd
                        (dOp fAdd (dOp fMul (dIx (dVar 0) (dC (PyData.int 1))) (dC (PyData.int 48271)))
                          (dOp fMod (dCB fInt (dCons (dVar 2) dNil)) (dC (PyData.int 2147483647))))
                        (dOp fMul (dC (PyData.int 7919)) (dIx (dVar 0) (dC (PyData.int 2)))))
                      (setR 3))
                    (dSetItem 0 (dOp fMod (dCB fInt (dCons (dVar 3) dNil)) (dC (PyData.int 2147483647)))
                      (dC (PyData.int 1)))))))
            dNext)
          (dSeq
            (dIfS (dTV (dOp fGt (dIx (dVar 0) (dC (PyData.int 0))) (dC (PyData.int 0))))
              (dSeq (dAsg (dOp fMod (dCB fInt (dCons (dIx (dVar 0) (dC (PyData.int 0))) dNil)) (dVar 1)) (setR 4))
                (dSeq
                  (dSetItem 0 (dOp fDiv (dCB fInt (dCons (dIx (dVar 0) (dC (PyData.int 0))) dNil)) (dVar 1))
                    (dC (PyData.int 0)))
                  (dRet (dVar 4))))
              dNext)
            (dSeq
              (dAsg
                (dOp fMod
                  (dCB fInt
                    (dCons
                      (dOp fMul (dOp fAdd (dIx (dVar 0) (dC (PyData.int 1))) (dC (PyData.int 1)))
                        (dC (PyData.int 39373)))
                      dNil))
                  (dC (PyData.int 1000000007)))
                (setR 5))
              (dSeq
                (dAsg
                  (dOp fMod
                    (dCB fInt
                      (dCons
                        (dOp fMul
                          (dOp fMod (dCB fInt (dCons (dOp fMul (dVar 5) (dVar 5)) dNil)) (dC (PyData.int 998244353)))
                          (dC (PyData.int 30011)))
                        dNil))
                    (dC (PyData.int 998244353)))
                  (setR 6))
                (dRet (dOp fMod (dCB fInt (dCons (dOp fDiv (dVar 6) (dC (PyData.int 7))) dNil)) (dVar 1))))))
/-- behind the first if -/
def td_take2 : TDS := (dSeq
            (dIfS (dTV (dOp fGt (dIx (dVar 0) (dC (PyData.int 0))) (dC (PyData.int 0))))
              (dSeq (dAsg (dOp fMod (dCB fInt (dCons (dIx (dVar 0) (dC (PyData.int 0))) dNil)) (dVar 1)) (setR 4))
                (dSeq
                  (dSetItem 0 (dOp fDiv (dCB fInt (dCons (dIx (dVar 0) (dC (PyData.int 0))) dNil)) (dVar 1))
                    (dC (PyData.int 0)))
                  (dRet (dVar 4))))
              dNext)
            (dSeq
              (dAsg
                (dOp fMod
                  (dCB fInt
                    (dCons
                      (dOp fMul (dOp fAdd (dIx (dVar 0) (dC (PyData.int 1))) (dC (PyData.int 1)))
                        (dC (PyData.int 39373)))
                      dNil))
                  (dC (PyData.int 1000000007)))
                (setR 5))
              (dSeq
                (dAsg
                  (dOp fMod
                    (dCB fInt
                      (dCons
                        (dOp fMul
                          (dOp fMod (dCB fInt (dCons (dOp fMul (dVar 5) (dVar 5)) dNil)) (dC (PyData.int 998244353)))
                          (dC (PyData.int 30011)))
                        dNil))
                    (dC (PyData.int 998244353)))
                  (setR 6))
                (dRet (dOp fMod (dCB fInt (dCons (dOp fDiv (dVar 6) (dC (PyData.int 7))) dNil)) (dVar 1))))))
theorem rd_take2 {m : Nat} {n a b c : Int} {cells : List Int} {x2 x3 : Option Ent} {Q : PyData → List PyData → Prop} (hn : 0 < n) (hn2 : n.natAbs < 2 ^ 8000) (h0 : 0 ≤ a) (h1 : 0 ≤ b) (h2 : b < 4294967296) (h3 : 0 ≤ c) (h4 : c ≤ m) (h5 : cells.length ≤ 63) (h6 : ∀ k ∈ cells, (0 : Int) ≤ k)
    (q : ∀ (v : Int) bag', 0 ≤ v → v < n → Bag m bag' → Q (.int v) bag') : td_take2 { nx := fun ρ => retB (.d .none) ρ Q, rt := fun r ρ => retB r ρ Q } [some (.own [.int a, .int b, .int c, .list (cells.map .int)]), some (.d (.int n)), x2, x3, none, none, none] := by
  unfold td_take2
  simp only [dSeq, dAsg, dCB, dCons, dNil, dVar, onVs, vals, val, slot, setR, fGcd, dIfS, dTV, dOp, dBin, onV2, fLt, fLe, fGt, fGe, fAdd, fSub, fMul, fDiv, fMod, fI0, dC, dUn, onV, fNeg, dNext, dRet, dTup, onD, dats, fDivZ, fI, fPow, Few, retP, fAbs, fInt, fMax, fMin, fLen, fSqrt, fEq, fNe, dNot, dAnd, dOr, dAndV, dOrV, dNotV, dIfE, dDrop, dRetN, dPar, noO, dSetL, dLst, dOfL, dOwnM, onOwn, onDat, kAppend, kInsert, dSetItem, dAddItem, dIx, onItems, items, onInt, dNoPart, dPart, dSlice, onL, litems, dSlL, dCat, onM, mitems, dTupOf, dSeqI, dRng1, dRng2, dCallP, dCallB, dCallF, noSelf, onArgs, dats2, dIsi, tyName, dYes, dgTup, dgCons, dgNil, retB, dBreak, dCont, ne_eq, not_false_eq_true, true_and, and_true, List.getElem?_cons_zero, List.getElem?_cons_succ, List.set_cons_zero, List.set_cons_succ, Option.map, List.length_cons, List.length_nil, on0, on1, on2, on3]
  refine ite_b (fun ha => ?_) fun ha => ?_
  · refine ⟨hn, cdw hn hn2, ⟨by decide, by decide⟩, ?_⟩
    exact q _ _ (Int.emod_nonneg _ (by clear hn2; omega)) (Int.emod_lt_of_pos _ hn) ⟨a / n, b, c, cells, rfl, Int.ediv_nonneg h0 (by clear hn2; omega), h1, h2, h3, h4, h5, h6⟩
  · have e0 : ∀ x k : Int, 0 < k → 0 ≤ x % k ∧ x % k < k := fun x k hk => ⟨Int.emod_nonneg _ (by omega), Int.emod_lt_of_pos _ hk⟩
    refine ⟨cmw (a := 40) (b := 20) (by omega) (by decide), by decide, ?_⟩
    obtain ⟨u1, u2⟩ := e0 ((b + 1) * 39373) 1000000007 (by decide)
    generalize (b + 1) * 39373 % 1000000007 = u at u1 u2 ⊢
    refine ⟨cmw (a := 40) (b := 40) (by omega) (by omega), by decide, ?_⟩
    obtain ⟨w1, w2⟩ := e0 (u * u) 998244353 (by decide)
    generalize u * u % 998244353 = w at w1 w2 ⊢
    refine ⟨cmw (a := 40) (b := 20) (by omega) (by decide), by decide, cdw (b := 20) (by decide) (by decide), hn, ?_⟩
    exact q _ _ (e0 _ n hn).1 (e0 _ n hn).2 ⟨a, b, c, cells, rfl, h0, h1, h2, h3, h4, h5, h6⟩
theorem rd_take {bag xs : List PyData} {Q : PyData → List PyData → Prop} (hS : S_take bag xs Q) : td_take { nx := fun ρ => retB (.d .none) ρ Q, rt := fun r ρ => retB r ρ Q } (some (.own bag) :: rhoP 6 [.d] xs) := by
  obtain ⟨m, n, ⟨a, b, c, cells, rfl, h0, h1, h2, h3, h4, h5, h6⟩, hm, rfl, hn, hn2, q⟩ := hS
  have e : (some (.own [.int a, .int b, .int c, .list (cells.map .int)]) :: rhoP 6 [.d] [.int n] : Rho) = [some (.own [.int a, .int b, .int c, .list (cells.map .int)]), some (.d (.int n)), none, none, none, none, none] := rfl
  rw [e]
  show dSeq _ td_take2 _ _
  unfold dSeq
  simp only [dSeq, dAsg, dCB, dCons, dNil, dVar, onVs, vals, val, slot, setR, fGcd, dIfS, dTV, dOp, dBin, onV2, fLt, fLe, fGt, fGe, fAdd, fSub, fMul, fDiv, fMod, fI0, dC, dUn, onV, fNeg, dNext, dRet, dTup, onD, dats, fDivZ, fI, fPow, Few, retP, fAbs, fInt, fMax, fMin, fLen, fSqrt, fEq, fNe, dNot, dAnd, dOr, dAndV, dOrV, dNotV, dIfE, dDrop, dRetN, dPar, noO, dSetL, dLst, dOfL, dOwnM, onOwn, onDat, kAppend, kInsert, dSetItem, dAddItem, dIx, onItems, items, onInt, dNoPart, dPart, dSlice, onL, litems, dSlL, dCat, onM, mitems, dTupOf, dSeqI, dRng1, dRng2, dCallP, dCallB, dCallF, noSelf, onArgs, dats2, dIsi, tyName, dYes, dgTup, dgCons, dgNil, retB, dBreak, dCont, ne_eq, not_false_eq_true, true_and, and_true, List.getElem?_cons_zero, List.getElem?_cons_succ, List.set_cons_zero, List.set_cons_succ, Option.map, List.length_cons, List.length_nil, on0, on1, on2, on3, sh_int, eqv_int]
  refine ite_b (fun ha => ?_) fun ha => ?_
  · -- the next cell
    have hc : ∃ (k : Int) (rest : List PyData), cutD (cells.map PyData.int) (some c) none ++ [PyData.int 0] = .int k :: rest ∧ 0 ≤ k := by
      cases e1 : cutD (cells.map PyData.int) (some c) none with
      | nil => exact ⟨0, [], rfl, by decide⟩
      | cons y ys =>
        have hy : y ∈ cells.map PyData.int := cutD_sub (lo := some c) (hi := none) y (by rw [e1]; exact List.mem_cons_self ..)
        obtain ⟨k, hk, rfl⟩ := List.mem_map.mp hy
        exact ⟨k, ys ++ [PyData.int 0], rfl, h6 k hk⟩
    obtain ⟨k, rest, e1, hk⟩ := hc
    have hl : (cutD (cells.map PyData.int) (some c) none).length ≤ 63 := Nat.le_trans cutD_len (by rw [List.length_map]; exact h5)
    rw [e1]
    simp only [dSeq, dAsg, dCB, dCons, dNil, dVar, onVs, vals, val, slot, setR, fGcd, dIfS, dTV, dOp, dBin, onV2, fLt, fLe, fGt, fGe, fAdd, fSub, fMul, fDiv, fMod, fI0, dC, dUn, onV, fNeg, dNext, dRet, dTup, onD, dats, fDivZ, fI, fPow, Few, retP, fAbs, fInt, fMax, fMin, fLen, fSqrt, fEq, fNe, dNot, dAnd, dOr, dAndV, dOrV, dNotV, dIfE, dDrop, dRetN, dPar, noO, dSetL, dLst, dOfL, dOwnM, onOwn, onDat, kAppend, kInsert, dSetItem, dAddItem, dIx, onItems, items, onInt, dNoPart, dPart, dSlice, onL, litems, dSlL, dCat, onM, mitems, dTupOf, dSeqI, dRng1, dRng2, dCallP, dCallB, dCallF, noSelf, onArgs, dats2, dIsi, tyName, dYes, dgTup, dgCons, dgNil, retB, dBreak, dCont, ne_eq, not_false_eq_true, true_and, and_true, List.getElem?_cons_zero, List.getElem?_cons_succ, List.set_cons_zero, List.set_cons_succ, Option.map, List.length_cons, List.length_nil, on0, on1, on2, on3, sh_int, eqv_int, tn0, tn1, tn2, tn3]
    refine ⟨few_le (by omega), few_le (by omega), ⟨by decide, by decide⟩, ⟨by decide, by decide, by decide⟩, ?_⟩
    refine ite_b (fun hk2 => ?_) fun hk2 => ?_
    · refine ⟨⟨by decide, by decide⟩, cmw (a := 40) (b := 20) (by omega) (by decide), by decide, cmw (a := 20) (b := 62) (by decide) (by omega), by decide, ⟨by decide, by decide⟩, ?_⟩
      have z := Int.emod_lt_of_pos (b * 48271 + k % 2147483647 + 7919 * (c + 1)) (show (0 : Int) < 2147483647 by decide)
      exact rd_take2 (m := m + 1) hn hn2 hk (Int.emod_nonneg _ (by decide)) (by omega) (by omega) (by omega) h5 h6 q
    · refine ⟨cmw (a := 40) (b := 20) (by omega) (by decide), by decide, cmw (a := 20) (b := 62) (by decide) (by omega), by decide, ⟨by decide, by decide⟩, ?_⟩
      have z := Int.emod_lt_of_pos (b * 48271 + k % 2147483647 + 7919 * (c + 1)) (show (0 : Int) < 2147483647 by decide)
      exact rd_take2 (m := m + 1) hn hn2 h0 (Int.emod_nonneg _ (by decide)) (by omega) (by omega) (by omega) h5 h6 q
  · exact rd_take2 hn hn2 h0 h1 h2 h3 (by omega) h5 h6 q
/-- one of some things -/
def S_some : Sb := fun bag xs Q => ∃ (m : Nat) (ys : List PyData), Bag m bag ∧ m < 2 ^ 60 ∧ (xs = [.list ys] ∨ xs = [.tuple ys]) ∧ 0 < ys.length ∧ ys.length ≤ 100000 ∧ ∀ y bag', y ∈ ys → Bag (m + 1) bag' → Q y bag'
theorem m_some : MonoB S_some := fun bag xs Q Q' hq ⟨m, ys, h1, h2, h3, h4, h5, h6⟩ => ⟨m, ys, h1, h2, h3, h4, h5, fun y b a1 a2 => hq _ _ (h6 y b a1 a2)⟩
theorem onAt_mem {ys : List PyData} {v : Int} {f : PyData → Prop} (h0 : 0 ≤ v) (h1 : v < ys.length) (h : ∀ y ∈ ys, f y) : onAt ys v f := by
  have hv : v.toNat < ys.length := by omega
  have e : atI ys v = some ys[v.toNat] := by
    unfold atI ixN
    rw [if_pos h0, if_pos h1]
    exact List.getElem?_eq_getElem hv
  unfold onAt; rw [e]
  exact h _ (List.getElem_mem hv)
theorem rd_some {bag xs : List PyData} {Q : PyData → List PyData → Prop} (hS : S_some bag xs Q) :
    dRet (dIx (dVar 1) (dCallB [Kd.d] S_take (dCons (dVar 0) (dCons (dCB fLen (dCons (dVar 1) dNil)) dNil)))) { nx := fun ρ => retB (.d .none) ρ Q, rt := fun r ρ => retB r ρ Q } (some (.own bag) :: rhoP 1 [.d] xs) := by
  obtain ⟨m, ys, hb, hm, hx, h0, h1, q⟩ := hS
  have key : ∀ n : Int, n = (ys.length : Nat) → S_take bag [.int n] fun z bag' => ∃ v : Int, z = .int v ∧ 0 ≤ v ∧ v < ys.length ∧ Bag (m + 1) bag' := fun n hn =>
    ⟨m, n, hb, hm, rfl, by omega, Nat.lt_of_lt_of_le (by omega : n.natAbs < 2 ^ 17) (Nat.pow_le_pow_right (by decide) (by decide)), fun v bag' a1 a2 a3 => ⟨v, rfl, a1, by omega, a3⟩⟩
  rcases hx with rfl | rfl
  · have e : (some (.own bag) :: rhoP 1 [.d] [.list ys] : Rho) = [some (.own bag), some (.d (.list ys))] := rfl
    rw [e]
    simp only [dSeq, dAsg, dCB, dCons, dNil, dVar, onVs, vals, val, slot, setR, fGcd, dIfS, dTV, dOp, dBin, onV2, fLt, fLe, fGt, fGe, fAdd, fSub, fMul, fDiv, fMod, fI0, dC, dUn, onV, fNeg, dNext, dRet, dTup, onD, dats, fDivZ, fI, fPow, Few, retP, fAbs, fInt, fMax, fMin, fLen, fSqrt, fEq, fNe, dNot, dAnd, dOr, dAndV, dOrV, dNotV, dIfE, dDrop, dRetN, dPar, noO, dSetL, dLst, dOfL, dOwnM, onOwn, onDat, kAppend, kInsert, dSetItem, dAddItem, dIx, onItems, items, onInt, dNoPart, dPart, dSlice, onL, litems, dSlL, dCat, onM, mitems, dTupOf, dSeqI, dRng1, dRng2, dCallP, dCallB, dCallF, noSelf, onArgs, dats2, dIsi, tyName, dYes, dgTup, dgCons, dgNil, retB, dBreak, dCont, ne_eq, not_false_eq_true, true_and, and_true, List.getElem?_cons_zero, List.getElem?_cons_succ, List.set_cons_zero, List.set_cons_succ, Option.map, List.length_cons, List.length_nil]
    refine m_take _ _ _ _ (fun z bag' h => ?_) (key _ rfl)
    obtain ⟨v, rfl, a1, a2, a3⟩ := h
    exact onAt_mem a1 a2 fun y hy => q y bag' hy a3
  · have e : (some (.own bag) :: rhoP 1 [.d] [.tuple ys] : Rho) = [some (.own bag), some (.d (.tuple ys))] := rfl
    rw [e]
    simp only [dSeq, dAsg, dCB, dCons, dNil, dVar, onVs, vals, val, slot, setR, fGcd, dIfS, dTV, dOp, dBin, onV2, fLt, fLe, fGt, fGe, fAdd, fSub, fMul, fDiv, fMod, fI0, dC, dUn, onV, fNeg, dNext, dRet, dTup, onD, dats, fDivZ, fI, fPow, Few, retP, fAbs, fInt, fMax, fMin, fLen, fSqrt, fEq, fNe, dNot, dAnd, dOr, dAndV, dOrV, dNotV, dIfE, dDrop, dRetN, dPar, noO, dSetL, dLst, dOfL, dOwnM, onOwn, onDat, kAppend, kInsert, dSetItem, dAddItem, dIx, onItems, items, onInt, dNoPart, dPart, dSlice, onL, litems, dSlL, dCat, onM, mitems, dTupOf, dSeqI, dRng1, dRng2, dCallP, dCallB, dCallF, noSelf, onArgs, dats2, dIsi, tyName, dYes, dgTup, dgCons, dgNil, retB, dBreak, dCont, ne_eq, not_false_eq_true, true_and, and_true, List.getElem?_cons_zero, List.getElem?_cons_succ, List.set_cons_zero, List.set_cons_succ, Option.map, List.length_cons, List.length_nil]
    refine m_take _ _ _ _ (fun z bag' h => ?_) (key _ rfl)
    obtain ⟨v, rfl, a1, a2, a3⟩ := h
    exact onAt_mem a1 a2 fun y hy => q y bag' hy a3
/-- the draws at their start -/
def S_bag : SdL := fun xs Q => ∃ ns : List Int, xs = [.list (ns.map .int)] ∧ ∀ bag, Bag 0 bag → Q bag
theorem m_bag : MonoF S_bag := fun xs Q Q' hq ⟨ns, h1, h2⟩ => ⟨ns, h1, fun b hb => hq _ (h2 b hb)⟩
theorem rd_bag {xs : List PyData} {Q : List PyData → Prop} (hS : S_bag xs Q) :
    dLst (dCons (dC (PyData.int 0)) (dCons (dC (PyData.int 1234567891)) (dCons (dC (PyData.int 0)) (dCons (dOfL
                    (dLc (dSeqI (dOfL (dSlL (dVar 0) dNoPart (dPart (dC (PyData.int 63)))))) (setR 1) dYes
                      (dCB fAbs (dCons (dVar 1) dNil)) [1])) dNil)))) (rhoP 2 [.ro] xs) fun zs _ => Q zs := by
  obtain ⟨ns, rfl, q⟩ := hS
  have e : rhoP 2 [.ro] [.list (ns.map .int)] = [some (.ro (.list (ns.map .int))), none] := rfl
  rw [e]
  have hl : (cutD (ns.map PyData.int) none (some 63)).length ≤ 63 := by
    unfold cutD
    rw [List.length_take]
    have : HT.sIx (ns.map PyData.int).length (ns.map PyData.int).length (some 63) ≤ 63 := by
      rw [show (63 : Int) = ((63 : Nat) : Int) from rfl, HT.sIx_nat]; omega
    omega
  have hi : ∀ (i : Nat) (x : PyData), (cutD (ns.map PyData.int) none (some 63))[i]? = some x → ∃ k : Int, x = .int k := fun i x h => by
    have := cutD_sub x (List.mem_of_getElem? h)
    obtain ⟨k, _, rfl⟩ := List.mem_map.mp this
    exact ⟨k, rfl⟩
  simp only [dLc, dSeq, dAsg, dCB, dCons, dNil, dVar, onVs, vals, val, slot, setR, fGcd, dIfS, dTV, dOp, dBin, onV2, fLt, fLe, fGt, fGe, fAdd, fSub, fMul, fDiv, fMod, fI0, dC, dUn, onV, fNeg, dNext, dRet, dTup, onD, dats, fDivZ, fI, fPow, Few, retP, fAbs, fInt, fMax, fMin, fLen, fSqrt, fEq, fNe, dNot, dAnd, dOr, dAndV, dOrV, dNotV, dIfE, dDrop, dRetN, dPar, noO, dSetL, dLst, dOfL, dOwnM, onOwn, onDat, kAppend, kInsert, dSetItem, dAddItem, dIx, onItems, items, onInt, dNoPart, dPart, dSlice, onL, litems, dSlL, dCat, onM, mitems, dTupOf, dSeqI, dRng1, dRng2, dCallP, dCallB, dCallF, noSelf, onArgs, dats2, dIsi, tyName, dYes, dgTup, dgCons, dgNil, retB, dBreak, dCont, ne_eq, not_false_eq_true, true_and, and_true, List.getElem?_cons_zero, List.getElem?_cons_succ, List.set_cons_zero, List.set_cons_succ, Option.map, List.length_cons, List.length_nil]
  refine ⟨fun i hi => ?_, fun i acc ρ => i ≤ 63 ∧ ρ = [some (.ro (.list (ns.map .int))), none] ∧ ∃ cs : List Int, acc = cs.map .int ∧ cs.length = i ∧ ∀ k ∈ cs, (0 : Int) ≤ k, ⟨by omega, rfl, [], rfl, rfl, fun k hk => nomatch hk⟩, fun i x acc ρ hx hI => ?_, fun acc ρ hI => ?_⟩
  · obtain rfl : i = 1 := by simpa using hi
    rfl
  · obtain ⟨hi0, rfl, cs, rfl, hc, hp⟩ := hI
    obtain ⟨k, rfl⟩ := hi i x hx
    have hil : i < 63 := by
      have := (List.getElem?_eq_some_iff.mp hx).1
      omega
    simp only [dSeq, dAsg, dCB, dCons, dNil, dVar, onVs, vals, val, slot, setR, fGcd, dIfS, dTV, dOp, dBin, onV2, fLt, fLe, fGt, fGe, fAdd, fSub, fMul, fDiv, fMod, fI0, dC, dUn, onV, fNeg, dNext, dRet, dTup, onD, dats, fDivZ, fI, fPow, Few, retP, fAbs, fInt, fMax, fMin, fLen, fSqrt, fEq, fNe, dNot, dAnd, dOr, dAndV, dOrV, dNotV, dIfE, dDrop, dRetN, dPar, noO, dSetL, dLst, dOfL, dOwnM, onOwn, onDat, kAppend, kInsert, dSetItem, dAddItem, dIx, onItems, items, onInt, dNoPart, dPart, dSlice, onL, litems, dSlL, dCat, onM, mitems, dTupOf, dSeqI, dRng1, dRng2, dCallP, dCallB, dCallF, noSelf, onArgs, dats2, dIsi, tyName, dYes, dgTup, dgCons, dgNil, retB, dBreak, dCont, ne_eq, not_false_eq_true, true_and, and_true, List.getElem?_cons_zero, List.getElem?_cons_succ, List.set_cons_zero, List.set_cons_succ, Option.map, List.length_cons, List.length_nil, wipeR, if_pos]
    refine ⟨few_le (by rw [List.length_map]; omega), by omega, cs ++ [if k < 0 then -k else k], by rw [List.map_append]; rfl, by rw [List.length_append, hc]; rfl, fun j hj => ?_⟩
    rcases List.mem_append.mp hj with h | h
    · exact hp j h
    · obtain rfl : j = if k < 0 then -k else k := by simpa using h
      split <;> omega
  · obtain ⟨hi0, rfl, cs, rfl, hc, hp⟩ := hI
    exact ⟨few_le (by decide), q _ ⟨0, 1234567891, 0, cs, rfl, by decide, by decide, by decide, by decide, by decide, by omega, hp⟩⟩
/-- the same, and shown the same -/
def S_alike : Sd
  | [x, y], Q => (x = y ∧ Fine x) ∧ Q (.bool true)
  | _, _ => False
theorem m_alike : MonoP S_alike := fun xs Q Q' hq h => by
  unfold S_alike at h ⊢
  split at h
  · exact ⟨h.1, hq _ h.2⟩
  · exact h.elim
theorem rd_alike {xs : List PyData} {Q : PyData → Prop} (hS : S_alike xs Q) :
    dRet (dAndV (dOp fEq (dVar 0) (dVar 1)) (dOp fEqS (dCB fRepr (dCons (dVar 0) dNil)) (dCB fRepr (dCons (dVar 1) dNil)))) { nx := fun _ => Q .none, rt := fun r ρ => retP r ρ Q } (rhoP 2 [.ro, .ro] xs) := by
  unfold S_alike at hS
  split at hS
  · rename_i x y
    obtain ⟨⟨rfl, hf⟩, q⟩ := hS
    have e : rhoP 2 [.ro, .ro] [x, x] = [some (.ro x), some (.ro x)] := rfl
    rw [e]
    simp only [dSeq, dAsg, dCB, dCons, dNil, dVar, onVs, vals, val, slot, setR, fGcd, dIfS, dTV, dOp, dBin, onV2, fLt, fLe, fGt, fGe, fAdd, fSub, fMul, fDiv, fMod, fI0, dC, dUn, onV, fNeg, dNext, dRet, dTup, onD, dats, fDivZ, fI, fPow, Few, retP, fAbs, fInt, fMax, fMin, fLen, fSqrt, fEq, fNe, dNot, dAnd, dOr, dAndV, dOrV, dNotV, dIfE, dDrop, dRetN, dPar, noO, dSetL, dLst, dOfL, dOwnM, onOwn, onDat, kAppend, kInsert, dSetItem, dAddItem, dIx, onItems, items, onInt, dNoPart, dPart, dSlice, onL, litems, dSlL, dCat, onM, mitems, dTupOf, dSeqI, dRng1, dRng2, dCallP, dCallB, dCallF, noSelf, onArgs, dats2, dIsi, tyName, dYes, dgTup, dgCons, dgNil, retB, dBreak, dCont, ne_eq, not_false_eq_true, true_and, and_true, List.getElem?_cons_zero, List.getElem?_cons_succ, List.set_cons_zero, List.set_cons_succ, Option.map, List.length_cons, List.length_nil, fRepr, fEqS, hf.shaped, hf.refl, if_pos]
    exact ⟨hf.plain, hf.plain, by simpa only [decide_true] using q⟩
  · exact hS.elim
theorem law_args {K : PySem.W.Frag} {H : Hp} {a : Addr} {ns : List Int} {n : Nat} {S : Sd} {E : XK} (hl : ns.length ≤ n) (hS : SqL K H a (ns.map V.int)) (hm : MonoP S) (h : ∀ ns : List Int, ns.length ≤ n → S [.list (ns.map .int)] fun z => z = .bool true) :
    spP K [.ro] S [.ref a] H (fun v _ => v = .bl true) E := by
  refine ⟨fun _ => False, [.list (ns.map .int)], fun a z => z.elim, ?_, hm _ _ _ (fun z hz v H' _ im => ?_) (h ns hl)⟩
  · simp only [ArgsOk]
    refine ⟨.ref a, [], rfl, .inr ⟨a, ns.map .int, ns.map .int, rfl, rfl, ?_, ImAll.ints ns⟩, rfl⟩
    rcases hS with h | h
    · exact .inl ⟨h, fun z => z⟩
    · exact .inr (.inr h)
  · subst hz
    exact Im.bool_iff.mp im
end DV
namespace DV
open PySem PySem.Spec PyProof.Rows L2
/-! ## more rules -/
section
variable {X : Cx} {F : Fm} {a b c e : Expr} {es : List Expr} {ta tb tc te : TE} {da db dc de : TDE} {pos : Pos} {t : TA} {d : TDA}
/-! ### is None -/
def isNo : PyData → Bool
  | .none => true
  | _ => false
theorem isNo_of {K : PySem.W.Frag} {H : Hp} {v : V} {x : PyData} (h : Dp K H v x) : decide (v = .non) = isNo x := by
  cases h <;> rfl
def dIsN (te : TDE) : TDE := fun ρ Q => te ρ fun r ρ1 => onV ρ1 r fun x => Q (.d (.bool (isNo x))) ρ1
def dNotN (te : TDE) : TDE := fun ρ Q => te ρ fun r ρ1 => onV ρ1 r fun x => Q (.d (.bool (!isNo x))) ρ1
theorem de_isN (he : DE F te de) : DE F (tIsN te) (dIsN de) := by
  constructor
  · intro pins ρ σ H Q O h
    refine he.run pins ρ σ H _ O (he.mono _ _ _ (fun r ρ1 h1 v H1 O1 R1 => ?_) h)
    obtain ⟨x, e1, h2⟩ := onV_of h1
    rw [isNo_of (val_dp O1 R1 e1)]
    exact h2 _ _ O1 (.sc .bool)
  · intro ρ Q Q' hq h
    exact he.mono _ _ _ (fun r ρ1 h1 => onV_mono h1 fun x h2 => hq _ _ h2) h
theorem de_notN (he : DE F te de) : DE F (tNotN te) (dNotN de) := by
  constructor
  · intro pins ρ σ H Q O h
    refine he.run pins ρ σ H _ O (he.mono _ _ _ (fun r ρ1 h1 v H1 O1 R1 => ?_) h)
    obtain ⟨x, e1, h2⟩ := onV_of h1
    rw [isNo_of (val_dp O1 R1 e1)]
    exact h2 _ _ O1 (.sc .bool)
  · intro ρ Q Q' hq h
    exact he.mono _ _ _ (fun r ρ1 h1 => onV_mono h1 fun x h2 => hq _ _ h2) h
theorem pd_isN {j p2} (he : PD X F e te de) : PD X F (.Compare e [.Is] [.Constant .none j p2] pos) (tIsN te) (dIsN de) := ⟨pe_cmp (pc_isN he.pe), de_isN he.de⟩
theorem pd_notN {j p2} (he : PD X F e te de) : PD X F (.Compare e [.IsNot] [.Constant .none j p2] pos) (tNotN te) (dNotN de) := ⟨pe_cmp (pc_notN he.pe), de_notN he.de⟩
theorem pt_isN {j p2} (he : PD X F e te de) : PDT X F (.Compare e [.Is] [.Constant .none j p2] pos) (tB (tIsN te)) (dTV (dIsN de)) := ⟨pt_cmp (pc_isN he.pe), dt_tv (k := tB) (fun _ => rfl) (de_isN he.de)⟩
theorem pt_notN {j p2} (he : PD X F e te de) : PDT X F (.Compare e [.IsNot] [.Constant .none j p2] pos) (tB (tNotN te)) (dTV (dNotN de)) := ⟨pt_cmp (pc_notN he.pe), dt_tv (k := tB) (fun _ => rfl) (de_notN he.de)⟩
/-! ### in, not in a list of data -/
def fInD : F2
  | x, .list ds, Q => (SeqAt.shaped x = true ∧ SeqAt.shaped (.list ds) = true) ∧ Q (.bool (ds.any fun z => PyData.eqv z x))
  | _, _, _ => False
def fNotInD : F2
  | x, .list ds, Q => (SeqAt.shaped x = true ∧ SeqAt.shaped (.list ds) = true) ∧ Q (.bool (!ds.any fun z => PyData.eqv z x))
  | _, _, _ => False
theorem so_InD {K : PySem.W.Frag} : SO K (rInD K) fInD := by
  constructor
  · intro H x y dx dy Q h1 h2 q
    cases dy <;> first | exact q.elim | skip
    exact ⟨dx, _, h1, h2, q.1.1, q.1.2, q.2 _ .bool⟩
  · intro x y Q Q' hq q
    cases y <;> first | exact q.elim | skip
    exact ⟨q.1, hq _ q.2⟩
theorem so_NotInD {K : PySem.W.Frag} : SO K (rNotInD K) fNotInD := by
  constructor
  · intro H x y dx dy Q h1 h2 q
    cases dy <;> first | exact q.elim | skip
    exact ⟨dx, _, h1, h2, q.1.1, q.1.2, q.2 _ .bool⟩
  · intro x y Q Q' hq q
    cases y <;> first | exact q.elim | skip
    exact ⟨q.1, hq _ q.2⟩
/-! ### x += e -/
def dAug (i : Nat) (f : Int → Int → Int) (te : TDE) : TDS := fun DD ρ => onInt ρ (.o i) fun n => te ρ fun r ρ1 => onInt ρ1 r fun m => DD.nx (ρ1.set i (some (.d (.int (f n m)))))
theorem ds_aug {i : Nat} {f : Int → Int → Int} {op : Operator} {x : Str} {p2 : Pos} (hN : X.N.Nodup) (he : PD X F e te de) (ho : PIp X op (ipI f)) (hf : ¬ F.fix i) (hi : X.N[i]? = some x := by rfl) (hx : Loc X.env.scope x := by first | exact Or.inl rfl | exact Or.inr rfl) (hfn : X.fn x = true ∨ X.env.scope.names.lookup x = some .local := by first | exact .inl rfl | exact .inr rfl) :
    PDS X F (.AugAssign (.Name x p2) op e pos) (tAug i te (ipI f)) (dAug i f de) := by
  refine ⟨ps_aug hN hi hx he.pe ho hfn, fun pins ρ σ H D DD O S R h => ?_⟩
  obtain ⟨n, e1, h⟩ := onInt_of h
  have e1 : slot ρ i = some (.int n) := e1
  have hs : ∃ v, σ[i]? = some (some v) := by
    unfold slot at e1
    split at e1
    · rename_i y q
      obtain ⟨v, h1, _⟩ := O.ent i _ q; exact ⟨v, h1⟩
    · cases e1
    · rename_i y q
      obtain ⟨v, h1, _⟩ := O.ent i _ q; exact ⟨v, h1⟩
    · cases e1
  obtain ⟨v, hv⟩ := hs
  cases dp_int (slot_dp O hv e1)
  refine ⟨.int n, hv, ?_⟩
  refine he.de.run pins ρ σ H _ O (he.de.mono _ _ _ (fun r ρ1 h1 u H1 O1 R1 => ?_) h)
  obtain ⟨m, e2, h2⟩ := onInt_of h1
  cases dp_int (val_dp O1 R1 e2)
  exact ⟨n, m, rfl, rfl, R.nx _ _ _ (O1.put (S.fr hf) (fun _ z => by cases z) fun g e => by cases e; exact ⟨_, rfl, by simp only [EntOk, Im]⟩) h2⟩
/-! ### extend, pop -/
def kPop : List PyData → List R → (PyData → List PyData → Prop) → Prop
  | xs, [], Q => match xs[xs.length - 1]? with
    | some (.int k) => Q (.int k) xs.dropLast
    | some (.bool k) => Q (.bool k) xs.dropLast
    | _ => False
  | _, _, _ => False
/-! ### built-ins over lists of whole numbers, of truths -/
def asInts : List PyData → Option (List Int)
  | [] => some []
  | .int i :: xs => (asInts xs).map (i :: ·)
  | _ :: _ => none
def asBools : List PyData → Option (List Bool)
  | [] => some []
  | .bool i :: xs => (asBools xs).map (i :: ·)
  | _ :: _ => none
theorem asInts_map : ∀ ns : List Int, asInts (ns.map .int) = some ns
  | [] => rfl
  | n :: ns => by show (asInts (ns.map .int)).map (n :: ·) = _; rw [asInts_map ns]; rfl
theorem asBools_map : ∀ ns : List Bool, asBools (ns.map .bool) = some ns
  | [] => rfl
  | n :: ns => by show (asBools (ns.map .bool)).map (n :: ·) = _; rw [asBools_map ns]; rfl
theorem asInts_dp {K : PySem.W.Frag} {H : Hp} : ∀ {xs : List PyData} {vs : List V} {ns : List Int}, DpAll K H vs xs → asInts xs = some ns → vs = ns.map V.int
  | [], _, _, h, e => by cases h; cases e; rfl
  | .int i :: xs, _, _, h, e => by
    cases h with
    | cons h1 h2 =>
      simp only [asInts] at e
      cases e1 : asInts xs with
      | none => rw [e1] at e; cases e
      | some ms =>
        rw [e1] at e; cases e
        rw [asInts_dp h2 e1, dp_int h1]; rfl
  | .none :: _, _, _, _, e => by cases e
  | .bool _ :: _, _, _, _, e => by cases e
  | .str _ :: _, _, _, _, e => by cases e
  | .list _ :: _, _, _, _, e => by cases e
  | .tuple _ :: _, _, _, _, e => by cases e
  | .dict _ :: _, _, _, _, e => by cases e
theorem asBools_dp {K : PySem.W.Frag} {H : Hp} : ∀ {xs : List PyData} {vs : List V} {ns : List Bool}, DpAll K H vs xs → asBools xs = some ns → vs = ns.map V.bl
  | [], _, _, h, e => by cases h; cases e; rfl
  | .bool i :: xs, _, _, h, e => by
    cases h with
    | cons h1 h2 =>
      simp only [asBools] at e
      cases e1 : asBools xs with
      | none => rw [e1] at e; cases e
      | some ms =>
        rw [e1] at e; cases e
        rw [asBools_dp h2 e1, dp_bool h1]; rfl
  | .none :: _, _, _, _, e => by cases e
  | .int _ :: _, _, _, _, e => by cases e
  | .str _ :: _, _, _, _, e => by cases e
  | .list _ :: _, _, _, _, e => by cases e
  | .tuple _ :: _, _, _, _, e => by cases e
  | .dict _ :: _, _, _, _, e => by cases e
def fSum : FA
  | [.list xs], Q => match asInts xs with
    | some ns => Q (.int ns.sum)
    | _ => False
  | _, _ => False
theorem sc_sum {K : PySem.W.Frag} : SC K (rSum K) fSum := by
  constructor
  · intro H vs ds Q h q
    unfold fSum at q
    split at q
    · split at q
      · rename_i xs ns e
        obtain ⟨v, rfl, h1⟩ := dpall1 h
        cases h1 with
        | lst h2 h3 => exact ⟨_, ns, rfl, by rw [← asInts_dp h3 e]; exact h2, q _ .int⟩
      · exact q.elim
    · exact q.elim
  · intro ds Q Q' hq q
    unfold fSum at q ⊢
    split at q
    · split at q
      · rename_i xs ns e
        exact hq _ q
      · exact q.elim
    · exact q.elim
def fAllB : FA
  | [.list xs], Q => match asBools xs with
    | some ns => Q (.bool (ns.all id))
    | _ => False
  | _, _ => False
def fAnyB : FA
  | [.list xs], Q => match asBools xs with
    | some ns => Q (.bool (ns.any id))
    | _ => False
  | _, _ => False
theorem sc_all {K : PySem.W.Frag} : SC K (rAll K) fAllB := by
  constructor
  · intro H vs ds Q h q
    unfold fAllB at q
    split at q
    · split at q
      · rename_i xs ns e
        obtain ⟨v, rfl, h1⟩ := dpall1 h
        cases h1 with
        | lst h2 h3 => exact ⟨_, ns, rfl, by rw [← asBools_dp h3 e]; exact h2, q _ .bool⟩
      · exact q.elim
    · exact q.elim
  · intro ds Q Q' hq q
    unfold fAllB at q ⊢
    split at q
    · split at q
      · rename_i xs ns e
        exact hq _ q
      · exact q.elim
    · exact q.elim
theorem sc_any {K : PySem.W.Frag} : SC K (rAny K) fAnyB := by
  constructor
  · intro H vs ds Q h q
    unfold fAnyB at q
    split at q
    · split at q
      · rename_i xs ns e
        obtain ⟨v, rfl, h1⟩ := dpall1 h
        cases h1 with
        | lst h2 h3 => exact ⟨_, ns, rfl, by rw [← asBools_dp h3 e]; exact h2, q _ .bool⟩
      · exact q.elim
    · exact q.elim
  · intro ds Q Q' hq q
    unfold fAnyB at q ⊢
    split at q
    · split at q
      · rename_i xs ns e
        exact hq _ q
      · exact q.elim
    · exact q.elim
/-- max, min of a list of whole numbers -/
def fMaxL : FA
  | [.list xs], Q => match asInts xs with
    | some ns => 0 < ns.length ∧ ∀ m, m ∈ ns → (∀ y, y ∈ ns → y ≤ m) → Q (.int m)
    | _ => False
  | _, _ => False
def fMinL : FA
  | [.list xs], Q => match asInts xs with
    | some ns => 0 < ns.length ∧ ∀ m, m ∈ ns → (∀ y, y ∈ ns → m ≤ y) → Q (.int m)
    | _ => False
  | _, _ => False
theorem sc_maxL {K : PySem.W.Frag} : SC K (L2.rMax K) fMaxL := by
  constructor
  · intro H vs ds Q h q
    unfold fMaxL at q
    split at q
    · split at q
      · rename_i xs ns e
        obtain ⟨v, rfl, h1⟩ := dpall1 h
        cases h1 with
        | lst h2 h3 => exact ⟨_, ns, rfl, by rw [← asInts_dp h3 e]; exact h2, q.1, fun m hm hy => q.2 m hm hy _ .int⟩
      · exact q.elim
    · exact q.elim
  · intro ds Q Q' hq q
    unfold fMaxL at q ⊢
    split at q
    · split at q
      · rename_i xs ns e
        exact ⟨q.1, fun m hm hy => hq _ (q.2 m hm hy)⟩
      · exact q.elim
    · exact q.elim
theorem sc_minL {K : PySem.W.Frag} : SC K (L2.rMin K) fMinL := by
  constructor
  · intro H vs ds Q h q
    unfold fMinL at q
    split at q
    · split at q
      · rename_i xs ns e
        obtain ⟨v, rfl, h1⟩ := dpall1 h
        cases h1 with
        | lst h2 h3 => exact ⟨_, ns, rfl, by rw [← asInts_dp h3 e]; exact h2, q.1, fun m hm hy => q.2 m hm hy _ .int⟩
      · exact q.elim
    · exact q.elim
  · intro ds Q Q' hq q
    unfold fMinL at q ⊢
    split at q
    · split at q
      · rename_i xs ns e
        exact ⟨q.1, fun m hm hy => hq _ (q.2 m hm hy)⟩
      · exact q.elim
    · exact q.elim
/-! ### list(x) -/
def dListOf (t : TDA) : TDL := fun ρ Q => t ρ fun rs ρ1 => match rs with
  | [r] => onItems ρ1 r fun xs => Q xs ρ1
  | _ => False
theorem pl_listOf {p : Pos} (hg : Gl X "list") (hm : X.mg "list" = none) (ha : PDA X F [e] t d) (hK : X.K = F.K := by rfl) (he : starEach [e] X.env = (false, eval e X.env) :: starEach [] X.env := by rfl) (hpl : (backTo pos (starEach [] X.env)).any (·.1) = false := by rfl) :
    PDL X F (.Call (.Name "list" p) [e] [] pos) (tCB (fun xs H Q => ∃ p ys, xs = [.ref p] ∧ (SqL F.K H p ys ∨ SqT F.K H p ys) ∧ ∀ l, H l = none → Q (.ref l) (upd H l (.lst ys))) t) (dListOf d) := by
  refine ⟨?_, fun pins ρ σ H Q O h => ?_, fun ρ Q Q' hq h => ?_⟩
  · have := pe_callTy (p := p) (pos := pos) call_list_of hg hm (by decide +kernel) ha.pa (by decide) (by decide) he hpl
    rw [hK] at this
    exact this
  · refine ha.da.run pins ρ σ H _ O (ha.da.mono _ _ _ (fun rs ρ1 h1 vs H1 O1 R1 => ?_) h)
    split at h1
    · rename_i r
      simp only [ROks] at R1
      obtain ⟨v, _, rfl, r1, rfl⟩ := R1
      obtain ⟨xs, e1, q⟩ := onItems_of h1
      obtain ⟨p, us, rfl, l, im⟩ := items_ok O1 r1 e1
      exact ⟨p, us, rfl, l, fun l' hl => q _ _ (O1.pushL hl im)⟩
    · exact h1.elim
  · refine ha.da.mono _ _ _ (fun rs ρ1 h1 => ?_) h
    revert h1
    split
    · exact fun h1 => onItems_mono h1 fun xs => hq _ _
    · exact fun h1 => h1
/-! ### tuples: t + u, t[a:b], t * k -/
def titems : R → Option (List PyData)
  | .d (.tuple xs) => some xs
  | _ => none
def onT (r : R) (f : List PyData → Prop) : Prop := match titems r with
  | some xs => f xs
  | _ => False
theorem onT_of {r : R} {f : List PyData → Prop} (h : onT r f) : ∃ xs, r = .d (.tuple xs) ∧ f xs := by
  unfold onT at h
  split at h
  · rename_i xs e
    cases r <;> first | cases e | skip
    rename_i x
    cases x <;> first | cases e | skip
    exact ⟨_, rfl, h⟩
  · exact h.elim
theorem onT_mono {r : R} {f g : List PyData → Prop} (h : onT r f) (k : ∀ xs, f xs → g xs) : onT r g := by
  unfold onT at h ⊢
  split at h
  · exact k _ h
  · exact h.elim
theorem im_tup {A : Addr → Prop} {H : Hp} {xs : List PyData} {v : V} (h : Im F.K A H (.tuple xs) v) : ∃ a vs, v = .ref a ∧ SqT F.K H a vs ∧ ImAll F.K A H xs vs := by
  simp only [Im] at h
  obtain ⟨a, vs, e, l, t⟩ := h
  exact ⟨a, vs, e, l.sq, t⟩
def dCatT (ta tb : TDE) : TDE := dBin ta tb fun r s ρ Q => onT r fun xs => onT s fun ys => Few (xs.length + ys.length) ∧ Q (.d (.tuple (xs ++ ys))) ρ
theorem pd_catT (ha : PD X F a ta da) (hb : PD X F b tb db) (hK : X.K = F.K := by rfl) : PD X F (.BinOp a .Add b pos) (tOp (rCatA F.K) ta tb) (dCatT da db) := by
  refine ⟨?_, de_bin ha.de hb.de (fun pins ρ σ H x y r s Q O R1 R2 h => ?_) fun r s ρ Q Q' hq h => onT_mono h fun xs h => onT_mono h fun ys h => ⟨h.1, hq _ _ h.2⟩⟩
  · have := pe_op (pos := pos) op_catA ha.pe hb.pe
    rw [hK] at this
    exact this
  obtain ⟨xs, e1, h2⟩ := onT_of h
  subst e1
  obtain ⟨ys, e2, hl, q⟩ := onT_of h2
  subst e2
  have i1 : Im F.K (Av F pins ρ σ) H (.tuple xs) x := R1
  have i2 : Im F.K (Av F pins ρ σ) H (.tuple ys) y := R2
  obtain ⟨p, vs, rfl, l1, im1⟩ := im_tup i1
  obtain ⟨p2, us, rfl, l2, im2⟩ := im_tup i2
  refine ⟨p, p2, vs, us, rfl, rfl, l1, l2, by rw [im1.length, im2.length]; exact hl, fun hz => ?_, fun _ hz => ?_, fun _ _ p' hp => ?_⟩
  · have : xs = [] := List.length_eq_zero_iff.mp (by rw [← im1.length, hz]; rfl)
    subst this
    exact q _ _ O i2
  · have : ys = [] := List.length_eq_zero_iff.mp (by rw [← im2.length, hz]; rfl)
    subst this
    rw [List.append_nil] at q
    exact q _ _ O i1
  · obtain ⟨O2, i3⟩ := newTup O hp (im1.append im2)
    exact q _ _ O2 i3
variable {lo hi : Option Expr} {tl th : TO} {dlo dhi : TDO} {p2 : Pos}
def dSlT (te : TDE) (tl th : TDO) : TDE := fun ρ Q => dSlice te tl th (fun r lo hi ρ3 => onT r fun xs => Q (.d (.tuple (cutD xs lo hi))) ρ3) ρ
theorem pd_sliceT (he : PD X F e te de) (hl : PDO X F lo tl dlo) (hh : PDO X F hi th dhi) (hK : X.K = F.K := by rfl) : PD X F (.Subscript e (.Slice lo hi none p2) pos) (tSl (rSlA F.K) te tl th) (dSlT de dlo dhi) := by
  refine ⟨?_, fun pins ρ σ H Q O h => ?_, fun ρ Q Q' hq h => he.de.mono _ _ _ (fun r ρ1 h1 => hl.d.mono _ _ _ (fun l ρ2 h2 => hh.d.mono _ _ _ (fun u ρ3 h3 => onT_mono h3 fun xs => hq _ _) h2) h1) h⟩
  · have := pe_slice (pos := pos) (p2 := p2) sl_tupA he.pe hl.po hh.po
    rw [hK] at this
    exact this
  refine he.de.run pins ρ σ H _ O (he.de.mono _ _ _ (fun r ρ1 h1 v H1 O1 R1 => ?_) h)
  refine hl.d.run (.val v r :: pins) ρ1 σ H1 _ (O1.push R1) (hl.d.mono _ _ _ (fun l ρ2 h2 H2 O2 => ?_) h1)
  refine hh.d.run (.val v r :: pins) ρ2 σ H2 _ O2 (hh.d.mono _ _ _ (fun u ρ3 h3 H3 O3 => ?_) h2)
  obtain ⟨O4, R4⟩ := O3.popV
  obtain ⟨xs, rfl, q⟩ := onT_of h3
  have i1 : Im F.K (Av F pins ρ3 σ) H3 (.tuple xs) v := R4
  obtain ⟨p, vs, rfl, sq, im⟩ := im_tup i1
  refine ⟨p, vs, rfl, sq, fun hw => ?_, fun _ p' hp => ?_⟩
  · have : cutD xs l u = xs := by
      unfold cutD
      rw [← im.length, hw.1, hw.2, List.drop_zero, Nat.sub_zero, im.length, List.take_length]
    rw [this] at q
    exact q _ _ O4 i1
  · obtain ⟨O5, i3⟩ := newTup O4 hp (im.cut l u)
    exact q _ _ O5 i3
end
end DV
namespace DV
open PySem PySem.Spec PyProof.Rows L2
section
variable {X : Cx} {F : Fm} {tg e e2 a b c : Expr} {te te2 ta tb tc : TE} {de de2 da db dc : TDE} {pos p : Pos} {t : TA} {d : TDA} {dl : TDL}
theorem units65 {k : Nat} {A : Around} (r : Room k A) : A.units + 65 < cLine := by have := r.un; omega
/-! ### in, not in -/
theorem pd_in (hu : X.A.units + 65 < cLine) (hK : X.K = F.K) (ha : PD X F a ta da) (hb : PD X F b tb db) (hm : behindInMarks .In b = false := by rfl) : PD X F (.Compare a [.In] [b] pos) (tOp (rInD F.K) ta tb) (dOp fInD da db) := by
  have := pd_cmp (X := X) (F := F) (r := rInD F.K) (pos := pos) (by rw [← hK]; exact op_inD hu) hm so_InD ha hb
  exact this
theorem pd_notin (hu : X.A.units + 65 < cLine) (hK : X.K = F.K) (ha : PD X F a ta da) (hb : PD X F b tb db) (hm : behindInMarks .NotIn b = false := by rfl) : PD X F (.Compare a [.NotIn] [b] pos) (tOp (rNotInD F.K) ta tb) (dOp fNotInD da db) := by
  have := pd_cmp (X := X) (F := F) (r := rNotInD F.K) (pos := pos) (by rw [← hK]; exact op_notInD hu) hm so_NotInD ha hb
  exact this
theorem pt_in (hu : X.A.units + 65 < cLine) (hK : X.K = F.K) (ha : PD X F a ta da) (hb : PD X F b tb db) (hm : behindInMarks .In b = false := by rfl) : PDT X F (.Compare a [.In] [b] pos) (tTest (tOp (rInD F.K) ta tb)) (dTV (dOp fInD da db)) :=
  pt_cmpD (by rw [← hK]; exact op_inD hu) hm so_InD ha hb
theorem pt_notin (hu : X.A.units + 65 < cLine) (hK : X.K = F.K) (ha : PD X F a ta da) (hb : PD X F b tb db) (hm : behindInMarks .NotIn b = false := by rfl) : PDT X F (.Compare a [.NotIn] [b] pos) (tTest (tOp (rNotInD F.K) ta tb)) (dTV (dOp fNotInD da db)) :=
  pt_cmpD (by rw [← hK]; exact op_notInD hu) hm so_NotInD ha hb
theorem pd_chain {op op' : CmpOp} {f g : Int → Int → Bool} (ho : OpR X (compareOp op) (rI0 fun i j => .bl (f i j))) (ho' : OpR X (compareOp op') (rI0 fun i j => .bl (g i j))) (ha : PD X F a ta da) (hb : PD X F b tb db) (hc : PD X F c tc dc)
    (hm : lastMarks [op, op'] [b, c] = false := by with_unfolding_all rfl) : PD X F (.Compare a [op, op'] [b, c] pos) (tChain (rI0 fun i j => .bl (f i j)) (rI0 fun i j => .bl (g i j)) ta tb tc) (dChainLe f g da db dc) := pd_chainI ho ho' ha hb hc (pe_chain ho ho' ha.pe hb.pe hc.pe hm)
theorem pt_chain {op op' : CmpOp} {f g : Int → Int → Bool} (ho : OpR X (compareOp op) (rI0 fun i j => .bl (f i j))) (ho' : OpR X (compareOp op') (rI0 fun i j => .bl (g i j))) (ha : PD X F a ta da) (hb : PD X F b tb db) (hc : PD X F c tc dc)
    (hm : lastMarks [op, op'] [b, c] = false := by with_unfolding_all rfl) : PDT X F (.Compare a [op, op'] [b, c] pos) (tTest (tChain (rI0 fun i j => .bl (f i j)) (rI0 fun i j => .bl (g i j)) ta tb tc)) (dTV (dChainLe f g da db dc)) :=
  ⟨L2.pt_chain ho ho' ha.pe hb.pe hc.pe hm, dt_tv (k := tTest) (fun _ => rfl) (DV.pd_chain (pos := pos) ho ho' ha hb hc hm).de⟩
/-! ### x, y, z = .. -/
def dPar3 (i j l : Nat) (t : TDA) : TDS := fun DD ρ => t ρ fun rs ρ1 => match rs with
  | [r, s, u] => noO s ∧ noO u ∧ setR i r ρ1 fun ρ2 => setR j s ρ2 fun ρ3 => setR l u ρ3 DD.nx
  | _ => False
theorem fr_val {pins : List Pin} {v : V} {r : R} {i : Nat} (h : Fr pins i) (hn : noO r) : Fr (.val v r :: pins) i := by
  intro u l hp
  rcases List.mem_cons.mp hp with z | z
  · cases z; exact hn.elim
  · exact h u l z
theorem ds_par3 {i j l : Nat} {x y z : Str} {px py pz pt : Pos} {pt2 : Pos} {kt' k2'} (hc : X.calm = true) (hN : X.N.Nodup) (ha : PDA X F [a, b, c] t d) (hfi : ¬ F.fix i) (hfj : ¬ F.fix j) (hfl : ¬ F.fix l) (hij : i ≠ j := by decide) (hil : i ≠ l := by decide) (hjl : j ≠ l := by decide) (hi : X.N[i]? = some x := by rfl) (hj : X.N[j]? = some y := by rfl) (hl : X.N[l]? = some z := by rfl)
    (hx : X.env.scope.names.lookup x = some .local := by rfl) (hy : X.env.scope.names.lookup y = some .local := by rfl) (hz : X.env.scope.names.lookup z = some .local := by rfl)
    (hw : swappedStores [.Tuple [.Name x px, .Name y py, .Name z pz] kt' pt] (.Tuple [a, b, c] k2' pt2) X.env = pure (some [x, y, z]) := by rfl)
    (hs : swapsWithSole [.Tuple [.Name x px, .Name y py, .Name z pz] kt' pt] (.Tuple [a, b, c] k2' pt2) pos.line X.env = pure false := by rfl) :
    PDS X F (.Assign [.Tuple [.Name x px, .Name y py, .Name z pz] kt' pt] (.Tuple [a, b, c] k2' pt2) pos) (tPar3 i j l t) (dPar3 i j l d) := by
  refine ⟨ps_par3 hc hN hi hj hl hij hil hjl hx hy hz ha.pa hw hs, fun pins ρ σ H D DD O S R h => ?_⟩
  refine ha.da.run pins ρ σ H _ O (ha.da.mono _ _ _ (fun rs ρ1 h1 vs H1 O1 R1 => ?_) h)
  split at h1
  · rename_i r s q
    simp only [ROks] at R1
    obtain ⟨v, us, rfl, r1, w, us2, rfl, r2, g, us3, rfl, r3, rfl⟩ := R1
    refine ⟨v, w, g, rfl, ?_⟩
    have O2 := (O1.push r3).push (v := w) (r := s) r2
    have g1 : gName i v σ H1 fun σ2 H2 => gName j w σ2 H2 fun σ3 H3 => gName l g σ3 H3 fun σ4 H4 => D.nx σ4 H4 := by
      refine (dg_name (F := F) i).run (.val w s :: .val g q :: pins) ρ1 σ H1 v r _ _ O2 (fun k hk => ?_) (by exact r1) h1.2.2 fun ρ2 σ2 H2 O3 _ q2 => ?_
      · rw [List.mem_singleton.mp hk]
        exact fr_val (fr_val (S.fr hfi) h1.2.1) h1.1
      · obtain ⟨O4, r4⟩ := O3.popV
        refine (dg_name (F := F) j).run (.val g q :: pins) ρ2 σ2 H2 w s _ _ O4 (fun k hk => ?_) r4 q2 fun ρ4 σ4 H4 O5 _ q3 => ?_
        · rw [List.mem_singleton.mp hk]
          exact fr_val (S.fr hfj) h1.2.1
        · obtain ⟨O6, r6⟩ := O5.popV
          exact (dg_name (F := F) l).run pins ρ4 σ4 H4 g q _ _ O6 (fun k hk => by rw [List.mem_singleton.mp hk]; exact S.fr hfl) r6 q3 fun ρ6 σ6 H6 O7 _ q4 => R.nx _ _ _ O7 q4
    exact g1
  · exact h1.elim
/-! ### x = [.. for ..], stored within -/
theorem de_l (h : DL F te dl) : DE F te (dOfL dl) := by
  refine ⟨?_, ?_⟩
  · intro pins ρ σ H Q O hq
    refine h.run pins ρ σ H _ O (h.mono _ _ _ (fun xs ρ1 h1 p H1 O1 => ?_) hq)
    obtain ⟨O2, i2⟩ := O1.popL
    exact h1 _ _ O2 i2
  · intro ρ Q Q' hq hh
    exact h.mono _ _ _ (fun xs ρ1 h1 => hq _ _ h1) hh
/-! ### a new list is given back -/
def dRetL (tl : TDL) : TDS := fun DD ρ => tl ρ DD.rl
theorem ds_retL (he : PDL X F e te dl) : PDS X F (.Return (some e) pos) (tRet te) (dRetL dl) :=
  ⟨ps_ret he.pe, fun pins ρ σ H D DD O S R h => he.dl.run pins ρ σ H _ O (he.dl.mono _ _ _ (fun xs ρ1 h1 p H1 O1 => R.rl ρ1 σ H1 p xs O1 h1) h)⟩
end
theorem ds_setLcL {X : Cx} {F : Fm} {i : Nat} {y : Str} {py : Pos} {elt tg iter : Expr} {ifs : List Expr} {scope : Scope} {own : List (Str × Nat)} {pos spos : Pos} {wi : TI} {dw : TDI} {g : TG} {dg : TDGt} {tt : TT} {dt : TDT} {te : TE} {de : TDE} (hc : X.calm = true) (hN : X.N.Nodup) (hi : PDI X F tg iter wi dw) (ok : BlkOk X.N X.env.scope scope own)
    (hg : ∀ (s : Shared) (H : Hp) (C : Addr) (cl : List (Str × Addr)) (fp : List Addr), PDG (X.blk s H scope (compEnvC scope cl C X.env) fp) F tg g dg (own.map (·.2))) (ht : ∀ (s : Shared) (H : Hp) (C : Addr) (cl : List (Str × Addr)) (fp : List Addr), PDTs (X.blk s H scope (compEnvC scope cl C X.env) fp) F ifs tt dt)
    (he : ∀ (s : Shared) (H : Hp) (C : Addr) (cl : List (Str × Addr)) (fp : List Addr), PD (X.blk s H scope (compEnvC scope cl C X.env) fp) F elt te de) (hf : ¬ F.fix i)
    (hs : ∀ x, foldedSetIterable iter X.env x = pure x := by intro _; rfl) (hy : X.N[i]? = some y := by rfl) (hyl : X.env.scope.names.lookup y = some .local := by rfl)
    (hsw : swapsWith (.ListComp elt [⟨tg, iter, ifs, 0⟩] scope pos) (some (.Name y py)) spos.line X.env = pure true := by rfl) :
    PDS X F (.Assign [.Name y py] (.ListComp elt [⟨tg, iter, ifs, 0⟩] scope pos) spos) (tAsg (tLc wi g tt te (own.map (·.2))) (gName i)) (dSetL i (dLc dw dg dt de (own.map (·.2)))) := by
  refine ⟨ps_setLc hc hN hy hyl hsw hi.pi ok (fun s H C cl fp => (hg s H C cl fp).pg) (fun s H C cl fp => (ht s H C cl fp).pts) (fun s H C cl fp => (he s H C cl fp).pe) hs, ?_⟩
  exact dsl (dl_lc hi.di (hg (PySem.start X.prog).1 (fun _ => none) 0 [] []).dg (ht (PySem.start X.prog).1 (fun _ => none) 0 [] []).dt (he (PySem.start X.prog).1 (fun _ => none) 0 [] []).de) hf
theorem ds_setLc {X : Cx} {F : Fm} {i : Nat} {y : Str} {py : Pos} {elt tg iter : Expr} {ifs : List Expr} {scope : Scope} {own : List (Str × Nat)} {pos spos : Pos} {wi : TI} {dw : TDI} {g : TG} {dg : TDGt} {tt : TT} {dt : TDT} {te : TE} {de : TDE} (hc : X.calm = true) (hN : X.N.Nodup) (hi : PDI X F tg iter wi dw) (ok : BlkOk X.N X.env.scope scope own)
    (hg : ∀ (s : Shared) (H : Hp) (C : Addr) (cl : List (Str × Addr)) (fp : List Addr), PDG (X.blk s H scope (compEnvC scope cl C X.env) fp) F tg g dg (own.map (·.2))) (ht : ∀ (s : Shared) (H : Hp) (C : Addr) (cl : List (Str × Addr)) (fp : List Addr), PDTs (X.blk s H scope (compEnvC scope cl C X.env) fp) F ifs tt dt)
    (he : ∀ (s : Shared) (H : Hp) (C : Addr) (cl : List (Str × Addr)) (fp : List Addr), PD (X.blk s H scope (compEnvC scope cl C X.env) fp) F elt te de) (hf : ¬ F.fix i)
    (hs : ∀ x, foldedSetIterable iter X.env x = pure x := by intro _; rfl) (hy : X.N[i]? = some y := by rfl) (hyl : X.env.scope.names.lookup y = some .local := by rfl)
    (hsw : swapsWith (.ListComp elt [⟨tg, iter, ifs, 0⟩] scope pos) (some (.Name y py)) spos.line X.env = pure true := by rfl) :
    PDS X F (.Assign [.Name y py] (.ListComp elt [⟨tg, iter, ifs, 0⟩] scope pos) spos) (tAsg (tLc wi g tt te (own.map (·.2))) (gName i)) (dAsg (dOfL (dLc dw dg dt de (own.map (·.2)))) (setR i)) := by
  refine ⟨ps_setLc hc hN hy hyl hsw hi.pi ok (fun s H C cl fp => (hg s H C cl fp).pg) (fun s H C cl fp => (ht s H C cl fp).pts) (fun s H C cl fp => (he s H C cl fp).pe) hs, ?_⟩
  exact dsa (de_l (dl_lc hi.di (hg (PySem.start X.prog).1 (fun _ => none) 0 [] []).dg (ht (PySem.start X.prog).1 (fun _ => none) 0 [] []).dt (he (PySem.start X.prog).1 (fun _ => none) 0 [] []).de)) (dg_name i) fun j hj => by rw [List.mem_singleton.mp hj]; exact hf
def retF (r : R) (ρ : Rho) (Q : List PyData → Prop) : Prop := match r with
  | .o i => onOwn ρ i Q
  | _ => False
section
variable {P : Program} {w : World} {K : PySem.W.Frag} {mg : Str → Option Value} {base : Heap}
/-- a def that gives back a new list -/
theorem fnFs {x qual : Str} {st : Stmt} {f : Addr} {fd : FuncData} {N ps : List Str} {k : Nat} {ks : List Kd} {S : SdL} (W : Fun K x qual st f fd) (Sc : FnScope N ps (defScope st)) (hks : ks.length = ps.length)
    (body : ∀ (cdv : Value) (A : Around) (out : List Env) (s : Shared) (H : Hp) (E : XK) (Nn : Addr → Prop), Room k (A.deeper (envOfC qual (defScope st) s.heap.objs.size f cdv)) → A.guards = some [] →
      ∃ ts tds, PDSs (cxOf CX0 P w K mg base N qual (defScope st) f cdv A out s H E).nox (frP K H Nn) (defBody st) ts tds ∧
        ∀ xs Q, xs.length = ks.length → S xs Q → tds { nx := fun _ => False, rt := fun r ρ => retF r ρ Q, rl := fun xs _ => Q xs } (rhoP N.length ks xs)) : FnG P w K mg base CX0 (k + 1) f fd ps (spF K ks S) := by
  have hpl : ps.length ≤ N.length := by have := congrArg List.length Sc.pre; rw [List.length_take] at this; omega
  refine fg_of W Sc (fun vs H Q E h => ?_) fun cdv A out s H vs Q E hr hgd h => ?_
  · obtain ⟨Nn, xs, _, ha, _⟩ := h
    rw [ha.len.1, hks]
  obtain ⟨Nn, xs, hN, ha, hS⟩ := h
  obtain ⟨ts, tds, hb, hq⟩ := body cdv A out s H E Nn hr hgd
  refine ⟨ts, hb.pss, ?_⟩
  have hl := ha.len
  have noOwn : ∀ i a, ¬ OwnAt (rhoP N.length ks xs) (L2.start N vs) i a := by
    rintro i a ⟨⟨ys, h1⟩, _⟩
    obtain ⟨k, x, v, e, _⟩ := ha.at (rhoP_some h1)
    cases k <;> cases e
  have O : Ok (frP K H Nn) [] (rhoP N.length ks xs) (L2.start N vs) H := by
    refine ⟨?_, fun i e h1 => ?_, fun i j a h1 _ => absurd h1 (noOwn i a), fun p hp => (nomatch hp), .nil, fun a o _ e => e, hN, fun a h => h.elim, hN, fun i a _ h => h.elim⟩
    · rw [rhoP_len hl.2 (by rw [hks]; exact hpl)]
      unfold L2.start
      rw [List.length_append, List.length_map, List.length_replicate]
      omega
    · obtain ⟨k, x, v, rfl, h2, h3⟩ := ha.at (rhoP_some h1)
      refine ⟨v, ?_, arg_ent (N := Nn) rfl rfl (fun a z => z) (fun a z => ?_) h3⟩
      · have hi : i < vs.length := by
          rcases Nat.lt_or_ge i vs.length with z | z
          · exact z
          · rw [List.getElem?_eq_none z] at h2; cases h2
        unfold L2.start
        rw [List.getElem?_append_left (by simpa using hi), List.getElem?_map, h2]; rfl
      · rcases z with z | ⟨j, z⟩ | z
        · exact z
        · exact absurd z (noOwn j a)
        · cases z
  refine hb.ds [] _ _ H _ _ O (fun v j hp => nomatch hp) ⟨fun ρ σ H' O' q => False.elim q, fun ρ σ H' v r O' R' q => ?_, fun _ _ _ _ q => False.elim q, fun _ _ _ _ q => False.elim q, fun ρ σ H' p zs O' q => ?_⟩ (hq xs _ hl.2 hS)
  · have fr : ∀ a o, H a = some o → H' a = some o := fun a o e => O'.fr a o (fun z => z) e
    cases r with
    | d z => exact False.elim q
    | raw u => exact False.elim q
    | o i =>
      obtain ⟨ys, e, q⟩ := onOwn_of (show onOwn ρ i _ from q)
      obtain ⟨p, us, h1, h2, h3, h4⟩ := O'.ownGet e
      have := R'.1
      rw [h1] at this; cases this
      obtain ⟨_, _, hl⟩ := O'.ownL h4
      have hp : H p = none := hl.elim (fun z => False.elim z) fun z => z
      refine q p H' us fr hp h2 (h3.go ⟨fun _ _ _ e => e, fun a z => .inl ?_⟩)
      rcases z with z | rfl
      · exact .inl z
      · exact .inr (.inl ⟨i, h4⟩)
  · obtain ⟨us, h1, h2, h3, h4⟩ := O'.pin _ (List.mem_cons_self ..)
    have hp : H p = none := h3
    refine q p H' us (fun a o e => O'.fr a o (fun z => z) e) hp h1 (h2.go ⟨fun _ _ _ e => e, fun a z => .inl ?_⟩)
    rcases z with z | rfl
    · exact .inl z
    · exact .inr (.inr (List.mem_cons_self ..))
end
end DV
namespace DV
open PySem PySem.Spec PyProof.Rows L2
/-! ### zip, enumerate -/
/-- a list stands at a while the values pl are in mind -/
def LstAt (F : Fm) (pl : List Pin) (a : Addr) (xs : List PyData) : Prop := ∀ (pins : List Pin) (ρ : Rho) (σ : L2.St) (H : Hp), (∀ q ∈ pl, q ∈ pins) → Ok F pins ρ σ H → ∃ vs, SqL F.K H a vs ∧ ImAll F.K (Av F pins ρ σ) H xs vs
def TupAt (F : Fm) (pl : List Pin) (a : Addr) (xs : List PyData) : Prop := ∀ (pins : List Pin) (ρ : Rho) (σ : L2.St) (H : Hp), (∀ q ∈ pl, q ∈ pins) → Ok F pins ρ σ H → ∃ vs, SqT F.K H a vs ∧ ImAll F.K (Av F pins ρ σ) H xs vs
section
variable {X : Cx} {F : Fm} {tg e e2 a b c : Expr} {te te2 ta tb tc : TE} {de de2 da db dc : TDE} {pos p tpos : Pos} {t : TA} {d : TDA} {dl : TDL} {elts : List Expr} {kk : Nat}
theorem LstAt.up {pl pm : List Pin} {a : Addr} {xs : List PyData} (h : LstAt F pl a xs) (k : ∀ q ∈ pl, q ∈ pm) : LstAt F pm a xs := fun pins ρ σ H hp O => h pins ρ σ H (fun q hq => hp q (k q hq)) O
theorem TupAt.up {pl pm : List Pin} {a : Addr} {xs : List PyData} (h : TupAt F pl a xs) (k : ∀ q ∈ pl, q ∈ pm) : TupAt F pm a xs := fun pins ρ σ H hp O => h pins ρ σ H (fun q hq => hp q (k q hq)) O
def isD (pl : List Pin) : Prop := ∀ p ∈ pl, ∃ v x, p = .val v (.d x)
/-- what is walked or zipped: a list, or a tuple -/
def seqs (ρ : Rho) : R → Option (Bool × List PyData)
  | .d (.list xs) => some (false, xs)
  | .d (.tuple xs) => some (true, xs)
  | .o i => match ρ[i]? with
    | some (some (.ro (.list xs))) => some (false, xs)
    | some (some (.ro (.tuple xs))) => some (true, xs)
    | _ => none
  | _ => none
theorem seqs_ok {pins : List Pin} {ρ : Rho} {σ : L2.St} {H : Hp} (O : Ok F pins ρ σ H) {r : R} {v : V} {k : Bool} {xs : List PyData} (h : ROk F (Av F pins ρ σ) ρ σ H r v) (e : seqs ρ r = some (k, xs)) :
    ∃ a pl, v = .ref a ∧ isD pl ∧ Ok F (pl ++ pins) ρ σ H ∧ Av F (pl ++ pins) ρ σ = Av F pins ρ σ ∧ (if k = true then TupAt F pl a xs else LstAt F pl a xs) := by
  have lst : ∀ {ys : List PyData}, Im F.K (Av F pins ρ σ) H (.list ys) v → ∃ a pl, v = .ref a ∧ isD pl ∧ Ok F (pl ++ pins) ρ σ H ∧ Av F (pl ++ pins) ρ σ = Av F pins ρ σ ∧ LstAt F pl a ys := by
    intro ys im
    have im2 := im
    simp only [Im] at im2
    obtain ⟨a, vs, rfl, l, _⟩ := im2
    refine ⟨a, [.val (.ref a) (.d (.list ys))], rfl, fun p hp => ?_, O.push (v := .ref a) (r := .d (.list ys)) im, rfl, fun pins2 ρ2 σ2 H2 hp O2 => ?_⟩
    · rcases List.mem_cons.mp hp with z | z
      · exact ⟨_, _, z⟩
      · cases z
    · have h : Im F.K (Av F pins2 ρ2 σ2) H2 (.list ys) (.ref a) := O2.pin _ (hp _ (List.mem_cons_self ..))
      simp only [Im] at h
      obtain ⟨q, vs, e, l, im⟩ := h
      cases e
      exact ⟨vs, l.sq, im⟩
  have tup : ∀ {ys : List PyData}, Im F.K (Av F pins ρ σ) H (.tuple ys) v → ∃ a pl, v = .ref a ∧ isD pl ∧ Ok F (pl ++ pins) ρ σ H ∧ Av F (pl ++ pins) ρ σ = Av F pins ρ σ ∧ TupAt F pl a ys := by
    intro ys im
    have im2 := im
    simp only [Im] at im2
    obtain ⟨a, vs, rfl, l, _⟩ := im2
    refine ⟨a, [.val (.ref a) (.d (.tuple ys))], rfl, fun p hp => ?_, O.push (v := .ref a) (r := .d (.tuple ys)) im, rfl, fun pins2 ρ2 σ2 H2 hp O2 => ?_⟩
    · rcases List.mem_cons.mp hp with z | z
      · exact ⟨_, _, z⟩
      · cases z
    · have h : Im F.K (Av F pins2 ρ2 σ2) H2 (.tuple ys) (.ref a) := O2.pin _ (hp _ (List.mem_cons_self ..))
      simp only [Im] at h
      obtain ⟨q, vs, e, l, im⟩ := h
      cases e
      exact ⟨vs, l.sq, im⟩
  unfold seqs at e
  split at e
  · cases e
    simpa using lst h
  · cases e
    simpa using tup h
  · rename_i i
    have g0 := h.1
    split at e
    · rename_i ys q
      cases e
      obtain ⟨u, g1, g2⟩ := O.ent i _ q
      rw [g0] at g1; cases g1
      rcases g2 with im | ⟨a, us, zs, rfl, e1, l, t⟩
      · simpa using lst im
      · cases e1
        refine ⟨a, pinsOf us xs, rfl, fun p hp => mem_pinsOf hp, (O.pushAll t).1, (O.pushAll t).2, ?_⟩
        rw [if_neg (by decide)]
        exact fun pins2 ρ2 σ2 H2 hp O2 => ⟨us, l.sq O2, all_pinsOf O2 t.length hp⟩
    · rename_i ys q
      cases e
      obtain ⟨u, g1, g2⟩ := O.ent i _ q
      rw [g0] at g1; cases g1
      rcases g2 with im | ⟨a, us, zs, rfl, e1, l, t⟩
      · simpa using tup im
      · cases e1
    · cases e
  · cases e
theorem getL {vs : List V} {i : Nat} (h : i < vs.length) : vs[i]? = some (vs[i]'h) := List.getElem?_eq_getElem h
def zipD (xs ys : List PyData) : List PyData := List.zipWith (fun x y => .tuple [x, y]) xs ys
theorem zipD_len {xs ys : List PyData} : (zipD xs ys).length = min xs.length ys.length := List.length_zipWith
theorem zipD_at {xs ys : List PyData} {i : Nat} {x y : PyData} (h : xs[i]? = some x) (k : ys[i]? = some y) : (zipD xs ys)[i]? = some (.tuple [x, y]) := by
  unfold zipD
  rw [List.getElem?_zipWith, h, k]
theorem im_pair {A : Addr → Prop} {H : Hp} {x y : PyData} {u v : V} {T : Addr} (hT : H T = none) (h1 : Im F.K A H x u) (h2 : Im F.K A H y v) (hA : ¬ A T) : Im F.K A (upd H T (.tup [u, v])) (.tuple [x, y]) (.ref T) := by
  have G : Go A A H (upd H T (.tup [u, v])) := ⟨fun a o _ h => grow_new hT a o h, fun a h => .inl h⟩
  simp only [Im]
  exact ⟨T, [u, v], rfl, .inl ⟨.inl upd_same, hA⟩, .cons (h1.go G) (.cons (h2.go G) .nil)⟩
theorem wok_zipL {pl : List Pin} {p q : Addr} {xs ys : List PyData} (h1 : LstAt F pl p xs) (h2 : LstAt F pl q ys) : WOk F (Itz F.K p q) (zipD xs ys) pl := by
  refine ⟨fun i pins ρ σ H hp hi O => ?_, fun pins ρ σ H hp O => ?_, fun i pins ρ σ H x H' hp hi O y => ?_⟩
  · obtain ⟨us, a1, a2⟩ := h1 pins ρ σ H hp O
    obtain ⟨vs, b1, b2⟩ := h2 pins ρ σ H hp O
    rw [zipD_len] at hi
    have l1 := a2.length
    have l2 := b2.length
    exact ⟨us, vs, _, _, a1, b1, getL (by omega), getL (by omega)⟩
  · obtain ⟨us, a1, a2⟩ := h1 pins ρ σ H hp O
    obtain ⟨vs, b1, b2⟩ := h2 pins ρ σ H hp O
    refine ⟨us, vs, a1, b1, ?_⟩
    rw [zipD_len, a2.length, b2.length]
    omega
  · obtain ⟨us, a1, a2⟩ := h1 pins ρ σ H hp O
    obtain ⟨vs, b1, b2⟩ := h2 pins ρ σ H hp O
    obtain ⟨T, u, v, rfl, hT, rfl, f1, f2⟩ := y
    obtain ⟨x, e1, i1⟩ := a2.getV (f1 us a1)
    obtain ⟨y, e2, i2⟩ := b2.getV (f2 vs b1)
    refine ⟨_, zipD_at e1 e2, O.new hT, im_pair hT i1 i2 fun z => ?_⟩
    obtain ⟨o, z⟩ := O.avH z
    rw [hT] at z; cases z
theorem wok_zipT {pl : List Pin} {p q : Addr} {xs ys : List PyData} (h1 : TupAt F pl p xs) (h2 : TupAt F pl q ys) : WOk F (RZ.ItzT F.K p q) (zipD xs ys) pl := by
  refine ⟨fun i pins ρ σ H hp hi O => ?_, fun pins ρ σ H hp O => ?_, fun i pins ρ σ H x H' hp hi O y => ?_⟩
  · obtain ⟨us, a1, a2⟩ := h1 pins ρ σ H hp O
    obtain ⟨vs, b1, b2⟩ := h2 pins ρ σ H hp O
    rw [zipD_len] at hi
    have l1 := a2.length
    have l2 := b2.length
    exact ⟨us, vs, _, _, a1, b1, getL (by omega), getL (by omega)⟩
  · obtain ⟨us, a1, a2⟩ := h1 pins ρ σ H hp O
    obtain ⟨vs, b1, b2⟩ := h2 pins ρ σ H hp O
    refine ⟨us, vs, a1, b1, ?_⟩
    rw [zipD_len, a2.length, b2.length]
    omega
  · obtain ⟨us, a1, a2⟩ := h1 pins ρ σ H hp O
    obtain ⟨vs, b1, b2⟩ := h2 pins ρ σ H hp O
    obtain ⟨T, u, v, rfl, hT, rfl, f1, f2⟩ := y
    obtain ⟨x, e1, i1⟩ := a2.getV (f1 us a1)
    obtain ⟨y, e2, i2⟩ := b2.getV (f2 vs b1)
    refine ⟨_, zipD_at e1 e2, O.new hT, im_pair hT i1 i2 fun z => ?_⟩
    obtain ⟨o, z⟩ := O.avH z
    rw [hT] at z; cases z
def dZip (t : TDA) : TDI := fun ρ Q => t ρ fun rs ρ1 => match rs with
  | [r, s] => match seqs ρ1 r, seqs ρ1 s with
    | some (k, xs), some (l, ys) => k = l ∧ Q (zipD xs ys) ρ1
    | _, _ => False
  | _ => False
theorem pdi_zip (hg : Gl X "zip") (hm : X.mg "zip" = none) (ha : PDA X F [e, e2] t d) (hK : X.K = F.K := by rfl)
    (hs : starEach [e, e2] X.env = (false, eval e X.env) :: starEach [e2] X.env := by rfl) (hpl : (backTo pos (starEach [e2] X.env)).any (·.1) = false := by rfl) :
    PDI X F (.Tuple elts kk tpos) (.Call (.Name "zip" p) [e, e2] [] pos) (RZ.iZipA F.K t) (dZip d) := by
  refine ⟨?_, fun pins ρ σ H R O h => ?_, fun ρ Q Q' hq h => ?_⟩
  · have := RZ.pi_zipA (elts := elts) (kk := kk) (tpos := tpos) (p := p) (pos := pos) hg hm ha.pa hs hpl
    rw [hK] at this
    exact this
  · refine ha.da.run pins ρ σ H _ O (ha.da.mono _ _ _ (fun rs ρ1 h1 vs H1 O1 R1 => ?_) h)
    split at h1
    · rename_i r s
      split at h1
      · rename_i k xs l ys e1 e2
        obtain ⟨rfl, h1⟩ := h1
        simp only [ROks] at R1
        obtain ⟨v, _, rfl, r1, w, _, rfl, r2, rfl⟩ := R1
        obtain ⟨a, pl, rfl, d1, O2, av2, k1⟩ := seqs_ok O1 r1 e1
        have r2' : ROk F (Av F (pl ++ pins) ρ1 σ) ρ1 σ H1 s w := by rw [av2]; exact r2
        obtain ⟨b, pm, rfl, d2, O3, av3, k2⟩ := seqs_ok O2 r2' e2
        have dd : isD (pm ++ pl) := fun q hq => by
          rcases List.mem_append.mp hq with z | z
          · exact d2 q z
          · exact d1 q z
        have O4 : Ok F ((pm ++ pl) ++ pins) ρ1 σ H1 := by rw [List.append_assoc]; exact O3
        have in1 : ∀ q ∈ pl, q ∈ pm ++ pl := fun q hq => List.mem_append_right _ hq
        have in2 : ∀ q ∈ pm, q ∈ pm ++ pl := fun q hq => List.mem_append_left _ hq
        have in3 : ∀ q ∈ pm ++ pl, q ∈ (pm ++ pl) ++ pins := fun q hq => List.mem_append_left _ hq
        cases k with
        | false =>
          have k1 : LstAt F pl a xs := by simpa using k1
          have k2 : LstAt F pm b ys := by simpa using k2
          obtain ⟨us, a1, _⟩ := k1.up in1 _ _ _ _ in3 O4
          obtain ⟨vs, b1, _⟩ := k2.up in2 _ _ _ _ in3 O4
          exact ⟨a, b, us, vs, rfl, .inl ⟨a1, b1, h1 _ H1 (pm ++ pl) (wok_zipL (k1.up in1) (k2.up in2)) dd O4⟩⟩
        | true =>
          have k1 : TupAt F pl a xs := by simpa using k1
          have k2 : TupAt F pm b ys := by simpa using k2
          obtain ⟨us, a1, _⟩ := k1.up in1 _ _ _ _ in3 O4
          obtain ⟨vs, b1, _⟩ := k2.up in2 _ _ _ _ in3 O4
          exact ⟨a, b, us, vs, rfl, .inr ⟨a1, b1, h1 _ H1 (pm ++ pl) (wok_zipT (k1.up in1) (k2.up in2)) dd O4⟩⟩
      · exact h1.elim
    · exact h1.elim
  · refine ha.da.mono _ _ _ (fun rs ρ1 h1 => ?_) h
    revert h1
    split
    · split
      · exact fun h1 => ⟨h1.1, hq _ _ h1.2⟩
      · exact fun h1 => h1
    · exact fun h1 => h1
def enumD (xs : List PyData) : List PyData := zipD (rng 0 xs.length) xs
theorem enumD_len {xs : List PyData} : (enumD xs).length = xs.length := by
  unfold enumD
  rw [zipD_len, rng_len]; omega
theorem enumD_at {xs : List PyData} {i : Nat} {x : PyData} (h : xs[i]? = some x) : (enumD xs)[i]? = some (.tuple [.int (i : Nat), x]) := by
  have hi : i < xs.length := by
    rcases Nat.lt_or_ge i xs.length with z | z
    · exact z
    · rw [List.getElem?_eq_none z] at h; cases h
  have := zipD_at (rng_at (lo := 0) hi) h
  rw [Int.zero_add] at this
  exact this
theorem wok_enumL {pl : List Pin} {p : Addr} {xs : List PyData} (h1 : LstAt F pl p xs) : WOk F (Ite F.K p) (enumD xs) pl := by
  refine ⟨fun i pins ρ σ H hp hi O => ?_, fun pins ρ σ H hp O => ?_, fun i pins ρ σ H x H' hp hi O y => ?_⟩
  · obtain ⟨us, a1, a2⟩ := h1 pins ρ σ H hp O
    rw [enumD_len] at hi
    have l1 := a2.length
    exact ⟨us, _, a1, getL (by omega)⟩
  · obtain ⟨us, a1, a2⟩ := h1 pins ρ σ H hp O
    refine ⟨us, a1, ?_⟩
    rw [enumD_len, a2.length]
    exact Nat.le_refl _
  · obtain ⟨us, a1, a2⟩ := h1 pins ρ σ H hp O
    obtain ⟨T, u, rfl, hT, rfl, f1⟩ := y
    obtain ⟨x, e1, i1⟩ := a2.getV (f1 us a1)
    refine ⟨_, enumD_at e1, O.new hT, im_pair hT .int i1 fun z => ?_⟩
    obtain ⟨o, z⟩ := O.avH z
    rw [hT] at z; cases z
end
end DV
namespace DV
open PySem PySem.Spec PyProof.Rows L2
open AutoSeq1 (wpAny_loadPart')
/-! ### enumerate of a tuple -/
theorem meets_enumerate_newT (l : Addr) (items : Array Value) (n : Nat) (dct : Option Addr) (sl : Array (Option Value)) :
    Meets (Builtin.«enumerate.__new__» ⟨[.type "enumerate", .ref l], []⟩) (fun _ R s => s.heap.get? l = some { cls := .type "tuple", dict := dct, data := .seq items n, slots := sl } ∧
      R (.ok (.ret (.ref (s.heap.push { cls := .type "tuple_iterator", data := .fields #[.ref l, .int 0 0] }).objs.size)))
        { s with heap := (s.heap.push { cls := .type "tuple_iterator", data := .fields #[.ref l, .int 0 0] }).push { cls := .type "enumerate", data := .fields #[.none, .bool false, .ref s.heap.objs.size, rawInt 0, .none, .none] } }) :=
  .of_wp fun prog w A R s h => by
    obtain ⟨hp, g, d, tk, os⟩ := s; obtain ⟨hl, h⟩ := h
    have hsub := sub_enumerate
    have hL : Heap.IsTuple (Shared.heap ⟨hp, g, d, tk, os⟩) l items := ⟨_, hl, rfl, n, rfl⟩
    wp_walk using wpAny_loadPart' hl
    refine wpAny_stack_any fun st => wpAny_pure ?_
    split
    · rename_i c _ _ _ _ _
      cases (c == Value.type "enumerate")
      · wp_walk using wpAny_loadPart' hl, wpAny_pyIter_tuple hL
        exact ⟨_, rfl, h⟩
      · wp_walk using wpAny_loadPart' hl, wpAny_pyIter_tuple hL
        exact ⟨_, rfl, h⟩
    · wp_walk using wpAny_loadPart' hl, wpAny_pyIter_tuple hL
      exact ⟨_, rfl, h⟩
section
variable {prog : Program} {w : World} {A : Around} {E : Value → Shared → Prop} {s : Shared}
theorem call_enumerate_tuple {l : Addr} {items : Array Value} {Q : Value → Shared → Prop} (hL : s.heap.IsTuple l items)
    (h : ∀ h', IsEnum h' (s.heap.objs.size + 1) s.heap.objs.size 0 .none → h'.IsTupleIter s.heap.objs.size l 0 → h'.objs.size = s.heap.objs.size + 2 →
      (∀ b o, s.heap.get? b = some o → h'.get? b = some o) → Q (.ref (s.heap.objs.size + 1)) { s with heap := h' }) :
    wpAny (model prog w) A (call (.type "enumerate") [.ref l]) Q E s := by
  obtain ⟨⟨c, dct, dt, sl⟩, hl, hc, n, hd⟩ := hL
  replace hc : c = .type "tuple" := hc
  replace hd : dt = .seq items n := hd
  subst hc hd
  refine callType_new F.called_enumerate (by decide) (F.typeCall_enumerate_1 _) (F.newCall_enumerate_1 _) (fun obj => F.args_object_init_2 obj _) F.entry_enumerate_new
    (meets_enumerate_newT l items n dct sl) ⟨hl, ?_⟩
  have hz : (s.heap.push { cls := .type "tuple_iterator", data := .fields #[.ref l, .int 0 0] }).objs.size = s.heap.objs.size + 1 := Heap.size_push ..
  show _ ∧ _
  rw [hz]
  have he : IsEnum ((s.heap.push { cls := .type "tuple_iterator", data := .fields #[.ref l, .int 0 0] }).push
      { cls := .type "enumerate", data := .fields #[.none, .bool false, .ref s.heap.objs.size, rawInt 0, .none, .none] }) (s.heap.objs.size + 1) s.heap.objs.size 0 .none := by
    have := Heap.get?_push_size (s.heap.push { cls := .type "tuple_iterator", data := .fields #[.ref l, .int 0 0] })
      (o := { cls := .type "enumerate", data := .fields #[.none, .bool false, .ref s.heap.objs.size, rawInt 0, .none, .none] }) rfl
    rw [hz] at this; exact this
  refine ⟨⟨_, he, rfl⟩, h _ he ⟨_, Heap.get?_push_of_some _ (Heap.get?_push_size _ rfl), rfl, rfl⟩ (by rw [Heap.size_push, hz]) fun b o x => Heap.get?_push_of_some _ (Heap.get?_push_of_some _ x)⟩
end
def IteT (K : PySem.W.Frag) (a : Addr) : It :=
  ⟨fun i H => ∃ (xs : List V) (x : V), SqT K H a xs ∧ xs[i]? = some x, fun i H v H' => ∃ T x, v = .ref T ∧ H T = none ∧ H' = upd H T (.tup [.int (i : Nat), x]) ∧ ∀ xs, SqT K H a xs → xs[i]? = some x, fun i H => ∃ xs : List V, SqT K H a xs ∧ xs.length ≤ i⟩
theorem turn_enumT {P : Program} {w : World} {K : PySem.W.Frag} {elts : List Expr} {kk : Nat} {tpos : Pos} (a e it : Addr) (hae : e ≠ a) (hai : a ≠ it) :
    Turn P w K (.Tuple elts kk tpos) (IteT K a) [e, it] e (fun i h => (∃ old, IsEnum h e it ((i : Nat) : Int) old) ∧ h.IsTupleIter it a i ∧ e ≠ it) where
  mem := by simp
  obj := fun i h st b hb => by
    obtain ⟨⟨old, he⟩, ⟨o, ho, hc, hd⟩, _⟩ := st
    have e' : b = e ∨ b = it := by simpa using hb
    rcases e' with z | z
    · rw [z]; exact ⟨_, he, fun v q => nomatch q⟩
    · rw [z]; exact ⟨o, ho, fun v q => by rw [hd] at q; cases q⟩
  keep := fun i h h' st k => let ⟨⟨old, he⟩, hi, hne⟩ := st; ⟨⟨old, k e (by simp) _ he⟩, hi.at fun o q => k it (by simp) o q, hne⟩
  item := by
    intro X hP hw hK hc i pins s σ H E I hf st hg
    subst hP hw hK
    obtain ⟨⟨old, he⟩, hit, hne⟩ := st
    obtain ⟨xs, x, hq, hx⟩ := hg
    obtain ⟨its, rv, p, hz⟩ := I.tuple hq
    obtain ⟨u, hu, ru⟩ := rv.get hx
    have hel : e < s.heap.objs.size := Heap.lt_size he
    have hil : it < s.heap.objs.size := by obtain ⟨_, q, _⟩ := hit; exact Heap.lt_size q
    have hu' : its.toArray[i]? = some u := by simpa using hu
    have hlt : i < its.toArray.size := by
      rcases Nat.lt_or_ge i its.toArray.size with z | z
      · exact z
      · rw [Array.getElem?_eq_none z] at hu'; cases hu'
    refine wpAny_pyNext_enum_itemD (Draws.tuple (show X.A.in1.handled = none from I.ok.hd hc) it a hai its.toArray) he ⟨hit, show s.heap.IsTuple a its.toArray from p⟩ hlt hne (by simp [hne, hae]) fun x' h' tk hx' ho hst' hT hsz hk => ?_
    have ex : x' = u := by
      have z : its.toArray[i]? = some x' := hx'
      rw [hu'] at z; cases z; rfl
    subst ex
    obtain ⟨hit', _⟩ := hst'
    refine ⟨_, rfl, wpAny_letOwnedTupleGo_enum (s := { s with heap := h', toks := tk + 1 }) ho fun h'' he' sb => ?_⟩
    have hT2 : h''.get? s.heap.objs.size = some { cls := .type "tuple", data := .seq #[.int i tk, x'] } := (sb.2 _ (Nat.ne_of_gt hel)).trans hT
    have new : ObjOk X.prog X.w (upd H s.heap.objs.size (.tup [.int (i : Nat), x])) h'' s.heap.objs.size (.tup [.int (i : Nat), x]) :=
      ⟨by show 2 ≤ sizeLine; decide, [.int i tk, x'], .cons ⟨_, rfl⟩ (.cons ru .nil), ⟨_, hT2, rfl, _, rfl⟩⟩
    have I1 : Inv X pins σ (upd H s.heap.objs.size (.tup [.int (i : Nat), x])) { s with heap := h'', toks := tk + 1 } :=
      I.turnedNew (ch := [e, it]) (fun b ob hb q => (sb.2 b (fun z => hb (by simp [z]))).trans (hk b ob (fun z => hb (by simp [z])) (fun z => hb (by simp [z])) q)) hf (Nat.le_refl _) new
    refine ⟨.ref s.heap.objs.size, _, I1, rfl, ⟨_, x, rfl, I.hok.fresh (Nat.le_refl _), rfl, fun ys hy => by rw [I.tuple_inj hy hq]; exact hx⟩, ⟨⟨x', ?_⟩, hit'.at fun o q => (sb.2 it (Ne.symm hne)).trans q, hne⟩, fun b hb => ?_⟩
    · have e1 : ((i + 1 : Nat) : Int) = (i : Int) + 1 := by omega
      rw [e1]; exact he'
    · have hb' : b < s.heap.objs.size := by
        have e' : b = e ∨ b = it := by simpa using hb
        rcases e' with z | z
        · rw [z]; exact hel
        · rw [z]; exact hil
      rw [upd_ne (Nat.ne_of_lt hb')]
      exact (hf b hb).1
  done := by
    intro X hP hw hK hc i pins s σ H E I hf st hg
    subst hP hw hK
    obtain ⟨⟨old, he⟩, hit, hne⟩ := st
    obtain ⟨xs, hq, hx⟩ := hg
    obtain ⟨its, rv, p, hz⟩ := I.tuple hq
    obtain ⟨f0, f1, f2, f3, f4, f5⟩ := hf it (by simp)
    have hl := rv.length
    have hh : X.A.in1.handled = none := I.ok.hd hc
    have hge : its.toArray[i]? = none := by simp; omega
    have hT : s.TypeIs (.ref e) "enumerate" := ⟨_, he, rfl⟩
    unfold pyNext
    refine wpAny_bind (wpAny_attempt (wpAny_callSpecial?_slot (name := Str.ofString "__next__") hT F.slot_enumerate_next
      (wpAny_call_entry F.slot_enumerate_next hT F.entry_enumerate_next ?_ (F.args_enumerate_next_1 _))))
    show wpAny _ _ (field (.ref e) 2 >>= _) _ _ _
    refine wpAny_bind (wpAny_field he rfl (x := .ref it) rfl ?_)
    refine wpAny_bind (wpAny_nextOf_tuple_end hh hit (show s.heap.IsTuple a its.toArray from p) hge fun h' x eb hx' => ?_)
    obtain ⟨o, ho, hc⟩ := hx'
    refine wpAny_bind (wpAny_isInstance (T := "StopIteration") (b := true) ⟨o, ho, hc⟩ isSubtype_stop ?_)
    exact wpAny_pure ⟨rfl, I.turned (t' := s.toks) (fun b o hb q => eb b o hb q) f0 f1 f3 f4 f5⟩
  self := fun A i s Q E st h => let ⟨⟨_, he⟩, _⟩ := st; wpAny_pyIter_enum he h
def iEnumA (K : PySem.W.Frag) (ta : TA) : TI := fun σ H R => ta σ H fun vs H1 => ∃ a xs, vs = [.ref a] ∧ ((SqL K H1 a xs ∧ R (Ite K a) H1) ∨ (SqT K H1 a xs ∧ R (IteT K a) H1))
theorem pi_enumA {X : Cx} {e : Expr} {ta : TA} {p pos tpos : Pos} {elts : List Expr} {kk : Nat} (hg : Gl X "enumerate") (hm : X.mg "enumerate" = none) (ha : PA X [e] ta) (hs : starEach [e] X.env = [(false, eval e X.env)] := by rfl) :
    PI X (.Tuple elts kk tpos) (.Call (.Name "enumerate" p) [e] [] pos) (iEnumA X.K ta) := by
  refine ⟨fun pins s σ H R I h => ?_⟩
  refine Call_ (ld_blt I hg hm boot_enumerate (PyProof.Rows.callWith_type1 (thn (ha.run pos pins s σ H _ I h) fun us s1 ⟨vs, H1, I1, r1, q1⟩ => ?_) hs rfl))
  obtain ⟨a, xs, ex, q⟩ := q1
  subst ex
  cases r1 with
  | cons r rr =>
    cases rr
    cases r
    have fr : ∀ b ∈ [s1.heap.objs.size + 1, s1.heap.objs.size], FpOk X pins H1 b := fun b hb => by
      have e' : b = s1.heap.objs.size + 1 ∨ b = s1.heap.objs.size := by simpa using hb
      have hle : s1.heap.objs.size ≤ b := by
        rcases e' with z | z
        · rw [z]; exact Nat.le_add_right _ _
        · rw [z]; exact Nat.le_refl _
      exact I1.fpOk hle (I1.hok.fresh hle)
    rcases q with ⟨hq, q⟩ | ⟨hq, q⟩
    · obtain ⟨its, rv, p', hz⟩ := I1.list hq
      refine call_enumerate_list p'.isList fun h' he hit hsz hk => wpAny_pyIter_enum he ?_
      have I2 : Inv X pins σ H1 { s1 with heap := h' } := I1.kept (t' := s1.toks) hk
      exact ⟨s1.heap.objs.size + 1, [s1.heap.objs.size + 1, s1.heap.objs.size], _, _, H1, rfl, I2, turn_enum a (s1.heap.objs.size + 1) s1.heap.objs.size, ⟨⟨.none, he⟩, hit, Nat.succ_ne_self _⟩, fr, q⟩
    · obtain ⟨its, rv, p', hz⟩ := I1.tuple hq
      obtain ⟨o1, ho1, _⟩ := id p'
      have hlt := Heap.lt_size ho1
      refine call_enumerate_tuple (show s1.heap.IsTuple a its.toArray from p') fun h' he hit hsz hk => wpAny_pyIter_enum he ?_
      have I2 : Inv X pins σ H1 { s1 with heap := h' } := I1.kept (t' := s1.toks) hk
      exact ⟨s1.heap.objs.size + 1, [s1.heap.objs.size + 1, s1.heap.objs.size], _, _, H1, rfl, I2, turn_enumT a (s1.heap.objs.size + 1) s1.heap.objs.size (Nat.ne_of_gt (Nat.lt_succ_of_lt hlt)) (Nat.ne_of_lt hlt), ⟨⟨.none, he⟩, hit, Nat.succ_ne_self _⟩, fr, q⟩
section
variable {X : Cx} {F : Fm} {tg e e2 a b c : Expr} {te te2 ta tb tc : TE} {de de2 da db dc : TDE} {pos p tpos : Pos} {t : TA} {d : TDA} {elts : List Expr} {kk : Nat}
theorem wok_enumT {pl : List Pin} {p : Addr} {xs : List PyData} (h1 : TupAt F pl p xs) : WOk F (IteT F.K p) (enumD xs) pl := by
  refine ⟨fun i pins ρ σ H hp hi O => ?_, fun pins ρ σ H hp O => ?_, fun i pins ρ σ H x H' hp hi O y => ?_⟩
  · obtain ⟨us, a1, a2⟩ := h1 pins ρ σ H hp O
    rw [enumD_len] at hi
    have l1 := a2.length
    exact ⟨us, _, a1, getL (by omega)⟩
  · obtain ⟨us, a1, a2⟩ := h1 pins ρ σ H hp O
    refine ⟨us, a1, ?_⟩
    rw [enumD_len, a2.length]
    exact Nat.le_refl _
  · obtain ⟨us, a1, a2⟩ := h1 pins ρ σ H hp O
    obtain ⟨T, u, rfl, hT, rfl, f1⟩ := y
    obtain ⟨x, e1, i1⟩ := a2.getV (f1 us a1)
    refine ⟨_, enumD_at e1, O.new hT, im_pair hT .int i1 fun z => ?_⟩
    obtain ⟨o, z⟩ := O.avH z
    rw [hT] at z; cases z
def dEnum (t : TDA) : TDI := fun ρ Q => t ρ fun rs ρ1 => match rs with
  | [r] => match seqs ρ1 r with
    | some (_, xs) => Q (enumD xs) ρ1
    | _ => False
  | _ => False
theorem pdi_enum (hg : Gl X "enumerate") (hm : X.mg "enumerate" = none) (ha : PDA X F [e] t d) (hK : X.K = F.K := by rfl)
    (hs : starEach [e] X.env = [(false, eval e X.env)] := by rfl) :
    PDI X F (.Tuple elts kk tpos) (.Call (.Name "enumerate" p) [e] [] pos) (iEnumA F.K t) (dEnum d) := by
  refine ⟨?_, fun pins ρ σ H R O h => ?_, fun ρ Q Q' hq h => ?_⟩
  · have := pi_enumA (elts := elts) (kk := kk) (tpos := tpos) (p := p) (pos := pos) hg hm ha.pa hs
    rw [hK] at this
    exact this
  · refine ha.da.run pins ρ σ H _ O (ha.da.mono _ _ _ (fun rs ρ1 h1 vs H1 O1 R1 => ?_) h)
    split at h1
    · rename_i r
      split at h1
      · rename_i k xs e1
        simp only [ROks] at R1
        obtain ⟨v, _, rfl, r1, rfl⟩ := R1
        obtain ⟨a, pl, rfl, d1, O2, av2, k1⟩ := seqs_ok O1 r1 e1
        have in1 : ∀ q ∈ pl, q ∈ pl ++ pins := fun q hq => List.mem_append_left _ hq
        cases k with
        | false =>
          have k1 : LstAt F pl a xs := by simpa using k1
          obtain ⟨us, a1, _⟩ := k1 _ _ _ _ in1 O2
          exact ⟨a, us, rfl, .inl ⟨a1, h1 _ H1 pl (wok_enumL k1) d1 O2⟩⟩
        | true =>
          have k1 : TupAt F pl a xs := by simpa using k1
          obtain ⟨us, a1, _⟩ := k1 _ _ _ _ in1 O2
          exact ⟨a, us, rfl, .inr ⟨a1, h1 _ H1 pl (wok_enumT k1) d1 O2⟩⟩
      · exact h1.elim
    · exact h1.elim
  · refine ha.da.mono _ _ _ (fun rs ρ1 h1 => ?_) h
    revert h1
    split
    · split
      · exact hq _ _
      · exact fun h1 => h1
    · exact fun h1 => h1
end
end DV
set_option maxHeartbeats 4000000
namespace DV
open PySem PySem.Spec PyProof.Rows L2
/-! ### sorted of pairs of whole numbers -/
abbrev Pr := Int × Int
def lle (p q : Pr) : Prop := p.1 < q.1 ∨ (p.1 = q.1 ∧ p.2 ≤ q.2)
inductive All2 {α β : Type} (R : α → β → Prop) : List α → List β → Prop
  | nil : All2 R [] []
  | cons {a b as bs} : R a b → All2 R as bs → All2 R (a :: as) (b :: bs)
def PairIs (K : PySem.W.Frag) (H : Hp) (x : V) (p : Pr) : Prop := ∃ t, x = V.ref t ∧ SqT K H t [.int p.1, .int p.2]
noncomputable def keyOf (K : PySem.W.Frag) (H : Hp) (x : V) : Pr := by
  classical
  exact if h : ∃ p : Pr, PairIs K H x p then Classical.choose h else (0, 0)
section
variable {X : Cx} {pins : List (Addr × Obj)} {σ : L2.St} {H : Hp} {s : Shared}
theorem keyOf_is {K : PySem.W.Frag} {x : V} {p : Pr} (h : PairIs K H x p) : PairIs K H x (keyOf K H x) := by
  have e : ∃ p : Pr, PairIs K H x p := ⟨p, h⟩
  unfold keyOf
  rw [dif_pos e]
  exact Classical.choose_spec e
theorem pairIs_inj (I : Inv X pins σ H s) {x : V} {p q : Pr} (h : PairIs X.K H x p) (k : PairIs X.K H x q) : p = q := by
  obtain ⟨t, e1, h1⟩ := h
  obtain ⟨u, e2, h2⟩ := k
  rw [e1] at e2
  cases e2
  have e := I.tuple_inj h1 h2
  injection e with a b
  injection a with a
  injection b with b _
  injection b with b
  exact Prod.ext a b
theorem keyOf_eq (I : Inv X pins σ H s) {x : V} {p : Pr} (h : PairIs X.K H x p) : keyOf X.K H x = p := pairIs_inj I (keyOf_is h) h
theorem isPair_of (I : Inv X pins σ H s) {u : Value} {x : V} {p : Pr} (r : RelV x u) (h : PairIs X.K H x p) : Srt.IsPair s.heap u p.1 p.2 := by
  obtain ⟨t, rfl, h⟩ := h
  cases r
  obtain ⟨its2, r2, ⟨o, ho, hc, n, hd⟩, _⟩ := I.tuple h
  obtain ⟨u1, u2, rfl, ri, rj⟩ := vals2 r2
  obtain ⟨t1, rfl⟩ := ri
  obtain ⟨t2, rfl⟩ := rj
  exact ⟨t, o, t1, t2, n, rfl, ho, hc, hd⟩
theorem lle_of {a b : Pr} (h : SrtO.lexB b a = false) : lle a b := by
  have := SrtO.lexB_no.mp h
  unfold lle
  omega
def rSortP (K : PySem.W.Frag) : List V → Hp → VK → Prop := fun vs H Q => ∃ (a : Addr) (xs : List V) (ps : List Pr), vs = [V.ref a] ∧ SqL K H a xs ∧ All2 (PairIs K H) xs ps ∧
  ∀ (L : List (V × Pr)) (p : Addr), L.Perm (xs.zip ps) → L.Pairwise (fun x y => lle x.2 y.2) → H p = none → Q (.ref p) (upd H p (.lst (L.map (·.1))))
theorem zip_key {K : PySem.W.Frag} {k : V → Pr} : ∀ {xs : List V} {ps : List Pr}, All2 (PairIs K H) xs ps → (∀ x p, PairIs K H x p → k x = p) → xs.zip ps = xs.map fun x => (x, k x)
  | [], _, h, hk => by cases h; rfl
  | x :: xs, _, h, hk => by
    cases h with
    | cons h1 h2 =>
      rw [List.zip_cons_cons, List.map_cons, zip_key h2 hk, hk _ _ h1]
theorem cr_sortP : CallR X (.builtin "sorted") (rSortP X.K) := by
  intro pins s σ H vs us Q I r h
  obtain ⟨a, xs, ps, rfl, hs, hx, q⟩ := h
  obtain ⟨its, rv, hl, hz⟩ := I.list hs
  obtain ⟨u, rfl, ru⟩ := vals1 r
  obtain rfl : u = Value.ref a := ru
  have hx1 : ∀ x ∈ xs, ∃ p, PairIs X.K H x p := fun x hm => by
    clear q hs rv hz
    induction hx with
    | nil => cases hm
    | cons h1 h2 ih =>
      rcases List.mem_cons.mp hm with e | hm
      · rw [e]; exact ⟨_, h1⟩
      · exact ih hm
  obtain ⟨e1, e2⟩ := refs_back rv fun x m => by
    obtain ⟨p, t, e, _⟩ := hx1 x m
    exact ⟨t, e⟩
  refine SrtO.sorted_pairsO (k := fun u => keyOf X.K H (backV u)) hl.isList (by rw [← rv.length]; exact hz) (fun v hv => ?_) fun h' d out h1 h2 kp hd hn => ?_
  · have hm : backV v ∈ xs := by rw [e1]; exact List.mem_map.mpr ⟨_, hv, rfl⟩
    obtain ⟨p, hp⟩ := hx1 _ hm
    obtain ⟨t, rfl⟩ := e2 v hv
    exact isPair_of I (x := V.ref t) rfl (keyOf_is hp)
  · have h3 : ∀ u ∈ out, ∃ a, u = Value.ref a := fun u hu => e2 u (h2.perm.mem_iff.mp hu)
    obtain ⟨n, hn⟩ := hn
    have ez := zip_key hx fun x p hp => keyOf_eq I hp
    have hb : (out.map backV).Perm xs := by rw [e1]; exact h2.perm.map _
    have e5 : ((out.map backV).map fun x => (x, keyOf X.K H x)).map (·.1) = out.map backV := by
      rw [List.map_map]
      exact (List.map_congr_left fun _ _ => rfl).trans (List.map_id _)
    refine ⟨.ref d, upd H d (.lst (out.map backV)), I.laid (t' := s.toks) kp hd ⟨?_, out, n, vals_back h3, hn⟩, rfl, ?_⟩
    · rw [hb.length_eq]
      exact hz
    · have := q ((out.map backV).map fun x => (x, keyOf X.K H x)) d (by rw [ez]; exact hb.map _) ?_ (I.hok.fresh hd)
      · rw [e5] at this
        exact this
      · refine List.pairwise_map.mpr (List.pairwise_map.mpr (List.Pairwise.imp (fun {x y} hxy => lle_of hxy) h1))
end
def encP (p : Pr) : PyData := .tuple [.int p.1, .int p.2]
def asPairs : List PyData → Option (List Pr)
  | [] => some []
  | .tuple [.int x, .int y] :: xs => (asPairs xs).map ((x, y) :: ·)
  | _ :: _ => none
theorem asPairs_enc : ∀ ps : List Pr, asPairs (ps.map encP) = some ps
  | [] => rfl
  | p :: ps => by
    show (asPairs (ps.map encP)).map ((p.1, p.2) :: ·) = _
    rw [asPairs_enc ps]; rfl
theorem asPairs_back : ∀ {xs : List PyData} {ps : List Pr}, asPairs xs = some ps → xs = ps.map encP
  | [], _, h => by cases h; rfl
  | .tuple [.int x, .int y] :: xs, ps, h => by
    have h : (asPairs xs).map ((x, y) :: ·) = some ps := h
    cases e : asPairs xs with
    | none => rw [e] at h; cases h
    | some qs =>
      rw [e] at h
      cases h
      rw [asPairs_back e]; rfl
  | .none :: _, _, h => by cases h
  | .bool _ :: _, _, h => by cases h
  | .int _ :: _, _, h => by cases h
  | .str _ :: _, _, h => by cases h
  | .list _ :: _, _, h => by cases h
  | .dict _ :: _, _, h => by cases h
  | .tuple [] :: _, _, h => by cases h
  | .tuple [.none] :: _, _, h => by cases h
  | .tuple [.bool _] :: _, _, h => by cases h
  | .tuple [.int _] :: _, _, h => by cases h
  | .tuple [.str _] :: _, _, h => by cases h
  | .tuple [.list _] :: _, _, h => by cases h
  | .tuple [.tuple _] :: _, _, h => by cases h
  | .tuple [.dict _] :: _, _, h => by cases h
  | .tuple (.none :: _ :: _) :: _, _, h => by cases h
  | .tuple (.bool _ :: _ :: _) :: _, _, h => by cases h
  | .tuple (.str _ :: _ :: _) :: _, _, h => by cases h
  | .tuple (.list _ :: _ :: _) :: _, _, h => by cases h
  | .tuple (.tuple _ :: _ :: _) :: _, _, h => by cases h
  | .tuple (.dict _ :: _ :: _) :: _, _, h => by cases h
  | .tuple [.int _, .none] :: _, _, h => by cases h
  | .tuple [.int _, .bool _] :: _, _, h => by cases h
  | .tuple [.int _, .str _] :: _, _, h => by cases h
  | .tuple [.int _, .list _] :: _, _, h => by cases h
  | .tuple [.int _, .tuple _] :: _, _, h => by cases h
  | .tuple [.int _, .dict _] :: _, _, h => by cases h
  | .tuple (.int _ :: .none :: _ :: _) :: _, _, h => by cases h
  | .tuple (.int _ :: .bool _ :: _ :: _) :: _, _, h => by cases h
  | .tuple (.int _ :: .int _ :: _ :: _) :: _, _, h => by cases h
  | .tuple (.int _ :: .str _ :: _ :: _) :: _, _, h => by cases h
  | .tuple (.int _ :: .list _ :: _ :: _) :: _, _, h => by cases h
  | .tuple (.int _ :: .tuple _ :: _ :: _) :: _, _, h => by cases h
  | .tuple (.int _ :: .dict _ :: _ :: _) :: _, _, h => by cases h
theorem im_pairIs {K : PySem.W.Frag} {N : Addr → Prop} {H : Hp} {p : Pr} {v : V} (h : Im K N H (encP p) v) : PairIs K H v p := by
  simp only [encP, Im] at h
  obtain ⟨a, vs, rfl, l, im⟩ := h
  simp only [ImAll] at im
  obtain ⟨x, _, rfl, rfl, y, _, rfl, rfl, rfl⟩ := im
  exact ⟨a, rfl, l.sq⟩
theorem im_pairs {K : PySem.W.Frag} {N : Addr → Prop} {H : Hp} : ∀ {ps : List Pr} {vs : List V}, ImAll K N H (ps.map encP) vs → All2 (PairIs K H) vs ps
  | [], _, h => by simp only [List.map_nil, ImAll] at h; subst h; exact .nil
  | p :: ps, _, h => by
    rw [List.map_cons] at h
    simp only [ImAll] at h
    obtain ⟨v, vs, rfl, h1, h2⟩ := h
    exact .cons (im_pairIs h1) (im_pairs h2)
theorem im_zip {K : PySem.W.Frag} {N : Addr → Prop} {H : Hp} : ∀ {ps : List Pr} {vs : List V}, ImAll K N H (ps.map encP) vs → ∀ x ∈ vs.zip ps, Im K N H (encP x.2) x.1
  | [], _, h, x, hx => by simp only [List.map_nil, ImAll] at h; subst h; cases hx
  | p :: ps, _, h, x, hx => by
    rw [List.map_cons] at h
    simp only [ImAll] at h
    obtain ⟨v, vs, rfl, h1, h2⟩ := h
    rw [List.zip_cons_cons] at hx
    rcases List.mem_cons.mp hx with e | hx
    · rw [e]; exact h1
    · exact im_zip h2 x hx
theorem im_of_zip {K : PySem.W.Frag} {N : Addr → Prop} {H : Hp} : ∀ {L : List (V × Pr)}, (∀ x ∈ L, Im K N H (encP x.2) x.1) → ImAll K N H ((L.map (·.2)).map encP) (L.map (·.1))
  | [], _ => .nil
  | x :: L, h => by
    rw [List.map_cons, List.map_cons, List.map_cons]
    exact .cons (h x (List.mem_cons_self ..)) (im_of_zip fun y hy => h y (List.mem_cons_of_mem _ hy))
theorem All2.len {α β : Type} {R : α → β → Prop} : ∀ {as : List α} {bs : List β}, All2 R as bs → as.length = bs.length
  | _, _, .nil => rfl
  | _, _, .cons _ h => by rw [List.length_cons, List.length_cons, h.len]
/-- a sorted rearrangement -/
def Sortd (ps qs : List Pr) : Prop := qs.Perm ps ∧ qs.Pairwise lle
def SortdI (ps qs : List Int) : Prop := qs.Perm ps ∧ qs.Pairwise (· ≤ ·)
section
variable {X : Cx} {F : Fm} {e : Expr} {t : TA} {d : TDA} {pos : Pos}
def rSortA (K : PySem.W.Frag) : List V → Hp → VK → Prop := fun vs H Q => rSortP K vs H Q ∨ rSortedI K vs H Q
theorem cr_sortA : CallR X (.builtin "sorted") (rSortA X.K) := fun pins s σ H xs us Q I r h => by
  rcases h with h | h
  · exact cr_sortP pins s σ H xs us Q I r h
  · exact cr_sortedI pins s σ H xs us Q I r h
def dSort (t : TDA) : TDL := fun ρ Q => t ρ fun rs ρ1 => match rs with
  | [r] => onL ρ1 r fun xs => (∃ ps, asPairs xs = some ps ∧ ∀ qs, Sortd ps qs → Q (qs.map encP) ρ1) ∨ (∃ ns, asInts xs = some ns ∧ ∀ ms, SortdI ns ms → Q (ms.map .int) ρ1)
  | _ => False
theorem pl_sort {p : Pos} (hg : Gl X "sorted") (hm : X.mg "sorted" = none) (ha : PDA X F [e] t d) (hK : X.K = F.K := by rfl) (he : starEach [e] X.env = (false, eval e X.env) :: starEach [] X.env := by rfl) (hpl : (backTo pos (starEach [] X.env)).any (·.1) = false := by rfl) :
    PDL X F (.Call (.Name "sorted" p) [e] [] pos) (tCB (rSortA F.K) t) (dSort d) := by
  refine ⟨?_, fun pins ρ σ H Q O h => ?_, fun ρ Q Q' hq h => ?_⟩
  · have := pe_callB (p := p) (pos := pos) cr_sortA hg hm (by decide +kernel) ha.pa (by decide) (by decide) he hpl
    rw [hK] at this
    exact this
  · refine ha.da.run pins ρ σ H _ O (ha.da.mono _ _ _ (fun rs ρ1 h1 vs H1 O1 R1 => ?_) h)
    split at h1
    · rename_i r
      simp only [ROks] at R1
      obtain ⟨v, _, rfl, r1, rfl⟩ := R1
      obtain ⟨xs, e1, q⟩ := onL_of h1
      obtain ⟨p, us, rfl, l, im⟩ := litems_ok O1 r1 e1
      rcases q with ⟨ps, e2, q⟩ | ⟨ns, e2, q⟩
      · cases asPairs_back e2
        have a2 := im_pairs im
        refine .inl ⟨p, us, ps, rfl, l, a2, fun L p' pm pw hp => ?_⟩
        have hz : ∀ x ∈ L, Im F.K (Av F pins ρ1 σ) H1 (encP x.2) x.1 := fun x hx => im_zip im x (pm.mem_iff.mp hx)
        refine q (L.map (·.2)) ⟨?_, List.pairwise_map.mpr pw⟩ _ _ (O1.pushL hp (im_of_zip hz))
        have h := pm.map (·.2)
        rw [List.map_snd_zip (by rw [a2.len]; exact Nat.le_refl _)] at h
        exact h
      · cases asInts_dp im.dp e2
        refine .inr ⟨p, ns, rfl, l, fun ms p' pm pw hp => q ms ⟨pm, pw⟩ _ _ (O1.pushL hp (ImAll.ints ms))⟩
    · exact h1.elim
  · refine ha.da.mono _ _ _ (fun rs ρ1 h1 => ?_) h
    revert h1
    split
    · refine fun h1 => onL_mono h1 fun xs h2 => ?_
      rcases h2 with ⟨ps, e, q⟩ | ⟨ns, e, q⟩
      · exact .inl ⟨ps, e, fun qs s => hq _ _ (q qs s)⟩
      · exact .inr ⟨ns, e, fun qs s => hq _ _ (q qs s)⟩
    · exact fun h1 => h1
end
end DV
set_option maxHeartbeats 4000000
namespace DV
open PySem PySem.Spec PyProof.Rows L2
/-! ### sorted of a set of pairs -/
def twoOf : List Int → Pr
  | [x, y] => (x, y)
  | _ => (0, 0)
section
variable {P : Program} {w : World} {A : Around} {E : Value → Shared → Prop} {s : Shared}
theorem sorted_setP {a : Addr} {L : List (Addr × List Int)} {es : Array (Int × Value)} {ep : Nat} {t : SetTable} {Q : Value → Shared → Prop} (R : SetTR P w s.heap a L es ep t) (hh : A.handled = none)
    (hB : ∀ p ∈ L, p.2.length = 2)
    (hQ : ∀ s' p (out : List Value) (c : Nat) (L' : List (Addr × List Int)), (∀ b o, s.heap.get? b = some o → s'.heap.get? b = some o) → s'.gens = s.gens → s'.os = s.os → s.heap.objs.size ≤ p →
      s'.heap.get? p = some (seqObj "list" out.toArray c) → out = L'.map (fun q => Value.ref q.1) → L'.Perm L → L'.Pairwise (fun q r => lle (twoOf q.2) (twoOf r.2)) → Q (.ref p) s') :
    wpAny (model P w) A (call (.builtin "sorted") [.ref a]) Q E s := by
  obtain ⟨o, ho, hex, hd⟩ := R.ob
  have hsz := R.size
  have hfew := R.few
  refine Calls.call_function_entry kind_sorted plain_sorted entry_sorted (args_sorted1 _) ?_
  unfold Builtin.«sorted»
  refine wpAny_bind (m := checkCount "sorted" 1 1 _) (wpAny_pure ?_)
  refine wpAny_bind (collect_set (A := A.in1) hh ⟨o, ho, hex.1, hd⟩ R.fits (by unfold scanBound; omega) R.tab.ris R.led fun s1 vs k1 hz g1 o1 pm => ?_)
  have hes : es.toList.map (·.2) = L.map fun q => Value.ref q.1 := by
    rw [R.rows]
    unfold rowsOf
    rw [List.map_map] <;> rfl
  rw [hes] at pm
  have ord : ∀ vs : List Value, (∀ v ∈ vs, ∃ q ∈ L, v = Value.ref q.1) → ∃ L1 : List (Addr × List Int), vs = L1.map (fun q => Value.ref q.1) ∧ ∀ q ∈ L1, q ∈ L := by
    intro vs
    induction vs with
    | nil => intro _; exact ⟨[], rfl, fun q hq => (by cases hq)⟩
    | cons v vs ih =>
      intro hv
      obtain ⟨q, hq, e⟩ := hv v List.mem_cons_self
      obtain ⟨L1, e1, hs⟩ := ih fun u hu => hv u (List.mem_cons_of_mem _ hu)
      refine ⟨q :: L1, by rw [List.map_cons, e, e1], fun r hr => ?_⟩
      rcases List.mem_cons.mp hr with z | z
      · rw [z]; exact hq
      · exact hs r z
  have one : ∀ q ∈ L, ∀ r ∈ L, q.1 = r.1 → q = r := fun q hq r hr e => by
    have a1 := R.tup q hq
    have a2 := R.tup r hr
    rw [e] at a1
    have e2 : q.2 = r.2 := a1.inj a2
    exact Prod.ext e e2
  have perm_of : ∀ L1 : List (Addr × List Int), (∀ q ∈ L1, q ∈ L) → (L1.map (fun q => Value.ref q.1)).Perm (L.map fun q => Value.ref q.1) → L1.Perm L := by
    intro L1 hs pm1
    have nL : L.Nodup := L2.nodup_of_map R.nd
    have nref : (L.map fun q => Value.ref q.1).Nodup := by
      refine List.pairwise_map.mpr (List.Pairwise.imp_of_mem (fun {q r} hq hr hne e => ?_) nL)
      injection e with e
      exact hne (one q hq r hr e)
    have n1 : L1.Nodup := L2.nodup_of_map (pm1.nodup_iff.mpr nref)
    refine (List.perm_ext_iff_of_nodup n1 nL).mpr fun q => ⟨hs q, fun hq => ?_⟩
    have hm : Value.ref q.1 ∈ L1.map (fun q => Value.ref q.1) := pm1.mem_iff.mpr (List.mem_map.mpr ⟨q, hq, rfl⟩)
    obtain ⟨r, hr, e⟩ := List.mem_map.mp hm
    injection e with e
    rw [← one r (hs r hr) q hq e]
    exact hr
  have hvl : vs.length < 64 := by rw [pm.length_eq, List.length_map]; exact hfew
  refine wpAny_bind (wpAny_newList ?_ (by rw [sizeLine_eq]; omega))
  have hoL : (s1.heap.push (seqObj "list" vs.toArray 0)).get? s1.heap.objs.size = some (seqObj "list" vs.toArray 0) := Heap.get?_push_size _ rfl
  classical
  -- the key of a value
  let key : Value → Pr := fun v => if h : ∃ q ∈ L, v = Value.ref q.1 then twoOf (Classical.choose h).2 else (0, 0)
  have key_at : ∀ q ∈ L, key (.ref q.1) = twoOf q.2 := fun q hq => by
    have h : ∃ r ∈ L, Value.ref q.1 = Value.ref r.1 := ⟨q, hq, rfl⟩
    show (if h : ∃ r ∈ L, Value.ref q.1 = Value.ref r.1 then twoOf (Classical.choose h).2 else (0, 0)) = _
    rw [dif_pos h]
    obtain ⟨h1, h2⟩ := Classical.choose_spec h
    injection h2 with h2
    rw [← one q hq _ h1 h2]
  have isp : ∀ q ∈ L, Srt.IsPair (s1.heap.push (seqObj "list" vs.toArray 0)) (.ref q.1) (key (.ref q.1)).1 (key (.ref q.1)).2 := fun q hq => by
    rw [key_at q hq]
    obtain ⟨o, items, n, ho, hc, hd, hi⟩ := L2.isT_keep (R.tup q hq) fun b u e => Heap.get?_push_of_some (seqObj "list" vs.toArray 0) (k1 b u e)
    have l2 := hB q hq
    generalize q.2 = k at hi l2
    match k, l2 with
    | [x, y], _ =>
      have ia := ints_of_items hi
      cases ia' : items.toList with
      | nil => rw [ia'] at ia; cases ia
      | cons v1 r1 =>
        rw [ia'] at ia
        cases ia with
        | cons _ t1 ia2 =>
          cases ia2 with
          | cons _ t2 ia3 =>
            cases ia3
            have e : items = #[.int x t1, .int y t2] := by
              apply Array.toList_inj.mp
              rw [ia']
            exact ⟨q.1, o, t1, t2, n, rfl, ho, hc, by rw [hd, e]; rfl⟩
  have ofv : ∀ v ∈ vs, ∃ q ∈ L, v = Value.ref q.1 := fun v hv => by
    obtain ⟨q, hq, e⟩ := List.mem_map.mp (pm.mem_iff.mp hv)
    exact ⟨q, hq, e.symm⟩
  refine wpAny_bind (wpAny_holding (wpAny_call_entry slot_list_sort ⟨_, hoL, rfl⟩ entry_list_sort (SrtO.list_sort_ord (s := { s1 with heap := s1.heap.push (seqObj "list" vs.toArray 0) }) (SrtO.swo_lex key) hoL (by rw [sizeLine_eq]; omega) (fun h2 => ?_) fun out hs hb => ⟨_, rfl, ?_⟩) (args_list_sort _)))
  · refine SrtO.pairs_sortableO (by omega) (fun v hv => ?_) fun o e c => ?_
    · obtain ⟨q, hq, rfl⟩ := ofv v hv
      exact isp q hq
    · have e' : some o = some (seqObj "list" vs.toArray 0) := e.symm.trans hoL
      cases e'
      exact absurd (Value.type.inj c) (by decide)
  · obtain ⟨c, hc⟩ := PyProof.Rows.sortedHeap_at (vs := vs) (out := out.toArray) hoL
    obtain ⟨L', e', hs'⟩ := ord out fun v hv => ofv v (hb.perm.mem_iff.mp hv)
    have pL : L'.Perm L := perm_of L' hs' (by rw [← e']; exact hb.perm.trans pm)
    have pw : L'.Pairwise (fun q r => lle (twoOf q.2) (twoOf r.2)) := by
      rw [e'] at hs
      refine List.Pairwise.imp_of_mem (fun {q r} hq hr hle => ?_) (List.pairwise_map.mp hs)
      have := lle_of hle
      rw [key_at q (hs' q hq), key_at r (hs' r hr)] at this
      exact this
    refine wpAny_pure ⟨_, rfl, hQ _ s1.heap.objs.size out c L' (fun b u e => ?_) g1 o1 hz hc e' pL pw⟩
    have q := k1 b u e
    have hlt := Heap.lt_size q
    show (sortedHeap (s1.heap.push (seqObj "list" vs.toArray 0)) s1.heap.objs.size vs out.toArray).get? b = some u
    rw [PyProof.Rows.sortedHeap_old (Nat.ne_of_lt hlt) (by rw [size_push']; exact Nat.lt_succ_of_lt hlt)]
    exact Heap.get?_push_of_some _ q
end
section
variable {X : Cx}
def rSortedTP (K : PySem.W.Frag) (P : Program) (w : World) : List V → Hp → VK → Prop := fun vs H Q => ∃ (a : Addr) (L : List (Addr × List Int)), vs = [V.ref a] ∧ H a = some (SetTO P w a L) ∧ (∀ p ∈ L, SqT K H p.1 (p.2.map V.int)) ∧
  (∀ p ∈ L, p.2.length = 2) ∧
  ∀ (L' : List (Addr × List Int)) (p : Addr), L'.Perm L → (L'.map (·.2)).Nodup → L'.Pairwise (fun q r => lle (twoOf q.2) (twoOf r.2)) → H p = none → Q (.ref p) (upd H p (.lst (L'.map fun q => V.ref q.1)))
theorem cr_sortedTP (hc : X.calm = true) : CallR X (.builtin "sorted") (rSortedTP X.K X.prog X.w) := by
  intro pins s σ H vs us Q I r h
  obtain ⟨a, L, rfl, ha, hk, hB, q⟩ := h
  have R0 : SetT0 X.prog X.w s.heap a L := (I.hok a _ ha).1
  obtain ⟨es, ep, t, R⟩ := R0.full fun p hp => I.isT (hk p hp)
  rw [Vals.ref1 r]
  refine sorted_setP R (I.ok.hd hc) hB fun s' p out c L' k g o hp hg hout pm pw => ?_
  have hfew : L'.length < 64 := by rw [pm.length_eq]; exact R.few
  have hlen : (L'.map fun q => V.ref q.1).length ≤ sizeLine := by rw [List.length_map, sizeLine_eq]; omega
  have hn : H p = none := I.hok.fresh hp
  have hv : Vals (L'.map fun q => V.ref q.1) out := by rw [hout]; exact vals_of_refs L'
  have J : L2.Inv X pins σ (upd H p (.lst (L'.map fun q => V.ref q.1))) { s with heap := s'.heap, gens := s'.gens, drawn := s'.drawn, toks := s'.toks } :=
    I.call (ch := []) (Un.laid k hp hn) (I.hok.laid k hp ⟨hlen, out, c, hv, hg⟩) (by rw [g]; exact I.bare) (fun _ z => nomatch z)
  have e : s' = { s with heap := s'.heap, gens := s'.gens, drawn := s'.drawn, toks := s'.toks } := by
    cases s'
    cases s
    cases o
    rfl
  rw [e]
  exact ⟨.ref p, _, J, rfl, q L' p pm ((pm.map (·.2)).nodup_iff.mpr R.nd) pw hn⟩
end
theorem keyed {K : PySem.W.Frag} {N : Addr → Prop} {H : Hp} : ∀ {ps : List Pr} {vs : List V}, ImAll K N H (ps.map encP) vs → ∃ ks : List (Addr × List Int), vs = ks.map (fun p => V.ref p.1) ∧ ks.map (·.2) = ps.map (fun p => [p.1, p.2]) ∧ ∀ k ∈ ks, k.2.length = 2 ∧ Im K N H (encP (twoOf k.2)) (.ref k.1)
  | [], _, h => by simp only [List.map_nil, ImAll] at h; subst h; exact ⟨[], rfl, rfl, fun k hk => nomatch hk⟩
  | p :: ps, _, h => by
    rw [List.map_cons] at h
    simp only [ImAll] at h
    obtain ⟨v, vs, rfl, h1, h2⟩ := h
    obtain ⟨ks, e1, e2, e3⟩ := keyed h2
    obtain ⟨t, rfl, _⟩ := im_pairIs h1
    refine ⟨(t, [p.1, p.2]) :: ks, by rw [e1, List.map_cons], by rw [List.map_cons, List.map_cons, e2], fun k hk => ?_⟩
    rcases List.mem_cons.mp hk with e | hk
    · rw [e]; exact ⟨rfl, h1⟩
    · exact e3 k hk
theorem two_eq {k : List Int} (h : k.length = 2) : k = [(twoOf k).1, (twoOf k).2] := by
  match k, h with
  | [x, y], _ => rfl
theorem sq_of_im {K : PySem.W.Frag} {N : Addr → Prop} {H : Hp} {k : Addr × List Int} (h : k.2.length = 2) (im : Im K N H (encP (twoOf k.2)) (.ref k.1)) : SqT K H k.1 (k.2.map V.int) := by
  obtain ⟨t, e, q⟩ := im_pairIs im
  cases e
  have e : k.2.map V.int = [V.int (twoOf k.2).1, V.int (twoOf k.2).2] := by
    conv => lhs; rw [two_eq h]
    rfl
  rw [e]; exact q
/-- each pair once, in order -/
def SortdS (ps qs : List Pr) : Prop := qs.Nodup ∧ qs.Pairwise lle ∧ ∀ p, p ∈ qs ↔ p ∈ ps
section
variable {X : Cx} {F : Fm} {e : Expr} {t : TA} {d : TDA} {pos : Pos}
def dSortSet (t : TDA) : TDL := fun ρ Q => t ρ fun rs ρ1 => match rs with
  | [r] => onL ρ1 r fun xs => ∃ ps, asPairs xs = some ps ∧ ps.length < 64 ∧ ∀ qs, SortdS ps qs → Q (qs.map encP) ρ1
  | _ => False
theorem pl_sortSet {p p2 : Pos} {pos2 : Pos} (hc : X.calm = true) (hu : X.A.units + 64 < cLine) (hg : Gl X "sorted") (hm : X.mg "sorted" = none) (hg2 : Gl X "set") (hm2 : X.mg "set" = none) (ha : PDA X F [e] t d) (hK : X.K = F.K := by rfl)
    (he : starEach [e] X.env = (false, eval e X.env) :: starEach [] X.env := by rfl) (hpl : (backTo pos2 (starEach [] X.env)).any (·.1) = false := by rfl)
    (he2 : starEach [.Call (.Name "set" p2) [e] [] pos2] X.env = (false, eval (.Call (.Name "set" p2) [e] [] pos2) X.env) :: starEach [] X.env := by rfl) (hpl2 : (backTo pos (starEach [] X.env)).any (·.1) = false := by rfl) :
    PDL X F (.Call (.Name "sorted" p) [.Call (.Name "set" p2) [e] [] pos2] [] pos) (tCB (rSortedTP F.K X.prog X.w) (tCons (tCB (rSetOfT F.K X.prog X.w) t) tNil)) (dSortSet d) := by
  refine ⟨?_, fun pins ρ σ H Q O h => ?_, fun ρ Q Q' hq h => ?_⟩
  · have h1 := pe_callTy (p := p2) (pos := pos2) (cr_setOfT hc hu) hg2 hm2 (by decide +kernel) ha.pa (by decide) (by decide) he hpl
    have h2 := pe_callB (p := p) (pos := pos) (cr_sortedTP hc) hg hm (by decide +kernel) (pa_cons h1 pa_nil he2) (by decide) (by decide) he2 hpl2
    rw [hK] at h2
    exact h2
  · refine ha.da.run pins ρ σ H _ O (ha.da.mono _ _ _ (fun rs ρ1 h1 vs H1 O1 R1 => ?_) h)
    split at h1
    · rename_i r
      simp only [ROks] at R1
      obtain ⟨v, _, rfl, r1, rfl⟩ := R1
      obtain ⟨xs, e1, ps, e2, hlt, q⟩ := onL_of h1
      obtain ⟨l, us, rfl, sq, im⟩ := litems_ok O1 r1 e1
      cases asPairs_back e2
      obtain ⟨ks, e3, e4, e5⟩ := keyed im
      subst e3
      have hlen : ks.length = ps.length := by have := congrArg List.length e4; simpa using this
      refine ⟨l, ks, rfl, sq, fun k hk => sq_of_im (e5 k hk).1 (e5 k hk).2, by omega, fun a L ha0 hL1 hL2 => ?_⟩
      have O2 : Ok F pins ρ1 σ (upd H1 a (SetTO X.prog X.w a L)) := O1.new ha0
      have G : Go (Av F pins ρ1 σ) (Av F pins ρ1 σ) H1 (upd H1 a (SetTO X.prog X.w a L)) := ⟨fun b o _ h => grow_new ha0 b o h, fun b h => .inl h⟩
      have im2 : ∀ k ∈ L, k.2.length = 2 ∧ Im F.K (Av F pins ρ1 σ) (upd H1 a (SetTO X.prog X.w a L)) (encP (twoOf k.2)) (.ref k.1) := fun k hk => ⟨(e5 k (hL1 k hk)).1, (e5 k (hL1 k hk)).2.go G⟩
      refine ⟨a, L, rfl, upd_same, fun k hk => sq_of_im (im2 k hk).1 (im2 k hk).2, fun k hk => (im2 k hk).1, fun L' p' pm nd pw hp => ?_⟩
      have hL' : ∀ k ∈ L', k ∈ L := fun k hk => pm.mem_iff.mp hk
      have im3 : ImAll F.K (Av F pins ρ1 σ) (upd H1 a (SetTO X.prog X.w a L)) ((L'.map fun k => twoOf k.2).map encP) (L'.map fun k => V.ref k.1) := by
        have : ∀ M : List (Addr × List Int), (∀ k ∈ M, k ∈ L) → ImAll F.K (Av F pins ρ1 σ) (upd H1 a (SetTO X.prog X.w a L)) ((M.map fun k => twoOf k.2).map encP) (M.map fun k => V.ref k.1) := by
          intro M
          induction M with
          | nil => intro _; exact .nil
          | cons k M ih =>
            intro hM
            rw [List.map_cons, List.map_cons, List.map_cons]
            exact .cons (im2 k (hM k (List.mem_cons_self ..))).2 (ih fun j hj => hM j (List.mem_cons_of_mem _ hj))
        exact this L' hL'
      refine q (L'.map fun k => twoOf k.2) ⟨?_, List.pairwise_map.mpr pw, fun p => ⟨fun hp => ?_, fun hp => ?_⟩⟩ _ _ (O2.pushL hp im3)
      · refine List.pairwise_map.mpr (List.Pairwise.imp_of_mem (fun {j k} hj hk hne e => ?_) (List.pairwise_map.mp nd))
        have a1 := two_eq (im2 j (hL' j hj)).1
        have a2 := two_eq (im2 k (hL' k hk)).1
        exact hne (by rw [a1, a2, e])
      · obtain ⟨k, hk, rfl⟩ := List.mem_map.mp hp
        have hm : k.2 ∈ ks.map (·.2) := List.mem_map.mpr ⟨k, hL1 k (hL' k hk), rfl⟩
        rw [e4] at hm
        obtain ⟨p, hp, e⟩ := List.mem_map.mp hm
        rw [← e]; exact hp
      · have hm : [p.1, p.2] ∈ ks.map (·.2) := by rw [e4]; exact List.mem_map.mpr ⟨p, hp, rfl⟩
        obtain ⟨k, hk, e⟩ := List.mem_map.mp hm
        obtain ⟨j, hj, e9⟩ := List.mem_map.mp (hL2 k hk)
        refine List.mem_map.mpr ⟨j, pm.mem_iff.mpr hj, ?_⟩
        rw [e9, e]; rfl
    · exact h1.elim
  · refine ha.da.mono _ _ _ (fun rs ρ1 h1 => ?_) h
    revert h1
    split
    · exact fun h1 => onL_mono h1 fun xs ⟨ps, e, hl, q⟩ => ⟨ps, e, hl, fun qs s => hq _ _ (q qs s)⟩
    · exact fun h1 => h1
end
end DV
namespace HQ
open PySem PyProof.Rows
theorem kind_push : builtinKind "_heapq.heappush" = none := by decide +kernel
theorem plain_push : plainId "_heapq.heappush" = true := by decide +kernel
theorem entry_push : entryFor table "_heapq.heappush" = some Builtin.«_heapq.heappush» := entryFor_of_fast (by kernel_rfl)
theorem args_push (a b : Value) : argsOk "_heapq.heappush" ⟨[a, b], []⟩ := by unfold argsOk; kernel_rfl
theorem kind_pop : builtinKind "_heapq.heappop" = none := by decide +kernel
theorem plain_pop : plainId "_heapq.heappop" = true := by decide +kernel
theorem entry_pop : entryFor table "_heapq.heappop" = some Builtin.«_heapq.heappop» := entryFor_of_fast (by kernel_rfl)
theorem args_pop (a : Value) : argsOk "_heapq.heappop" ⟨[a], []⟩ := by unfold argsOk; kernel_rfl
theorem plain_sift : plainId "_heapq.heapify.sift" = true := by decide +kernel
theorem entry_sift : entryFor table "_heapq.heapify.sift" = some Builtin.«_heapq.heapify.sift» := entryFor_of_fast (by kernel_rfl)
section
variable {prog : Program} {w : World} {A : Around} {E : Value → Shared → Prop} {s : Shared}
theorem sub_list_list : isSubtype (.type "list") (.type "list") = pure true := by kernel_rfl
theorem push_code {l : Addr} {xs : Array Value} {n : Nat} {x : Value} {R : Fin → Shared → Prop} (hl : s.heap.get? l = some (seqObj "list" xs n)) (hz : xs.size < sizeLine)
    (h : ∀ h' e, h'.get? l = some (seqObj "list" (xs.push x) e) → Heap.SameBut l s.heap h' → R (.again (.builtin "_heapq.heapify.sift" ⟨[.ref l, .bool false, .bool false, rawInt (xs.size : Nat), rawInt (0 : Nat), .none, rawInt (-1)], []⟩)) { s with heap := h' }) :
    wpAny (model prog w) A (Builtin.«_heapq.heappush» ⟨[.ref l, x], []⟩) R E s := by
  have hsub := sub_list_list
  unfold Builtin.«_heapq.heappush»
  wp_walk
  have hp : (Obj.mapSeq (fun x_1 => x_1.push x) (seqObj "list" xs n)).data.pastItsLine = none := by
    show Data.pastItsLine (.seq (xs.push x) _) = none
    exact pastItsLine_seq (by rw [Array.size_push]; omega)
  rw [hp]
  refine wpAny_pure ?_
  have h1 : ∃ e, (s.heap.update l (Obj.mapSeq fun x_1 => x_1.push x)).get? l = some (seqObj "list" (xs.push x) e) := ⟨_, get?_update_seq hl _⟩
  have h2 : Heap.SameBut l s.heap (s.heap.update l (Obj.mapSeq fun x_1 => x_1.push x)) := Heap.SameBut.update ..
  generalize s.heap.update l (Obj.mapSeq fun x_1 => x_1.push x) = h3 at h1 h2
  obtain ⟨e, h1⟩ := h1
  have h4 := h h3 e h1 h2
  wp_walk
  have e0 : (xs.push x).size - 1 = xs.size := by simp
  rw [e0]
  exact h4
theorem rc_lt {a b : Int} {t u : Tok} {Q : Value → Shared → Prop} (h : Q (.bool (decide (a < b))) s) : wpAny (model prog w) A (richCompare .Lt (.int a t) (.int b u)) Q E s := PyProof.Rows.lt_int h
abbrev SC (l : Addr) (down : Bool) (i : Nat) (res : Value) : Code := .builtin "_heapq.heapify.sift" ⟨[.ref l, .bool false, .bool down, rawInt (i : Nat), rawInt (0 : Nat), res, rawInt (-1)], []⟩
abbrev sw (xs : Array Value) (i j : Nat) (x y : Value) : Array Value := (xs.setIfInBounds i y).setIfInBounds j x
theorem swap_at {l : Addr} {xs : Array Value} {n : Nat} {i j : Nat} {x y : Value} (hl : s.heap.get? l = some (seqObj "list" xs n)) : ∃ e, (s.heap.update l (Obj.mapSeq fun xs => (xs.setIfInBounds i y).setIfInBounds j x)).get? l = some (seqObj "list" (sw xs i j x y) e) := ⟨_, get?_update_seq hl _⟩
theorem past_sw {xs : Array Value} {n i j : Nat} {x y : Value} (hz : xs.size ≤ sizeLine) : (Obj.mapSeq (fun xs => (xs.setIfInBounds i y).setIfInBounds j x) (seqObj "list" xs n)).data.pastItsLine = none := by
  show Data.pastItsLine (.seq _ _) = none
  exact pastItsLine_seq (by simp; omega)
theorem up_code {l : Addr} {xs : Array Value} {n : Nat} {i : Nat} {res : Value} {x p : Int} {t u : Tok} {R : Fin → Shared → Prop} (hl : s.heap.get? l = some (seqObj "list" xs n)) (hi : 0 < i)
    (hx : xs[i]? = some (.int x t)) (hp : xs[(i - 1) / 2]? = some (.int p u)) (hz : xs.size ≤ sizeLine)
    (h1 : x < p → ∀ h' e, h'.get? l = some (seqObj "list" (sw xs ((i - 1) / 2) i (.int p u) (.int x t)) e) → Heap.SameBut l s.heap h' → R (.again (SC l false ((i - 1) / 2) res)) { s with heap := h' })
    (h2 : ¬ x < p → R (.done (.ret res)) s) :
    wpAny (model prog w) A (Builtin.«_heapq.heapify.sift» ⟨[.ref l, .bool false, .bool false, rawInt (i : Nat), rawInt (0 : Nat), res, rawInt (-1)], []⟩) R E s := by
  unfold Builtin.«_heapq.heapify.sift»
  wp_walk
  simp only [Int.toNat_natCast, hx, hp]
  refine wpAny_pure ?_
  wp_walk
  simp only [hp]
  refine wpAny_pure ?_
  simp only [Bool.false_eq_true, if_false]
  wp_walk using rc_lt
  by_cases c : x < p
  · rw [if_pos (by simpa using c)]
    wp_walk
    simp only [hp, hx]
    refine wpAny_pure ?_
    wp_walk
    simp only [hp, hx]
    refine wpAny_pure ?_
    wp_walk
    rw [past_sw hz]
    refine wpAny_pure ?_
    wp_walk
    obtain ⟨e, he⟩ := swap_at (i := (i - 1) / 2) (j := i) (x := .int p u) (y := .int x t) hl
    exact h1 c _ e he (Heap.SameBut.update ..)
  · rw [if_neg (by simpa using c)]
    wp_walk
    exact h2 c
theorem top_code {l : Addr} {xs : Array Value} {n : Nat} {res : Value} {R : Fin → Shared → Prop} (hl : s.heap.get? l = some (seqObj "list" xs n))
    (h2 : R (.done (.ret res)) s) :
    wpAny (model prog w) A (Builtin.«_heapq.heapify.sift» ⟨[.ref l, .bool false, .bool false, rawInt (0 : Nat), rawInt (0 : Nat), res, rawInt (-1)], []⟩) R E s := by
  unfold Builtin.«_heapq.heapify.sift»
  wp_walk
  exact h2
theorem leaf_code {l : Addr} {xs : Array Value} {n : Nat} {i : Nat} {res : Value} {R : Fin → Shared → Prop} (hl : s.heap.get? l = some (seqObj "list" xs n)) (hi : ¬ i < xs.size / 2)
    (h2 : R (.again (SC l false i res)) s) :
    wpAny (model prog w) A (Builtin.«_heapq.heapify.sift» ⟨[.ref l, .bool false, .bool true, rawInt (i : Nat), rawInt (0 : Nat), res, rawInt (-1)], []⟩) R E s := by
  unfold Builtin.«_heapq.heapify.sift»
  wp_walk
  exact h2
theorem down_swap {l : Addr} {xs : Array Value} {n : Nat} {i c : Nat} {res : Value} {x y : Value} {R : Fin → Shared → Prop} {m : Sem Unit} (hl : s.heap.get? l = some (seqObj "list" xs n))
    (hm : m = (do updateSeq l fun xs => (xs.setIfInBounds c x).setIfInBounds i y)) (hz : xs.size ≤ sizeLine)
    (h1 : ∀ h' e, h'.get? l = some (seqObj "list" (sw xs c i y x) e) → Heap.SameBut l s.heap h' → R (.again (SC l true c res)) { s with heap := h' }) :
    wpAny (model prog w) A (do m; again (SC l true c res)) R E s := by
  subst hm
  wp_walk
  rw [past_sw hz]
  refine wpAny_pure ?_
  wp_walk
  obtain ⟨e, he⟩ := swap_at (i := c) (j := i) (x := y) (y := x) hl
  exact h1 _ e he (Heap.SameBut.update ..)
theorem down_code {l : Addr} {xs : Array Value} {n : Nat} {i c : Nat} {res : Value} {x y : Value} {a b : Int} {t u : Tok} {R : Fin → Shared → Prop} (hl : s.heap.get? l = some (seqObj "list" xs n)) (hi : i < xs.size / 2)
    (hx : xs[i]? = some x) (hy : xs[c]? = some y) (ha : xs[2 * i + 1]? = some (.int a t)) (hb : 2 * i + 2 < xs.size → xs[2 * i + 2]? = some (.int b u)) (hz : xs.size ≤ sizeLine)
    (hc : c = if 2 * i + 2 < xs.size ∧ ¬ a < b then 2 * i + 2 else 2 * i + 1)
    (h1 : ∀ h' e, h'.get? l = some (seqObj "list" (sw xs c i y x) e) → Heap.SameBut l s.heap h' → R (.again (SC l true c res)) { s with heap := h' }) :
    wpAny (model prog w) A (Builtin.«_heapq.heapify.sift» ⟨[.ref l, .bool false, .bool true, rawInt (i : Nat), rawInt (0 : Nat), res, rawInt (-1)], []⟩) R E s := by
  unfold Builtin.«_heapq.heapify.sift»
  wp_walk
  simp only [Int.toNat_natCast]
  by_cases h2 : 2 * i + 2 < xs.size
  · rw [if_pos (show 2 * i + 1 + 1 < xs.size from h2)]
    have hb' : xs[2 * i + 1 + 1]? = some (.int b u) := hb h2
    wp_walk
    simp only [ha]
    refine wpAny_pure ?_
    wp_walk
    simp only [hb']
    refine wpAny_pure ?_
    simp only [Bool.false_eq_true, if_false]
    wp_walk using rc_lt
    by_cases hab : a < b
    · have hc' : c = 2 * i + 1 := by rw [hc, if_neg (fun z => z.2 hab)]
      subst hc'
      rw [if_neg (by simpa using hab)]
      wp_walk
      simp only [hx, hy]
      refine wpAny_pure ?_
      wp_walk
      simp only [hx, hy]
      refine wpAny_pure ?_
      wp_walk
      rw [past_sw hz]
      refine wpAny_pure ?_
      wp_walk
      obtain ⟨e, he⟩ := swap_at (i := 2 * i + 1) (j := i) (x := y) (y := x) hl
      exact h1 _ e he (Heap.SameBut.update ..)
    · have hc' : c = 2 * i + 2 := by rw [hc, if_pos ⟨h2, hab⟩]
      subst hc'
      rw [if_pos (by simpa using hab)]
      have hy' : xs[2 * i + 1 + 1]? = some y := hy
      wp_walk
      simp only [hx, hy']
      refine wpAny_pure ?_
      wp_walk
      simp only [hx, hy']
      refine wpAny_pure ?_
      wp_walk
      rw [past_sw hz]
      refine wpAny_pure ?_
      wp_walk
      obtain ⟨e, he⟩ := swap_at (i := 2 * i + 2) (j := i) (x := y) (y := x) hl
      exact h1 _ e he (Heap.SameBut.update ..)
  · rw [if_neg (show ¬ 2 * i + 1 + 1 < xs.size from h2)]
    have hc' : c = 2 * i + 1 := by rw [hc, if_neg (fun z => h2 z.1)]
    subst hc'
    wp_walk
    simp only [hx, hy]
    refine wpAny_pure ?_
    wp_walk
    simp only [hx, hy]
    refine wpAny_pure ?_
    wp_walk
    rw [past_sw hz]
    refine wpAny_pure ?_
    wp_walk
    obtain ⟨e, he⟩ := swap_at (i := 2 * i + 1) (j := i) (x := y) (y := x) hl
    exact h1 _ e he (Heap.SameBut.update ..)
theorem pop_one {l : Addr} {n : Nat} {x : Value} {R : Fin → Shared → Prop} (hl : s.heap.get? l = some (seqObj "list" #[x] n))
    (h : ∀ h' e, h'.get? l = some (seqObj "list" #[] e) → Heap.SameBut l s.heap h' → R (.done (.ret x)) { s with heap := h' }) :
    wpAny (model prog w) A (Builtin.«_heapq.heappop» ⟨[.ref l], []⟩) R E s := by
  have hsub := sub_list_list
  unfold Builtin.«_heapq.heappop»
  wp_walk
  exact h _ _ (get?_update_seq hl _) (Heap.SameBut.update ..)
theorem pop_code {l : Addr} {xs : Array Value} {n : Nat} {x y : Value} {R : Fin → Shared → Prop} (hl : s.heap.get? l = some (seqObj "list" (xs.push y) n)) (hx : xs[0]? = some x) (hz : xs.size ≤ sizeLine)
    (h : ∀ h' e, h'.get? l = some (seqObj "list" (xs.setIfInBounds 0 y) e) → Heap.SameBut l s.heap h' → R (.again (SC l true 0 x)) { s with heap := h' }) :
    wpAny (model prog w) A (Builtin.«_heapq.heappop» ⟨[.ref l], []⟩) R E s := by
  have hsub := sub_list_list
  unfold Builtin.«_heapq.heappop»
  wp_walk
  have e1 : (xs.push y).back? = some y := by simp
  have h0 : 0 < xs.size := by
    rcases Nat.lt_or_ge 0 xs.size with z | z
    · exact z
    · rw [Array.getElem?_eq_none z] at hx; cases hx
  have e2 : ((xs.push y).size == 1) = false := by
    rw [Array.size_push]
    exact beq_eq_false_iff_ne.mpr (by omega)
  have e3 : (xs.push y)[0]? = some x := by
    rw [Array.getElem?_push_lt h0]
    rw [Array.getElem?_eq_getElem h0] at hx
    exact hx
  simp only [e1, e2, e3]
  wp_walk
  have hp : (Obj.mapSeq (fun x => x.pop) (seqObj "list" (xs.push y) n)).data.pastItsLine = none := by
    show Data.pastItsLine (.seq _ _) = none
    exact pastItsLine_seq (by simp; omega)
  rw [hp]
  refine wpAny_pure ?_
  have h1 : ∃ e, (s.heap.update l (Obj.mapSeq fun x => x.pop)).get? l = some (seqObj "list" xs e) := ⟨_, by rw [get?_update_seq hl _, Array.pop_push]⟩
  have h2 : Heap.SameBut l s.heap (s.heap.update l (Obj.mapSeq fun x => x.pop)) := Heap.SameBut.update ..
  generalize s.heap.update l (Obj.mapSeq fun x => x.pop) = h3 at h1 h2
  obtain ⟨e, h1⟩ := h1
  simp only [Bool.false_eq_true, if_false]
  wp_walk
  simp only [e3]
  refine wpAny_pure ?_
  wp_walk
  have hp2 : (Obj.mapSeq (fun x => x.setIfInBounds 0 y) (seqObj "list" xs e)).data.pastItsLine = none := by
    show Data.pastItsLine (.seq _ _) = none
    exact pastItsLine_seq (by simp; omega)
  rw [hp2]
  refine wpAny_pure ?_
  wp_walk
  exact h _ _ (get?_update_seq h1 _) (h2.trans (Heap.SameBut.update ..))
/-! ### the whole -/
def Ints (xs : Array Value) (f : Nat → Int) : Prop := ∀ i, i < xs.size → ∃ t, xs[i]? = some (.int (f i) t)
def HeapF (n : Nat) (f : Nat → Int) : Prop := ∀ j, 0 < j → j < n → f ((j - 1) / 2) ≤ f j
def HeapA (xs : Array Value) : Prop := ∃ f, Ints xs f ∧ HeapF xs.size f
def UpOk (n : Nat) (f : Nat → Int) (i : Nat) : Prop := (∀ j, 0 < j → j < n → j ≠ i → f ((j - 1) / 2) ≤ f j) ∧ (0 < i → ∀ c, 0 < c → c < n → (c - 1) / 2 = i → f ((i - 1) / 2) ≤ f c)
def DownOk (n : Nat) (f : Nat → Int) (i : Nat) : Prop := (∀ j, 0 < j → j < n → j ≠ i → (j - 1) / 2 ≠ i → f ((j - 1) / 2) ≤ f j) ∧ (0 < i → ∀ c, 0 < c → c < n → (c - 1) / 2 = i → f ((i - 1) / 2) ≤ f c)
def swF (f : Nat → Int) (i j : Nat) : Nat → Int := fun k => if k = i then f j else if k = j then f i else f k
theorem sw_size {xs : Array Value} {i j : Nat} {x y : Value} : (sw xs i j x y).size = xs.size := by simp [sw]
theorem sw_ints {xs : Array Value} {f : Nat → Int} {i j : Nat} {x y : Value} (h : Ints xs f) (hx : xs[i]? = some x) (hy : xs[j]? = some y) : Ints (sw xs i j x y) (swF f i j) := by
  intro k hk
  rw [sw_size] at hk
  have hi : i < xs.size := by
    rcases Nat.lt_or_ge i xs.size with z | z
    · exact z
    · rw [Array.getElem?_eq_none z] at hx; cases hx
  have hj : j < xs.size := by
    rcases Nat.lt_or_ge j xs.size with z | z
    · exact z
    · rw [Array.getElem?_eq_none z] at hy; cases hy
  obtain ⟨ti, ei⟩ := h i hi
  obtain ⟨tj, ej⟩ := h j hj
  obtain ⟨tk, ek⟩ := h k hk
  rw [hx] at ei
  rw [hy] at ej
  cases ei
  cases ej
  unfold sw swF
  rw [Array.getElem?_setIfInBounds, Array.getElem?_setIfInBounds]
  by_cases e1 : j = k
  · subst e1
    rw [if_pos rfl]
    by_cases e2 : j = i
    · subst e2
      refine ⟨ti, ?_⟩
      simp [hj]
    · refine ⟨ti, ?_⟩
      simp [hj, e2]
  · rw [if_neg e1]
    by_cases e2 : i = k
    · subst e2
      refine ⟨tj, ?_⟩
      simp [hi]
    · refine ⟨tk, ?_⟩
      rw [if_neg e2, if_neg (fun z => e2 z.symm), if_neg (fun z => e1 z.symm), ek]
theorem sw_perm {xs : Array Value} {i j : Nat} {x y : Value} (hx : xs[i]? = some x) (hy : xs[j]? = some y) : (sw xs i j x y).toList.Perm xs.toList := by
  have hi : i < xs.size := by
    rcases Nat.lt_or_ge i xs.size with z | z
    · exact z
    · rw [Array.getElem?_eq_none z] at hx; cases hx
  have hj : j < xs.size := by
    rcases Nat.lt_or_ge j xs.size with z | z
    · exact z
    · rw [Array.getElem?_eq_none z] at hy; cases hy
  have e : sw xs i j x y = xs.swap i j := by
    rw [Array.getElem?_eq_getElem hi] at hx
    rw [Array.getElem?_eq_getElem hj] at hy
    cases hx
    cases hy
    unfold sw
    rw [Array.swap_def]
    simp [Array.setIfInBounds, hi, hj]
  rw [e]
  exact Array.perm_iff_toList_perm.mp (Array.swap_perm hi hj)
theorem ints_lt {xs : Array Value} {i : Nat} {v : Value} (h : xs[i]? = some v) : i < xs.size := by
  rcases Nat.lt_or_ge i xs.size with z | z
  · exact z
  · rw [Array.getElem?_eq_none z] at h; cases h
theorem up_swap {n i : Nat} {f : Nat → Int} (hi : 0 < i) (hn : i < n) (h : UpOk n f i) (hlt : f i < f ((i - 1) / 2)) : UpOk n (swF f ((i - 1) / 2) i) ((i - 1) / 2) := by
  have hp : (i - 1) / 2 < i := by omega
  refine ⟨fun j h0 hj hne => ?_, fun h0 c hc0 hc hce => ?_⟩
  · unfold swF
    by_cases e1 : j = i
    · subst e1
      rw [if_pos rfl, if_neg (by omega), if_pos rfl]
      omega
    · rw [if_neg hne, if_neg e1]
      by_cases e2 : (j - 1) / 2 = (i - 1) / 2
      · rw [if_pos e2]
        have := h.1 j h0 hj e1
        rw [e2] at this
        omega
      · rw [if_neg e2]
        by_cases e3 : (j - 1) / 2 = i
        · rw [if_pos e3]
          exact h.2 hi j h0 hj e3
        · rw [if_neg e3]
          exact h.1 j h0 hj e1
  · unfold swF
    have hpp : ((i - 1) / 2 - 1) / 2 < (i - 1) / 2 := by omega
    rw [if_neg (show ¬ ((i - 1) / 2 - 1) / 2 = (i - 1) / 2 by omega), if_neg (show ¬ ((i - 1) / 2 - 1) / 2 = i by omega)]
    have a1 := h.1 ((i - 1) / 2) h0 (by omega) (by omega)
    by_cases e1 : c = i
    · rw [if_neg (by omega), if_pos e1]
      exact a1
    · rw [if_neg (by omega), if_neg e1]
      have a2 := h.1 c hc0 hc e1
      rw [hce] at a2
      omega
theorem up_done {n i : Nat} {f : Nat → Int} (h : UpOk n f i) (hge : 0 < i → f ((i - 1) / 2) ≤ f i) : HeapF n f := fun j h0 hj => by
  by_cases e : j = i
  · subst e
    exact hge h0
  · exact h.1 j h0 hj e
theorem up_run {l : Addr} {res : Value} {R : Result → Shared → Prop} : ∀ (i : Nat) {s : Shared} {xs : Array Value} {n : Nat} {f : Nat → Int}, s.heap.get? l = some (seqObj "list" xs n) → xs.size ≤ sizeLine → Ints xs f → (0 < i → i < xs.size) → UpOk xs.size f i →
    (∀ h' e ys, h'.get? l = some (seqObj "list" ys e) → Heap.SameBut l s.heap h' → ys.toList.Perm xs.toList → HeapA ys → R (.ok (.ret res)) { s with heap := h' }) →
    codeAny (model prog w) A (SC l false i res) R s := by
  intro i
  induction i using Nat.strongRecOn with
  | _ i ih =>
    intro s xs n f hl hz hI hn hU hR
    refine codeAny_builtin entry_sift ?_
    rw [Around.under_plainId plain_sift _]
    rcases Nat.eq_zero_or_pos i with e | h0
    · subst e
      refine top_code hl ?_
      exact hR s.heap n xs hl (Heap.SameBut.refl l s.heap) (List.Perm.refl _) ⟨f, hI, up_done hU fun z => absurd z (Nat.lt_irrefl 0)⟩
    · have hp : (i - 1) / 2 < i := by omega
      obtain ⟨t, hx⟩ := hI i (hn h0)
      obtain ⟨u, hy⟩ := hI ((i - 1) / 2) (Nat.lt_trans hp (hn h0))
      refine up_code hl h0 hx hy hz (fun hlt h' e he hs => ⟨plainId_quiet plain_sift _, ?_⟩) fun hge => ?_
      · refine ih ((i - 1) / 2) hp (s := { s with heap := h' }) he (by rw [sw_size]; exact hz) (sw_ints hI hy hx) (fun _ => by rw [sw_size]; exact Nat.lt_trans hp (hn h0)) (by rw [sw_size]; exact up_swap h0 (hn h0) hU hlt) fun h2 e2 ys he2 hs2 pm hh => ?_
        exact hR h2 e2 ys he2 (hs.trans hs2) (pm.trans (sw_perm hy hx)) hh
      · exact hR s.heap n xs hl (Heap.SameBut.refl l s.heap) (List.Perm.refl _) ⟨f, hI, up_done hU fun _ => by omega⟩
theorem down_leaf {n i : Nat} {f : Nat → Int} (h : DownOk n f i) (hi : ¬ i < n / 2) : UpOk n f i :=
  ⟨fun j h0 hj hne => h.1 j h0 hj hne (by omega), h.2⟩
theorem down_swF {n i c : Nat} {f : Nat → Int} (h : DownOk n f i) (hi : i < n / 2) (hc : c = if 2 * i + 2 < n ∧ ¬ f (2 * i + 1) < f (2 * i + 2) then 2 * i + 2 else 2 * i + 1) : DownOk n (swF f c i) c := by
  have hci : (c - 1) / 2 = i ∧ i < c ∧ c < n ∧ (∀ d, 0 < d → d < n → (d - 1) / 2 = i → f c ≤ f d) := by
    split at hc
    · rename_i q
      subst hc
      refine ⟨by omega, by omega, q.1, fun d h0 hd hde => ?_⟩
      have : d = 2 * i + 1 ∨ d = 2 * i + 2 := by omega
      rcases this with e | e
      · rw [e]; omega
      · rw [e]; omega
    · rename_i q
      subst hc
      refine ⟨by omega, by omega, by omega, fun d h0 hd hde => ?_⟩
      have : d = 2 * i + 1 ∨ d = 2 * i + 2 := by omega
      rcases this with e | e
      · rw [e]; omega
      · rw [e]
        have : f (2 * i + 1) < f (2 * i + 2) := by
          rcases Int.lt_or_le (f (2 * i + 1)) (f (2 * i + 2)) with z | z
          · exact z
          · exact absurd ⟨by omega, by omega⟩ q
        omega
  obtain ⟨c1, c2, c3, c4⟩ := hci
  refine ⟨fun j h0 hj hne hpe => ?_, fun hc0 d hd0 hd hde => ?_⟩
  · unfold swF
    rw [if_neg hpe, if_neg hne]
    by_cases e1 : j = i
    · subst e1
      rw [if_pos rfl, if_neg (by omega)]
      exact h.2 h0 c (by omega) c3 c1
    · rw [if_neg e1]
      by_cases e2 : (j - 1) / 2 = i
      · rw [if_pos e2]
        exact c4 j h0 hj e2
      · rw [if_neg e2]
        exact h.1 j h0 hj e1 e2
  · unfold swF
    rw [c1, if_neg (show ¬ i = c by omega), if_pos rfl, if_neg (by omega), if_neg (by omega)]
    have := h.1 d hd0 hd (by omega) (by omega)
    rw [hde] at this
    exact this
theorem down_run {l : Addr} {res : Value} {R : Result → Shared → Prop} : ∀ (k i : Nat) {s : Shared} {xs : Array Value} {n : Nat} {f : Nat → Int}, xs.size - i ≤ k → s.heap.get? l = some (seqObj "list" xs n) → xs.size ≤ sizeLine → Ints xs f → i < xs.size → DownOk xs.size f i →
    (∀ h' e ys, h'.get? l = some (seqObj "list" ys e) → Heap.SameBut l s.heap h' → ys.toList.Perm xs.toList → HeapA ys → R (.ok (.ret res)) { s with heap := h' }) →
    codeAny (model prog w) A (SC l true i res) R s := by
  intro k
  induction k with
  | zero => intro i s xs n f hk hl hz hI hn; omega
  | succ k ih =>
    intro i s xs n f hk hl hz hI hn hD hR
    refine codeAny_builtin entry_sift ?_
    rw [Around.under_plainId plain_sift _]
    by_cases hi : i < xs.size / 2
    · obtain ⟨t, hx⟩ := hI i hn
      obtain ⟨ta, ha⟩ := hI (2 * i + 1) (by omega)
      have hb : ∃ tb : Tok, 2 * i + 2 < xs.size → xs[2 * i + 2]? = some (.int (f (2 * i + 2)) tb) := by
        by_cases q : 2 * i + 2 < xs.size
        · obtain ⟨tb, hb⟩ := hI _ q
          exact ⟨tb, fun _ => hb⟩
        · exact ⟨ta, fun z => absurd z q⟩
      obtain ⟨tb, hb⟩ := hb
      obtain ⟨c, hc⟩ : ∃ c, c = if 2 * i + 2 < xs.size ∧ ¬ f (2 * i + 1) < f (2 * i + 2) then 2 * i + 2 else 2 * i + 1 := ⟨_, rfl⟩
      have hcn : i < c ∧ c < xs.size := by
        split at hc
        · rename_i q; omega
        · omega
      obtain ⟨tc, hy⟩ := hI c hcn.2
      refine down_code hl hi hx hy ha hb hz hc fun h' e he hs => ⟨plainId_quiet plain_sift _, ?_⟩
      refine ih c (s := { s with heap := h' }) (by rw [sw_size]; omega) he (by rw [sw_size]; exact hz) (sw_ints hI hy hx) (by rw [sw_size]; exact hcn.2) (by rw [sw_size]; exact down_swF hD hi hc) fun h2 e2 ys he2 hs2 pm hh => ?_
      exact hR h2 e2 ys he2 (hs.trans hs2) (pm.trans (sw_perm hy hx)) hh
    · refine leaf_code hl hi ⟨plainId_quiet plain_sift _, ?_⟩
      exact up_run i hl hz hI (fun _ => hn) (down_leaf hD hi) hR
end
end HQ
namespace DV
open PySem PySem.Spec PyProof.Rows L2
/-! ### heappush, heappop of whole numbers -/
def HeapL (ns : List Int) : Prop := HQ.HeapF ns.length fun i => ns.getD i 0
theorem ints_at : ∀ {its : List Value} {ns : List Int}, IntsAre its ns → ∀ i, i < its.length → ∃ t, its[i]? = some (.int (ns.getD i 0) t)
  | _, _, .nil, i, h => by simp at h
  | _, _, .cons n t r, 0, h => ⟨t, rfl⟩
  | _, _, .cons n t r, i + 1, h => by
    obtain ⟨u, e⟩ := ints_at r i (by simpa using h)
    exact ⟨u, by simpa using e⟩
theorem ints_len : ∀ {its : List Value} {ns : List Int}, IntsAre its ns → its.length = ns.length
  | _, _, .nil => rfl
  | _, _, .cons n t r => by rw [List.length_cons, List.length_cons, ints_len r]
theorem ints_arr {its : List Value} {ns : List Int} (h : IntsAre its ns) : HQ.Ints its.toArray fun i => ns.getD i 0 := fun i hi => by
  obtain ⟨t, e⟩ := ints_at h i (by simpa using hi)
  exact ⟨t, by simpa using e⟩
theorem heapA_of {its : List Value} {ns : List Int} (h : IntsAre its ns) (k : HeapL ns) : HQ.HeapA its.toArray :=
  ⟨_, ints_arr h, by rw [List.size_toArray, ints_len h]; exact k⟩
theorem heapL_of {ys : Array Value} {ms : List Int} (h : IntsAre ys.toList ms) (k : HQ.HeapA ys) : HeapL ms := by
  obtain ⟨f, h1, h2⟩ := k
  have hl := ints_len h
  rw [Array.length_toList] at hl
  have e : ∀ j, j < ms.length → ms.getD j 0 = f j := fun j hj => by
    obtain ⟨t, e1⟩ := h1 j (by omega)
    obtain ⟨u, e2⟩ := ints_at h j (by rw [Array.length_toList]; omega)
    rw [Array.getElem?_toList, e1] at e2
    injection e2 with e2
    injection e2 with e2
    exact e2.symm
  intro j h0 hj
  show ms.getD ((j - 1) / 2) 0 ≤ ms.getD j 0
  rw [e j hj, e _ (by omega)]
  exact h2 j h0 (by omega)
theorem heap_min {n : Nat} {f : Nat → Int} (h : HQ.HeapF n f) : ∀ j, j < n → f 0 ≤ f j := by
  intro j
  induction j using Nat.strongRecOn with
  | _ j ih =>
    intro hj
    rcases Nat.eq_zero_or_pos j with e | h0
    · subst e; exact Int.le_refl _
    · exact Int.le_trans (ih ((j - 1) / 2) (by omega) (by omega)) (h j h0 hj)
section
variable {prog : Program} {w : World} {A : Around} {E : Value → Shared → Prop} {s : Shared}
theorem call_push {l : Addr} {xs : Array Value} {n : Nat} {x : Int} {t : Tok} {Q : Value → Shared → Prop} (hl : s.heap.get? l = some (seqObj "list" xs n)) (hz : xs.size < sizeLine) (hh : HQ.HeapA xs)
    (h : ∀ h' e ys, h'.get? l = some (seqObj "list" ys e) → Heap.SameBut l s.heap h' → ys.toList.Perm (xs.push (.int x t)).toList → HQ.HeapA ys → Q .none { s with heap := h' }) :
    wpAny (model prog w) A (call (.builtin "_heapq.heappush") [.ref l, .int x t]) Q E s := by
  refine call_function_tree HQ.kind_push HQ.plain_push HQ.entry_push (HQ.args_push _ _) (HQ.push_code hl hz fun h' e he hs => ⟨plainId_quiet HQ.plain_sift _, ?_⟩)
  obtain ⟨f, hI, hF⟩ := hh
  have hsz : (xs.push (.int x t)).size = xs.size + 1 := Array.size_push ..
  refine HQ.up_run xs.size (s := { s with heap := h' }) (f := fun k => if k = xs.size then x else f k) he (by omega) (fun k hk => ?_) (fun _ => by omega) ⟨fun j h0 hj hne => ?_, fun h0 c hc0 hc hce => by omega⟩ fun h2 e2 ys he2 hs2 pm hh => ?_
  · rw [hsz] at hk
    by_cases e : k = xs.size
    · subst e
      refine ⟨t, ?_⟩
      simp
    · obtain ⟨u, eu⟩ := hI k (by omega)
      refine ⟨u, ?_⟩
      show _ = some (Value.int (if k = xs.size then x else f k) u)
      rw [if_neg e, Array.getElem?_push_lt (by omega)]
      rw [Array.getElem?_eq_getElem (by omega)] at eu
      exact eu
  · show (if (j - 1) / 2 = xs.size then x else f ((j - 1) / 2)) ≤ (if j = xs.size then x else f j)
    rw [hsz] at hj
    rw [if_neg hne, if_neg (by omega)]
    exact hF j h0 (by omega)
  · exact h h2 e2 ys he2 (hs.trans hs2) pm hh
theorem call_pop {l : Addr} {xs : Array Value} {n : Nat} {Q : Value → Shared → Prop} (hl : s.heap.get? l = some (seqObj "list" xs n)) (h0 : 0 < xs.size) (hz : xs.size ≤ sizeLine) (hh : HQ.HeapA xs)
    (h : ∀ h' e ys v, xs[0]? = some v → h'.get? l = some (seqObj "list" ys e) → Heap.SameBut l s.heap h' → (v :: ys.toList).Perm xs.toList → HQ.HeapA ys → Q v { s with heap := h' }) :
    wpAny (model prog w) A (call (.builtin "_heapq.heappop") [.ref l]) Q E s := by
  obtain ⟨ys, y, rfl⟩ : ∃ ys y, xs = Array.push ys y := Array.eq_push_of_size_ne_zero (by omega)
  refine call_function_tree HQ.kind_pop HQ.plain_pop HQ.entry_pop (HQ.args_pop _) ?_
  obtain ⟨f, hI, hF⟩ := hh
  have hsz : (ys.push y).size = ys.size + 1 := Array.size_push ..
  rcases Nat.eq_zero_or_pos ys.size with e0 | hp
  · have e : ys = #[] := Array.eq_empty_of_size_eq_zero e0
    subst e
    refine HQ.pop_one hl fun h' e he hs => ?_
    exact h h' e #[] y rfl he hs (List.Perm.refl _) ⟨fun _ => 0, fun i hi => absurd hi (Nat.not_lt_zero _), fun j h0 hj => absurd hj (Nat.not_lt_zero _)⟩
  · obtain ⟨t, ex⟩ := hI 0 (by omega)
    have ex1 : ys[0]? = some (.int (f 0) t) := by
      rw [Array.getElem?_push_lt hp] at ex
      rw [Array.getElem?_eq_getElem hp]
      exact ex
    obtain ⟨ty, ey⟩ := hI ys.size (by omega)
    have ey1 : y = .int (f ys.size) ty := by
      rw [Array.getElem?_push_size] at ey
      injection ey
    refine HQ.pop_code hl ex1 (by omega) fun h' e he hs => ⟨plainId_quiet HQ.plain_sift _, ?_⟩
    have hss : (ys.setIfInBounds 0 y).size = ys.size := by simp
    refine HQ.down_run (ys.setIfInBounds 0 y).size 0 (s := { s with heap := h' }) (f := fun k => if k = 0 then f ys.size else f k) (by omega) he (by rw [hss]; omega) (fun k hk => ?_) (by rw [hss]; exact hp) ⟨fun j h0 hj hne hpe => ?_, fun z => absurd z (Nat.lt_irrefl 0)⟩ fun h2 e2 zs he2 hs2 pm hh => ?_
    · rw [hss] at hk
      by_cases e : k = 0
      · subst e
        refine ⟨ty, ?_⟩
        simp [hp, ey1]
      · obtain ⟨u, eu⟩ := hI k (by omega)
        refine ⟨u, ?_⟩
        show _ = some (Value.int (if k = 0 then f ys.size else f k) u)
        rw [if_neg e, Array.getElem?_setIfInBounds, if_neg (fun z => e z.symm)]
        rw [Array.getElem?_push_lt hk] at eu
        rw [Array.getElem?_eq_getElem hk]
        exact eu
    · show (if (j - 1) / 2 = 0 then f ys.size else f ((j - 1) / 2)) ≤ (if j = 0 then f ys.size else f j)
      rw [hss] at hj
      rw [if_neg hne, if_neg hpe]
      exact hF j h0 (by omega)
    · refine h h2 e2 zs (.int (f 0) t) ex he2 (hs.trans hs2) ?_ hh
      refine (List.Perm.cons _ pm).trans ?_
      have hl2 : ys.toList = .int (f 0) t :: ys.toList.tail := by
        cases q : ys.toList with
        | nil => exact absurd (show ys.size = 0 by rw [← Array.length_toList, q]; rfl) (by omega)
        | cons a as =>
          have : ys.toList[0]? = some (.int (f 0) t) := by rw [Array.getElem?_toList]; exact ex1
          rw [q] at this
          injection this with this
          rw [this]; rfl
      rw [Array.toList_setIfInBounds, Array.toList_push, hl2]
      show (Value.int (f 0) t :: (y :: ys.toList.tail)).Perm (Value.int (f 0) t :: (ys.toList.tail ++ [y]))
      exact List.Perm.cons _ (List.perm_append_singleton y _).symm
end
section
variable {X : Cx}
def rPush : List V → Hp → VK → Prop := fun vs H Q => ∃ (a : Addr) (ns : List Int) (x : Int), vs = [V.ref a, .int x] ∧ H a = some (.lst (ns.map V.int)) ∧ ns.length < sizeLine ∧ HeapL ns ∧
  ∀ ms, ms.Perm (x :: ns) → HeapL ms → Q .non (upd H a (.lst (ms.map V.int)))
def rPopH : List V → Hp → VK → Prop := fun vs H Q => ∃ (a : Addr) (ns : List Int), vs = [V.ref a] ∧ H a = some (.lst (ns.map V.int)) ∧ 0 < ns.length ∧ HeapL ns ∧
  ∀ v ms, (v :: ms).Perm ns → (∀ y ∈ ns, v ≤ y) → HeapL ms → Q (.int v) (upd H a (.lst (ms.map V.int)))
theorem perm_iv {ys its : List Value} {ns : List Int} (h : IntsAre its ns) (p : ys.Perm its) : IntsAre ys (ys.map SrtO.iv) ∧ (ys.map SrtO.iv).Perm ns := by
  refine ⟨SrtO.ints_iv fun v hv => SrtO.ints_mem h v (p.mem_iff.mp hv), ?_⟩
  have := p.map SrtO.iv
  rw [SrtO.iv_ints h] at this
  exact this
theorem ints_snoc {its : List Value} {ns : List Int} {x : Int} {t : Tok} : IntsAre its ns → IntsAre (its ++ [.int x t]) (ns ++ [x])
  | .nil => .cons x t .nil
  | .cons n u r => .cons n u (ints_snoc r)
theorem cr_push : CallR X (.builtin "_heapq.heappush") rPush := by
  intro pins s σ H vs us Q I r h
  obtain ⟨a, ns, x, rfl, ha, hz, hh, q⟩ := h
  obtain ⟨_, _, rfl, ra, rx⟩ := vals2 r
  cases ra
  obtain ⟨t, rfl⟩ := rx
  obtain ⟨_, its, n, rv, hl, e⟩ := I.lstM ha
  have hi := rv.ints
  refine call_push e (by rw [List.size_toArray, ints_len hi]; exact hz) (heapA_of hi hh) fun h' e' ys he hs pm hA => ?_
  have pm2 : ys.toList.Perm (its ++ [.int x t]) := by
    have : (its.toArray.push (.int x t)).toList = its ++ [.int x t] := by simp
    rw [← this]; exact pm
  obtain ⟨k1, k2⟩ := perm_iv (ints_snoc (x := x) (t := t) hi) pm2
  have k3 : (ys.toList.map SrtO.iv).Perm (x :: ns) := k2.trans (List.perm_append_singleton x ns)
  have hlen : ((ys.toList.map SrtO.iv).map V.int).length ≤ sizeLine := by
    rw [List.length_map, k3.length_eq, List.length_cons]
    exact hz
  exact ⟨.non, upd H a (.lst ((ys.toList.map SrtO.iv).map V.int)), I.write (e := a) (t' := s.toks) (by rw [ha]; trivial) (.inl rfl) (fun b u hb hu => (hs.2 b hb).trans hu) ⟨_, he⟩ ⟨hlen, ys.toList, e', vals_of_ints k1, he⟩, rfl, q _ k3 (heapL_of k1 hA)⟩
theorem cr_popH : CallR X (.builtin "_heapq.heappop") rPopH := by
  intro pins s σ H vs us Q I r h
  obtain ⟨a, ns, rfl, ha, h0, hh, q⟩ := h
  rw [Vals.ref1 r]
  obtain ⟨hz, its, n, rv, hl, e⟩ := I.lstM ha
  have hi := rv.ints
  have hlen0 := ints_len hi
  refine call_pop e (by rw [List.size_toArray]; omega) (by rw [List.size_toArray, ← hl]; exact hz) (heapA_of hi hh) fun h' e' ys v hv he hs pm hA => ?_
  have pm2 : (v :: ys.toList).Perm its := by simpa using pm
  obtain ⟨k1, k2⟩ := perm_iv hi pm2
  obtain ⟨i, t, rfl⟩ := SrtO.ints_mem hi v (pm2.mem_iff.mp (List.mem_cons_self ..))
  rw [List.map_cons] at k1 k2
  have k0 : IntsAre ys.toList (ys.toList.map SrtO.iv) := by
    cases k1 with
    | cons _ _ r => exact r
  have k2 : (i :: ys.toList.map SrtO.iv).Perm ns := k2
  have hlen : ((ys.toList.map SrtO.iv).map V.int).length ≤ sizeLine := by
    have := k2.length_eq
    rw [List.length_cons] at this
    rw [List.length_map] at hz
    rw [List.length_map]
    omega
  refine ⟨.int i, upd H a (.lst ((ys.toList.map SrtO.iv).map V.int)), I.write (e := a) (t' := s.toks) (by rw [ha]; trivial) (.inl rfl) (fun b u hb hu => (hs.2 b hb).trans hu) ⟨_, he⟩ ⟨hlen, ys.toList, e', vals_of_ints k0, he⟩, ⟨t, rfl⟩, q _ _ k2 (fun y hy => ?_) (heapL_of k0 hA)⟩
  obtain ⟨t0, e0⟩ := ints_at hi 0 (by omega)
  have hv : its[0]? = some (.int i t) := by simpa using hv
  rw [e0] at hv
  injection hv with hv
  injection hv with hv
  have hv : ns.getD 0 0 = i := hv
  obtain ⟨j, hj, ej⟩ := List.mem_iff_getElem.mp hy
  have := heap_min hh j hj
  have e9 : ns.getD j 0 = y := by rw [List.getD_eq_getElem?_getD, List.getElem?_eq_getElem hj, ej]; rfl
  rw [← e9, ← hv]
  exact this
end
end DV
namespace DV
open PySem PySem.Spec PyProof.Rows L2
section
variable {X : Cx} {F : Fm} {e e2 : Expr} {es : List Expr} {t : TA} {d : TDA} {pos p : Pos} {te : TE} {de : TDE}
/-! ### heappush, heappop of an own list -/
def dHPush (t : TDA) : TDE := fun ρ Q => t ρ fun rs ρ1 => match rs with
  | [.o i, s] => onOwn ρ1 i fun xs => onInt ρ1 s fun x => ∃ ns, asInts xs = some ns ∧ Few (ns.length + 1) ∧ HeapL ns ∧ ∀ ms, ms.Perm (x :: ns) → HeapL ms → Q (.d .none) (ρ1.set i (some (.own (ms.map .int))))
  | _ => False
def dHPop (t : TDA) : TDE := fun ρ Q => t ρ fun rs ρ1 => match rs with
  | [.o i] => onOwn ρ1 i fun xs => ∃ ns, asInts xs = some ns ∧ 0 < ns.length ∧ HeapL ns ∧ ∀ v ms, (v :: ms).Perm ns → (∀ y ∈ ns, v ≤ y) → HeapL ms → Q (.d (.int v)) (ρ1.set i (some (.own (ms.map .int))))
  | _ => False
theorem pd_heappush {x : Str} (hg : Gl X x) (hm : X.mg x = some (.builtin "_heapq.heappush")) (ha : PDA X F (e :: es) t d) (hdb : (x == ("__debug__" : Str)) = false := by decide)
    (he : starEach (e :: es) X.env = (false, eval e X.env) :: starEach es X.env := by rfl) (hpl : (backTo pos (starEach es X.env)).any (·.1) = false := by rfl) : PD X F (.Call (.Name x p) (e :: es) [] pos) (tCB rPush t) (dHPush d) := by
  refine ⟨pe_callBfun cr_push hg hm ha.pa hdb he hpl, fun pins ρ σ H Q O h => ?_, fun ρ Q Q' hq h => ?_⟩
  · refine ha.da.run pins ρ σ H _ O (ha.da.mono _ _ _ (fun rs ρ1 h1 vs H1 O1 R1 => ?_) h)
    split at h1
    · rename_i i s
      simp only [ROks] at R1
      obtain ⟨v, _, rfl, r1, w, _, rfl, r2, rfl⟩ := R1
      obtain ⟨xs, e1, h2⟩ := onOwn_of h1
      obtain ⟨x, e2, ns, e3, hf, hh, q⟩ := onInt_of h2
      obtain ⟨a, us, g1, g2, g3, g4⟩ := O1.ownGet e1
      have r1 := r1.1
      rw [g1] at r1
      cases r1
      cases dp_int (val_dp O1 r2 e2)
      cases asInts_dp g3.dp e3
      exact ⟨a, ns, x, rfl, g2, hf, hh, fun ms pm hm => q ms pm hm _ _ (O1.setOwn g4 (ImAll.ints ms)) (.sc .none)⟩
    · exact h1.elim
  · refine ha.da.mono _ _ _ (fun rs ρ1 h1 => ?_) h
    revert h1
    split
    · exact fun h1 => onOwn_mono h1 fun xs h2 => onInt_mono h2 fun x ⟨ns, a, b, c, q⟩ => ⟨ns, a, b, c, fun ms pm hm => hq _ _ (q ms pm hm)⟩
    · exact fun h1 => h1
theorem pd_heappop {x : Str} (hg : Gl X x) (hm : X.mg x = some (.builtin "_heapq.heappop")) (ha : PDA X F (e :: es) t d) (hdb : (x == ("__debug__" : Str)) = false := by decide)
    (he : starEach (e :: es) X.env = (false, eval e X.env) :: starEach es X.env := by rfl) (hpl : (backTo pos (starEach es X.env)).any (·.1) = false := by rfl) : PD X F (.Call (.Name x p) (e :: es) [] pos) (tCB rPopH t) (dHPop d) := by
  refine ⟨pe_callBfun cr_popH hg hm ha.pa hdb he hpl, fun pins ρ σ H Q O h => ?_, fun ρ Q Q' hq h => ?_⟩
  · refine ha.da.run pins ρ σ H _ O (ha.da.mono _ _ _ (fun rs ρ1 h1 vs H1 O1 R1 => ?_) h)
    split at h1
    · rename_i i
      simp only [ROks] at R1
      obtain ⟨v, _, rfl, r1, rfl⟩ := R1
      obtain ⟨xs, e1, ns, e3, h0, hh, q⟩ := onOwn_of h1
      obtain ⟨a, us, g1, g2, g3, g4⟩ := O1.ownGet e1
      have r1 := r1.1
      rw [g1] at r1
      cases r1
      cases asInts_dp g3.dp e3
      exact ⟨a, ns, rfl, g2, h0, hh, fun v ms pm hv hm => q v ms pm hv hm _ _ (O1.setOwn g4 (ImAll.ints ms)) (.sc .int)⟩
    · exact h1.elim
  · refine ha.da.mono _ _ _ (fun rs ρ1 h1 => ?_) h
    revert h1
    split
    · exact fun h1 => onOwn_mono h1 fun xs ⟨ns, a, b, c, q⟩ => ⟨ns, a, b, c, fun v ms pm hv hm => hq _ _ (q v ms pm hv hm)⟩
    · exact fun h1 => h1
end
end DV
namespace DV
open PySem PySem.Spec PyProof.Rows L2
section
variable {X : Cx} {F : Fm} {e e2 : Expr} {es : List Expr} {t : TA} {d : TDA} {pos p vpos apos cpos : Pos} {te : TE} {de : TDE} {i : Nat} {x : Str}
/-! ### pop, extend of an own list -/
def dPopL (i : Nat) : TDE := fun ρ Q => onOwn ρ i fun xs => match xs[xs.length - 1]? with
  | some y => Q (.d y) (ρ.set i (some (.own xs.dropLast)))
  | _ => False
theorem ImAll.dropLast {K : PySem.W.Frag} {N : Addr → Prop} {H : Hp} {xs : List PyData} {vs : List V} (h : ImAll K N H xs vs) : ImAll K N H xs.dropLast vs.dropLast := by
  rw [List.dropLast_eq_take, List.dropLast_eq_take, h.length]
  exact h.take _
theorem own_go {pins : List Pin} {ρ : Rho} {σ : L2.St} {H : Hp} {a : Addr} {xs : List PyData} {o : HO} (h : OwnAt ρ σ i a) : Go (Av F pins ρ σ) (Av F pins (ρ.set i (some (.own xs))) σ) H (upd H a o) := by
  have oe := setOwn_iff (xs := xs) h
  have ae : Av F pins (ρ.set i (some (.own xs))) σ = Av F pins ρ σ := by
    funext b
    unfold Av
    simp only [oe]
  rw [ae]
  exact ⟨fun b o n e => by
    have hb : b ≠ a := fun z => n (by rw [z]; exact .inr (.inl ⟨i, h⟩))
    rw [upd_ne hb]; exact e, fun b z => .inl z⟩
theorem pd_pop (hK : X.K = F.K := by rfl) (hN : X.N[i]? = some x := by rfl) (hv : Vis X.env.scope x := by first | exact Or.inl rfl | exact Or.inr (Or.inl rfl) | exact Or.inr (Or.inr rfl)) (hd : (x == ("__debug__" : Str)) = false := by decide)
    (hcd : (x == ("__classdict__" : Str)) = false := by decide)
    (hbase : attributeBase (.Name x vpos) "pop" X.env (eval (.Name x vpos) X.env) = eval (.Name x vpos) X.env := by rfl)
    (hline : (apos.endLine == cpos.line) = true := by rfl) :
    PD X F (.Call (.Attribute (.Name x vpos) "pop" apos) [] [] cpos) (tBM0 F.K "list" rPop (tVar i)) (dPopL i) := by
  refine ⟨?_, fun pins ρ σ H Q O h => ?_, fun ρ Q Q' hq h => ?_⟩
  · have := pe_bm0 (cpos := cpos) (apos := apos) PySem.F.plainAttrs_list PySem.F.slot_list_pop PySem.F.type_list_pop mt_pop (pe_var (pos := vpos) hN hv hd hcd) hbase hline
    rw [hK] at this
    exact this
  · obtain ⟨xs, e1, h⟩ := onOwn_of h
    obtain ⟨a, vs, g1, g2, g3, g4⟩ := O.ownGet e1
    split at h
    · rename_i y ey
      obtain ⟨v, ev, iv⟩ := g3.get ey
      refine ⟨.ref a, g1, .inl ⟨rfl, vs, .of g2⟩, a, vs, v, rfl, rfl, g2, by rw [g3.length]; exact ev, ?_⟩
      exact h v _ (O.setOwn g4 g3.dropLast) (iv.go (own_go g4))
    · exact h.elim
  · refine onOwn_mono h fun xs h => ?_
    revert h
    split
    · exact hq _ _
    · exact fun h => h
def dExtend (i : Nat) (t : TDA) : TDE := fun ρ Q => onOwn ρ i fun _ => t ρ fun rs ρ1 => match rs with
  | [r] => onM ρ1 r fun zs => onOwn ρ1 i fun xs => Few (xs.length + zs.length) ∧ Q (.d .none) (ρ1.set i (some (.own (xs ++ zs))))
  | _ => False
theorem pd_extend (ha : PDA X F [e] t d) (hK : X.K = F.K := by rfl) (hN : X.N[i]? = some x := by rfl) (hv : Vis X.env.scope x := by first | exact Or.inl rfl | exact Or.inr (Or.inl rfl) | exact Or.inr (Or.inr rfl)) (hd : (x == ("__debug__" : Str)) = false := by decide)
    (hcd : (x == ("__classdict__" : Str)) = false := by decide)
    (hbase : attributeBase (.Name x vpos) "extend" X.env (eval (.Name x vpos) X.env) = eval (.Name x vpos) X.env := by rfl)
    (hfew : ((backTo cpos (starEach [e] X.env)).all (fun x => !x.1) && (backToKw cpos (keywordEach [] X.env)).all (fun x => x.1.isSome)
      && decide (([e] : List Expr).length + ([] : List Keyword).length + (if ([] : List Keyword).isEmpty then 0 else 1) < 30)) = true := by rfl)
    (hline : (apos.endLine == cpos.line) = true := by rfl) (hs : starEach [e] X.env = (false, eval e X.env) :: starEach [] X.env := by rfl) (hplain : (backTo cpos (starEach [] X.env)).any (·.1) = false := by rfl) :
    PD X F (.Call (.Attribute (.Name x vpos) "extend" apos) [e] [] cpos) (tBM F.K "list" rExtend (tVar i) t) (dExtend i d) := by
  refine ⟨?_, fun pins ρ σ H Q O h => ?_, fun ρ Q Q' hq h => ?_⟩
  · have := pe_bm (cpos := cpos) (apos := apos) PySem.F.plainAttrs_list PySem.F.slot_list_extend PySem.F.type_list_extend mt_extend (pe_var (pos := vpos) hN hv hd hcd) ha.pa hbase hfew hline hs hplain
    rw [hK] at this
    exact this
  · obtain ⟨xs0, e0, h⟩ := onOwn_of h
    obtain ⟨a, vs0, g1, g2, _, _⟩ := O.ownGet e0
    refine ⟨.ref a, g1, .inl ⟨rfl, vs0, .of g2⟩, ?_⟩
    refine ha.da.run pins ρ σ H _ O (ha.da.mono _ _ _ (fun rs ρ1 h1 us H1 O1 R1 => ?_) h)
    split at h1
    · rename_i r
      simp only [ROks] at R1
      obtain ⟨v, _, rfl, r1, rfl⟩ := R1
      obtain ⟨zs, e1, h2⟩ := onM_of h1
      obtain ⟨xs, e2, hf, q⟩ := onOwn_of h2
      obtain ⟨b, ws, rfl, gb, imb⟩ := mitems_ok O1 r1 e1
      obtain ⟨a', vs, k1, k2, k3, k4⟩ := O1.ownGet e2
      rw [g1] at k1
      cases k1
      refine ⟨a, b, vs, ws, rfl, rfl, k2, gb, by rw [k3.length, imb.length]; exact hf, ?_⟩
      exact q _ _ (O1.setOwn k4 (k3.append imb)) (.sc .none)
    · exact h1.elim
  · refine onOwn_mono h fun xs0 h => ha.da.mono _ _ _ (fun rs ρ1 h1 => ?_) h
    revert h1
    split
    · exact fun h1 => onM_mono h1 fun zs h2 => onOwn_mono h2 fun xs h3 => ⟨h3.1, hq _ _ h3.2⟩
    · exact fun h1 => h1
end
end DV
namespace DV
open PySem PySem.Spec PyProof.Rows L2
/-! ### sorted of data that can be compared -/
abbrev sortD (ds : List PyData) : List PyData := ds.mergeSort (PySem.W.dataLe false id)
def rSortD (K : PySem.W.Frag) : List V → Hp → VK → Prop := fun vs H Q => ∃ (a : Addr) (xs : List V) (ds : List PyData), vs = [V.ref a] ∧ SqL K H a xs ∧ DpAll K H xs ds ∧ PySem.W.AllAlike ds ∧ PySem.W.Sortable ds ∧ (∀ d ∈ ds, d.depth ≤ 50) ∧
  ∀ (L : List (V × PyData)) (p : Addr), (∀ x ∈ L, x ∈ xs.zip ds) → L.map (·.2) = sortD ds → H p = none → Q (.ref p) (upd H p (.lst (L.map (·.1))))
theorem each_zip {xs : List V} {us : List Value} {ds : List PyData} : Vals xs us → xs.length = ds.length → PySem.W.EachIs (fun u d => ∃ v, RelV v u ∧ (v, d) ∈ xs.zip ds) us ds := by
  have key : ∀ (xs : List V) (us : List Value) (ds : List PyData) (Z : List (V × PyData)), Vals xs us → xs.length = ds.length → (∀ z ∈ xs.zip ds, z ∈ Z) → PySem.W.EachIs (fun u d => ∃ v, RelV v u ∧ (v, d) ∈ Z) us ds := by
    intro xs
    induction xs with
    | nil =>
      intro us ds Z r hl _
      cases r
      cases ds with
      | nil => exact .nil
      | cons d ds => cases hl
    | cons x xs ih =>
      intro us ds Z r hl hz
      cases ds with
      | nil => cases hl
      | cons d ds =>
        cases r with
        | cons r1 r2 =>
          refine .cons ⟨x, r1, hz _ (by rw [List.zip_cons_cons]; exact List.mem_cons_self ..)⟩ (ih _ _ _ r2 (by simpa using hl) fun z hm => hz z (by rw [List.zip_cons_cons]; exact List.mem_cons_of_mem _ hm))
  exact fun r hl => key xs us ds _ r hl fun z h => h
theorem back_zip {Z : List (V × PyData)} : ∀ {us : List Value} {ds : List PyData}, PySem.W.EachIs (fun u d => ∃ v, RelV v u ∧ (v, d) ∈ Z) us ds → ∃ L : List (V × PyData), (∀ x ∈ L, x ∈ Z) ∧ L.map (·.2) = ds ∧ Vals (L.map (·.1)) us
  | _, _, .nil => ⟨[], (fun x h => absurd h List.not_mem_nil), rfl, Paired.nil⟩
  | _, _, .cons (b := d) ⟨v, h1, h2⟩ t => by
    obtain ⟨L, a, b, c⟩ := back_zip t
    refine ⟨(v, d) :: L, fun x hx => ?_, by rw [List.map_cons, b], by rw [List.map_cons]; exact .cons h1 c⟩
    rcases List.mem_cons.mp hx with e | hx
    · rw [e]; exact h2
    · exact a x hx
theorem dpAll_len {K : PySem.W.Frag} {H : Hp} : ∀ {vs : List V} {ds : List PyData}, DpAll K H vs ds → vs.length = ds.length
  | _, _, .nil => rfl
  | _, _, .cons _ h => by rw [List.length_cons, List.length_cons, dpAll_len h]
section
variable {X : Cx} {pins : List (Addr × Obj)} {σ : L2.St} {H : Hp} {s : Shared}
theorem each_reads (I : L2.Inv X pins σ H s) : ∀ {xs : List V} {us : List Value} {ds : List PyData}, DpAll X.K H xs ds → Vals xs us → PySem.W.EachIs (fun u d => ∃ as, Reads s.heap u d as) us ds
  | _, _, _, .nil, r => by cases r; exact .nil
  | _, _, _, .cons h1 h2, r => by
    cases r with
    | cons r1 r2 => exact .cons (Dp.reads I _ _ _ h1 r1) (each_reads I h2 r2)
theorem cr_sortD (hu : X.A.units + 64 < cLine) : CallR X (.builtin "sorted") (rSortD X.K) := by
  intro pins s σ H vs us Q I r h
  obtain ⟨a, xs, ds, rfl, hs, hd, hal, hk, hdp, q⟩ := h
  obtain ⟨its, rv, hl, hz⟩ := I.list hs
  rw [Vals.ref1 r]
  have hlen := dpAll_len hd
  refine PySem.W.sorted_data (enc := id) hl.isList (each_zip rv hlen) (each_reads I hd rv) (by rw [List.map_id]; exact hal) (by rw [List.map_id]; exact hk) (by rw [← hlen]; exact hz) (fun b hb => by have := hdp b hb; show X.A.units + 2 + b.depth < cLine; omega) fun out ho he => ?_
  obtain ⟨L, h1, h2, h3⟩ := back_zip he
  obtain ⟨ep, he'⟩ := PyProof.Rows.sortedAll_at s.heap its out.toArray
  have hll : (L.map (·.1)).length ≤ sizeLine := by
    rw [h3.length, ho, ← hlen]
    exact hz
  exact ⟨.ref _, upd H (s.heap.objs.size + 1) (.lst (L.map (·.1))), I.laid (t' := s.toks) (fun _ _ => PyProof.Rows.sortedAll_old) (Nat.le_succ _) ⟨hll, out, ep, h3, he'⟩, rfl, q L _ h1 h2 (I.hok.fresh (Nat.le_succ _))⟩
end
theorem im_zipD {K : PySem.W.Frag} {N : Addr → Prop} {H : Hp} : ∀ {ds : List PyData} {vs : List V}, ImAll K N H ds vs → ∀ x ∈ vs.zip ds, Im K N H x.2 x.1
  | [], _, h, x, hx => by simp only [ImAll] at h; subst h; cases hx
  | p :: ps, _, h, x, hx => by
    simp only [ImAll] at h
    obtain ⟨v, vs, rfl, h1, h2⟩ := h
    rw [List.zip_cons_cons] at hx
    rcases List.mem_cons.mp hx with e | hx
    · rw [e]; exact h1
    · exact im_zipD h2 x hx
theorem im_of_zipD {K : PySem.W.Frag} {N : Addr → Prop} {H : Hp} : ∀ {L : List (V × PyData)}, (∀ x ∈ L, Im K N H x.2 x.1) → ImAll K N H (L.map (·.2)) (L.map (·.1))
  | [], _ => .nil
  | x :: L, h => by
    rw [List.map_cons, List.map_cons]
    exact .cons (h x (List.mem_cons_self ..)) (im_of_zipD fun y hy => h y (List.mem_cons_of_mem _ hy))
/-- what can be sorted -/
structure CanSort (ds : List PyData) : Prop where
  al : PySem.W.AllAlike ds
  so : PySem.W.Sortable ds
  dp : ∀ d ∈ ds, d.depth ≤ 50
section
variable {X : Cx} {F : Fm} {e : Expr} {t : TA} {d : TDA} {pos : Pos}
def dSortD (t : TDA) : TDL := fun ρ Q => t ρ fun rs ρ1 => match rs with
  | [r] => onL ρ1 r fun xs => CanSort xs ∧ Q (sortD xs) ρ1
  | _ => False
theorem pl_sortD {p : Pos} (hu : X.A.units + 64 < cLine) (hg : Gl X "sorted") (hm : X.mg "sorted" = none) (ha : PDA X F [e] t d) (hK : X.K = F.K := by rfl) (he : starEach [e] X.env = (false, eval e X.env) :: starEach [] X.env := by rfl) (hpl : (backTo pos (starEach [] X.env)).any (·.1) = false := by rfl) :
    PDL X F (.Call (.Name "sorted" p) [e] [] pos) (tCB (rSortD F.K) t) (dSortD d) := by
  refine ⟨?_, fun pins ρ σ H Q O h => ?_, fun ρ Q Q' hq h => ?_⟩
  · have := pe_callB (p := p) (pos := pos) (cr_sortD hu) hg hm (by decide +kernel) ha.pa (by decide) (by decide) he hpl
    rw [hK] at this
    exact this
  · refine ha.da.run pins ρ σ H _ O (ha.da.mono _ _ _ (fun rs ρ1 h1 vs H1 O1 R1 => ?_) h)
    split at h1
    · rename_i r
      simp only [ROks] at R1
      obtain ⟨v, _, rfl, r1, rfl⟩ := R1
      obtain ⟨xs, e1, cs, q⟩ := onL_of h1
      obtain ⟨p, us, rfl, l, im⟩ := litems_ok O1 r1 e1
      refine ⟨p, us, xs, rfl, l, im.dp, cs.al, cs.so, cs.dp, fun L p' hL e2 hp => ?_⟩
      have hz : ∀ x ∈ L, Im F.K (Av F pins ρ1 σ) H1 x.2 x.1 := fun x hx => im_zipD im x (hL x hx)
      refine q _ _ ?_
      rw [← e2]
      exact O1.pushL hp (im_of_zipD hz)
    · exact h1.elim
  · refine ha.da.mono _ _ _ (fun rs ρ1 h1 => ?_) h
    revert h1
    split
    · exact fun h1 => onL_mono h1 fun xs h2 => ⟨h2.1, hq _ _ h2.2⟩
    · exact fun h1 => h1
end
end DV
namespace DV
open PySem PySem.Spec PyProof.Rows L2
/-! ### max(xs, default=d) of whole numbers -/
def rMaxDf (K : PySem.W.Frag) : List V → List V → Hp → VK → Prop := fun xs zs H Q => ∃ (a : Addr) (ns : List Int) (d : V), xs = [V.ref a] ∧ zs = [d] ∧ (SqL K H a (ns.map V.int) ∨ SqT K H a (ns.map V.int)) ∧ (ns = [] → Q d H) ∧ ∀ m, m ∈ ns → (∀ y ∈ ns, y ≤ m) → Q (.int m) H
theorem foldl_max : ∀ (ns : List Int) (n : Int), ns.foldl max n ∈ n :: ns ∧ ∀ y ∈ n :: ns, y ≤ ns.foldl max n
  | [], n => ⟨List.mem_cons_self .., fun y hy => by
    rcases List.mem_cons.mp hy with e | e
    · exact Int.le_of_eq e
    · cases e⟩
  | m :: ns, n => by
    obtain ⟨h1, h2⟩ := foldl_max ns (max n m)
    refine ⟨?_, fun y hy => ?_⟩
    · show ns.foldl max (max n m) ∈ _
      rcases List.mem_cons.mp h1 with e | h1
      · rw [e]
        rcases Int.le_total n m with z | z
        · rw [Int.max_eq_right z]; simp
        · rw [Int.max_eq_left z]; simp
      · simp [h1]
    · show y ≤ ns.foldl max (max n m)
      have hm := h2 _ (List.mem_cons_self ..)
      rcases List.mem_cons.mp hy with e | hy
      · rw [e]; omega
      · rcases List.mem_cons.mp hy with e | hy
        · rw [e]; omega
        · exact h2 y (List.mem_cons_of_mem _ hy)
theorem alikeInts (ns : List Int) : PySem.W.AlikeAll (ns.map .int) := by
  refine ⟨fun x hx y hy => ?_, fun x hx => ?_⟩
  · obtain ⟨i, _, rfl⟩ := List.mem_map.mp hx
    obtain ⟨j, _, rfl⟩ := List.mem_map.mp hy
    simp [PySem.W.alike]
  · obtain ⟨i, _, rfl⟩ := List.mem_map.mp hx
    exact fun h => by cases h
theorem depthInts : ∀ ns : List Int, PyData.depthAll (ns.map .int) ≤ 1
  | [] => by simp [PyData.depthAll]
  | n :: ns => by
    have := depthInts ns
    simp only [List.map_cons, PyData.depthAll, PyData.depth]
    omega
section
variable {X : Cx} {pins : List (Addr × Obj)} {σ : L2.St} {H : Hp} {s : Shared}
theorem readsInts {h : Heap} : ∀ {its : List Value} {ns : List Int}, IntsAre its ns → ∃ as, ReadsAll h its (ns.map .int) as
  | _, _, .nil => ⟨_, .nil⟩
  | _, _, .cons n t r => by
    obtain ⟨as, q⟩ := readsInts (h := h) r
    exact ⟨_, .cons (.int n t) q⟩
theorem cr_maxDf (hc : X.calm = true) (hu : X.A.units + 64 < cLine) : CallRK X (.builtin "max") [Str.ofString "default"] (rMaxDf X.K) := by
  intro pins s σ H xs zs us ws Q I r rz h
  obtain ⟨a, ns, d, rfl, rfl, hs, h0, q⟩ := h
  rw [Vals.ref1 r]
  obtain ⟨u, rfl, ru⟩ := vals1 rz
  have fin : ∀ (y : PyData) (ys : List PyData) (v : Value) (h' : Heap) (tk : Nat) bs, ns.map PyData.int = y :: ys → Reads h' v (PySem.W.maxD y ys) bs → (∀ b o, s.heap.get? b = some o → h'.get? b = some o) → EP X pins σ Q v { s with heap := h', toks := tk } := by
    intro y ys v h' tk bs e rd k
    cases ns with
    | nil => cases e
    | cons n ns =>
      rw [List.map_cons] at e
      injection e with e1 e2
      subst e1 e2
      rw [PySem.W.maxD_ints] at rd
      cases rd with
      | int _ t =>
        obtain ⟨m1, m2⟩ := foldl_max ns n
        exact ⟨.int _, H, I.kept (t' := tk) k, ⟨t, rfl⟩, q _ m1 m2⟩
  have dep : X.A.units + 1 + PyData.depthAll (ns.map .int) < cLine := by have := depthInts ns; omega
  rcases hs with hs | hs
  · obtain ⟨its, rv, hl, hz⟩ := I.list hs
    obtain ⟨as, rd⟩ := readsInts (h := s.heap) rv.ints
    refine PySem.W.max_list_default (I.ok.hd hc) hl.isList (by simpa using rd) (alikeInts ns) dep (fun e h' tk k => ?_) fun y ys i v h' tk bs e hv r1 k => fin y ys v h' tk bs e r1 k
    exact ⟨d, H, I.kept (t' := tk) k, ru, h0 (by cases ns with | nil => rfl | cons n ns => cases e)⟩
  · obtain ⟨its, rv, hl, hz⟩ := I.tuple hs
    obtain ⟨as, rd⟩ := readsInts (h := s.heap) rv.ints
    refine PySem.W.max_tuple_default (I.ok.hd hc) (show s.heap.IsTuple a its.toArray from hl) (by simpa using rd) (alikeInts ns) dep (fun e h' tk k => ?_) fun y ys i v h' tk bs e hv r1 k => fin y ys v h' tk bs e r1 k
    exact ⟨d, H, I.kept (t' := tk) k, ru, h0 (by cases ns with | nil => rfl | cons n ns => cases e)⟩
end
section
variable {X : Cx} {F : Fm} {e e2 : Expr} {t : TA} {d : TDA} {pos p kpos : Pos} {te : TE} {de : TDE}
def dMaxDf (t : TDA) (te : TDE) : TDE := fun ρ Q => t ρ fun rs ρ1 => match rs with
  | [r] => te ρ1 fun s ρ2 => match s, seqs ρ2 r with
    | .d (.int k), some (_, xs) => ∃ ns, asInts xs = some ns ∧ (ns = [] → Q (.d (.int k)) ρ2) ∧ ∀ m, m ∈ ns → (∀ y ∈ ns, y ≤ m) → Q (.d (.int m)) ρ2
    | _, _ => False
  | _ => False
theorem pd_maxDf (hc : X.calm = true) (hu : X.A.units + 64 < cLine) (hg : Gl X "max") (hm : X.mg "max" = none) (ha : PDA X F [e] t d) (hb : PD X F e2 te de) (hK : X.K = F.K := by rfl)
    (he : backTo pos (starEach [e] X.env) = (false, eval e X.env) :: backTo pos (starEach [] X.env) := by rfl) (hpl : (backTo pos (starEach [e] X.env)).any (·.1) = false := by rfl)
    (hall : (backToKw pos (keywordEach [⟨some (Str.ofString "default"), e2, kpos⟩] X.env)).all (·.1.isSome) = true := by rfl) (hnone : (backToKw pos (keywordEach [⟨some (Str.ofString "default"), e2, kpos⟩] X.env)).any (·.1.isNone) = false := by rfl) (hks : (backToKw pos (keywordEach [⟨some (Str.ofString "default"), e2, kpos⟩] X.env)).filterMap (·.1) = [Str.ofString "default"] := by rfl) :
    PD X F (.Call (.Name "max" p) [e] [⟨some (Str.ofString "default"), e2, kpos⟩] pos) (tCKw (rMaxDf F.K) t (tCons te tNil)) (dMaxDf d de) := by
  refine ⟨?_, fun pins ρ σ H Q O h => ?_, fun ρ Q Q' hq h => ?_⟩
  · have := pe_callBK (p := p) (pos := pos) (cr_maxDf hc hu) hg hm (by decide +kernel) ha.pa (pk_cons hb.pe pk_nil) (by decide) (by decide) he hpl hall hnone hks
    rw [hK] at this
    exact this
  · refine ha.da.run pins ρ σ H _ O (ha.da.mono _ _ _ (fun rs ρ1 h1 vs H1 O1 R1 => ?_) h)
    split at h1
    · rename_i r
      simp only [ROks] at R1
      obtain ⟨v, _, rfl, r1, rfl⟩ := R1
      refine hb.de.run (.val v r :: pins) ρ1 σ H1 _ (O1.push r1) (hb.de.mono _ _ _ (fun s ρ2 h2 w H2 O2 R2 => ?_) h1)
      obtain ⟨O3, r3⟩ := O2.popV
      split at h2
      · rename_i k kk xs e3
        obtain ⟨ns, e2, q0, q⟩ := h2
        obtain ⟨a, pl, rfl, d1, O4, av, k1⟩ := seqs_ok O3 r3 e3
        have in1 : ∀ q ∈ pl, q ∈ pl ++ pins := fun q hq => List.mem_append_left _ hq
        have hsq : SqL F.K H2 a (ns.map V.int) ∨ SqT F.K H2 a (ns.map V.int) := by
          cases kk with
          | false =>
            obtain ⟨us, a1, a2⟩ := (show LstAt F pl a xs by simpa using k1) _ _ _ _ in1 O4
            cases asInts_dp a2.dp e2
            exact .inl a1
          | true =>
            obtain ⟨us, a1, a2⟩ := (show TupAt F pl a xs by simpa using k1) _ _ _ _ in1 O4
            cases asInts_dp a2.dp e2
            exact .inr a1
        exact ⟨a, ns, w, rfl, rfl, hsq, fun e => q0 e _ _ O3 (by
          have r2 : Im F.K (Av F (.val (.ref a) r :: pins) ρ2 σ) H2 (.int k) w := R2
          exact r2), fun m hm hle => q m hm hle _ _ O3 (.sc .int)⟩
      · exact h2.elim
    · exact h1.elim
  · refine ha.da.mono _ _ _ (fun rs ρ1 h1 => ?_) h
    revert h1
    split
    · refine fun h1 => hb.de.mono _ _ _ (fun s ρ2 h2 => ?_) h1
      revert h2
      split
      · exact fun ⟨ns, a, b, c⟩ => ⟨ns, a, fun e => hq _ _ (b e), fun m hm hle => hq _ _ (c m hm hle)⟩
      · exact fun h2 => h2
    · exact fun h1 => h1
end
end DV
namespace DV
open PySem PySem.Spec PyProof.Rows L2
open AutoSeq1 (wpAny_loadPart')
/-! ### tuple * int, text * int -/
theorem tuple_mul1 (l : Addr) (items : Array Value) (n : Nat) (dd : Option Addr) (sl : Array (Option Value)) (u : Tok) :
    Meets (Builtin.«tuple.__mul__» ⟨[.ref l, .int 1 u], []⟩) (fun _ R s => s.heap.get? l = some { cls := .type "tuple", dict := dd, data := .seq items n, slots := sl } ∧ R (.ok (.ret (Value.ref l))) s) :=
  .of_wp fun prog w A R s h => by
    obtain ⟨hp, g, d, tk, os⟩ := s
    obtain ⟨hl, h⟩ := h
    have f1 := AutoSeq1.idx_int
    have c1 : (items.isEmpty || (1 : Int) == 1) = true := by simp
    wp_walk using wpAny_loadPart' hl
    repeat (first
      | (refine wpAny_ite_true (by rw [c1]) ?_; wp_walk using wpAny_loadPart' hl)
      | (refine wpAny_ite_true c1 ?_; wp_walk using wpAny_loadPart' hl))
    exact ⟨_, rfl, h⟩
def rRepT1 (K : PySem.W.Frag) : R2 := fun x y H Q => ∃ l k xs, x = .ref l ∧ y = .int k ∧ SqT K H l xs ∧ xs ≠ [] ∧ 1 ≤ k ∧ k ≤ 1000 ∧ xs.length ≤ 1000 ∧ (k = 1 → Q (.ref l) H) ∧ ∀ p, 2 ≤ k → H p = none → Q (.ref p) (upd H p (.tup (List.replicate k.toNat xs).flatten))
section
variable {X : Cx} {F : Fm} {a b : Expr} {ta tb : TE} {da db : TDE} {pos : Pos}
theorem op_repT1 : OpR X (binaryOp .Mult) (rRepT1 X.K) := by
  intro pins s σ H x y v u Q I rx ry h
  obtain ⟨l, k, xs, rfl, rfl, hT, hne, h1, h2, hz, q1, q⟩ := h
  by_cases e : k = 1
  · subst e
    cases rx
    obtain ⟨t, rfl⟩ := ry
    obtain ⟨its, r, ⟨⟨cls, dd, data, sl⟩, ho, hc, n, hd⟩, hs⟩ := I.tuple hT
    simp only at hc hd
    subst hc hd
    refine wpAny_binaryOp_repeat_ref (T := "tuple") (U := "int") (by decide) ⟨_, ho, rfl⟩ (fun s' => typeIs_int s' 1 t) noFill_tuple_mul F.fills_int_mul F.slot_int_rmul repeat_tuple F.slot_int_index.lookup
      (call_meets F.slot_int_rmul (typeIs_int s 1 t) F.entry_int_rmul (F.args_int_rmul_2 _ _) (int_rmul_tuple 1 t l its.toArray n dd sl)
        ⟨ho, rfl, ⟨_, ho, rfl⟩, call_meets F.slot_tuple_mul ⟨_, ho, rfl⟩ F.entry_tuple_mul (F.args_tuple_mul_2 _ _) (tuple_mul1 l its.toArray n dd sl t) ⟨ho, ?_⟩⟩)
    exact ⟨.ref l, H, I, rfl, q1 rfl⟩
  · exact op_repT pins s σ H _ _ v u Q I rx ry ⟨l, k, xs, rfl, rfl, hT, hne, by omega, h2, hz, fun p hp => q p (by omega) hp⟩
def repD (k : Int) (xs : List PyData) : List PyData := (List.replicate k.toNat xs).flatten
theorem ImAll.rep {K : PySem.W.Frag} {N : Addr → Prop} {H : Hp} {xs : List PyData} {vs : List V} (h : ImAll K N H xs vs) : ∀ n, ImAll K N H (List.replicate n xs).flatten (List.replicate n vs).flatten
  | 0 => .nil
  | n + 1 => by
    rw [List.replicate_succ, List.replicate_succ, List.flatten_cons, List.flatten_cons]
    exact h.append (ImAll.rep h n)
def dRepT (ta tb : TDE) : TDE := dBin ta tb fun r s ρ Q => onT r fun xs => onInt ρ s fun k => (xs ≠ [] ∧ 1 ≤ k ∧ k ≤ 1000 ∧ xs.length ≤ 1000) ∧ Q (.d (.tuple (repD k xs))) ρ
theorem pd_repT (ha : PD X F a ta da) (hb : PD X F b tb db) (hK : X.K = F.K := by rfl) : PD X F (.BinOp a .Mult b pos) (tOp (rRepT1 F.K) ta tb) (dRepT da db) := by
  refine ⟨?_, de_bin ha.de hb.de (fun pins ρ σ H x y r s Q O R1 R2 h => ?_) fun r s ρ Q Q' hq h => onT_mono h fun xs h => onInt_mono h fun k h => ⟨h.1, hq _ _ h.2⟩⟩
  · have := pe_op (pos := pos) op_repT1 ha.pe hb.pe
    rw [hK] at this
    exact this
  obtain ⟨xs, e1, h2⟩ := onT_of h
  subst e1
  obtain ⟨k, e2, ⟨c1, c2, c3, c4⟩, q⟩ := onInt_of h2
  cases dp_int (val_dp O R2 e2)
  have i1 : Im F.K (Av F pins ρ σ) H (.tuple xs) x := R1
  obtain ⟨p, vs, rfl, l1, im1⟩ := im_tup i1
  refine ⟨p, k, vs, rfl, rfl, l1, fun z => c1 ?_, c2, c3, by rw [im1.length]; exact c4, fun e => ?_, fun p' h2 hp => ?_⟩
  · exact List.length_eq_zero_iff.mp (by rw [← im1.length, z]; rfl)
  · subst e
    have : repD 1 xs = xs := by simp [repD]
    rw [this] at q
    exact q _ _ O i1
  · obtain ⟨O2, i3⟩ := newTup O hp (im1.rep k.toNat)
    exact q _ _ O2 i3
def rRepS : R2 := fun x y H Q => ∃ (z : Str) (k : Int), x = .str z ∧ y = .int k ∧ MulOk z k ∧ Q (.str (Txt.mul z k)) H
theorem op_repS : OpR X (binaryOp .Mult) rRepS := by
  intro pins s σ H x y v u Q I rx ry h
  obtain ⟨z, k, rfl, rfl, hok, q⟩ := h
  obtain ⟨t, rfl⟩ := rx
  obtain ⟨t2, rfl⟩ := ry
  exact SB.mul hok fun t' k' => ⟨.str _, H, I.tok _, ⟨t', rfl⟩, q⟩
def fRepS : F2
  | .str z, .int k, Q => MulOk z k ∧ Q (.str (Txt.mul z k))
  | _, _, _ => False
theorem so_RepS {K : PySem.W.Frag} : SO K rRepS fRepS := by
  constructor
  · intro H x y dx dy Q h1 h2 q
    cases dx <;> first | exact q.elim | skip
    cases dy <;> first | exact q.elim | skip
    cases h1
    cases h2
    exact ⟨_, _, rfl, rfl, q.1, q.2 _ .str⟩
  · intro x y Q Q' hq q
    cases x <;> first | exact q.elim | skip
    cases y <;> first | exact q.elim | skip
    exact ⟨q.1, hq _ q.2⟩
theorem pd_repS (ha : PD X F a ta da) (hb : PD X F b tb db) : PD X F (.BinOp a .Mult b pos) (tOp rRepS ta tb) (dOp fRepS da db) := pd_op op_repS so_RepS ha hb
end
end DV
namespace DV
open PySem PySem.Spec PyProof.Rows L2
/-! ### list(range(..)), tuple(range(..)) -/
section
variable {X : Cx} {F : Fm} {e e2 : Expr} {te te2 : TE} {de de2 : TDE} {pos p p2 pos2 : Pos}
theorem im_rg {K : PySem.W.Frag} {N : Addr → Prop} {H : Hp} (a b : Int) : ImAll K N H (rng a (b - a).toNat) (rgV a b) := by
  unfold rng rgV
  have : ∀ l : List Nat, ImAll K N H (l.map fun k => PyData.int (a + (k : Nat))) (l.map fun i => V.int (a + (i : Nat))) := by
    intro l
    induction l with
    | nil => exact .nil
    | cons k l ih => rw [List.map_cons, List.map_cons]; exact .cons .int ih
  exact this _
def dRg1 (te : TDE) (k : Int → Int → Rho → Prop) : Rho → Prop := fun ρ => te ρ fun r ρ1 => onInt ρ1 r fun n => RgOk 0 n ∧ k 0 n ρ1
def dRg2 (te te2 : TDE) (k : Int → Int → Rho → Prop) : Rho → Prop := fun ρ => te ρ fun r ρ1 => te2 ρ1 fun s ρ2 => onInt ρ2 r fun a => onInt ρ2 s fun b => RgOk a b ∧ k a b ρ2
theorem rg1 (he : DE F te de) {pins : List Pin} {ρ : Rho} {σ : L2.St} {H : Hp} {k : Int → Int → Rho → Prop} {Q : Int → Int → Hp → Prop} (O : Ok F pins ρ σ H) (h : dRg1 de k ρ)
    (hk : ∀ a b ρ1 H1, RgOk a b → Ok F pins ρ1 σ H1 → k a b ρ1 → Q a b H1) : tRg1 te σ H Q := by
  refine he.run pins ρ σ H _ O (he.mono _ _ _ (fun r ρ1 h1 v H1 O1 R1 => ?_) h)
  obtain ⟨n, e1, ok, q⟩ := onInt_of h1
  cases dp_int (val_dp O1 R1 e1)
  exact ⟨n, rfl, hk _ _ _ _ ok O1 q⟩
theorem rg2 (he : DE F te de) (he2 : DE F te2 de2) {pins : List Pin} {ρ : Rho} {σ : L2.St} {H : Hp} {k : Int → Int → Rho → Prop} {Q : Int → Int → Hp → Prop} (O : Ok F pins ρ σ H) (h : dRg2 de de2 k ρ)
    (hk : ∀ a b ρ1 H1, RgOk a b → Ok F pins ρ1 σ H1 → k a b ρ1 → Q a b H1) : tRg2 te te2 σ H Q := by
  refine he.run pins ρ σ H _ O (he.mono _ _ _ (fun r ρ1 h1 v H1 O1 R1 => ?_) h)
  refine he2.run (.val v r :: pins) ρ1 σ H1 _ (O1.push R1) (he2.mono _ _ _ (fun s ρ2 h2 w H2 O2 R2 => ?_) h1)
  obtain ⟨O3, R3⟩ := O2.popV
  obtain ⟨a, e1, h3⟩ := onInt_of h2
  obtain ⟨b, e2, ok, q⟩ := onInt_of h3
  cases dp_int (val_dp O3 R3 e1)
  cases dp_int (val_dp O3 R2 e2)
  exact ⟨a, b, rfl, rfl, hk _ _ _ _ ok O3 q⟩
theorem rg1_mono (he : DE F te de) {ρ : Rho} {k k' : Int → Int → Rho → Prop} (hq : ∀ a b ρ, k a b ρ → k' a b ρ) (h : dRg1 de k ρ) : dRg1 de k' ρ := he.mono _ _ _ (fun r ρ1 h1 => onInt_mono h1 fun n h2 => ⟨h2.1, hq _ _ _ h2.2⟩) h
theorem rg2_mono (he : DE F te de) (he2 : DE F te2 de2) {ρ : Rho} {k k' : Int → Int → Rho → Prop} (hq : ∀ a b ρ, k a b ρ → k' a b ρ) (h : dRg2 de de2 k ρ) : dRg2 de de2 k' ρ :=
  he.mono _ _ _ (fun r ρ1 h1 => he2.mono _ _ _ (fun s ρ2 h2 => onInt_mono h2 fun a h3 => onInt_mono h3 fun b h4 => ⟨h4.1, hq _ _ _ h4.2⟩) h1) h
def dLstRg (d : (Int → Int → Rho → Prop) → Rho → Prop) : TDL := fun ρ Q => d (fun a b ρ1 => Q (rng a (b - a).toNat) ρ1) ρ
def dTupRg (d : (Int → Int → Rho → Prop) → Rho → Prop) : TDE := fun ρ Q => d (fun a b ρ1 => Q (.d (.tuple (rng a (b - a).toNat))) ρ1) ρ
theorem pl_listRg1 (hc : X.calm = true) (hg : Gl X "list") (hm : X.mg "list" = none) (hg2 : Gl X "range") (hm2 : X.mg "range" = none) (he : PD X F e te de) (na : starEach [e] X.env = (false, eval e X.env) :: starEach [] X.env := by rfl)
    (na2 : starEach [.Call (.Name "range" p2) [e] [] pos2] X.env = (false, eval (.Call (.Name "range" p2) [e] [] pos2) X.env) :: starEach [] X.env := by rfl) :
    PDL X F (.Call (.Name "list" p) [.Call (.Name "range" p2) [e] [] pos2] [] pos) (tLstRg (tRg1 te)) (dLstRg (dRg1 de)) :=
  ⟨pe_listRg hc hg hm (prg_1 hg2 hm2 he.pe na) na2, fun pins ρ σ H Q O h => rg1 he.de O h fun a b ρ1 H1 ok O1 q => ⟨ok, fun l hl => q _ _ (O1.pushL hl (im_rg a b))⟩, fun ρ Q Q' hq h => rg1_mono he.de (fun a b ρ1 => hq _ _) h⟩
theorem pl_listRg2 (hc : X.calm = true) (hg : Gl X "list") (hm : X.mg "list" = none) (hg2 : Gl X "range") (hm2 : X.mg "range" = none) (he : PD X F e te de) (he2 : PD X F e2 te2 de2) (na : starEach [e, e2] X.env = (false, eval e X.env) :: starEach [e2] X.env := by rfl)
    (nb : starEach [e2] X.env = (false, eval e2 X.env) :: starEach [] X.env := by rfl) (hp : (backTo pos2 (starEach [e2] X.env)).any (·.1) = false := by rfl)
    (na2 : starEach [.Call (.Name "range" p2) [e, e2] [] pos2] X.env = (false, eval (.Call (.Name "range" p2) [e, e2] [] pos2) X.env) :: starEach [] X.env := by rfl) :
    PDL X F (.Call (.Name "list" p) [.Call (.Name "range" p2) [e, e2] [] pos2] [] pos) (tLstRg (tRg2 te te2)) (dLstRg (dRg2 de de2)) :=
  ⟨pe_listRg hc hg hm (prg_2 hg2 hm2 he.pe he2.pe na nb hp) na2, fun pins ρ σ H Q O h => rg2 he.de he2.de O h fun a b ρ1 H1 ok O1 q => ⟨ok, fun l hl => q _ _ (O1.pushL hl (im_rg a b))⟩, fun ρ Q Q' hq h => rg2_mono he.de he2.de (fun a b ρ1 => hq _ _) h⟩
theorem pd_tupRg1 (hc : X.calm = true) (hg : Gl X "tuple") (hm : X.mg "tuple" = none) (hg2 : Gl X "range") (hm2 : X.mg "range" = none) (he : PD X F e te de) (na : starEach [e] X.env = (false, eval e X.env) :: starEach [] X.env := by rfl)
    (na2 : starEach [.Call (.Name "range" p2) [e] [] pos2] X.env = (false, eval (.Call (.Name "range" p2) [e] [] pos2) X.env) :: starEach [] X.env := by rfl) :
    PD X F (.Call (.Name "tuple" p) [.Call (.Name "range" p2) [e] [] pos2] [] pos) (tTupRg (tRg1 te)) (dTupRg (dRg1 de)) :=
  ⟨pe_tupRg hc hg hm (prg_1 hg2 hm2 he.pe na) na2, fun pins ρ σ H Q O h => rg1 he.de O h fun a b ρ1 H1 ok O1 q => ⟨ok, fun l hl => by
    obtain ⟨O2, i⟩ := newTup O1 hl (im_rg a b)
    exact q _ _ O2 i⟩, fun ρ Q Q' hq h => rg1_mono he.de (fun a b ρ1 => hq _ _) h⟩
theorem pd_tupRg2 (hc : X.calm = true) (hg : Gl X "tuple") (hm : X.mg "tuple" = none) (hg2 : Gl X "range") (hm2 : X.mg "range" = none) (he : PD X F e te de) (he2 : PD X F e2 te2 de2) (na : starEach [e, e2] X.env = (false, eval e X.env) :: starEach [e2] X.env := by rfl)
    (nb : starEach [e2] X.env = (false, eval e2 X.env) :: starEach [] X.env := by rfl) (hp : (backTo pos2 (starEach [e2] X.env)).any (·.1) = false := by rfl)
    (na2 : starEach [.Call (.Name "range" p2) [e, e2] [] pos2] X.env = (false, eval (.Call (.Name "range" p2) [e, e2] [] pos2) X.env) :: starEach [] X.env := by rfl) :
    PD X F (.Call (.Name "tuple" p) [.Call (.Name "range" p2) [e, e2] [] pos2] [] pos) (tTupRg (tRg2 te te2)) (dTupRg (dRg2 de de2)) :=
  ⟨pe_tupRg hc hg hm (prg_2 hg2 hm2 he.pe he2.pe na nb hp) na2, fun pins ρ σ H Q O h => rg2 he.de he2.de O h fun a b ρ1 H1 ok O1 q => ⟨ok, fun l hl => by
    obtain ⟨O2, i⟩ := newTup O1 hl (im_rg a b)
    exact q _ _ O2 i⟩, fun ρ Q Q' hq h => rg2_mono he.de he2.de (fun a b ρ1 => hq _ _) h⟩
end
end DV
namespace DV
open PySem PySem.Spec PyProof.Rows L2
open scoped Rat
/-! ## fractions as Lean's own rational numbers -/
def Bd (k : Nat) (i : Int) : Prop := i.natAbs < 2 ^ k
theorem Bd.up {j k : Nat} {i : Int} (h : Bd j i) (z : j ≤ k) : Bd k i := Nat.lt_of_lt_of_le h (Nat.pow_le_pow_right (by decide) z)
theorem Bd.mul {j k : Nat} {x y : Int} (h : Bd j x) (h2 : Bd k y) : Bd (j + k) (x * y) := wide_lt h h2
theorem two_le_pow {k : Nat} : 1 ≤ 2 ^ k := Nat.one_le_two_pow
theorem Bd.add {j k : Nat} {x y : Int} (h : Bd j x) (h2 : Bd k y) : Bd (j + k + 1) (x + y) := by
  have h := h.up (show j ≤ j + k by omega)
  have h2 := h2.up (show k ≤ j + k by omega)
  unfold Bd at *
  have := Int.natAbs_add_le x y
  rw [Nat.pow_succ]; omega
theorem Bd.neg {k : Nat} {x : Int} (h : Bd k x) : Bd k (-x) := by unfold Bd at *; omega
theorem Bd.sub {j k : Nat} {x y : Int} (h : Bd j x) (h2 : Bd k y) : Bd (j + k + 1) (x - y) := by
  rw [Int.sub_eq_add_neg]; exact h.add h2.neg
/-- of one size -/
theorem Bd.add1 {k : Nat} {x y : Int} (h : Bd k x) (h2 : Bd k y) : Bd (k + 1) (x + y) := by
  unfold Bd at *
  have := Int.natAbs_add_le x y
  rw [Nat.pow_succ]; omega
theorem Bd.sub1 {k : Nat} {x y : Int} (h : Bd k x) (h2 : Bd k y) : Bd (k + 1) (x - y) := by
  rw [Int.sub_eq_add_neg]; exact h.add1 h2.neg
theorem Bd.of {k : Nat} {i : Int} (h : -(2 ^ k) < i) (h2 : i < 2 ^ k) : Bd k i := by
  unfold Bd
  have e : ((2 ^ k : Nat) : Int) = 2 ^ k := by simp
  omega
theorem cmb {j k : Nat} {x y : Int} (h : Bd j x) (h2 : Bd k y) (h3 : j + k < 999000 := by decide) : CMulW x y :=
  wide_mul (h.up (Nat.le_succ j)) (h2.up (Nat.le_max_left k 1)) (Nat.succ_pos _) (by omega) (by rcases Nat.le_total k 1 with z | z <;> omega)
theorem cdz {k : Nat} {x y : Int} (h : y ≠ 0) (h2 : Bd k y) (h3 : k ≤ 9000 := by decide) : CDivZ x y := by
  refine ⟨h, ?_⟩
  have h0 : y.natAbs ≠ 0 := by omega
  exact Nat.lt_of_lt_of_le ((Nat.log2_lt h0).mpr h2) h3
theorem cdwB {x y : Int} {k : Nat} (h : 0 < y) (hb : Bd k y) (h9 : k ≤ 8999 := by decide) : CDivW x y := wide_div h (hb.up (Nat.le_succ k)) (Nat.succ_pos _) (by omega)
def fr (q : Rat) : PyData := .tuple [.int q.num, .int (q.den : Int)]
theorem fr_int (a : Int) : PyData.tuple [.int a, .int 1] = fr (a : Rat) := rfl
theorem fr_inj {p q : Rat} (h : fr p = fr q) : p = q := by
  unfold fr at h
  simp only [PyData.tuple.injEq, List.cons.injEq, PyData.int.injEq, and_true] at h
  exact Rat.ext h.1 (by omega)
theorem den_pos (q : Rat) : (0 : Int) < q.den := by have := q.den_nz; omega
structure Sz (k : Nat) (q : Rat) : Prop where
  n : Bd k q.num
  d : Bd k (q.den : Int)
theorem Sz.up {j k : Nat} {q : Rat} (h : Sz j q) (z : j ≤ k) : Sz k q := ⟨h.n.up z, h.d.up z⟩
theorem Sz.pos {k : Nat} {q : Rat} (h : Sz k q) : 0 < k := by
  have := h.d; unfold Bd at this
  rcases Nat.eq_zero_or_pos k with rfl | z
  · have := q.den_nz; omega
  · exact z
theorem ediv_bd {k : Nat} {x : Int} {g : Int} (h : Bd k x) (hg : 0 ≤ g) : Bd k (x / g) := by
  unfold Bd at *
  exact Nat.lt_of_le_of_lt (Int.natAbs_ediv_le_natAbs x g) h
theorem sz_divInt {j k : Nat} {n d : Int} (h : Bd j n) (h2 : Bd k d) (hd : d ≠ 0) : Sz (max j k) (n /. d) := by
  constructor
  · rw [Rat.num_divInt]
    refine (ediv_bd (k := j) ?_ (by omega)).up (Nat.le_max_left ..)
    unfold Bd at *
    rw [Int.natAbs_mul]
    have : d.sign.natAbs = 1 := by rw [Int.natAbs_sign_of_ne_zero hd]
    rw [this]; omega
  · rw [Rat.den_divInt, if_neg hd]
    refine Bd.up (j := k) ?_ (Nat.le_max_right ..)
    unfold Bd at *
    rw [Int.natAbs_natCast]
    exact Nat.lt_of_le_of_lt (Nat.div_le_self _ _) h2
theorem rat_ndi (q : Rat) : q = q.num /. (q.den : Int) := (Rat.num_divInt_den q).symm
theorem add_ndi (p q : Rat) : p + q = (p.num * q.den + q.num * p.den) /. (p.den * q.den) := by
  conv => lhs; rw [rat_ndi p, rat_ndi q]
  exact Rat.divInt_add_divInt _ _ (Int.ne_of_gt (den_pos p)) (Int.ne_of_gt (den_pos q))
theorem sub_ndi (p q : Rat) : p - q = (p.num * q.den - q.num * p.den) /. (p.den * q.den) := by
  conv => lhs; rw [rat_ndi p, rat_ndi q]
  exact Rat.divInt_sub_divInt _ _ (Int.ne_of_gt (den_pos p)) (Int.ne_of_gt (den_pos q))
theorem mul_ndi (p q : Rat) : p * q = (p.num * q.num) /. (p.den * q.den) := by
  conv => lhs; rw [rat_ndi p, rat_ndi q]
  exact Rat.divInt_mul_divInt _ _
theorem div_ndi (p q : Rat) : p / q = (p.num * q.den) /. (p.den * q.num) := by
  rw [Rat.div_def]
  conv => lhs; rw [rat_ndi p, rat_ndi q, Rat.inv_divInt]
  exact Rat.divInt_mul_divInt _ _
theorem dd_ne (p q : Rat) : (p.den : Int) * q.den ≠ 0 := Int.ne_of_gt (Int.mul_pos (den_pos p) (den_pos q))
theorem num_ne {q : Rat} (h : q ≠ 0) : q.num ≠ 0 := fun e => h (Rat.num_eq_zero.mp e)
theorem Sz.add {j k : Nat} {p q : Rat} (h : Sz j p) (h2 : Sz k q) : Sz (j + k + 1) (p + q) := by
  rw [add_ndi]
  refine (sz_divInt ((h.n.mul h2.d).add1 ((h2.n.mul h.d).up (show k + j ≤ j + k by omega))) (h.d.mul h2.d) (dd_ne p q)).up (by omega)
theorem Sz.sub {j k : Nat} {p q : Rat} (h : Sz j p) (h2 : Sz k q) : Sz (j + k + 1) (p - q) := by
  rw [sub_ndi]
  refine (sz_divInt ((h.n.mul h2.d).sub1 ((h2.n.mul h.d).up (show k + j ≤ j + k by omega))) (h.d.mul h2.d) (dd_ne p q)).up (by omega)
theorem Sz.mul {j k : Nat} {p q : Rat} (h : Sz j p) (h2 : Sz k q) : Sz (j + k) (p * q) := by
  rw [mul_ndi]
  refine (sz_divInt (h.n.mul h2.n) (h.d.mul h2.d) (dd_ne p q)).up (by omega)
theorem Sz.div {j k : Nat} {p q : Rat} (h : Sz j p) (h2 : Sz k q) (hq : q ≠ 0) : Sz (j + k) (p / q) := by
  rw [div_ndi]
  exact (sz_divInt (h.n.mul h2.d) (h.d.mul h2.n) (Int.mul_ne_zero (Int.ne_of_gt (den_pos p)) (num_ne hq))).up (by omega)
theorem Sz.neg {k : Nat} {p : Rat} (h : Sz k p) : Sz k (-p) := ⟨h.n.neg, h.d⟩
theorem Sz.int {k : Nat} {a : Int} (h : Bd k a) : Sz (max k 1) (a : Rat) := ⟨h.up (Nat.le_max_left ..), Bd.up (j := 1) (by unfold Bd; show (1 : Int).natAbs < 2 ^ 1; decide) (Nat.le_max_right ..)⟩
theorem Sz.int1 {k : Nat} {a : Int} (h : Bd k a) (hk : 0 < k := by decide) : Sz k (a : Rat) := (Sz.int h).up (by omega)
/-- what gcd and // make -/
theorem red_num {n d g : Int} (hd : d ≠ 0) (hg : g = if d < 0 then -((Nat.gcd n.natAbs d.natAbs : Nat) : Int) else ((Nat.gcd n.natAbs d.natAbs : Nat) : Int)) : n.fdiv g = (n /. d).num ∧ d.fdiv g = ((n /. d).den : Int) ∧ g ≠ 0 ∧ g.natAbs ≤ d.natAbs := by
  have hgp : 0 < Nat.gcd n.natAbs d.natAbs := Nat.gcd_pos_of_pos_right _ (by omega)
  have hgl : Nat.gcd n.natAbs d.natAbs ≤ d.natAbs := Nat.gcd_le_right _ (by omega)
  have e : d.gcd n = Nat.gcd n.natAbs d.natAbs := by rw [Int.gcd_comm]; rfl
  have dn : ((Nat.gcd n.natAbs d.natAbs : Nat) : Int) ∣ n := Int.natAbs_dvd_natAbs.mp (Nat.gcd_dvd_left _ _)
  have dd : ((Nat.gcd n.natAbs d.natAbs : Nat) : Int) ∣ d := Int.natAbs_dvd_natAbs.mp (Nat.gcd_dvd_right _ _)
  rw [Rat.num_divInt, Rat.den_divInt, if_neg hd, e]
  have fneg : ∀ {x c : Int}, 0 < c → c ∣ x → x.fdiv (-c) = -x / c := by
    intro x c hc ⟨k, hk⟩
    have e1 : x = (-c) * (-k) := by rw [hk, Int.neg_mul_neg]
    have e2 : -x = c * (-k) := by rw [hk, Int.mul_neg]
    rw [e2, Int.mul_ediv_cancel_left _ (by omega)]
    conv => lhs; rw [e1]
    rw [Int.mul_fdiv_cancel_left _ (by omega)]
  generalize hG : Nat.gcd n.natAbs d.natAbs = G at *
  by_cases hn : d < 0
  · rw [if_pos hn] at hg
    subst hg
    refine ⟨?_, ?_, by omega, by omega⟩
    · rw [fneg (by omega) dn, Int.sign_eq_neg_one_of_neg hn, Int.neg_mul, Int.one_mul]
    · rw [fneg (by omega) dd, Int.natCast_ediv]
      congr 1; omega
  · rw [if_neg hn] at hg
    subst hg
    refine ⟨?_, ?_, by omega, by omega⟩
    · rw [Int.fdiv_eq_ediv_of_nonneg _ (by omega), Int.sign_eq_one_of_pos (by omega), Int.one_mul]
    · rw [Int.fdiv_eq_ediv_of_nonneg _ (by omega), Int.natCast_ediv]
      congr 1; omega
/-! ## promises -/
def SpE {α : Type} (arg : α → List PyData) (pre : α → Prop) (res : α → PyData) : Sd := fun xs Q => ∃ a, xs = arg a ∧ pre a ∧ Q (res a)
theorem m_SpE {α : Type} {arg : α → List PyData} {pre : α → Prop} {res : α → PyData} : MonoP (SpE arg pre res) := fun xs Q Q' hq ⟨a, h1, h2, h3⟩ => ⟨a, h1, h2, hq _ h3⟩
def SpR {α : Type} (arg : α → List PyData) (pre : α → Prop) (post : α → PyData → Prop) : Sd := fun xs Q => ∃ a, xs = arg a ∧ pre a ∧ ∀ z, post a z → Q z
theorem m_SpR {α : Type} {arg : α → List PyData} {pre : α → Prop} {post : α → PyData → Prop} : MonoP (SpR arg pre post) := fun xs Q Q' hq ⟨a, h1, h2, h3⟩ => ⟨a, h1, h2, fun z hz => hq _ (h3 z hz)⟩
/-- with draws: at most n of them -/
def SpB {α : Type} (n : Nat) (arg : α → List PyData) (pre : α → Prop) (post : α → PyData → Prop) : Sb := fun bag xs Q => ∃ a m, Bag m bag ∧ m + n < 2 ^ 60 ∧ xs = arg a ∧ pre a ∧ ∀ z bag', post a z → Bag (m + n) bag' → Q z bag'
theorem m_SpB {α : Type} {n : Nat} {arg : α → List PyData} {pre : α → Prop} {post : α → PyData → Prop} : MonoB (SpB n arg pre post) := fun bag xs Q Q' hq ⟨a, m, h1, h2, h3, h4, h5⟩ => ⟨a, m, h1, h2, h3, h4, fun z b hz hb => hq _ _ (h5 z b hz hb)⟩
theorem SpE.mk {α : Type} {arg : α → List PyData} {pre : α → Prop} {res : α → PyData} {xs : List PyData} {Q : PyData → Prop} (a : α) (h1 : xs = arg a) (h2 : pre a) (h3 : Q (res a)) : SpE arg pre res xs Q := ⟨a, h1, h2, h3⟩
theorem SpR.mk {α : Type} {arg : α → List PyData} {pre : α → Prop} {post : α → PyData → Prop} {xs : List PyData} {Q : PyData → Prop} (a : α) (h1 : xs = arg a) (h2 : pre a) (h3 : ∀ z, post a z → Q z) : SpR arg pre post xs Q := ⟨a, h1, h2, h3⟩
def cmpR (p q : Rat) : Int := if p < q then -1 else if q < p then 1 else 0
def clipR (p : Rat) : Rat := if p < 0 then 0 else if 1 < p then 1 else p
theorem lt_fr {p q : Rat} : p.num * (q.den : Int) < q.num * (p.den : Int) ↔ p < q := (Rat.lt_iff p q).symm
theorem num_neg {q : Rat} : q.num < 0 ↔ q < 0 := by
  rw [Rat.lt_iff]; simp
theorem den_lt_num {q : Rat} : (q.den : Int) < q.num ↔ 1 < q := by
  rw [Rat.lt_iff]; simp
theorem lt_trich {p q : Rat} (h : ¬ p < q) (h2 : ¬ q < p) : p = q := Rat.le_antisymm (Rat.not_lt.mp h2) (Rat.not_lt.mp h)
end DV
namespace DV
open PySem PySem.Spec PyProof.Rows L2
open scoped Rat
/-! ## two legs -/
structure Lg where
  ax : Int
  ay : Int
  bx : Int
  by' : Int
def pr (a b : Int) : PyData := .tuple [.int a, .int b]
def eL (l : Lg) : PyData := .tuple [pr l.ax l.ay, pr l.bx l.by']
structure LB (k : Nat) (l : Lg) : Prop where
  ax : Bd k l.ax
  ay : Bd k l.ay
  bx : Bd k l.bx
  by' : Bd k l.by'
def px (l : Lg) (s : Rat) : Rat := (l.ax : Rat) + s * ((l.bx - l.ax : Int) : Rat)
def py (l : Lg) (s : Rat) : Rat := (l.ay : Rat) + s * ((l.by' - l.ay : Int) : Rat)
def gx (l o : Lg) (s t : Rat) : Rat := px o t - px l s
def gy (l o : Lg) (s t : Rat) : Rat := py o t - py l s
def gsq (l o : Lg) (s t : Rat) : Rat := gx l o s t * gx l o s t + gy l o s t * gy l o s t
abbrev Cn := Rat × Rat
def pf (c : Cn) : PyData := .tuple [fr c.1, fr c.2]
def lexLt (a b : Cn) : Prop := if a.1 ≠ b.1 then a.1 < b.1 else a.2 < b.2
instance (a b : Cn) : Decidable (lexLt a b) := by unfold lexLt; infer_instance
theorem px_sz {j k : Nat} {l : Lg} {s : Rat} (h : LB j l) (hs : Sz k s) (hj : 0 < j) : Sz (j + (k + (j + 1)) + 1) (px l s) := (Sz.int1 h.ax hj).add (hs.mul (Sz.int1 (h.bx.sub1 h.ax) (by omega)))
theorem py_sz {j k : Nat} {l : Lg} {s : Rat} (h : LB j l) (hs : Sz k s) (hj : 0 < j) : Sz (j + (k + (j + 1)) + 1) (py l s) := (Sz.int1 h.ay hj).add (hs.mul (Sz.int1 (h.by'.sub1 h.ay) (by omega)))
def crn (rho : Rat) : List Cn := [(0, 0), (rho, 0), (1, 1 - rho), (1, 1), (1 - rho, 1), (0, rho)]
def clipP (l o : Lg) (a b : Cn) : Rat :=
  let f1 := gx l o a.1 a.2
  let f2 := gy l o a.1 a.2
  let r1 := gx l o b.1 b.2 - f1
  let r2 := gy l o b.1 b.2 - f2
  let st := r1 * r1 + r2 * r2
  clipR (if st ≠ 0 then ((-1 : Int) : Rat) * (f1 * r1 + f2 * r2) / st else if lexLt b a then 1 else 0)
def onS (l o : Lg) (a b : Cn) : Rat := a.1 + clipP l o a b * (b.1 - a.1)
def onT' (l o : Lg) (a b : Cn) : Rat := a.2 + clipP l o a b * (b.2 - a.2)
abbrev Row3 := Rat × Rat × Rat
def edge (l o : Lg) (a b : Cn) : Row3 := (gsq l o (onS l o a b) (onT' l o a b), onS l o a b, onT' l o a b)
def turnI (l o : Lg) : Int := (l.bx - l.ax) * (o.by' - o.ay) - (l.by' - l.ay) * (o.bx - o.ax)
def inS (l o : Lg) : Rat := ((o.ax - l.ax) * (o.by' - o.ay) - (o.ay - l.ay) * (o.bx - o.ax)) /. turnI l o
def inT (l o : Lg) : Rat := ((o.ax - l.ax) * (l.by' - l.ay) - (o.ay - l.ay) * (l.bx - l.ax)) /. turnI l o
def rabs (q : Rat) : Rat := if q < 0 then -q else q
def okIn (s t rho : Rat) : Prop := ¬ (s < 0 ∨ t < 0 ∨ 1 < s ∨ 1 < t ∨ rho < rabs (s - t))
instance (s t rho : Rat) : Decidable (okIn s t rho) := by unfold okIn; infer_instance
def inner (l o : Lg) (rho : Rat) : List Row3 := if turnI l o = 0 then [] else if okIn (inS l o) (inT l o) rho then [(0, inS l o, inT l o)] else []
def rowLt (a b : Row3) : Prop := a.1 < b.1 ∨ (a.1 = b.1 ∧ lexLt a.2 b.2)
instance (a b : Row3) : Decidable (rowLt a b) := by unfold rowLt; infer_instance
def bestOf : List Row3 → Option Row3
  | rows => rows.foldl (fun best row => match best with
    | none => some row
    | some b => if rowLt row b then some row else some b) none
def edges (l o : Lg) (rho : Rat) : List Row3 := List.zipWith (edge l o) (crn rho) ((crn rho).drop 1 ++ (crn rho).take 1)
def rowsL (l o : Lg) (rho : Rat) : List Row3 := inner l o rho ++ edges l o rho
def best1 (b row : Row3) : Row3 := if rowLt row b then row else b
theorem bestOf_cons (r : Row3) (rs : List Row3) : bestOf (r :: rs) = some (rs.foldl best1 r) := by
  show rs.foldl _ (some r) = _
  induction rs generalizing r with
  | nil => rfl
  | cons x xs ih =>
    rw [List.foldl_cons, List.foldl_cons]
    show xs.foldl _ (if rowLt x r then some x else some r) = _
    unfold best1
    by_cases h : rowLt x r
    · rw [if_pos h, if_pos h]; exact ih x
    · rw [if_neg h, if_neg h]; exact ih r
theorem best_mem : ∀ (rs : List Row3) (r : Row3), rs.foldl best1 r = r ∨ rs.foldl best1 r ∈ rs
  | [], r => .inl rfl
  | x :: xs, r => by
    rw [List.foldl_cons]
    rcases best_mem xs (best1 r x) with h | h
    · unfold best1 at h ⊢
      by_cases hx : rowLt x r
      · rw [if_pos hx] at h ⊢; exact .inr (by rw [h]; exact List.mem_cons_self ..)
      · rw [if_neg hx] at h ⊢; exact .inl h
    · exact .inr (List.mem_cons_of_mem _ h)
def nearL (l o : Lg) (rho : Rat) : Row3 := (bestOf (rowsL l o rho)).getD (0, 0, 0)
/-! ### sizes -/
structure CnOk (d : Int) (c : Cn) : Prop where
  ex : ∃ x y : Int, c = (x /. d, y /. d) ∧ Bd 21 x ∧ Bd 21 y
structure DOk (d : Int) : Prop where
  pos : 0 < d
  bd : Bd 20 d
theorem CnOk.s {d : Int} {c : Cn} (h : CnOk d c) (hd : DOk d) : Sz 21 c.1 := by
  obtain ⟨x, y, rfl, hx, hy⟩ := h.ex
  exact (sz_divInt hx hd.bd (Int.ne_of_gt hd.pos)).up (by decide)
theorem CnOk.t {d : Int} {c : Cn} (h : CnOk d c) (hd : DOk d) : Sz 21 c.2 := by
  obtain ⟨x, y, rfl, hx, hy⟩ := h.ex
  exact (sz_divInt hy hd.bd (Int.ne_of_gt hd.pos)).up (by decide)
theorem rat_ne {d : Int} (h : d ≠ 0) : (d : Rat) ≠ 0 := fun e => h (by
  have := congrArg Rat.num e
  simpa using this)
theorem divInt_of {n d : Int} {q : Rat} (hd : d ≠ 0) (h : q * (d : Rat) = (n : Rat)) : q = n /. d := by
  rw [Rat.divInt_eq_div]
  have := rat_ne hd
  grind
/-- what leads from one to the other at a corner, d times as great -/
def gI (u v m d x y : Int) : Int := d * u + y * v - x * m
theorem gI_eq {u v m d x y : Int} (hd : d ≠ 0) : ((u : Int) : Rat) + (y /. d) * (v : Rat) - (x /. d) * (m : Rat) = gI u v m d x y /. d := by
  refine divInt_of hd ?_
  have := rat_ne hd
  unfold gI
  simp only [Rat.divInt_eq_div, Rat.intCast_add, Rat.intCast_sub, Rat.intCast_mul]
  grind
theorem clip_sz {k : Nat} {q : Rat} (h : Sz k q) : Sz k (clipR q) := by
  have hk := h.pos
  unfold clipR
  split
  · exact (Sz.int1 (a := 0) (k := k) (by unfold Bd; simpa using Nat.two_pow_pos k) hk)
  · split
    · refine (Sz.int1 (a := 1) (k := k) ?_ hk)
      unfold Bd
      exact Nat.one_lt_two_pow (by omega)
    · exact h
theorem part_eq {F1 F2 R1 R2 d : Int} (hd : d ≠ 0) (hs : ((R1 /. d) * (R1 /. d) + (R2 /. d) * (R2 /. d)) ≠ 0) :
    ((-1 : Int) : Rat) * ((F1 /. d) * (R1 /. d) + (F2 /. d) * (R2 /. d)) / ((R1 /. d) * (R1 /. d) + (R2 /. d) * (R2 /. d)) = (-(F1 * R1 + F2 * R2)) /. (R1 * R1 + R2 * R2) ∧ R1 * R1 + R2 * R2 ≠ 0 := by
  have hd' := rat_ne hd
  have e : (R1 /. d) * (R1 /. d) + (R2 /. d) * (R2 /. d) = (((R1 * R1 + R2 * R2 : Int)) : Rat) / ((d : Rat) * d) := by
    simp only [Rat.divInt_eq_div, Rat.intCast_add, Rat.intCast_mul]
    grind
  have hne : R1 * R1 + R2 * R2 ≠ 0 := by
    intro z
    rw [e, z] at hs
    exact hs (by rw [Rat.intCast_zero, Rat.div_def, Rat.zero_mul])
  refine ⟨?_, hne⟩
  have hne' := rat_ne hne
  refine divInt_of hne ?_
  rw [e]
  simp only [Rat.divInt_eq_div, Rat.intCast_add, Rat.intCast_mul, Rat.intCast_neg] at hne' ⊢
  rw [show ((1 : Int) : Rat) = 1 from rfl]
  generalize ((R1 : Rat) * R1 + R2 * R2) = N at hne' ⊢
  grind
end DV
namespace DV
open PySem PySem.Spec PyProof.Rows L2
open scoped Rat
theorem g_form {l o : Lg} {d x y : Int} (hd : d ≠ 0) : gx l o (x /. d) (y /. d) = gI (o.ax - l.ax) (o.bx - o.ax) (l.bx - l.ax) d x y /. d ∧ gy l o (x /. d) (y /. d) = gI (o.ay - l.ay) (o.by' - o.ay) (l.by' - l.ay) d x y /. d := by
  constructor
  · rw [← gI_eq hd]; unfold gx px; rw [Rat.intCast_sub (a := o.ax) (b := l.ax)]; grind
  · rw [← gI_eq hd]; unfold gy py; rw [Rat.intCast_sub (a := o.ay) (b := l.ay)]; grind
theorem gI_bd {u v m d x y : Int} (hu : Bd 21 u) (hv : Bd 21 v) (hm : Bd 21 m) (hd : Bd 20 d) (hx : Bd 21 x) (hy : Bd 21 y) : Bd 45 (gI u v m d x y) :=
  (((hd.mul hu).up (by decide : 41 ≤ 42) |>.add1 (hy.mul hv)).up (by decide : 43 ≤ 43) |>.sub1 ((hx.mul hm).up (by decide : 42 ≤ 43))).up (by decide)
theorem sub_divInt {A B d : Int} (hd : d ≠ 0) : A /. d - B /. d = (A - B) /. d := by
  refine divInt_of hd ?_
  have := rat_ne hd
  simp only [Rat.divInt_eq_div, Rat.intCast_sub]
  grind
theorem clipP_sz {l o : Lg} {a b : Cn} {d : Int} (h1 : LB 20 l) (h2 : LB 20 o) (hd : DOk d) (ha : CnOk d a) (hb : CnOk d b) : Sz 100 (clipP l o a b) := by
  have d0 : d ≠ 0 := Int.ne_of_gt hd.pos
  obtain ⟨x, y, rfl, hx, hy⟩ := ha.ex
  obtain ⟨z, w, rfl, hz, hw⟩ := hb.ex
  have u1 := h2.ax.sub1 h1.ax
  have v1 := h2.bx.sub1 h2.ax
  have m1 := h1.bx.sub1 h1.ax
  have u2 := h2.ay.sub1 h1.ay
  have v2 := h2.by'.sub1 h2.ay
  have m2 := h1.by'.sub1 h1.ay
  unfold clipP
  simp only [(g_form (l := l) (o := o) d0).1, (g_form (l := l) (o := o) d0).2, sub_divInt d0]
  have f1 := gI_bd u1 v1 m1 hd.bd hx hy
  have f2 := gI_bd u2 v2 m2 hd.bd hx hy
  have e1 := gI_bd u1 v1 m1 hd.bd hz hw
  have e2 := gI_bd u2 v2 m2 hd.bd hz hw
  generalize gI (o.ax - l.ax) (o.bx - o.ax) (l.bx - l.ax) d x y = F1 at *
  generalize gI (o.ay - l.ay) (o.by' - o.ay) (l.by' - l.ay) d x y = F2 at *
  have r1 := e1.sub1 f1
  have r2 := e2.sub1 f2
  generalize gI (o.ax - l.ax) (o.bx - o.ax) (l.bx - l.ax) d z w - F1 = R1 at *
  generalize gI (o.ay - l.ay) (o.by' - o.ay) (l.by' - l.ay) d z w - F2 = R2 at *
  refine clip_sz ?_
  split
  · rename_i hs
    obtain ⟨e, hne⟩ := part_eq (F1 := F1) (F2 := F2) d0 hs
    rw [e]
    exact (sz_divInt ((f1.mul r1).add1 (f2.mul r2)).neg ((r1.mul r1).add1 (r2.mul r2)) hne).up (by decide)
  · split
    · exact Sz.int1 (a := 1) (by unfold Bd; decide)
    · exact Sz.int1 (a := 0) (by unfold Bd; decide)
theorem onS_sz {l o : Lg} {a b : Cn} {d : Int} (h1 : LB 20 l) (h2 : LB 20 o) (hd : DOk d) (ha : CnOk d a) (hb : CnOk d b) : Sz 165 (onS l o a b) :=
  (((ha.s hd).add ((clipP_sz h1 h2 hd ha hb).mul ((hb.s hd).sub (ha.s hd))))).up (by decide)
theorem onT_sz {l o : Lg} {a b : Cn} {d : Int} (h1 : LB 20 l) (h2 : LB 20 o) (hd : DOk d) (ha : CnOk d a) (hb : CnOk d b) : Sz 165 (onT' l o a b) :=
  (((ha.t hd).add ((clipP_sz h1 h2 hd ha hb).mul ((hb.t hd).sub (ha.t hd))))).up (by decide)
theorem gx_sz {l o : Lg} {s t : Rat} (h1 : LB 20 l) (h2 : LB 20 o) (hs : Sz 165 s) (ht : Sz 165 t) : Sz 415 (gx l o s t) := ((px_sz h2 ht (by decide)).sub (px_sz h1 hs (by decide))).up (by decide)
theorem gy_sz {l o : Lg} {s t : Rat} (h1 : LB 20 l) (h2 : LB 20 o) (hs : Sz 165 s) (ht : Sz 165 t) : Sz 415 (gy l o s t) := ((py_sz h2 ht (by decide)).sub (py_sz h1 hs (by decide))).up (by decide)
theorem gsq_sz {l o : Lg} {s t : Rat} (h1 : LB 20 l) (h2 : LB 20 o) (hs : Sz 165 s) (ht : Sz 165 t) : Sz 1661 (gsq l o s t) := (((gx_sz h1 h2 hs ht).mul (gx_sz h1 h2 hs ht)).add ((gy_sz h1 h2 hs ht).mul (gy_sz h1 h2 hs ht))).up (by decide)
theorem crn_ok {rho : Rat} (h : Sz 20 rho) : DOk rho.den ∧ ∀ c ∈ crn rho, CnOk rho.den c := by
  have hd := den_pos rho
  have d0 : (rho.den : Int) ≠ 0 := Int.ne_of_gt hd
  refine ⟨⟨hd, h.d⟩, fun c hc => ?_⟩
  have e0 : (0 : Rat) = (0 : Int) /. (rho.den : Int) := (Rat.zero_divInt _).symm
  have e1 : (1 : Rat) = (rho.den : Int) /. (rho.den : Int) := (Rat.divInt_self' d0).symm
  have er : rho = rho.num /. (rho.den : Int) := rat_ndi rho
  have es : 1 - rho = ((rho.den : Int) - rho.num) /. (rho.den : Int) := by
    rw [← sub_divInt d0, ← e1, ← er]
  have b0 : Bd 21 0 := by unfold Bd; decide
  have bd : Bd 21 (rho.den : Int) := h.d.up (by decide)
  have bn : Bd 21 rho.num := h.n.up (by decide)
  have bs : Bd 21 ((rho.den : Int) - rho.num) := h.d.sub1 h.n
  simp only [crn, List.mem_cons, List.not_mem_nil, or_false] at hc
  rcases hc with rfl | rfl | rfl | rfl | rfl | rfl
  · exact ⟨0, 0, by rw [← e0], b0, b0⟩
  · exact ⟨rho.num, 0, by rw [← er, ← e0], bn, b0⟩
  · exact ⟨rho.den, rho.den - rho.num, by rw [← es, ← e1], bd, bs⟩
  · exact ⟨rho.den, rho.den, by rw [← e1], bd, bd⟩
  · exact ⟨rho.den - rho.num, rho.den, by rw [← es, ← e1], bs, bd⟩
  · exact ⟨0, rho.num, by rw [← er, ← e0], b0, bn⟩
structure Sz3 (r : Row3) : Prop where
  q : Sz 1661 r.1
  s : Sz 165 r.2.1
  t : Sz 165 r.2.2
theorem edge_sz {l o : Lg} {a b : Cn} {d : Int} (h1 : LB 20 l) (h2 : LB 20 o) (hd : DOk d) (ha : CnOk d a) (hb : CnOk d b) : Sz3 (edge l o a b) :=
  ⟨gsq_sz h1 h2 (onS_sz h1 h2 hd ha hb) (onT_sz h1 h2 hd ha hb), onS_sz h1 h2 hd ha hb, onT_sz h1 h2 hd ha hb⟩
theorem turn_bd {l o : Lg} (h1 : LB 20 l) (h2 : LB 20 o) : Bd 43 (turnI l o) := (((h1.bx.sub1 h1.ax).mul (h2.by'.sub1 h2.ay)).sub1 ((h1.by'.sub1 h1.ay).mul (h2.bx.sub1 h2.ax))).up (by decide)
theorem inS_sz {l o : Lg} (h1 : LB 20 l) (h2 : LB 20 o) (h : turnI l o ≠ 0) : Sz 43 (inS l o) := (sz_divInt (((h2.ax.sub1 h1.ax).mul (h2.by'.sub1 h2.ay)).sub1 ((h2.ay.sub1 h1.ay).mul (h2.bx.sub1 h2.ax))) (turn_bd h1 h2) h).up (by decide)
theorem inT_sz {l o : Lg} (h1 : LB 20 l) (h2 : LB 20 o) (h : turnI l o ≠ 0) : Sz 43 (inT l o) := (sz_divInt (((h2.ax.sub1 h1.ax).mul (h1.by'.sub1 h1.ay)).sub1 ((h2.ay.sub1 h1.ay).mul (h1.bx.sub1 h1.ax))) (turn_bd h1 h2) h).up (by decide)
theorem sz_zero {k : Nat} (hk : 0 < k := by decide) : Sz k (0 : Rat) := Sz.int1 (a := 0) (by unfold Bd; simpa using Nat.two_pow_pos k) hk
theorem sz_one {k : Nat} (hk : 0 < k := by decide) : Sz k (1 : Rat) := Sz.int1 (a := 1) (by unfold Bd; exact Nat.one_lt_two_pow (by omega)) hk
theorem inner_sz {l o : Lg} {rho : Rat} (h1 : LB 20 l) (h2 : LB 20 o) : ∀ r ∈ inner l o rho, Sz3 r := fun r hr => by
  unfold inner at hr
  split at hr
  · cases hr
  · rename_i ht
    split at hr
    · simp only [List.mem_cons, List.not_mem_nil, or_false] at hr
      subst hr
      exact ⟨sz_zero, (inS_sz h1 h2 ht).up (by decide), (inT_sz h1 h2 ht).up (by decide)⟩
    · cases hr
theorem edges_sz {l o : Lg} {rho : Rat} (h1 : LB 20 l) (h2 : LB 20 o) (h : Sz 20 rho) : ∀ r ∈ edges l o rho, Sz3 r := fun r hr => by
  obtain ⟨hd, hc⟩ := crn_ok h
  have hm : ∀ c, c = (0, 0) ∨ c = (rho, 0) ∨ c = (1, 1 - rho) ∨ c = (1, 1) ∨ c = (1 - rho, 1) ∨ c = (0, rho) → CnOk rho.den c := fun c h => hc c (by simpa only [crn, List.mem_cons, List.not_mem_nil, or_false] using h)
  simp only [edges, crn, List.drop_succ_cons, List.drop_zero, List.take_succ_cons, List.take_zero, List.cons_append, List.nil_append, List.zipWith_cons_cons, List.zipWith_nil_left, List.mem_cons, List.not_mem_nil, or_false] at hr
  rcases hr with rfl | rfl | rfl | rfl | rfl | rfl
  all_goals exact edge_sz h1 h2 hd (hm _ (by simp)) (hm _ (by simp))
theorem rows_sz {l o : Lg} {rho : Rat} (h1 : LB 20 l) (h2 : LB 20 o) (h : Sz 20 rho) : ∀ r ∈ rowsL l o rho, Sz3 r := fun r hr => by
  rcases List.mem_append.mp hr with hr | hr
  · exact inner_sz h1 h2 r hr
  · exact edges_sz h1 h2 h r hr
theorem best_of_mem {rs : List Row3} (h : rs ≠ []) : ∃ r, bestOf rs = some r ∧ r ∈ rs := by
  cases rs with
  | nil => exact absurd rfl h
  | cons r rs =>
    refine ⟨_, bestOf_cons r rs, ?_⟩
    rcases best_mem rs r with z | z
    · rw [z]; exact List.mem_cons_self ..
    · exact List.mem_cons_of_mem _ z
theorem rows_ne {l o : Lg} {rho : Rat} : rowsL l o rho ≠ [] := by
  unfold rowsL edges crn
  simp
theorem near_sz {l o : Lg} {rho : Rat} (h1 : LB 20 l) (h2 : LB 20 o) (h : Sz 20 rho) : Sz3 (nearL l o rho) ∧ nearL l o rho ∈ rowsL l o rho := by
  obtain ⟨r, e, hr⟩ := best_of_mem (rows_ne (l := l) (o := o) (rho := rho))
  unfold nearL
  rw [e]
  exact ⟨rows_sz h1 h2 h r hr, hr⟩
end DV
namespace DV
open PySem PySem.Spec PyProof.Rows L2
/-! ### xs[::-1] of a tuple -/
section
variable {prog : Program} {w : World} {A : Around} {E : Value → Shared → Prop} {s : Shared}
theorem sliceApplied_rev {sl : Addr} {n : Nat} {tk : Tok} {vs : Value} {Q : Int × Int × Nat → Shared → Prop} (hs : s.heap.IsSliceOf sl .none .none vs) (ps : IsPart vs (some (-1)))
    (h : Q ((n : Int) - 1, -1, n) s) : wpAny (model prog w) A (Builtin.Slice.sliceApplied (.ref sl) (pure (n : Int))) Q E s := by
  obtain ⟨os, hos, hcs, hds⟩ := id hs
  unfold Builtin.Slice.sliceApplied Builtin.Slice.sliceFields
  refine wpAny_bind (wpAny_bind (wpAny_field hos hds (x := .none) rfl (wpAny_bind (wpAny_field hos hds (x := .none) rfl (wpAny_bind (wpAny_field hos hds (x := vs) rfl (wpAny_pure ?_)))))))
  refine wpAny_bind (HT.slicePart_ ps ?_)
  show wpAny _ _ (if ((-1 : Int) == 0) = true then _ else _) _ _ s
  rw [if_neg (by decide)]
  refine wpAny_bind (HT.slicePart_ .none (wpAny_bind (HT.slicePart_ .none (wpAny_bind (wpAny_pure ?_)))))
  show wpAny _ _ (match Builtin.Slice.sliceAdjust none none (-1) (n : Int) with | (lo, hi) => pure (lo, (-1 : Int), Builtin.Slice.slicePlaces lo hi (-1))) _ _ s
  have e1 : Builtin.Slice.sliceAdjust none none (-1) (n : Int) = ((n : Int) - 1, -1) := by
    unfold Builtin.Slice.sliceAdjust
    simp
  rw [e1]
  show wpAny _ _ (pure ((n : Int) - 1, (-1 : Int), Builtin.Slice.slicePlaces ((n : Int) - 1) (-1) (-1))) _ _ s
  have e2 : Builtin.Slice.slicePlaces ((n : Int) - 1) (-1) (-1) = n := by
    unfold Builtin.Slice.slicePlaces
    simp only [show ¬ ((-1 : Int) > 0) by decide, if_false]
    split
    · rw [show (-(-1) : Int) = 1 by decide, Int.ediv_one]; omega
    · omega
  rw [e2]
  exact wpAny_pure h
theorem fm_congr {α β : Type} {f g : α → Option β} : ∀ {l : List α}, (∀ k ∈ l, f k = g k) → l.filterMap f = l.filterMap g
  | [], _ => rfl
  | x :: l, h => by
    rw [List.filterMap_cons, List.filterMap_cons, h x (List.mem_cons_self ..), fm_congr fun k hk => h k (List.mem_cons_of_mem _ hk)]
theorem pick_rev (xs : Array Value) : ((List.range xs.size).filterMap fun (k : Nat) => xs[((xs.size : Int) - 1 + (k : Int) * -1).toNat]?).toArray = xs.toList.reverse.toArray := by
  congr 1
  have h : ∀ k ∈ List.range xs.size, xs[((xs.size : Int) - 1 + (k : Int) * -1).toNat]? = xs.toList.reverse[k]? := by
    intro k hk
    have hk : k < xs.size := List.mem_range.mp hk
    rw [List.getElem?_reverse (by simpa using hk), Array.length_toList, show ((xs.size : Int) - 1 + (k : Int) * -1).toNat = xs.size - 1 - k by omega, Array.getElem?_toList]
  have : (List.range xs.size).filterMap (fun (k : Nat) => xs[((xs.size : Int) - 1 + (k : Int) * -1).toNat]?) = (List.range xs.size).filterMap (fun k => xs.toList.reverse[k]?) := fm_congr h
  rw [this]
  have e : xs.size = xs.toList.reverse.length := by simp
  rw [e]
  generalize xs.toList.reverse = ys
  apply List.ext_getElem?
  intro i
  have : (List.range ys.length).filterMap (fun k => ys[k]?) = ys := by
    clear i e this h
    induction ys with
    | nil => rfl
    | cons y ys ih =>
      rw [List.length_cons, List.range_succ_eq_map, List.filterMap_cons]
      simp only [List.getElem?_cons_zero, List.filterMap_map]
      congr 1
  rw [this]
theorem getItem_tuple_rev {t sl : Addr} {items : Array Value} {vs : Value} {Q : Value → Shared → Prop} (ht : IsTup s.heap t items) (hs : s.heap.IsSliceOf sl .none .none vs) (ps : IsPart vs (some (-1)))
    (h : Q (.ref s.heap.objs.size) { s with heap := s.heap.push { cls := .type "tuple", data := .seq items.toList.reverse.toArray } }) (hsz : items.size ≤ sizeLine) : wpAny (model prog w) A (getItem (.ref t) (.ref sl)) Q E s := by
  have htake : sizeOk (.seq items.toList.reverse.toArray) := by
    show items.toList.reverse.toArray.size ≤ sizeLine
    rw [List.size_toArray, List.length_reverse, Array.length_toList]
    exact hsz
  obtain ⟨os, hos, hcs, hds⟩ := id hs
  have hTs : s.TypeIs (.ref sl) "slice" := ⟨os, hos, hcs⟩
  unfold getItem
  try with_reducible refine wpAny_holding ?_
  first | refine wpAny_bind (wpAny_pure ?_) | skip
  refine wpAny_bind (wpAny_sequenceKey ht.typeIs (by decide) ?_)
  refine wpAny_bind (wpAny_callSpecial?_slot (name := Str.ofString "__getitem__") ht.typeIs PyProof.Rows.slot_tuple_getitem
    (wpAny_call_entry PyProof.Rows.slot_tuple_getitem ht.typeIs entry_tuple_getitem ?_ (args_tuple_getitem _ _)))
  show wpAny _ _ (Builtin.Tuple.tupleItemsOf (.ref t) >>= _) _ _ s
  refine wpAny_bind (tupleItemsOf_ ht ?_)
  refine wpAny_bind (wpAny_typeOf hTs ?_)
  rw [if_pos (by decide)]
  refine wpAny_bind (sliceApplied_rev (tk := 0) hs ps ?_)
  have hno : ¬ ((((items.size : Int) - 1) == 0 && (-1 : Int) == 1 && items.size == items.size) = true) := by
    intro q
    rw [Bool.and_eq_true, Bool.and_eq_true] at q
    exact absurd q.1.2 (by decide)
  show wpAny _ _ (if (((items.size : Int) - 1) == 0 && (-1 : Int) == 1 && items.size == items.size) = true then _ else _) _ _ s
  rw [if_neg hno, pick_rev]
  first
    | exact wpAny_bind (m := Builtin.Tuple.tupleExact _) (wpAny_newObj_type (wpAny_pure ⟨_, rfl, wpAny_pure h⟩) htake)
    | exact wpAny_bind (m := Builtin.Tuple.tupleExact _) (wpAny_newObj_type (wpAny_bind (wpAny_pure (wpAny_pure ⟨_, rfl, wpAny_pure h⟩))) htake)
    | exact wpAny_bind (wpAny_bind (m := Builtin.Tuple.tupleExact _) (wpAny_newObj_type (wpAny_pure (wpAny_pure ⟨_, rfl, wpAny_pure h⟩)) htake))
    | exact wpAny_bind (wpAny_bind (m := Builtin.Tuple.tupleExact _) (wpAny_newObj_type (wpAny_pure ⟨_, rfl, wpAny_pure h⟩) htake))
end
section
variable {X : Cx} {F : Fm} {a b c e : Expr} {es : List Expr} {ta tb tc te : TE} {da db dc de : TDE} {pos : Pos} {t : TA} {d : TDA}
def tRevT (K : PySem.W.Frag) (te : TE) : TE := fun σ H Q => te σ H fun x H1 => ∃ a xs, x = .ref a ∧ SqT K H1 a xs ∧ ∀ p, H1 p = none → Q (.ref p) (upd H1 p (.tup xs.reverse))
theorem pe_revT {k : Nat} {p1 p2 p3 : Pos} (he : PE X e te) : PE X (.Subscript e (.Slice none none (some (.UnaryOp .USub (.Constant (.int 1) k p1) p2)) p3) pos) (tRevT X.K te) := by
  refine ⟨fun pins s σ H Q I h => ?_⟩
  refine Subscript_ (thn (he.run pins s σ H _ I h) fun v s1 ⟨x, H1, I1, r1, q1⟩ => ?_)
  obtain ⟨a, xs, ex, hx, q⟩ := q1
  subst ex
  cases r1
  have hst : PO X (some (.UnaryOp .USub (.Constant (.int 1) k p1) p2)) (tPart (tUn (rU fun i => .int (-i)) (tC (.int 1)))) := po_some (pe_un un_neg pe_int)
  refine wpAny_Slice (thn (po_none.run pins s1 σ H1 (fun o H2 => o = none ∧ H2 = H1) I1 ⟨rfl, rfl⟩) fun vl s2 ⟨l, H2, I2, pl, el, e2⟩ => ?_)
  subst el e2
  refine thn (po_none.run pins s2 σ H2 (fun o H3 => o = none ∧ H3 = H2) I2 ⟨rfl, rfl⟩) fun vu s3 ⟨u, H3, I3, pu, eu, e3⟩ => ?_
  subst eu e3
  refine thn (hst.run pins s3 σ H3 (fun o H4 => o = some (-1) ∧ H4 = H3) I3 ⟨1, rfl, -1, rfl, rfl, rfl⟩) fun vs s4 ⟨o, H4, I4, ps, eo, e4⟩ => ?_
  subst eo e4
  cases pl; cases pu
  have I5 : Inv X pins σ H4 { s4 with heap := s4.heap.push { cls := .type "slice", data := .fields #[.none, .none, vs] } } := I4.kept (t' := s4.toks) fun b ob q => Heap.get?_push_of_some _ q
  obtain ⟨its, r, ht, hz⟩ := I5.tuple hx
  have hlen := r.length
  show wpAny (model X.prog X.w) X.A (subscriptTail e (.Slice none none (some (.UnaryOp .USub (.Constant (.int 1) k p1) p2)) p3) (.ref a) (.ref s4.heap.objs.size)) (EP X pins σ Q) X.xe { s4 with heap := s4.heap.push { cls := .type "slice", data := .fields #[.none, .none, vs] } }
  refine tail_any (ops := [.ref a, .ref s4.heap.objs.size]) ht.typeIs (PyProof.Rows.slot_tuple_getitem.lookup) ?_ (by with_unfolding_all rfl)
  refine getItem_tuple_rev ht (Heap.IsSliceOf.new _ .none .none vs) ps ?_ (by rw [List.size_toArray]; omega)
  refine ⟨.ref _, _, I5.laid (t' := s4.toks) (o := .tup xs.reverse) (fun b ob q => Heap.get?_push_of_some _ q) (Nat.le_refl _) ?_, rfl, q _ (I5.hok.fresh (Nat.le_refl _))⟩
  refine ⟨by rw [List.length_reverse]; exact hz, its.reverse, r.reverse, ?_⟩
  have : its.toArray.toList.reverse.toArray = its.reverse.toArray := by simp
  rw [this]
  exact IsTup.new _ _
theorem ImAll.reverse {K : PySem.W.Frag} {N : Addr → Prop} {H : Hp} : ∀ {ds : List PyData} {vs : List V}, ImAll K N H ds vs → ImAll K N H ds.reverse vs.reverse
  | [], _, h => by simp only [ImAll] at h; subst h; exact .nil
  | d :: ds, _, h => by
    simp only [ImAll] at h
    obtain ⟨x, xs, rfl, l, t⟩ := h
    rw [List.reverse_cons, List.reverse_cons]
    exact t.reverse.append (.cons l .nil)
def dRevT (te : TDE) : TDE := fun ρ Q => te ρ fun r ρ1 => onT r fun xs => Q (.d (.tuple xs.reverse)) ρ1
theorem pd_revT {k : Nat} {p1 p2 p3 : Pos} (he : PD X F e te de) (hK : X.K = F.K := by rfl) : PD X F (.Subscript e (.Slice none none (some (.UnaryOp .USub (.Constant (.int 1) k p1) p2)) p3) pos) (tRevT F.K te) (dRevT de) := by
  refine ⟨by have := pe_revT (pos := pos) (k := k) (p1 := p1) (p2 := p2) (p3 := p3) he.pe; rw [hK] at this; exact this, ?_, ?_⟩
  · intro pins ρ σ H Q O h
    refine he.de.run pins ρ σ H _ O (he.de.mono _ _ _ (fun r ρ1 h1 v H1 O1 R1 => ?_) h)
    cases r with
    | o i => exact h1.elim
    | raw u => exact h1.elim
    | d x =>
      cases x <;> first | exact h1.elim | skip
      rename_i xs
      have R1 : Im F.K (Av F pins ρ1 σ) H1 (.tuple xs) v := R1
      simp only [Im] at R1
      obtain ⟨a, vs, rfl, l, im⟩ := R1
      refine ⟨a, vs, rfl, l.sq, fun p hp => ?_⟩
      obtain ⟨O2, i2⟩ := newTup O1 hp im.reverse
      exact h1 _ _ O2 i2
  · intro ρ Q Q' hq h
    refine he.de.mono _ _ _ (fun r ρ1 h1 => ?_) h
    cases r with
    | o i => exact h1.elim
    | raw u => exact h1.elim
    | d x =>
      cases x <;> first | exact h1.elim | skip
      exact hq _ _ h1
/-! ### constants of the module -/
theorem pd_glob {x : Str} {v : V} {u : Value} {z : PyData} (hg : Gl X x) (hm : X.mg x = some u) (r : RelV v u) (hz : Sc z v) (hd : (x == ("__debug__" : Str)) = false := by decide) : PD X F (.Name x pos) (tC v) (dC z) := ⟨pe_glob hg hm r hd, de_c hz⟩
theorem pd_globI {x : Str} {i : Int} (hg : Gl X x) (hm : ∃ tk, X.mg x = some (.int i tk)) (hd : (x == ("__debug__" : Str)) = false := by decide) : PD X F (.Name x pos) (tC (.int i)) (dC (.int i)) := pd_glob hg hm.choose_spec ⟨_, rfl⟩ .int hd
theorem op_eqI : OpR X (compareOp .Eq) (rI0 fun i j => .bl (decide (i = j))) := by
  intro pins s σ H x y v u Q I rx ry h
  obtain ⟨i, j, rfl, rfl, q⟩ := h
  refine op_eq pins s σ H _ _ v u Q I rx ry ⟨rfl, ?_⟩
  rw [show decide (V.int i = V.int j) = decide (i = j) by rw [dec_int, Bool.beq_eq_decide_eq]]
  exact q
end
end DV
namespace DV
open PySem PySem.Spec PyProof.Rows L2
open scoped Rat
theorem u_take {m : Nat} {n : Int} {bag : List PyData} {Q : PyData → List PyData → Prop} (hb : Bag m bag) (hm : m + 1 < 2 ^ 60) (h0 : 0 < n) (h1 : n ≤ 1000000000) (q : ∀ v bag', 0 ≤ v → v < n → Bag (m + 1) bag' → Q (.int v) bag') : S_take bag [.int n] Q :=
  ⟨m, n, hb, by omega, rfl, h0, Nat.lt_of_lt_of_le (show n.natAbs < 2 ^ 30 by omega) (Nat.pow_le_pow_right (by decide) (by decide)), q⟩
theorem u_some {m : Nat} {ys : List PyData} {bag : List PyData} {Q : PyData → List PyData → Prop} (hb : Bag m bag) (hm : m + 1 < 2 ^ 60) (h0 : 0 < ys.length) (h1 : ys.length ≤ 100000) (q : ∀ y ∈ ys, ∀ bag', Bag (m + 1) bag' → Q y bag') : S_some bag [.list ys] Q :=
  ⟨m, ys, hb, by omega, .inl rfl, h0, h1, fun y b h => q y h b⟩
theorem u_alike {x : PyData} {Q : PyData → Prop} (h : Fine x) (q : Q (.bool true)) : S_alike [x, x] Q := ⟨⟨rfl, h⟩, q⟩
def isI (lo hi : Int) : PyData → Bool
  | .int d => decide (lo ≤ d) && decide (d ≤ hi)
  | _ => false
theorem of_isI {lo hi : Int} {y : PyData} (h : isI lo hi y = true) : ∃ d : Int, y = .int d ∧ lo ≤ d ∧ d ≤ hi := by
  cases y <;> first | cases h | skip
  rename_i d
  simp only [isI, Bool.and_eq_true, decide_eq_true_eq] at h
  exact ⟨d, rfl, h⟩
theorem of_all {lo hi : Int} {ys : List PyData} (h : ys.all (isI lo hi) = true) : ∀ y ∈ ys, ∃ d : Int, y = .int d ∧ lo ≤ d ∧ d ≤ hi := fun y hy => of_isI (List.all_eq_true.mp h y hy)
theorem bd_of {k : Nat} {i : Int} (b : Int) (h1 : -b ≤ i) (h2 : i ≤ b) (hb : b.natAbs < 2 ^ k := by decide) : Bd k i := by unfold Bd; omega
/-! ### order of data in comparisons -/
theorem eqv_fr {p q : Rat} : PyData.eqv (fr p) (fr q) = decide (p = q) := by
  unfold fr
  simp only [PyData.eqv, PyData.eqvAll, Bool.and_true]
  rw [Bool.beq_eq_decide_eq, Bool.beq_eq_decide_eq, ← Bool.decide_and, decide_eq_decide]
  exact ⟨fun ⟨h1, h2⟩ => Rat.ext h1 (by omega), fun h => by subst h; exact ⟨rfl, rfl⟩⟩
theorem sh_two {i j : Int} : SeqAt.shaped (.tuple [.int i, .int j]) = true := by
  simp [SeqAt.shaped, PyData.canLay0, PyData.canLayAll0, PyData.depth, PyData.depthAll]
theorem sh_fr {p : Rat} : SeqAt.shaped (fr p) = true := sh_two
theorem eqv_pr {a b c d : Int} : PyData.eqv (pr a b) (pr c d) = decide (a = c ∧ b = d) := by
  unfold pr
  simp only [PyData.eqv, PyData.eqvAll, Bool.and_true]
  rw [Bool.beq_eq_decide_eq, Bool.beq_eq_decide_eq, ← Bool.decide_and]
theorem mul_den (s : Rat) : s * ((s.den : Int) : Rat) = (s.num : Rat) := by
  have e2 : s.num /. (s.den : Int) = s := Rat.num_divInt_den s
  have hn := rat_ne (Int.ne_of_gt (den_pos s))
  rw [Rat.divInt_eq_div] at e2
  grind
end DV
namespace DV
open PySem PySem.Spec PyProof.Rows L2
open scoped Rat
/-! ## loops and comprehensions, read by what they make -/
def lcIn (g : TDGt) (tt : TDT) (te : TDE) (vs : List Nat) (Q : List PyData → Rho → Prop) (xs : List PyData) (ρ1 : Rho) : Prop :=
  (∀ i ∈ vs, ρ1[i]? = some none) ∧ ∃ I : Nat → List PyData → Rho → Prop, I 0 [] ρ1 ∧
  (∀ i x acc ρ, xs[i]? = some x → I i acc ρ → g (.d x) ρ fun ρ2 => tt ρ2 fun k ρ3 => if k = true then te ρ3 fun r ρ4 => onDat r fun y => Few (acc.length + 1) ∧ I (i + 1) (acc ++ [y]) (wipeR ρ4 vs) else I (i + 1) acc (wipeR ρ3 vs)) ∧
  ∀ acc ρ, I xs.length acc ρ → Q acc (wipeR ρ vs)
theorem dLc_eq {wi : TDI} {g : TDGt} {tt : TDT} {te : TDE} {vs : List Nat} : dLc wi g tt te vs = fun ρ Q => wi ρ fun xs ρ1 => lcIn g tt te vs Q xs ρ1 := rfl
def forIn1 (g : TDGt) (tb : TDS) (DD : DEnds) (xs : List PyData) (ρ1 : Rho) : Prop := ∃ I : Nat → Rho → Prop, I 0 ρ1 ∧
  (∀ i x ρ, xs[i]? = some x → I i ρ → g (.d x) ρ fun ρ2 => tb { DD with nx := I (i + 1), ct := I (i + 1), bk := DD.nx } ρ2) ∧ ∀ ρ, I xs.length ρ → DD.nx ρ
theorem dFor_eq {wi : TDI} {g : TDGt} {tb : TDS} : dFor wi g tb = fun DD ρ => wi ρ fun xs ρ1 => forIn1 g tb DD xs ρ1 := rfl
section
variable {g : TDGt} {tt : TDT} {te : TDE} {tb : TDS} {DD : DEnds} {vs : List Nat} {Q : List PyData → Rho → Prop} {ρ : Rho}
theorem take_succ_some {α : Type} {as : List α} {i : Nat} {a : α} (h : as[i]? = some a) : as.take (i + 1) = as.take i ++ [a] := by
  rw [List.take_succ, h]; rfl
/-- every item is tested and made; nothing else changes -/
theorem lc_fm {α : Type} (as : List α) (enc : α → PyData) (f : α → Option PyData) (hv : ∀ i ∈ vs, ρ[i]? = some none) (hl : as.length ≤ 100000)
    (turn : ∀ (i : Nat) (a : α), as[i]? = some a → ∀ (C1 : PyData → Rho → Prop) (C2 : Rho → Prop) (n : Nat), Few n → (∀ y, f a = some y → C1 y ρ) → (f a = none → C2 ρ) →
      g (.d (enc a)) ρ fun ρ2 => tt ρ2 fun k ρ3 => if k = true then te ρ3 fun r ρ4 => onDat r fun y => Few n ∧ C1 y (wipeR ρ4 vs) else C2 (wipeR ρ3 vs))
    (q : Q (as.filterMap f) (wipeR ρ vs)) : lcIn g tt te vs Q (as.map enc) ρ := by
  refine ⟨hv, fun i acc ρ' => ρ' = ρ ∧ acc = (as.take i).filterMap f, ⟨rfl, rfl⟩, ?_, ?_⟩
  · rintro i x acc _ hx ⟨rfl, rfl⟩
    rw [List.getElem?_map] at hx
    cases ha : as[i]? with
    | none => rw [ha] at hx; cases hx
    | some a =>
      rw [ha] at hx
      cases hx
      have hi := (List.getElem?_eq_some_iff.mp ha).1
      refine turn i a ha (fun y ρ2 => ρ2 = _ ∧ _ = (as.take (i + 1)).filterMap f) (fun ρ2 => ρ2 = _ ∧ _ = (as.take (i + 1)).filterMap f) _ ?_ (fun y hy => ⟨rfl, ?_⟩) fun hn => ⟨rfl, ?_⟩
      · refine few_le ?_
        have := List.length_filterMap_le f (as.take i)
        rw [List.length_take] at this
        omega
      · rw [take_succ_some ha, List.filterMap_append, List.filterMap_cons, hy]; rfl
      · rw [take_succ_some ha, List.filterMap_append, List.filterMap_cons, hn]; exact (List.append_nil _).symm
  · rintro acc _ ⟨rfl, rfl⟩
    rw [List.length_map, List.take_length]
    exact q
theorem lc_map {α : Type} (as : List α) (enc : α → PyData) (f : α → PyData) (hv : ∀ i ∈ vs, ρ[i]? = some none) (hl : as.length ≤ 100000)
    (turn : ∀ (i : Nat) (a : α), as[i]? = some a → ∀ (C1 : PyData → Rho → Prop) (C2 : Rho → Prop) (n : Nat), Few n → C1 (f a) ρ →
      g (.d (enc a)) ρ fun ρ2 => tt ρ2 fun k ρ3 => if k = true then te ρ3 fun r ρ4 => onDat r fun y => Few n ∧ C1 y (wipeR ρ4 vs) else C2 (wipeR ρ3 vs))
    (q : Q (as.map f) (wipeR ρ vs)) : lcIn g tt te vs Q (as.map enc) ρ := by
  refine lc_fm as enc (fun a => some (f a)) hv hl (fun i a ha C1 C2 n hn h1 _ => turn i a ha C1 C2 n hn (h1 _ rfl)) ?_
  rw [show as.filterMap (fun a => some (f a)) = as.map f from by rw [← List.filterMap_eq_map]; rfl]
  exact q
/-- every item is drawn anew -/
theorem lc_draw {n : Nat} (xs : List PyData) (st : List PyData → Rho) (P : PyData → Prop) (bag : List PyData) (m : Nat) (hb : Bag m bag) (e : ρ = st bag) (hv : ∀ bag, ∀ i ∈ vs, (st bag)[i]? = some none) (hl : xs.length ≤ 100000)
    (turn : ∀ (i : Nat) (x : PyData), xs[i]? = some x → ∀ (m' : Nat) (bag' : List PyData), m ≤ m' → m' + n ≤ m + n * xs.length → Bag m' bag' → ∀ (C1 : PyData → Rho → Prop) (C2 : Rho → Prop) (k : Nat), Few k → (∀ y bag2, P y → Bag (m' + n) bag2 → C1 y (st bag2)) →
      g (.d x) (st bag') fun ρ2 => tt ρ2 fun k' ρ3 => if k' = true then te ρ3 fun r ρ4 => onDat r fun y => Few k ∧ C1 y (wipeR ρ4 vs) else C2 (wipeR ρ3 vs))
    (q : ∀ zs bag', zs.length = xs.length → (∀ z ∈ zs, P z) → Bag (m + n * xs.length) bag' → Q zs (wipeR (st bag') vs)) : lcIn g tt te vs Q xs ρ := by
  subst e
  refine ⟨hv bag, fun i acc ρ' => acc.length = i ∧ i ≤ xs.length ∧ (∀ z ∈ acc, P z) ∧ ∃ bag', Bag (m + n * i) bag' ∧ ρ' = st bag', ⟨rfl, Nat.zero_le _, (by intro z hz; cases hz), bag, by simpa using hb, rfl⟩, ?_, ?_⟩
  · rintro i x acc _ hx ⟨hal, hi0, hP, bag', hb', rfl⟩
    have hi := (List.getElem?_eq_some_iff.mp hx).1
    have hmul : n * i + n ≤ n * xs.length := by
      have := Nat.mul_le_mul_left n (show i + 1 ≤ xs.length by omega)
      rwa [Nat.mul_succ] at this
    refine turn i x hx _ bag' (Nat.le_add_right ..) (by omega) hb' (fun y ρ2 => (acc ++ [y]).length = i + 1 ∧ i + 1 ≤ xs.length ∧ (∀ z ∈ acc ++ [y], P z) ∧ ∃ bag', Bag (m + n * (i + 1)) bag' ∧ ρ2 = st bag') (fun ρ2 => acc.length = i + 1 ∧ i + 1 ≤ xs.length ∧ (∀ z ∈ acc, P z) ∧ ∃ bag', Bag (m + n * (i + 1)) bag' ∧ ρ2 = st bag') (acc.length + 1) (few_le (by omega)) (fun y bag2 hy hb2 => ⟨by rw [List.length_append, hal]; rfl, by omega, fun z hz => ?_, bag2, by rw [Nat.mul_succ]; exact hb2.up (by omega), rfl⟩)
    rcases List.mem_append.mp hz with hz | hz
    · exact hP z hz
    · have : z = y := by simpa using hz
      rw [this]; exact hy
  · rintro acc _ ⟨hal, _, hP, bag', hb', rfl⟩
    exact q acc bag' hal hP hb'
/-- a loop by what holds between its turns: the state is made of s -/
theorem for_st {α S : Type} (as : List α) (enc : α → PyData) (mk : S → Rho) (I : Nat → S → Prop) (s0 : S) (e : ρ = mk s0) (h0 : I 0 s0)
    (turn : ∀ (i : Nat) (a : α) (s : S), as[i]? = some a → I i s → ∀ C : Rho → Prop, (∀ s', I (i + 1) s' → C (mk s')) → g (.d (enc a)) (mk s) fun ρ2 => tb { DD with nx := C, ct := C, bk := DD.nx } ρ2)
    (fin : ∀ s, I as.length s → DD.nx (mk s)) : forIn1 g tb DD (as.map enc) ρ := by
  refine ⟨fun i ρ' => ∃ s, ρ' = mk s ∧ I i s, ⟨s0, e, h0⟩, ?_, ?_⟩
  · rintro i x _ hx ⟨s, rfl, hI⟩
    rw [List.getElem?_map] at hx
    cases ha : as[i]? with
    | none => rw [ha] at hx; cases hx
    | some a =>
      rw [ha] at hx
      cases hx
      exact turn i a s ha hI _ fun s' h' => ⟨s', rfl, h'⟩
  · rintro _ ⟨s, rfl, hI⟩
    rw [List.length_map] at hI
    exact fin s hI
theorem map_id' {xs : List PyData} : xs.map (fun x => x) = xs := List.map_id' xs
theorem rng_map {lo : Int} {n : Nat} : rng lo n = (List.range n).map fun k => PyData.int (lo + (k : Nat)) := rfl
theorem for_rng {S : Type} (lo : Int) (n : Nat) (mk : S → Rho) (I : Nat → S → Prop) (s0 : S) (e : ρ = mk s0) (h0 : I 0 s0)
    (turn : ∀ (i : Nat) (s : S), i < n → I i s → ∀ C : Rho → Prop, (∀ s', I (i + 1) s' → C (mk s')) → g (.d (.int (lo + (i : Nat)))) (mk s) fun ρ2 => tb { DD with nx := C, ct := C, bk := DD.nx } ρ2)
    (fin : ∀ s, I n s → DD.nx (mk s)) : forIn1 g tb DD (rng lo n) ρ := by
  rw [rng_map]
  refine for_st (List.range n) _ mk I s0 e h0 (fun i a s ha hI C hC => ?_) fun s hs => fin s (by rwa [List.length_range] at hs)
  obtain ⟨hi, e⟩ := List.getElem?_eq_some_iff.mp ha
  rw [List.getElem_range] at e
  subst e
  rw [List.length_range] at hi
  exact turn _ s hi hI C hC
end
end DV
namespace DV
open PySem PySem.Spec PyProof.Rows L2
open scoped Rat
def within (s t rho : Rat) : Prop := 0 ≤ s ∧ s ≤ 1 ∧ 0 ≤ t ∧ t ≤ 1 ∧ rabs (s - t) ≤ rho
instance (s t rho : Rat) : Decidable (within s t rho) := by unfold within; infer_instance
theorem fr_abs {q : Rat} : PyData.tuple [.int (if q.num < 0 then -q.num else q.num), .int (q.den : Int)] = fr (rabs q) := by
  unfold rabs
  by_cases h : q < 0
  · rw [if_pos h, if_pos (num_neg.mpr h)]; rfl
  · rw [if_neg h, if_neg (fun z => h (num_neg.mp z))]; rfl
theorem rabs_sz {k : Nat} {q : Rat} (h : Sz k q) : Sz k (rabs q) := by unfold rabs; split; exact h.neg; exact h
theorem clip_same {s : Rat} : clipR s = s ↔ 0 ≤ s ∧ s ≤ 1 := by
  unfold clipR
  constructor
  · intro h
    by_cases h1 : s < 0
    · rw [if_pos h1] at h; rw [← h] at h1; exact absurd h1 (by decide)
    · rw [if_neg h1] at h
      by_cases h2 : 1 < s
      · rw [if_pos h2] at h; rw [← h] at h2; exact absurd h2 (by decide)
      · exact ⟨Rat.not_lt.mp h1, Rat.not_lt.mp h2⟩
  · rintro ⟨h1, h2⟩
    rw [if_neg (Rat.not_lt.mpr h1), if_neg (Rat.not_lt.mpr h2)]
theorem cmp_le {p q : Rat} : cmpR p q ≤ 0 ↔ p ≤ q := by
  unfold cmpR
  by_cases h : p < q
  · rw [if_pos h]; exact ⟨fun _ => Rat.le_of_lt h, fun _ => by decide⟩
  · rw [if_neg h]
    by_cases h2 : q < p
    · rw [if_pos h2]; exact ⟨fun z => absurd z (by decide), fun z => absurd z (Rat.not_le.mpr h2)⟩
    · rw [if_neg h2]; exact ⟨fun _ => Rat.not_lt.mp h2, fun _ => by decide⟩
theorem not_within {s t rho : Rat} : okIn s t rho ↔ within s t rho := by
  unfold okIn within
  simp only [not_or, Rat.not_lt]
  exact ⟨fun ⟨a, b, c, d, e⟩ => ⟨a, c, b, d, e⟩, fun ⟨a, c, b, d, e⟩ => ⟨a, b, c, d, e⟩⟩
def cpairs (n d : Int) : List (Int × Int) := [(0, 0), (n, 0), (d, d - n), (d, d), (d - n, d), (0, n)]
def toCn (d : Int) (p : Int × Int) : Cn := (p.1 /. d, p.2 /. d)
/-! ### the corners in their order -/
theorem lexLt_irr {a : Cn} : ¬ lexLt a a := by unfold lexLt; simp [Rat.lt_irrefl]
theorem lexLt_iff {a b : Cn} : lexLt a b ↔ a.1 < b.1 ∨ (a.1 = b.1 ∧ a.2 < b.2) := by
  unfold lexLt
  by_cases h : a.1 = b.1
  · rw [if_neg (not_not_intro h)]
    exact ⟨fun z => .inr ⟨h, z⟩, fun z => by
      rcases z with z | z
      · rw [h] at z; exact absurd z Rat.lt_irrefl
      · exact z.2⟩
  · rw [if_pos h]
    exact ⟨fun z => .inl z, fun z => by
      rcases z with z | z
      · exact z
      · exact absurd z.1 h⟩
theorem rlt_trans {a b c : Rat} (h : a < b) (k : b < c) : a < c := by grind
theorem lexLt_trans {a b c : Cn} (h : lexLt a b) (k : lexLt b c) : lexLt a c := by
  rw [lexLt_iff] at *
  grind
theorem lexLt_tri {a b : Cn} (h : ¬ lexLt a b) (k : a ≠ b) : lexLt b a := by
  rw [lexLt_iff] at *
  have k : ¬ (a.1 = b.1 ∧ a.2 = b.2) := fun z => k (Prod.ext z.1 z.2)
  grind
theorem lexLt_asym {a b : Cn} (h : lexLt a b) : ¬ lexLt b a := fun k => lexLt_irr (lexLt_trans h k)
/-- two ascending lists with the same members are the same -/
theorem asc_unique : ∀ {xs ys : List Cn}, xs.Pairwise lexLt → ys.Pairwise lexLt → (∀ c, c ∈ xs ↔ c ∈ ys) → xs = ys
  | [], [], _, _, _ => rfl
  | [], y :: ys, _, _, h => absurd ((h y).mpr (List.mem_cons_self ..)) (by simp)
  | x :: xs, [], _, _, h => absurd ((h x).mp (List.mem_cons_self ..)) (by simp)
  | x :: xs, y :: ys, hx, hy, h => by
    rw [List.pairwise_cons] at hx hy
    have e : x = y := by
      by_cases e : x = y
      · exact e
      · have h1 : x ∈ ys := ((List.mem_cons.mp ((h x).mp (List.mem_cons_self ..))).resolve_left e)
        have h2 : y ∈ xs := ((List.mem_cons.mp ((h y).mpr (List.mem_cons_self ..))).resolve_left (fun z => e z.symm))
        exact absurd (hx.1 y h2) (lexLt_asym (hy.1 x h1))
    subst e
    congr 1
    refine asc_unique hx.2 hy.2 fun c => ⟨fun hc => ?_, fun hc => ?_⟩
    · rcases List.mem_cons.mp ((h c).mp (List.mem_cons_of_mem _ hc)) with z | z
      · subst z; exact absurd (hx.1 _ hc) lexLt_irr
      · exact z
    · rcases List.mem_cons.mp ((h c).mpr (List.mem_cons_of_mem _ hc)) with z | z
      · subst z; exact absurd (hy.1 _ hc) lexLt_irr
      · exact z
theorem div_lt {x y d : Int} (hd : 0 < d) : x /. d < y /. d ↔ x < y := by
  rw [Rat.divInt_eq_div, Rat.divInt_eq_div]
  have h : (0 : Rat) < (d : Rat) := Rat.intCast_pos.mpr hd
  have hne := Rat.ne_of_gt h
  rw [Rat.div_lt_iff h]
  have e : (y : Rat) / d * d = y := by grind
  rw [e, Rat.intCast_lt_intCast]
theorem div_eq {x y d : Int} (hd : 0 < d) : x /. d = y /. d ↔ x = y := by
  constructor
  · intro h
    have h1 := (not_congr (div_lt (x := x) (y := y) hd)).mp (by rw [h]; exact Rat.lt_irrefl)
    have h2 := (not_congr (div_lt (x := y) (y := x) hd)).mp (by rw [h]; exact Rat.lt_irrefl)
    omega
  · intro h; rw [h]
theorem lex_pairs {d : Int} (hd : 0 < d) {p q : Int × Int} (h : lle p q) (hne : p ≠ q) : lexLt (toCn d p) (toCn d q) := by
  rw [lexLt_iff]
  unfold toCn
  rw [div_lt hd, div_eq hd, div_lt hd]
  rcases h with h | ⟨h1, h2⟩
  · exact .inl h
  · refine .inr ⟨h1, ?_⟩
    have : p.2 ≠ q.2 := fun z => hne (Prod.ext h1 z)
    omega
/-- what the law makes: each one not yet there is put behind those that are less -/
def insAt (found : List Cn) (c : Cn) : List Cn := if c ∈ found then found else found.insertIdx (found.filter fun o => decide (lexLt o c)).length c
def worthOf (cs : List Cn) : List Cn := cs.foldl insAt []
theorem asc_split : ∀ {found : List Cn} {c : Cn}, found.Pairwise lexLt → c ∉ found → ∃ l r, found = l ++ r ∧ (found.filter fun o => decide (lexLt o c)).length = l.length ∧ (∀ x ∈ l, lexLt x c) ∧ ∀ x ∈ r, lexLt c x
  | [], c, _, _ => ⟨[], [], rfl, rfl, (by intro x h; cases h), (by intro x h; cases h)⟩
  | x :: xs, c, h, hc => by
    rw [List.pairwise_cons] at h
    have hx : x ≠ c := fun z => hc (by rw [z]; exact List.mem_cons_self ..)
    by_cases hl : lexLt x c
    · obtain ⟨l, r, e, h1, h2, h3⟩ := asc_split (found := xs) (c := c) h.2 (fun z => hc (List.mem_cons_of_mem _ z))
      refine ⟨x :: l, r, by rw [e]; rfl, ?_, fun y hy => ?_, h3⟩
      · rw [List.filter_cons, if_pos (by simpa using hl), List.length_cons, List.length_cons, h1]
      · rcases List.mem_cons.mp hy with rfl | hy
        · exact hl
        · exact h2 y hy
    · have hg := lexLt_tri hl hx
      refine ⟨[], x :: xs, rfl, ?_, (by intro y h; cases h), fun y hy => ?_⟩
      · rw [List.length_nil, List.length_eq_zero_iff, List.filter_eq_nil_iff]
        intro y hy
        rw [decide_eq_true_eq]
        rcases List.mem_cons.mp hy with rfl | hy
        · exact hl
        · exact lexLt_asym (lexLt_trans hg (h.1 y hy))
      · rcases List.mem_cons.mp hy with rfl | hy
        · exact hg
        · exact lexLt_trans hg (h.1 y hy)
theorem insertIdx_append {α : Type} (l r : List α) (c : α) : (l ++ r).insertIdx l.length c = l ++ c :: r := by
  induction l with
  | nil => rfl
  | cons x l ih => rw [List.cons_append, List.length_cons, List.insertIdx_succ_cons, ih]; rfl
theorem insAt_asc {found : List Cn} {c : Cn} (h : found.Pairwise lexLt) : (insAt found c).Pairwise lexLt ∧ ∀ x, x ∈ insAt found c ↔ x = c ∨ x ∈ found := by
  unfold insAt
  split
  · rename_i hc
    exact ⟨h, fun x => ⟨fun z => .inr z, fun z => by rcases z with rfl | z; exact hc; exact z⟩⟩
  · rename_i hc
    obtain ⟨l, r, e, h1, h2, h3⟩ := asc_split h hc
    rw [h1, e, insertIdx_append]
    rw [e, List.pairwise_append] at h
    refine ⟨?_, fun x => by simp only [List.mem_append, List.mem_cons]; constructor <;> (intro z; rcases z with z | z | z <;> simp [z])⟩
    rw [List.pairwise_append]
    refine ⟨h.1, List.pairwise_cons.mpr ⟨h3, h.2.1⟩, fun a ha b hb => ?_⟩
    rcases List.mem_cons.mp hb with rfl | hb
    · exact h2 a ha
    · exact h.2.2 a ha b hb
theorem worth_asc : ∀ (cs found : List Cn), found.Pairwise lexLt → (cs.foldl insAt found).Pairwise lexLt ∧ ∀ x, x ∈ cs.foldl insAt found ↔ x ∈ cs ∨ x ∈ found
  | [], found, h => ⟨h, fun x => by simp⟩
  | c :: cs, found, h => by
    obtain ⟨h1, h2⟩ := insAt_asc (c := c) h
    obtain ⟨h3, h4⟩ := worth_asc cs _ h1
    refine ⟨h3, fun x => ?_⟩
    rw [List.foldl_cons, h4, h2, List.mem_cons]
    constructor
    · rintro (z | z | z) <;> simp [z]
    · rintro ((z | z) | z) <;> simp [z]
/-- the corners of the program are those of the law -/
theorem corners_same {rho : Rat} {qs : List (Int × Int)} (h : SortdS (cpairs rho.num rho.den) qs) : qs.map (toCn rho.den) = worthOf (crn rho) := by
  have hd := den_pos rho
  obtain ⟨w1, w2⟩ := worth_asc (crn rho) [] .nil
  obtain ⟨s1, s2, s3⟩ := h
  refine asc_unique ?_ w1 fun c => ?_
  · rw [List.pairwise_map]
    exact (s1.and s2).imp fun ⟨h1, h2⟩ => lex_pairs hd h2 h1
  · unfold worthOf
    rw [w2]
    have e0 : (0 : Rat) = (0 : Int) /. (rho.den : Int) := (Rat.zero_divInt _).symm
    have e1 : (1 : Rat) = (rho.den : Int) /. (rho.den : Int) := (Rat.divInt_self' (Int.ne_of_gt hd)).symm
    have er : rho.num /. (rho.den : Int) = rho := (rat_ndi rho).symm
    have es : ((rho.den : Int) - rho.num) /. (rho.den : Int) = 1 - rho := by rw [← sub_divInt (Int.ne_of_gt hd), ← e1, er]
    have hm : crn rho = (cpairs rho.num rho.den).map (toCn rho.den) := by
      unfold crn cpairs toCn
      simp only [List.map_cons, List.map_nil, er, es, ← e0, ← e1]
    rw [hm]
    simp only [List.mem_map, List.not_mem_nil, or_false, s3]
end DV
namespace DV
open PySem PySem.Spec PyProof.Rows L2
/-! ## comprehensions of two fors -/
section
variable {F : Fm} {tt tt1 : TT} {dt dt1 : TDT} {te : TE} {de : TDE}
def dLc2 (wi : TDI) (g : TDGt) (tt : TDT) (wi1 : TDI) (g1 : TDGt) (tt1 : TDT) (te : TDE) (vs vs1 : List Nat) : TDL := fun ρ Q => wi ρ fun xs ρ1 => (∀ i ∈ vs, ρ1[i]? = some none) ∧ ∃ I : Nat → List PyData → Rho → Prop, I 0 [] ρ1 ∧
  (∀ i x acc ρ, xs[i]? = some x → I i acc ρ → g (.d x) ρ fun ρ2 => tt ρ2 fun k ρ3 => if k = true then wi1 ρ3 fun ys ρ4 => (∀ i ∈ vs1, ρ4[i]? = some none) ∧ ∃ J : Nat → List PyData → Rho → Prop, J 0 acc ρ4 ∧
      (∀ j y acc ρ, ys[j]? = some y → J j acc ρ → g1 (.d y) ρ fun ρ5 => tt1 ρ5 fun k ρ6 => if k = true then te ρ6 fun r ρ7 => onDat r fun z => Few (acc.length + 1) ∧ J (j + 1) (acc ++ [z]) (wipeR ρ7 vs1) else J (j + 1) acc (wipeR ρ6 vs1)) ∧
      ∀ acc ρ, J ys.length acc ρ → I (i + 1) acc (wipeR ρ vs)
    else I (i + 1) acc (wipeR ρ3 vs)) ∧
  ∀ acc ρ, I xs.length acc ρ → Q acc (wipeR ρ vs)
theorem wipeR_id {ρ : Rho} : ∀ {vs : List Nat}, (∀ i ∈ vs, ρ[i]? = some none) → wipeR ρ vs = ρ
  | [], _ => rfl
  | k :: ks, hk => by
    show (wipeR ρ ks).set k none = ρ
    rw [wipeR_id fun i hi => hk i (List.mem_cons_of_mem _ hi)]
    apply List.ext_getElem?
    intro n
    by_cases e : k = n
    · subst e
      have := hk k (List.mem_cons_self ..)
      have hl : k < ρ.length := by
        rcases Nat.lt_or_ge k ρ.length with z | z
        · exact z
        · rw [List.getElem?_eq_none z] at this; cases this
      rw [List.getElem?_set_self hl, this]
    · rw [List.getElem?_set_ne e]
theorem wipe_at {σ : L2.St} {k : Nat} : ∀ {ws : List Nat}, k ∈ ws → k < σ.length → (wipe σ ws)[k]? = some none
  | [], h, _ => by cases h
  | w :: ws, h, hl => by
    show ((wipe σ ws).set w none)[k]? = some none
    by_cases e : w = k
    · subst e
      rw [List.getElem?_set_self (by rw [wipe_length]; exact hl)]
    · rw [List.getElem?_set_ne e]
      rcases List.mem_cons.mp h with z | z
      · exact absurd z.symm e
      · exact wipe_at z hl
theorem set_id {σ : L2.St} {k : Nat} (h : σ[k]? = some none ∨ σ.length ≤ k) : σ.set k none = σ := by
  apply List.ext_getElem?
  intro n
  by_cases e : k = n
  · subst e
    rcases h with h | h
    · have hl := (List.getElem?_eq_some_iff.mp h).1
      rw [List.getElem?_set_self hl, h]
    · rw [List.getElem?_eq_none (by rw [List.length_set]; exact h), List.getElem?_eq_none h]
  · rw [List.getElem?_set_ne e]
/-- what is wiped in the outer list may be wiped ahead or behind -/
theorem wipe_sub {σ : L2.St} {vs : List Nat} : ∀ {us : List Nat}, (∀ i ∈ us, i ∈ vs) → wipe (wipe σ vs) us = wipe σ vs
  | [], _ => rfl
  | k :: ks, hk => by
    show (wipe (wipe σ vs) ks).set k none = wipe σ vs
    rw [wipe_sub fun i hi => hk i (List.mem_cons_of_mem _ hi)]
    refine set_id ?_
    by_cases hl : k < σ.length
    · exact .inl (wipe_at (hk k (List.mem_cons_self ..)) hl)
    · exact .inr (by rw [wipe_length]; omega)
theorem wipe_nth {σ : L2.St} {vs : List Nat} {n : Nat} : (wipe σ vs)[n]? = if n ∈ vs ∧ n < σ.length then some none else σ[n]? := by
  induction vs with
  | nil => simp [wipe]
  | cons k ks ih =>
    show ((wipe σ ks).set k none)[n]? = _
    by_cases e : k = n
    · subst e
      by_cases hl : k < σ.length
      · rw [List.getElem?_set_self (by rw [wipe_length]; exact hl), if_pos ⟨List.mem_cons_self .., hl⟩]
      · rw [List.getElem?_eq_none (by rw [List.length_set, wipe_length]; omega), if_neg (fun z => hl z.2), List.getElem?_eq_none (by omega)]
    · rw [List.getElem?_set_ne e, ih]
      have : (n ∈ k :: ks) ↔ n ∈ ks := by simp [List.mem_cons, Ne.symm e]
      simp only [this]
theorem wipe_behind {σ : L2.St} {vs us : List Nat} (h : ∀ i ∈ us, i ∈ vs) : wipe (wipe σ us) vs = wipe σ vs := by
  apply List.ext_getElem?
  intro n
  rw [wipe_nth, wipe_nth, wipe_nth, wipe_length]
  by_cases h1 : n ∈ vs ∧ n < σ.length
  · rw [if_pos h1, if_pos h1]
  · rw [if_neg h1, if_neg h1]
    by_cases h2 : n ∈ us ∧ n < σ.length
    · exact absurd ⟨h n h2.1, h2.2⟩ h1
    · rw [if_neg h2]
theorem dl_lc2 {wi wi1 : TI} {dw dw1 : TDI} {g g1 : TG} {dg dg1 : TDGt} {vs vs1 : List Nat} (hi : DI F wi dw) (hg : DG F g dg vs) (ht : DT F tt dt) (hi1 : DI F wi1 dw1) (hg1 : DG F g1 dg1 vs1) (ht1 : DT F tt1 dt1) (he : DE F te de) (hv : ∀ i ∈ vs1, i ∈ vs) :
    DL F (tLc2 wi g tt wi1 g1 tt1 te vs vs1) (dLc2 dw dg dt dw1 dg1 dt1 de vs vs1) := by
  constructor
  · intro pins ρ σ H Q O h
    refine hi.run pins ρ σ H _ O (hi.mono _ _ _ (fun xs ρ1 h1 J H1 pl W hpl O1 D hD => ?_) h)
    obtain ⟨hno, I, h0, hturn, hend⟩ := h1
    have hfr : ∀ {p : List Pin}, (∀ q ∈ p, q ∈ pl ++ pins ∨ ∃ a ys, q = .acc a ys) → ∀ i ∈ vs, Fr p i := fun {p} hp i hi v j hm e => by
      subst e
      rcases hp _ hm with z | ⟨a, ys, z⟩
      · obtain ⟨_, x, hx⟩ := O1.pin _ z
        unfold slot at hx
        rw [hno j hi] at hx
        cases hx
      · cases z
    have hin : ∀ acc, ∀ p ∈ pl, p ∈ (Pin.acc D acc :: (pl ++ pins)) := fun acc p hp => List.mem_cons_of_mem _ (List.mem_append_left _ hp)
    have hfr2 : ∀ acc, ∀ i ∈ vs, Fr (Pin.acc D acc :: (pl ++ pins)) i := fun acc => hfr fun q hq => by
      rcases List.mem_cons.mp hq with z | z
      · exact .inr ⟨_, _, z⟩
      · exact .inl z
    have start : Ok F (.acc D [] :: (pl ++ pins)) ρ1 σ (upd H1 D (.lst [])) := O1.pushL hD .nil
    have start2 : Ok F (.acc D [] :: (pl ++ pins)) ρ1 (wipe σ vs) (upd H1 D (.lst [])) := by
      have := start.wipe (hfr2 [])
      rw [wipeR_id hno] at this
      exact this
    refine ⟨fun i m H => ∃ acc ρ, Ok F (.acc D acc :: (pl ++ pins)) ρ (wipe σ vs) H ∧ I i acc ρ ∧ i ≤ xs.length ∧ m = xs.length - i, ⟨_, [], ρ1, start2, h0, Nat.zero_le _, rfl⟩, ?_⟩
    rintro i m H2 ⟨acc, ρ2, O2, i2, hle, rfl⟩
    by_cases hlt : i < xs.length
    · refine .inr ⟨W.goes i _ ρ2 _ H2 (hin acc) hlt O2, fun H' => ∃ acc ρ, Ok F (.acc D acc :: (pl ++ pins)) ρ (wipe σ vs) H' ∧ I (i + 1) acc ρ, fun H' ⟨acc', ρ', O', i'⟩ => ⟨xs.length - (i + 1), by omega, acc', ρ', O', i', by omega, rfl⟩, fun x H3 hy => ?_⟩
      obtain ⟨y, ey, O3, im⟩ := W.yld i _ ρ2 _ H2 x H3 (hin acc) hlt O2 hy
      refine hg.run _ ρ2 _ H3 x (.d y) _ _ O3 (hfr2 acc) im (hturn i y acc ρ2 ey i2) fun ρ4 σ4 H4 O4 so q => ?_
      have hw4 : wipe σ4 vs = wipe σ vs := by
        have := so vs fun _ h => h
        rw [this]
        exact wipe_sub fun _ h => h
      refine ⟨hw4, ?_⟩
      refine ht.run _ ρ4 σ4 H4 _ O4 (ht.mono _ _ _ (fun k ρ5 h5 H5 O5 => ?_) q)
      cases k with
      | false =>
        have := O5.wipe (hfr2 acc)
        rw [hw4] at this
        exact ⟨acc, _, this, h5⟩
      | true =>
        refine hi1.run _ ρ5 σ4 H5 _ O5 (hi1.mono _ _ _ (fun ys ρ6 h6 J1 H6 pm W1 hpm O6 => ?_) h5)
        obtain ⟨hno1, I1, h01, hturn1, hend1⟩ := h6
        -- the new list stands ahead again
        have ahead : ∀ {acc : List PyData} {ρ : Rho} {σ : L2.St} {H : Hp}, Ok F (pm ++ Pin.acc D acc :: (pl ++ pins)) ρ σ H → Ok F (.acc D acc :: (pm ++ (pl ++ pins))) ρ σ H := fun {acc ρ σ H} O => by
          refine O.sub (fun p hp => ?_) ?_
          · rcases List.mem_cons.mp hp with z | z
            · exact List.mem_append_right _ (z ▸ List.mem_cons_self ..)
            · rcases List.mem_append.mp z with z | z
              · exact List.mem_append_left _ z
              · exact List.mem_append_right _ (List.mem_cons_of_mem _ z)
          · rw [accs_app hpm]
            show D :: accs (pm ++ (pl ++ pins)) = D :: accs (pl ++ pins)
            rw [accs_app hpm]
        have hfr1 : ∀ acc, ∀ i ∈ vs1, Fr (Pin.acc D acc :: (pm ++ (pl ++ pins))) i := fun acc i hi v j hm e => by
          subst e
          rcases List.mem_cons.mp hm with z | z
          · cases z
          · have : Pin.val v (.o j) ∈ (pm ++ Pin.acc D acc :: (pl ++ pins)) := by
              rcases List.mem_append.mp z with z | z
              · exact List.mem_append_left _ z
              · exact List.mem_append_right _ (List.mem_cons_of_mem _ z)
            have this2 : Pin.val v (.o j) ∈ (pm ++ Pin.acc D acc :: (pl ++ pins)) := this
            have hm2 : ∀ acc', Pin.val v (.o j) ∈ (pm ++ Pin.acc D acc' :: (pl ++ pins)) := fun acc' => by
              rcases List.mem_append.mp z with z | z
              · exact List.mem_append_left _ z
              · exact List.mem_append_right _ (List.mem_cons_of_mem _ z)
            obtain ⟨_, x, hx⟩ := O6.pin _ (hm2 _)
            unfold slot at hx
            rw [hno1 j hi] at hx
            cases hx
        have hin1 : ∀ acc, ∀ p ∈ pm, p ∈ (Pin.acc D acc :: (pm ++ (pl ++ pins))) := fun acc p hp => List.mem_cons_of_mem _ (List.mem_append_left _ hp)
        have O6s : Ok F (.acc D acc :: (pm ++ (pl ++ pins))) ρ6 (wipe σ4 vs1) H6 := by
          have := (ahead O6).wipe (hfr1 acc)
          rw [wipeR_id hno1] at this
          exact this
        refine ⟨fun j m H => ∃ acc ρ, Ok F (.acc D acc :: (pm ++ (pl ++ pins))) ρ (wipe σ4 vs1) H ∧ I1 j acc ρ ∧ j ≤ ys.length ∧ m = ys.length - j, ⟨_, acc, ρ6, O6s, h01, Nat.zero_le _, rfl⟩, ?_⟩
        rintro j m1 H7 ⟨acc1, ρ7, O7, i7, hle1, rfl⟩
        by_cases hlt1 : j < ys.length
        · refine .inr ⟨W1.goes j _ ρ7 _ H7 (hin1 acc1) hlt1 O7, fun H' => ∃ acc ρ, Ok F (.acc D acc :: (pm ++ (pl ++ pins))) ρ (wipe σ4 vs1) H' ∧ I1 (j + 1) acc ρ, fun H' ⟨acc', ρ', O', i'⟩ => ⟨ys.length - (j + 1), by omega, acc', ρ', O', i', by omega, rfl⟩, fun x1 H8 hy1 => ?_⟩
          obtain ⟨y1, ey1, O8, im1⟩ := W1.yld j _ ρ7 _ H7 x1 H8 (hin1 acc1) hlt1 O7 hy1
          refine hg1.run _ ρ7 _ H8 x1 (.d y1) _ _ O8 (hfr1 acc1) im1 (hturn1 j y1 acc1 ρ7 ey1 i7) fun ρ9 σ9 H9 O9 so9 q9 => ?_
          have hw9 : wipe σ9 vs1 = wipe σ4 vs1 := by
            have := so9 vs1 fun _ h => h
            rw [this]
            exact wipe_sub fun _ h => h
          refine ⟨hw9, ?_⟩
          refine ht1.run _ ρ9 σ9 H9 _ O9 (ht1.mono _ _ _ (fun k ρ10 h10 H10 O10 => ?_) q9)
          cases k with
          | false =>
            have := O10.wipe (hfr1 acc1)
            rw [hw9] at this
            exact ⟨acc1, _, this, h10⟩
          | true =>
            refine he.run _ ρ10 σ9 H10 _ O10 (he.mono _ _ _ (fun r ρ11 h11 w H11 O11 R11 => ?_) h10)
            cases r with
            | o j => exact h11.elim
            | raw u => exact h11.elim
            | d z =>
              obtain ⟨vsD, hHD, hiD, _, _⟩ := O11.pin _ (List.mem_cons_self ..)
              refine ⟨vsD, hHD, ?_, acc1 ++ [z], wipeR ρ11 vs1, ?_, h11.2⟩
              · have := h11.1
                unfold Few at this
                rw [hiD.length]; omega
              · have O12 := (O11.setAcc (hiD.append (.cons R11 .nil))).wipe (hfr1 (acc1 ++ [z]))
                rw [hw9] at O12
                exact O12
        · have e : j = ys.length := by omega
          subst e
          refine .inl ⟨W1.stops _ ρ7 _ H7 (hin1 acc1) O7, acc1, wipeR ρ7 vs, ?_, hend1 acc1 ρ7 i7⟩
          have O8 : Ok F (.acc D acc1 :: (pl ++ pins)) ρ7 (wipe σ4 vs1) H7 := by
            refine O7.sub (fun p hp => ?_) (by show D :: accs (pl ++ pins) = D :: accs (pm ++ (pl ++ pins)); rw [accs_app hpm])
            rcases List.mem_cons.mp hp with z | z
            · exact z ▸ List.mem_cons_self ..
            · exact List.mem_cons_of_mem _ (List.mem_append_right _ z)
          have := O8.wipe (hfr2 acc1)
          rw [wipe_behind hv, hw4] at this
          exact this
    · have e : i = xs.length := by omega
      subst e
      refine .inl ⟨W.stops _ ρ2 _ H2 (hin acc) O2, ?_⟩
      have hq := hend acc ρ2 i2
      refine hq D H2 ?_
      have O3 := O2.wipe (hfr2 acc)
      have O4 : Ok F (.acc D acc :: (pl ++ pins)) (wipeR ρ2 vs) σ H2 := by
        refine Ok.unwipe (vs := vs) (Ok.unwipe (vs := vs) O3 ?_) ?_
        all_goals
          intro i hi
          by_cases hl : i < ρ2.length
          · exact .inl (wipeR_none hi hl)
          · exact .inr (List.getElem?_eq_none (by rw [wipeR_len]; omega))
      refine O4.sub (fun p hp => ?_) (by show D :: accs pins = D :: accs (pl ++ pins); rw [accs_app hpl])
      rcases List.mem_cons.mp hp with z | z
      · exact z ▸ List.mem_cons_self ..
      · exact List.mem_cons_of_mem _ (List.mem_append_right _ z)
  · intro ρ Q Q' hq h
    refine hi.mono _ _ _ (fun xs ρ1 h1 => ?_) h
    obtain ⟨hno, I, h0, hturn, hend⟩ := h1
    exact ⟨hno, I, h0, hturn, fun acc ρ i => hq _ _ (hend acc ρ i)⟩
end
theorem DG.up {F : Fm} {g : TG} {dg : TDGt} {sl sm : List Nat} (h : DG F g dg sl) (k : ∀ i ∈ sl, i ∈ sm) : DG F g dg sm :=
  ⟨fun pins ρ σ H v r Q P O fr ro d q => h.run pins ρ σ H v r Q P O (fun i hi => fr i (k i hi)) ro d fun ρ' σ' H' O' so p => q ρ' σ' H' O' (fun vs hv => so vs fun i hi => hv i (k i hi)) p, h.mono⟩
theorem pl_lc2 {X : Cx} {F : Fm} {elt tg iter tg1 iter1 : Expr} {ifs ifs1 : List Expr} {scope : Scope} {own own1 : List (Str × Nat)} {pos : Pos} {wi wi1 : TI} {dw dw1 : TDI} {g g1 : TG} {dg dg1 : TDGt} {tt tt1 : TT} {dt dt1 : TDT} {te : TE} {de : TDE} {vs0 vs1 : List Nat} (hc : X.calm = true) (hN : X.N.Nodup) (hi : PDI X F tg iter wi dw) (ok : BlkOk X.N X.env.scope scope own) (hu : ∀ i ∈ vs0, i ∈ own.map (·.2)) (hv : ∀ i ∈ vs1, i ∈ own.map (·.2))
    (hg : ∀ (s : Shared) (H : Hp) (C : Addr) (cl : List (Str × Addr)) (fp : List Addr), PDG (X.blk s H scope (compEnvC scope cl C X.env) fp) F tg g dg vs0) (ht : ∀ (s : Shared) (H : Hp) (C : Addr) (cl : List (Str × Addr)) (fp : List Addr), PDTs (X.blk s H scope (compEnvC scope cl C X.env) fp) F ifs tt dt)
    (hi1 : ∀ (s : Shared) (H : Hp) (C : Addr) (cl : List (Str × Addr)) (fp : List Addr), PDI (X.blk s H scope (compEnvC scope cl C X.env) fp) F tg1 iter1 wi1 dw1)
    (hg1 : ∀ (s : Shared) (H : Hp) (C : Addr) (cl : List (Str × Addr)) (fp : List Addr), PDG (X.blk s H scope (compEnvC scope cl C X.env) fp) F tg1 g1 dg1 vs1) (ht1 : ∀ (s : Shared) (H : Hp) (C : Addr) (cl : List (Str × Addr)) (fp : List Addr), PDTs (X.blk s H scope (compEnvC scope cl C X.env) fp) F ifs1 tt1 dt1)
    (he : ∀ (s : Shared) (H : Hp) (C : Addr) (cl : List (Str × Addr)) (fp : List Addr), PD (X.blk s H scope (compEnvC scope cl C X.env) fp) F elt te de) (hs : ∀ x, foldedSetIterable iter X.env x = pure x := by intro _; rfl) (hs1 : ∀ env x, foldedSetIterable iter1 env x = pure x := by intro _ _; rfl) :
    PDL X F (.ListComp elt [⟨tg, iter, ifs, 0⟩, ⟨tg1, iter1, ifs1, 0⟩] scope pos) (tLc2 wi g tt wi1 g1 tt1 te (own.map (·.2)) vs1) (dLc2 dw dg dt dw1 dg1 dt1 de (own.map (·.2)) vs1) := by
  refine ⟨pe_lc2 hc hN hi.pi ok hv (fun s H C cl fp => (hg s H C cl fp).pg) (fun s H C cl fp => (ht s H C cl fp).pts) (fun s H C cl fp => (hi1 s H C cl fp).pi) (fun s H C cl fp => (hg1 s H C cl fp).pg) (fun s H C cl fp => (ht1 s H C cl fp).pts) (fun s H C cl fp => (he s H C cl fp).pe) hs hs1, ?_⟩
  let s0 := (PySem.start X.prog).1
  exact dl_lc2 hi.di ((hg s0 (fun _ => none) 0 [] []).dg.up hu) (ht s0 (fun _ => none) 0 [] []).dt (hi1 s0 (fun _ => none) 0 [] []).di (hg1 s0 (fun _ => none) 0 [] []).dg (ht1 s0 (fun _ => none) 0 [] []).dt (he s0 (fun _ => none) 0 [] []).de hv
end DV
namespace DV
open PySem PySem.Spec PyProof.Rows L2
open scoped Rat
/-! ## more readings: fresh lists, short loops turn by turn -/
def SpF {α : Type} (arg : α → List PyData) (pre : α → Prop) (post : α → List PyData → Prop) : SdL := fun xs Q => ∃ a, xs = arg a ∧ pre a ∧ ∀ zs, post a zs → Q zs
theorem m_SpF {α : Type} {arg : α → List PyData} {pre : α → Prop} {post : α → List PyData → Prop} : MonoF (SpF arg pre post) := fun xs Q Q' hq ⟨a, h1, h2, h3⟩ => ⟨a, h1, h2, fun z hz => hq _ (h3 z hz)⟩
section
variable {g : TDGt} {tt : TDT} {te : TDE} {tb : TDS} {DD : DEnds} {vs : List Nat} {Q : List PyData → Rho → Prop} {ρ : Rho}
def forU (g : TDGt) (tb : TDS) (DD : DEnds) : List PyData → Rho → Prop
  | [], ρ => DD.nx ρ
  | x :: xs, ρ => g (.d x) ρ fun ρ2 => tb { DD with nx := forU g tb DD xs, ct := forU g tb DD xs, bk := DD.nx } ρ2
theorem for_unroll {xs : List PyData} (h : forU g tb DD xs ρ) : forIn1 g tb DD xs ρ := by
  refine ⟨fun i ρ => forU g tb DD (xs.drop i) ρ, h, fun i x ρ hx hu => ?_, fun ρ hu => ?_⟩
  · obtain ⟨hi, e⟩ := List.getElem?_eq_some_iff.mp hx
    dsimp only at hu ⊢
    rw [List.drop_eq_getElem_cons hi, e] at hu
    exact hu
  · dsimp only at hu
    rw [List.drop_length] at hu
    exact hu
def lcU (g : TDGt) (tt : TDT) (te : TDE) (vs : List Nat) (Q : List PyData → Rho → Prop) : List PyData → List PyData → Rho → Prop
  | [], acc, ρ => Q acc (wipeR ρ vs)
  | x :: xs, acc, ρ => g (.d x) ρ fun ρ2 => tt ρ2 fun k ρ3 => if k = true then te ρ3 fun r ρ4 => onDat r fun y => Few (acc.length + 1) ∧ lcU g tt te vs Q xs (acc ++ [y]) (wipeR ρ4 vs) else lcU g tt te vs Q xs acc (wipeR ρ3 vs)
theorem lc_unroll {xs : List PyData} (hv : ∀ i ∈ vs, ρ[i]? = some none) (h : lcU g tt te vs Q xs [] ρ) : lcIn g tt te vs Q xs ρ := by
  refine ⟨hv, fun i acc ρ => lcU g tt te vs Q (xs.drop i) acc ρ, h, fun i x acc ρ hx hu => ?_, fun acc ρ hu => ?_⟩
  · obtain ⟨hi, e⟩ := List.getElem?_eq_some_iff.mp hx
    dsimp only at hu ⊢
    rw [List.drop_eq_getElem_cons hi, e] at hu
    exact hu
  · dsimp only at hu
    rw [List.drop_length] at hu
    exact hu
end
theorem nodup_le {α : Type} : ∀ {xs ys : List α}, xs.Nodup → (∀ x ∈ xs, x ∈ ys) → xs.length ≤ ys.length
  | [], _, _, _ => Nat.zero_le _
  | x :: xs, ys, h, k => by
    obtain ⟨l, r, rfl⟩ := List.append_of_mem (k x (List.mem_cons_self ..))
    obtain ⟨h1, h2⟩ := List.nodup_cons.mp h
    have := nodup_le (xs := xs) (ys := l ++ r) h2 fun y hy => by
      have hm := k y (List.mem_cons_of_mem _ hy)
      simp only [List.mem_append, List.mem_cons] at hm ⊢
      rcases hm with z | z | z
      · exact .inl z
      · subst z; exact absurd hy h1
      · exact .inr z
    simp only [List.length_append, List.length_cons] at this ⊢
    omega
def pf3 (r : DV.Row3) : PyData := .tuple [fr r.1, fr r.2.1, fr r.2.2]
/-! sizes of written tuples and lists -/
theorem fw_of {n : Nat} (h : n ≤ 100000) : (n ≤ sizeLine) = True := eq_true (few_le h)
theorem fw0 : ((0 : Nat) ≤ sizeLine) = True := fw_of (by decide)
theorem fw1 : ((0 : Nat) + 1 ≤ sizeLine) = True := fw_of (by decide)
theorem fw2 : ((0 : Nat) + 1 + 1 ≤ sizeLine) = True := fw_of (by decide)
theorem fw3 : ((0 : Nat) + 1 + 1 + 1 ≤ sizeLine) = True := fw_of (by decide)
theorem fw4 : ((0 : Nat) + 1 + 1 + 1 + 1 ≤ sizeLine) = True := fw_of (by decide)
theorem fw5 : ((0 : Nat) + 1 + 1 + 1 + 1 + 1 ≤ sizeLine) = True := fw_of (by decide)
theorem fw6 : ((0 : Nat) + 1 + 1 + 1 + 1 + 1 + 1 ≤ sizeLine) = True := fw_of (by decide)
theorem fw7 : ((0 : Nat) + 1 + 1 + 1 + 1 + 1 + 1 + 1 ≤ sizeLine) = True := fw_of (by decide)
theorem fw8 : ((0 : Nat) + 1 + 1 + 1 + 1 + 1 + 1 + 1 + 1 ≤ sizeLine) = True := fw_of (by decide)
theorem fw9 : ((0 : Nat) + 1 + 1 + 1 + 1 + 1 + 1 + 1 + 1 + 1 ≤ sizeLine) = True := fw_of (by decide)
theorem fw10 : ((0 : Nat) + 1 + 1 + 1 + 1 + 1 + 1 + 1 + 1 + 1 + 1 ≤ sizeLine) = True := fw_of (by decide)
theorem fw11 : ((0 : Nat) + 1 + 1 + 1 + 1 + 1 + 1 + 1 + 1 + 1 + 1 + 1 ≤ sizeLine) = True := fw_of (by decide)
theorem fw12 : ((0 : Nat) + 1 + 1 + 1 + 1 + 1 + 1 + 1 + 1 + 1 + 1 + 1 + 1 ≤ sizeLine) = True := fw_of (by decide)
theorem fw13 : ((0 : Nat) + 1 + 1 + 1 + 1 + 1 + 1 + 1 + 1 + 1 + 1 + 1 + 1 + 1 ≤ sizeLine) = True := fw_of (by decide)
theorem fw14 : ((0 : Nat) + 1 + 1 + 1 + 1 + 1 + 1 + 1 + 1 + 1 + 1 + 1 + 1 + 1 + 1 ≤ sizeLine) = True := fw_of (by decide)
theorem fw15 : ((0 : Nat) + 1 + 1 + 1 + 1 + 1 + 1 + 1 + 1 + 1 + 1 + 1 + 1 + 1 + 1 + 1 ≤ sizeLine) = True := fw_of (by decide)
theorem ite_nt {c : Prop} [Decidable c] {A B : Prop} (h : ¬ c) (k : A) : if (!decide c) = true then A else B := by rw [decide_eq_false h, if_pos (by rfl)]; exact k
theorem ite_nf {c : Prop} [Decidable c] {A B : Prop} (h : c) (k : B) : if (!decide c) = true then A else B := by rw [decide_eq_true h, if_neg (by decide)]; exact k
theorem ite_nb {c : Prop} [Decidable c] {A B : Prop} (k : ¬ c → A) (m : c → B) : if (!decide c) = true then A else B := by
  by_cases h : c
  · exact ite_nf h (m h)
  · exact ite_nt h (k h)
theorem hv1 {ρ : Rho} {i : Nat} (h : ρ[i]? = some none) : ∀ j ∈ [i], ρ[j]? = some none := fun j hj => by
  have : j = i := by simpa using hj
  rw [this]; exact h
theorem hv2 {ρ : Rho} {i k : Nat} (h : ρ[i]? = some none) (h2 : ρ[k]? = some none) : ∀ j ∈ [i, k], ρ[j]? = some none := fun j hj => by
  have : j = i ∨ j = k := by simpa using hj
  rcases this with e | e <;> rw [e] <;> assumption
theorem hv3 {ρ : Rho} {i k l : Nat} (h : ρ[i]? = some none) (h2 : ρ[k]? = some none) (h3 : ρ[l]? = some none) : ∀ j ∈ [i, k, l], ρ[j]? = some none := fun j hj => by
  have : j = i ∨ j = k ∨ j = l := by simpa using hj
  rcases this with e | e | e <;> rw [e] <;> assumption
theorem zipD_map {α β : Type} (f : α → PyData) (g : β → PyData) (xs : List α) (ys : List β) : zipD (xs.map f) (ys.map g) = (List.zip xs ys).map fun p => .tuple [f p.1, g p.2] := by
  unfold zipD
  rw [List.zipWith_map, List.zip, List.map_zipWith]
theorem cut_tail {xs : List PyData} : DV.cutD xs (some 1) none = xs.drop 1 := by
  cases xs with
  | nil => rfl
  | cons x xs => unfold DV.cutD HT.sIx; simp [Nat.min_def]
theorem cut_head {xs : List PyData} : DV.cutD xs none (some 1) = xs.take 1 := by
  unfold DV.cutD HT.sIx
  simp
end DV
namespace DV
open PySem PySem.Spec PyProof.Rows L2
/-! ## own lists: made data, or gone through while they stand -/
section
variable {X : Cx} {F : Fm} {st : Stmt} {ts : TS} {ds : TDS} {tt : TT} {dt : TDT} {te : TE} {de : TDE}
def dFrz (i : Nat) (t : TDS) : TDS := fun DD ρ => onOwn ρ i fun xs => t DD (ρ.set i (some (.d (.list xs))))
theorem ds_frz {i : Nat} (h : PDS X F st ts ds) (hf : ¬ F.fix i) : PDS X F st ts (dFrz i ds) := by
  refine ⟨h.ps, fun pins ρ σ H D DD O S R k => ?_⟩
  obtain ⟨xs, e, q⟩ := onOwn_of k
  exact h.ds pins _ σ H D DD (O.frz e hf) S R q
def lcO (k : Nat) (g : TDGt) (tt : TDT) (te : TDE) (vs : List Nat) (Q : List PyData → Rho → Prop) (xs : List PyData) (ρ1 : Rho) : Prop :=
  ((∀ i ∈ vs, ρ1[i]? = some none) ∧ k ∉ vs) ∧ ∃ I : Nat → List PyData → Rho → Prop, I 0 [] ρ1 ∧
  (∀ i x acc ρ, xs[i]? = some x → I i acc ρ → ρ[k]? = some (some (.own xs)) → g (.d x) ρ fun ρ2 => tt ρ2 fun b ρ3 => if b = true then te ρ3 fun r ρ4 => onDat r fun y => Few (acc.length + 1) ∧ ρ4[k]? = some (some (.own xs)) ∧ I (i + 1) (acc ++ [y]) (wipeR ρ4 vs) else ρ3[k]? = some (some (.own xs)) ∧ I (i + 1) acc (wipeR ρ3 vs)) ∧
  ∀ acc ρ, I xs.length acc ρ → ρ[k]? = some (some (.own xs)) → Q acc (wipeR ρ vs)
def dLcO (k : Nat) (g : TDGt) (tt : TDT) (te : TDE) (vs : List Nat) : TDL := fun ρ Q => onOwn ρ k fun xs => lcO k g tt te vs Q xs ρ
theorem wipeR_nth {ρ : Rho} {vs : List Nat} {n : Nat} (h : n ∉ vs) : (wipeR ρ vs)[n]? = ρ[n]? := by
  induction vs with
  | nil => rfl
  | cons k ks ih =>
    show ((wipeR ρ ks).set k none)[n]? = _
    rw [List.getElem?_set_ne (fun e => h (by rw [e]; exact List.mem_cons_self ..)), ih fun z => h (List.mem_cons_of_mem _ z)]
theorem dl_lcO {k : Nat} {g : TG} {dg : TDGt} {vs : List Nat} (hg : DG F g dg vs) (ht : DT F tt dt) (he : DE F te de) : DL F (tLc (iSeq F.K (tVar k)) g tt te vs) (dLcO k dg dt de vs) := by
  constructor
  · intro pins ρ σ H Q O h
    obtain ⟨xs, ek, h⟩ := onOwn_of h
    obtain ⟨⟨hno, hk⟩, I, h0, hturn, hend⟩ := h
    obtain ⟨v, hs, a, us0, rfl, ha, hx0, _⟩ := O.ent k _ ek
    show ∃ v, σ[k]? = some (some v) ∧ ∃ a, v = .ref a ∧ _
    refine ⟨.ref a, hs, a, rfl, .inl ⟨⟨us0, SqL.of ha⟩, fun D hD => ?_⟩⟩
    have hfr : ∀ {p : List Pin}, (∀ q ∈ p, q ∈ pins ∨ ∃ a ys, q = .acc a ys) → ∀ i ∈ vs, Fr p i := fun {p} hp i hi v j hm e => by
      subst e
      rcases hp _ hm with z | ⟨a, ys, z⟩
      · obtain ⟨_, x, hx⟩ := O.pin _ z
        unfold slot at hx
        rw [hno j hi] at hx
        cases hx
      · cases z
    have hfr2 : ∀ acc, ∀ i ∈ vs, Fr (Pin.acc D acc :: pins) i := fun acc => hfr fun q hq => by
      rcases List.mem_cons.mp hq with z | z
      · exact .inr ⟨_, _, z⟩
      · exact .inl z
    -- the list stands at a
    have hs2 : (wipe σ vs)[k]? = some (some (.ref a)) := by rw [wipe_nth, if_neg (fun z => hk z.1)]; exact hs
    have at_a : ∀ {acc : List PyData} {ρ : Rho} {H : Hp}, Ok F (.acc D acc :: pins) ρ (wipe σ vs) H → ρ[k]? = some (some (.own xs)) → ∃ us, H a = some (.lst us) ∧ ImAll F.K (Av F (.acc D acc :: pins) ρ (wipe σ vs)) H xs us := fun {acc ρ H} O e => by
      obtain ⟨v, h1, b, us, rfl, hb, hx, _⟩ := O.ent k _ e
      rw [hs2] at h1
      cases h1
      exact ⟨us, hb, hx⟩
    have start : Ok F (.acc D [] :: pins) ρ σ (upd H D (.lst [])) := O.pushL hD .nil
    have start2 : Ok F (.acc D [] :: pins) ρ (wipe σ vs) (upd H D (.lst [])) := by
      have := start.wipe (hfr2 [])
      rw [wipeR_id hno] at this
      exact this
    refine ⟨fun i m H => ∃ acc ρ, Ok F (.acc D acc :: pins) ρ (wipe σ vs) H ∧ I i acc ρ ∧ ρ[k]? = some (some (.own xs)) ∧ i ≤ xs.length ∧ m = xs.length - i, ⟨_, [], ρ, start2, h0, ek, Nat.zero_le _, rfl⟩, ?_⟩
    rintro i m H2 ⟨acc, ρ2, O2, i2, e2, hle, rfl⟩
    obtain ⟨us, hu, hx⟩ := at_a O2 e2
    have hlen := hx.length
    by_cases hlt : i < xs.length
    · refine .inr ⟨⟨us, us[i]'(by omega), SqL.of hu, by simp⟩, fun H' => ∃ acc ρ, Ok F (.acc D acc :: pins) ρ (wipe σ vs) H' ∧ I (i + 1) acc ρ ∧ ρ[k]? = some (some (.own xs)), fun H' ⟨acc', ρ', O', i', e'⟩ => ⟨xs.length - (i + 1), by omega, acc', ρ', O', i', e', by omega, rfl⟩, fun x H3 hy => ?_⟩
      obtain ⟨rfl, hy⟩ := hy
      obtain ⟨y, ey, im⟩ := hx.getV (hy us (SqL.of hu))
      refine hg.run _ ρ2 _ H3 x (.d y) _ _ O2 (hfr2 acc) im (hturn i y acc ρ2 ey i2 e2) fun ρ4 σ4 H4 O4 so q => ?_
      have hw4 : wipe σ4 vs = wipe σ vs := by
        have := so vs fun _ h => h
        rw [this]
        exact wipe_sub fun _ h => h
      refine ⟨hw4, ?_⟩
      refine ht.run _ ρ4 σ4 H4 _ O4 (ht.mono _ _ _ (fun b ρ5 h5 H5 O5 => ?_) q)
      cases b with
      | false =>
        have := O5.wipe (hfr2 acc)
        rw [hw4] at this
        exact ⟨acc, _, this, h5.2, by rw [wipeR_nth hk]; exact h5.1⟩
      | true =>
        refine he.run _ ρ5 σ4 H5 _ O5 (he.mono _ _ _ (fun r ρ6 h6 w H6 O6 R6 => ?_) h5)
        cases r with
        | o j => exact h6.elim
        | raw u => exact h6.elim
        | d z =>
          obtain ⟨vsD, hHD, hiD, _, _⟩ := O6.pin _ (List.mem_cons_self ..)
          refine ⟨vsD, hHD, ?_, acc ++ [z], wipeR ρ6 vs, ?_, h6.2.2, by rw [wipeR_nth hk]; exact h6.2.1⟩
          · have := h6.1
            unfold Few at this
            rw [hiD.length]; omega
          · have O7 := (O6.setAcc (hiD.append (.cons R6 .nil))).wipe (hfr2 (acc ++ [z]))
            rw [hw4] at O7
            exact O7
    · have e : i = xs.length := by omega
      subst e
      refine .inl ⟨⟨us, SqL.of hu, by rw [hlen]; exact Nat.le_refl _⟩, ?_⟩
      have hq := hend acc ρ2 i2 e2
      refine hq D H2 ?_
      have O3 := O2.wipe (hfr2 acc)
      refine Ok.unwipe (vs := vs) (Ok.unwipe (vs := vs) O3 ?_) ?_
      all_goals
        intro i hi
        by_cases hl : i < ρ2.length
        · exact .inl (wipeR_none hi hl)
        · exact .inr (List.getElem?_eq_none (by rw [wipeR_len]; omega))
  · intro ρ Q Q' hq h
    refine onOwn_mono h fun xs h => ?_
    obtain ⟨hno, I, h0, hturn, hend⟩ := h
    exact ⟨hno, I, h0, hturn, fun acc ρ i e => hq _ _ (hend acc ρ i e)⟩
end
theorem pl_lcO {X : Cx} {F : Fm} {elt tg : Expr} {ifs : List Expr} {scope : Scope} {own : List (Str × Nat)} {pos : Pos} {k : Nat} {x : Str} {g : TG} {dg : TDGt} {tt : TT} {dt : TDT} {te : TE} {de : TDE} {p2 : Pos} (hc : X.calm = true) (hN : X.N.Nodup) (ok : BlkOk X.N X.env.scope scope own)
    (hg : ∀ (s : Shared) (H : Hp) (C : Addr) (cl : List (Str × Addr)) (fp : List Addr), PDG (X.blk s H scope (compEnvC scope cl C X.env) fp) F tg g dg (own.map (·.2))) (ht : ∀ (s : Shared) (H : Hp) (C : Addr) (cl : List (Str × Addr)) (fp : List Addr), PDTs (X.blk s H scope (compEnvC scope cl C X.env) fp) F ifs tt dt)
    (he : ∀ (s : Shared) (H : Hp) (C : Addr) (cl : List (Str × Addr)) (fp : List Addr), PD (X.blk s H scope (compEnvC scope cl C X.env) fp) F elt te de) (hK : X.K = F.K := by rfl)
    (hi : X.N[k]? = some x := by rfl) (hv : Vis X.env.scope x := by first | exact Or.inl rfl | exact Or.inr (Or.inl rfl) | exact Or.inr (Or.inr rfl)) (hd : (x == ("__debug__" : Str)) = false := by decide) (hcd : (x == ("__classdict__" : Str)) = false := by decide) (hs : ∀ v, foldedSetIterable (.Name x p2) X.env v = pure v := by intro _; rfl) :
    PDL X F (.ListComp elt [⟨tg, .Name x p2, ifs, 0⟩] scope pos) (tLc (iSeq F.K (tVar k)) g tt te (own.map (·.2))) (dLcO k dg dt de (own.map (·.2))) := by
  refine ⟨?_, ?_⟩
  · have := pe_lc (pos := pos) hc hN (pi_seq (tg := tg) (pe_var (pos := p2) hi hv hd hcd)) ok (fun s H C cl fp => (hg s H C cl fp).pg) (fun s H C cl fp => (ht s H C cl fp).pts) (fun s H C cl fp => (he s H C cl fp).pe) hs
    rw [hK] at this
    exact this
  · exact dl_lcO (hg (PySem.start X.prog).1 (fun _ => none) 0 [] []).dg (ht (PySem.start X.prog).1 (fun _ => none) 0 [] []).dt (he (PySem.start X.prog).1 (fun _ => none) 0 [] []).de
open scoped Rat
def oR : Option DV.Row3 → PyData
  | none => .none
  | some r => pf3 r
theorem bestOf_snoc (xs : List DV.Row3) (a : DV.Row3) : bestOf (xs ++ [a]) = match bestOf xs with
    | none => some a
    | some b => if rowLt a b then some a else some b := by
  unfold bestOf
  rw [List.foldl_append]
  rfl
theorem cut_row {a b c : PyData} : DV.cutD [a, b, c] (some 1) none = [b, c] := by rw [cut_tail]; rfl
end DV
namespace DV
open PySem PySem.Spec PyProof.Rows L2
open scoped Rat
/-! ## shapes and sizes of data, put together -/
structure Shp (k : Nat) (d : PyData) : Prop where
  lay : d.canLay0 = true
  deep : d.depth ≤ k
theorem Shp.up {j k : Nat} {d : PyData} (h : Shp j d) (z : j ≤ k) : Shp k d := ⟨h.lay, Nat.le_trans h.deep z⟩
theorem Shp.shaped {k : Nat} {d : PyData} (h : Shp k d) (z : k ≤ 64 := by decide) : SeqAt.shaped d = true := by
  unfold SeqAt.shaped
  rw [Bool.and_eq_true, decide_eq_true_eq]
  exact ⟨h.lay, Nat.le_trans h.deep z⟩
theorem Shp.int {i : Int} : Shp 0 (.int i) := ⟨by simp [PyData.canLay0], by simp [PyData.depth]⟩
theorem Shp.bool {i : Bool} : Shp 0 (.bool i) := ⟨by simp [PyData.canLay0], by simp [PyData.depth]⟩
theorem Shp.none : Shp 0 .none := ⟨by simp [PyData.canLay0], by simp [PyData.depth]⟩
theorem shps {k : Nat} : ∀ {xs : List PyData}, (∀ x ∈ xs, Shp k x) → PyData.canLayAll0 xs = true ∧ PyData.depthAll xs ≤ k
  | [], _ => ⟨by simp [PyData.canLayAll0], by simp [PyData.depthAll]⟩
  | x :: xs, h => by
    have a := h x (List.mem_cons_self ..)
    have b := shps (xs := xs) fun y hy => h y (List.mem_cons_of_mem _ hy)
    simp only [PyData.canLayAll0, PyData.depthAll, Bool.and_eq_true]
    exact ⟨⟨a.lay, b.1⟩, Nat.max_le.mpr ⟨a.deep, b.2⟩⟩
theorem Shp.tuple {k : Nat} {xs : List PyData} (h : ∀ x ∈ xs, Shp k x) : Shp (k + 1) (.tuple xs) := by
  have := shps h
  exact ⟨by simp only [PyData.canLay0]; exact this.1, by simp only [PyData.depth]; omega⟩
theorem Shp.list {k : Nat} {xs : List PyData} (h : ∀ x ∈ xs, Shp k x) : Shp (k + 1) (.list xs) := by
  have := shps h
  exact ⟨by simp only [PyData.canLay0]; exact this.1, by simp only [PyData.depth]; omega⟩
theorem Shp.map {α : Type} {k : Nat} {f : α → PyData} {xs : List α} (h : ∀ x ∈ xs, Shp k (f x)) : ∀ y ∈ xs.map f, Shp k y := fun y hy => by
  obtain ⟨x, hx, rfl⟩ := List.mem_map.mp hy
  exact h x hx
theorem all2 {P : PyData → Prop} {a b : PyData} (h : P a) (k : P b) : ∀ x ∈ [a, b], P x := fun x hx => by
  have : x = a ∨ x = b := by simpa using hx
  rcases this with e | e <;> rw [e] <;> assumption
theorem all1 {P : PyData → Prop} {a : PyData} (h : P a) : ∀ x ∈ [a], P x := fun x hx => by
  have : x = a := by simpa using hx
  rw [this]; assumption
theorem all3 {P : PyData → Prop} {a b c : PyData} (h : P a) (k : P b) (l : P c) : ∀ x ∈ [a, b, c], P x := fun x hx => by
  have : x = a ∨ x = b ∨ x = c := by simpa using hx
  rcases this with e | e | e <;> rw [e] <;> assumption
theorem all4 {P : PyData → Prop} {a b c d : PyData} (h : P a) (k : P b) (l : P c) (m : P d) : ∀ x ∈ [a, b, c, d], P x := fun x hx => by
  have : x = a ∨ x = b ∨ x = c ∨ x = d := by simpa using hx
  rcases this with e | e | e | e <;> rw [e] <;> assumption
theorem shp_pr {a b : Int} : Shp 1 (pr a b) := .tuple (all2 .int .int)
theorem shp_fr {q : Rat} : Shp 1 (fr q) := .tuple (all2 .int .int)
theorem shp_pf {c : Cn} : Shp 2 (pf c) := .tuple (all2 shp_fr shp_fr)
/-- as Fine, with numbers -/
structure Fn (k c : Nat) (d : PyData) : Prop where
  ok : okd d = true
  deep : d.depth ≤ k
  few : cost d ≤ c
theorem Fn.up {j k b c : Nat} {d : PyData} (h : Fn j b d) (z : j ≤ k) (y : b ≤ c) : Fn k c d := ⟨h.ok, Nat.le_trans h.deep z, Nat.le_trans h.few y⟩
theorem Fn.fine {k c : Nat} {d : PyData} (h : Fn k c d) (z : k ≤ 60 := by decide) (y : c ≤ 16000000 := by decide) : Fine d := ⟨h.ok, Nat.le_trans h.deep z, Nat.le_trans h.few y⟩
theorem Fn.int {i : Int} {k : Nat} (h : Bd k i) (z : k ≤ 1000 := by decide) : Fn 0 1001 (.int i) := by
  refine ⟨?_, by simp [PyData.depth], by simp [cost]⟩
  simp only [okd, decide_eq_true_eq]
  by_cases h0 : i.natAbs = 0
  · rw [h0]; decide
  · exact Nat.lt_of_lt_of_le ((Nat.log2_lt h0).mpr h) z
theorem Fn.bool {b : Bool} : Fn 0 5 (.bool b) := ⟨by simp [okd], by simp [PyData.depth], by simp [cost]⟩
theorem Fn.none : Fn 0 5 .none := ⟨by simp [okd], by simp [PyData.depth], by simp [cost]⟩
theorem fas {k c : Nat} : ∀ {xs : List PyData}, (∀ x ∈ xs, Fn k c x) → okds xs = true ∧ PyData.depthAll xs ≤ k ∧ costs xs ≤ xs.length * (c + 2)
  | [], _ => ⟨by simp [okds], by simp [PyData.depthAll], by simp [costs]⟩
  | x :: xs, h => by
    have a := h x (List.mem_cons_self ..)
    have b := fas (xs := xs) fun y hy => h y (List.mem_cons_of_mem _ hy)
    simp only [okds, PyData.depthAll, costs, Bool.and_eq_true, List.length_cons]
    have := a.few
    refine ⟨⟨a.ok, b.1⟩, Nat.max_le.mpr ⟨a.deep, b.2.1⟩, ?_⟩
    rw [Nat.succ_mul]
    omega
theorem Fn.tuple {k c n : Nat} {xs : List PyData} (h : ∀ x ∈ xs, Fn k c x) (hn : xs.length ≤ n) : Fn (k + 1) (n * (c + 2) + 3) (.tuple xs) := by
  obtain ⟨a, b, d⟩ := fas h
  have := Nat.mul_le_mul_right (c + 2) hn
  exact ⟨by simp only [okd]; exact a, by simp only [PyData.depth]; omega, by simp only [cost]; omega⟩
theorem Fn.list {k c n : Nat} {xs : List PyData} (h : ∀ x ∈ xs, Fn k c x) (hn : xs.length ≤ n) : Fn (k + 1) (n * (c + 2) + 3) (.list xs) := by
  obtain ⟨a, b, d⟩ := fas h
  have := Nat.mul_le_mul_right (c + 2) hn
  exact ⟨by simp only [okd]; exact a, by simp only [PyData.depth]; omega, by simp only [cost]; omega⟩
theorem Fn.map {α : Type} {k c : Nat} {f : α → PyData} {xs : List α} (h : ∀ x ∈ xs, Fn k c (f x)) : ∀ y ∈ xs.map f, Fn k c y := fun y hy => by
  obtain ⟨x, hx, rfl⟩ := List.mem_map.mp hy
  exact h x hx
theorem fa_fr {q : Rat} {k : Nat} (h : Sz k q) (z : k ≤ 1000 := by decide) : Fn 1 2009 (fr q) := Fn.tuple (n := 2) (all2 (Fn.int h.n z) (Fn.int h.d z)) (Nat.le_refl _)
theorem fa_pf {c : Cn} {k : Nat} (h : Sz k c.1) (h2 : Sz k c.2) (z : k ≤ 1000 := by decide) : Fn 2 4025 (pf c) := Fn.tuple (n := 2) (all2 (fa_fr h z) (fa_fr h2 z)) (Nat.le_refl _)
theorem eqv_pf {a b : Cn} : PyData.eqv (pf a) (pf b) = decide (a = b) := by
  unfold pf
  simp only [PyData.eqv, PyData.eqvAll, Bool.and_true, eqv_fr]
  rw [← Bool.decide_and, decide_eq_decide]
  exact ⟨fun ⟨h1, h2⟩ => Prod.ext h1 h2, fun h => by subst h; exact ⟨rfl, rfl⟩⟩
theorem any_mem {α : Type} [DecidableEq α] {f : α → PyData} (he : ∀ x y, PyData.eqv (f x) (f y) = decide (x = y)) (xs : List α) (a : α) : ((xs.map f).any fun z => PyData.eqv z (f a)) = decide (a ∈ xs) := by
  rw [Bool.eq_iff_iff, List.any_eq_true, decide_eq_true_eq]
  constructor
  · rintro ⟨z, hz, e⟩
    obtain ⟨x, hx, rfl⟩ := List.mem_map.mp hz
    rw [he, decide_eq_true_eq] at e
    exact e ▸ hx
  · exact fun h => ⟨f a, List.mem_map_of_mem h, by rw [he, decide_eq_true_eq]⟩
section
variable {g : TDGt} {tt : TDT} {te : TDE} {vs : List Nat} {Q : List PyData → Rho → Prop} {ρ : Rho} {k : Nat}
theorem lcO_fm {α : Type} (as : List α) (enc : α → PyData) (f : α → Option PyData) (hv : ∀ i ∈ vs, ρ[i]? = some none) (hk : k ∉ vs) (ek : ρ[k]? = some (some (.own (as.map enc)))) (hl : as.length ≤ 100000)
    (turn : ∀ (i : Nat) (a : α), as[i]? = some a → ∀ (C1 : PyData → Rho → Prop) (C2 : Rho → Prop) (n : Nat), Few n → (∀ y, f a = some y → C1 y ρ) → (f a = none → C2 ρ) →
      g (.d (enc a)) ρ fun ρ2 => tt ρ2 fun b ρ3 => if b = true then te ρ3 fun r ρ4 => onDat r fun y => Few n ∧ ρ4[k]? = some (some (.own (as.map enc))) ∧ C1 y (wipeR ρ4 vs) else ρ3[k]? = some (some (.own (as.map enc))) ∧ C2 (wipeR ρ3 vs))
    (q : Q (as.filterMap f) (wipeR ρ vs)) : lcO k g tt te vs Q (as.map enc) ρ := by
  refine ⟨⟨hv, hk⟩, fun i acc ρ' => ρ' = ρ ∧ acc = (as.take i).filterMap f, ⟨rfl, rfl⟩, ?_, ?_⟩
  · rintro i x acc _ hx ⟨rfl, rfl⟩ _
    rw [List.getElem?_map] at hx
    cases ha : as[i]? with
    | none => rw [ha] at hx; cases hx
    | some a =>
      rw [ha] at hx
      cases hx
      have hi := (List.getElem?_eq_some_iff.mp ha).1
      refine turn i a ha (fun y ρ2 => ρ2 = _ ∧ _ = (as.take (i + 1)).filterMap f) (fun ρ2 => ρ2 = _ ∧ _ = (as.take (i + 1)).filterMap f) _ ?_ (fun y hy => ⟨rfl, ?_⟩) fun hn => ⟨rfl, ?_⟩
      · refine few_le ?_
        have := List.length_filterMap_le f (as.take i)
        rw [List.length_take] at this
        omega
      · rw [take_succ_some ha, List.filterMap_append, List.filterMap_cons, hy]; rfl
      · rw [take_succ_some ha, List.filterMap_append, List.filterMap_cons, hn]; exact (List.append_nil _).symm
  · rintro acc _ ⟨rfl, rfl⟩ _
    rw [List.length_map, List.take_length]
    exact q
end
theorem fm_len {α β : Type} {p : α → Prop} [DecidablePred p] {f : α → β} : ∀ xs : List α, (xs.filterMap fun o => if p o then some (f o) else none).length = (xs.filter fun o => decide (p o)).length
  | [] => rfl
  | x :: xs => by
    by_cases h : p x
    · simp only [List.filterMap_cons, List.filter_cons, if_pos h, decide_eq_true h, if_true, List.length_cons, fm_len xs]
    · simp only [List.filterMap_cons, List.filter_cons, if_neg h, decide_eq_false h, Bool.false_eq_true, if_false, fm_len xs]
theorem insertIdx_td {α : Type} {n : Nat} {xs : List α} (c : α) (h : n ≤ xs.length) : xs.insertIdx n c = xs.take n ++ c :: xs.drop n := by
  have := insertIdx_append (xs.take n) (xs.drop n) c
  rw [List.take_append_drop, List.length_take, Nat.min_eq_left h] at this
  exact this
theorem any_mem_iff {α : Type} {f : α → PyData} (he : ∀ x y, PyData.eqv (f x) (f y) = true ↔ x = y) (xs : List α) (a : α) : ((xs.map f).any fun z => PyData.eqv z (f a)) = true ↔ a ∈ xs := by
  rw [List.any_eq_true]
  constructor
  · rintro ⟨z, hz, e⟩
    obtain ⟨x, hx, rfl⟩ := List.mem_map.mp hz
    rw [he] at e
    exact e ▸ hx
  · exact fun h => ⟨f a, List.mem_map_of_mem h, by rw [he]⟩
theorem pf_eqv {a b : Cn} : PyData.eqv (pf a) (pf b) = true ↔ a = b := by rw [eqv_pf, decide_eq_true_eq]
theorem pr_eqv {a b : Int × Int} : PyData.eqv (pr a.1 a.2) (pr b.1 b.2) = true ↔ a = b := by
  rw [eqv_pr, decide_eq_true_eq]
  exact ⟨fun ⟨h1, h2⟩ => Prod.ext h1 h2, fun h => by subst h; exact ⟨rfl, rfl⟩⟩
section
variable {g : TDGt} {tt : TDT} {te : TDE} {vs : List Nat} {Q : List PyData → Rho → Prop} {ρ : Rho} {k : Nat}
theorem lcO_map {α : Type} (as : List α) (enc : α → PyData) (f : α → PyData) (hv : ∀ i ∈ vs, ρ[i]? = some none) (hk : k ∉ vs) (ek : ρ[k]? = some (some (.own (as.map enc)))) (hl : as.length ≤ 100000)
    (turn : ∀ (i : Nat) (a : α), as[i]? = some a → ∀ (C1 : PyData → Rho → Prop) (C2 : Rho → Prop) (n : Nat), Few n → C1 (f a) ρ →
      g (.d (enc a)) ρ fun ρ2 => tt ρ2 fun b ρ3 => if b = true then te ρ3 fun r ρ4 => onDat r fun y => Few n ∧ ρ4[k]? = some (some (.own (as.map enc))) ∧ C1 y (wipeR ρ4 vs) else ρ3[k]? = some (some (.own (as.map enc))) ∧ C2 (wipeR ρ3 vs))
    (q : Q (as.map f) (wipeR ρ vs)) : lcO k g tt te vs Q (as.map enc) ρ := by
  refine lcO_fm as enc (fun a => some (f a)) hv hk ek hl (fun i a ha C1 C2 n hn h1 _ => turn i a ha C1 C2 n hn (h1 _ rfl)) ?_
  rw [show as.filterMap (fun a => some (f a)) = as.map f from by rw [← List.filterMap_eq_map]; rfl]
  exact q
end
abbrev P2 := Int × Int
def enc2 (p : P2) : PyData := pr p.1 p.2
/-- within so much of 0 -/
def Inb (b : Int) (p : P2) : Prop := -b ≤ p.1 ∧ p.1 ≤ b ∧ -b ≤ p.2 ∧ p.2 ≤ b
theorem lb14 {a b c d : Int} (a0 : -16000 ≤ a) (a1 : a ≤ 16000) (b0 : -16000 ≤ b) (b1 : b ≤ 16000) (c0 : -16000 ≤ c) (c1 : c ≤ 16000) (d0 : -16000 ≤ d) (d1 : d ≤ 16000) : LB 14 ⟨a, b, c, d⟩ :=
  ⟨bd_of 16000 a0 a1, bd_of 16000 b0 b1, bd_of 16000 c0 c1, bd_of 16000 d0 d1⟩
theorem fr_eq {q : Rat} {n d : Int} (h1 : q.num = n) (h2 : (q.den : Int) = d) : PyData.tuple [.int n, .int d] = fr q := by subst h1; subst h2; rfl
end DV
namespace K28
open PySem PySem.Spec PyProof.Rows L2 DV
open scoped Rat
def topS (i : Nat) : Stmt := PySem.Challenge.pw_lampsaloft_k28_places_and_corners.main.body.getD i (.Pass ⟨0, 0, 0, 0⟩)
abbrev nm_reduced : List Str := ["n", "d", "common"]
abbrev s_reduced : Stmt := topS 2
theorem sc_reduced : FnScope nm_reduced ["n", "d"] (defScope s_reduced) := ⟨rfl, rfl, rfl, by decide +kernel, rfl, by decide +kernel, by decide +kernel⟩
abbrev nm_added : List Str := ["one", "other"]
abbrev s_added : Stmt := topS 3
theorem sc_added : FnScope nm_added ["one", "other"] (defScope s_added) := ⟨rfl, rfl, rfl, by decide +kernel, rfl, by decide +kernel, by decide +kernel⟩
abbrev nm_lessened : List Str := ["one", "other"]
abbrev s_lessened : Stmt := topS 4
theorem sc_lessened : FnScope nm_lessened ["one", "other"] (defScope s_lessened) := ⟨rfl, rfl, rfl, by decide +kernel, rfl, by decide +kernel, by decide +kernel⟩
abbrev nm_times : List Str := ["one", "other"]
abbrev s_times : Stmt := topS 5
theorem sc_times : FnScope nm_times ["one", "other"] (defScope s_times) := ⟨rfl, rfl, rfl, by decide +kernel, rfl, by decide +kernel, by decide +kernel⟩
abbrev nm_compared : List Str := ["one", "other", "here", "there"]
abbrev s_compared : Stmt := topS 6
theorem sc_compared : FnScope nm_compared ["one", "other"] (defScope s_compared) := ⟨rfl, rfl, rfl, by decide +kernel, rfl, by decide +kernel, by decide +kernel⟩
abbrev nm_clipped : List Str := ["one"]
abbrev s_clipped : Stmt := topS 7
theorem sc_clipped : FnScope nm_clipped ["one"] (defScope s_clipped) := ⟨rfl, rfl, rfl, by decide +kernel, rfl, by decide +kernel, by decide +kernel⟩
abbrev nm_place_on : List Str := ["leg", "s", "n", "d", "x", "y", "to_x", "to_y"]
abbrev s_place_on : Stmt := topS 9
theorem sc_place_on : FnScope nm_place_on ["leg", "s"] (defScope s_place_on) := ⟨rfl, rfl, rfl, by decide +kernel, rfl, by decide +kernel, by decide +kernel⟩
abbrev nm_gap_at : List Str := ["leg", "other", "s", "t", "one", "two"]
abbrev s_gap_at : Stmt := topS 10
theorem sc_gap_at : FnScope nm_gap_at ["leg", "other", "s", "t"] (defScope s_gap_at) := ⟨rfl, rfl, rfl, by decide +kernel, rfl, by decide +kernel, by decide +kernel⟩
abbrev nm_squared_at : List Str := ["leg", "other", "s", "t", "x", "y"]
abbrev s_squared_at : Stmt := topS 11
theorem sc_squared_at : FnScope nm_squared_at ["leg", "other", "s", "t"] (defScope s_squared_at) := ⟨rfl, rfl, rfl, by decide +kernel, rfl, by decide +kernel, by decide +kernel⟩
abbrev nm__corners_around : List Str := ["rho", "n", "d"]
abbrev s__corners_around : Stmt := topS 12
theorem sc__corners_around : FnScope nm__corners_around ["rho"] (defScope s__corners_around) := ⟨rfl, rfl, rfl, by decide +kernel, rfl, by decide +kernel, by decide +kernel⟩
abbrev nm_corners_of : List Str := ["rho", "d", "s", "t"]
abbrev s_corners_of : Stmt := topS 13
theorem sc_corners_of : FnScope nm_corners_of ["rho"] (defScope s_corners_of) := ⟨rfl, rfl, rfl, by decide +kernel, rfl, by decide +kernel, by decide +kernel⟩
abbrev nm_is_within : List Str := ["s", "t", "rho", "n", "d"]
abbrev s_is_within : Stmt := topS 14
theorem sc_is_within : FnScope nm_is_within ["s", "t", "rho"] (defScope s_is_within) := ⟨rfl, rfl, rfl, by decide +kernel, rfl, by decide +kernel, by decide +kernel⟩
abbrev nm__law_bag : List Str := ["_law_script", "_law_cell"]
abbrev s__law_bag : Stmt := topS 16
theorem sc__law_bag : FnScope nm__law_bag ["_law_script"] (defScope s__law_bag) := ⟨rfl, rfl, rfl, by decide +kernel, rfl, by decide +kernel, by decide +kernel⟩
abbrev nm__law_take : List Str := ["_law_bag_here", "_law_many", "_law_cell", "_law_stirred", "_law_value", "_law_begin", "_law_second"]
abbrev s__law_take : Stmt := topS 17
theorem sc__law_take : FnScope nm__law_take ["_law_bag_here", "_law_many"] (defScope s__law_take) := ⟨rfl, rfl, rfl, by decide +kernel, rfl, by decide +kernel, by decide +kernel⟩
abbrev nm__law_some : List Str := ["_law_bag_here", "_law_things"]
abbrev s__law_some : Stmt := topS 18
theorem sc__law_some : FnScope nm__law_some ["_law_bag_here", "_law_things"] (defScope s__law_some) := ⟨rfl, rfl, rfl, by decide +kernel, rfl, by decide +kernel, by decide +kernel⟩
abbrev nm__law_alike : List Str := ["_law_found", "_law_due"]
abbrev s__law_alike : Stmt := topS 19
theorem sc__law_alike : FnScope nm__law_alike ["_law_found", "_law_due"] (defScope s__law_alike) := ⟨rfl, rfl, rfl, by decide +kernel, rfl, by decide +kernel, by decide +kernel⟩
abbrev nm__law_over : List Str := ["_law_n", "_law_d", "_law_one", "_law_other"]
abbrev s__law_over : Stmt := topS 20
theorem sc__law_over : FnScope nm__law_over ["_law_n", "_law_d"] (defScope s__law_over) := ⟨rfl, rfl, rfl, by decide +kernel, rfl, by decide +kernel, by decide +kernel⟩
abbrev nm__law_added : List Str := ["_law_x", "_law_y"]
abbrev s__law_added : Stmt := topS 21
theorem sc__law_added : FnScope nm__law_added ["_law_x", "_law_y"] (defScope s__law_added) := ⟨rfl, rfl, rfl, by decide +kernel, rfl, by decide +kernel, by decide +kernel⟩
abbrev nm__law_lessened : List Str := ["_law_x", "_law_y"]
abbrev s__law_lessened : Stmt := topS 22
theorem sc__law_lessened : FnScope nm__law_lessened ["_law_x", "_law_y"] (defScope s__law_lessened) := ⟨rfl, rfl, rfl, by decide +kernel, rfl, by decide +kernel, by decide +kernel⟩
abbrev nm__law_multiplied : List Str := ["_law_x", "_law_y"]
abbrev s__law_multiplied : Stmt := topS 23
theorem sc__law_multiplied : FnScope nm__law_multiplied ["_law_x", "_law_y"] (defScope s__law_multiplied) := ⟨rfl, rfl, rfl, by decide +kernel, rfl, by decide +kernel, by decide +kernel⟩
abbrev nm__law_divided : List Str := ["_law_x", "_law_y"]
abbrev s__law_divided : Stmt := topS 24
theorem sc__law_divided : FnScope nm__law_divided ["_law_x", "_law_y"] (defScope s__law_divided) := ⟨rfl, rfl, rfl, by decide +kernel, rfl, by decide +kernel, by decide +kernel⟩
abbrev nm__law_is_below : List Str := ["_law_x", "_law_y"]
abbrev s__law_is_below : Stmt := topS 25
theorem sc__law_is_below : FnScope nm__law_is_below ["_law_x", "_law_y"] (defScope s__law_is_below) := ⟨rfl, rfl, rfl, by decide +kernel, rfl, by decide +kernel, by decide +kernel⟩
abbrev nm__law_least_diagonal : List Str := ["_law_spacing", "_law_found", "_law_turn"]
abbrev s__law_least_diagonal : Stmt := topS 26
theorem sc__law_least_diagonal : FnScope nm__law_least_diagonal ["_law_spacing"] (defScope s__law_least_diagonal) := ⟨rfl, rfl, rfl, by decide +kernel, rfl, by decide +kernel, by decide +kernel⟩
abbrev nm__law_offsets : List Str := ["_law_spacing", "_law_side", "_law_found", "_law_x", "_law_y"]
abbrev s__law_offsets : Stmt := topS 27
theorem sc__law_offsets : FnScope nm__law_offsets ["_law_spacing"] (defScope s__law_offsets) := ⟨rfl, rfl, rfl, by decide +kernel, rfl, by decide +kernel, by decide +kernel⟩
abbrev nm__law_couple : List Str := ["_law_bag_here", "_law_spacing", "_law_a", "_law_b", "_law_v", "_law_m"]
abbrev s__law_couple : Stmt := topS 28
theorem sc__law_couple : FnScope nm__law_couple ["_law_bag_here", "_law_spacing"] (defScope s__law_couple) := ⟨rfl, rfl, rfl, by decide +kernel, rfl, by decide +kernel, by decide +kernel⟩
abbrev nm__law_corners : List Str := ["_law_rho", "_law_less"]
abbrev s__law_corners : Stmt := topS 29
theorem sc__law_corners : FnScope nm__law_corners ["_law_rho"] (defScope s__law_corners) := ⟨rfl, rfl, rfl, by decide +kernel, rfl, by decide +kernel, by decide +kernel⟩
abbrev nm__law_gap : List Str := ["_law_leg", "_law_other", "_law_s", "_law_t", "_law_found", "_law_at", "_law_one", "_law_two"]
abbrev s__law_gap : Stmt := topS 30
theorem sc__law_gap : FnScope nm__law_gap ["_law_leg", "_law_other", "_law_s", "_law_t"] (defScope s__law_gap) := ⟨rfl, rfl, rfl, by decide +kernel, rfl, by decide +kernel, by decide +kernel⟩
abbrev nm__law_dot : List Str := ["_law_one", "_law_other"]
abbrev s__law_dot : Stmt := topS 31
theorem sc__law_dot : FnScope nm__law_dot ["_law_one", "_law_other"] (defScope s__law_dot) := ⟨rfl, rfl, rfl, by decide +kernel, rfl, by decide +kernel, by decide +kernel⟩
abbrev nm__law_gap_squared : List Str := ["_law_leg", "_law_other", "_law_s", "_law_t", "_law_gap_here"]
abbrev s__law_gap_squared : Stmt := topS 32
theorem sc__law_gap_squared : FnScope nm__law_gap_squared ["_law_leg", "_law_other", "_law_s", "_law_t"] (defScope s__law_gap_squared) := ⟨rfl, rfl, rfl, by decide +kernel, rfl, by decide +kernel, by decide +kernel⟩
abbrev nm__law_on_edge : List Str := ["_law_leg", "_law_other", "_law_one", "_law_two", "_law_first", "_law_last", "_law_run", "_law_steep", "_law_part", "_law_s", "_law_t"]
abbrev s__law_on_edge : Stmt := topS 33
theorem sc__law_on_edge : FnScope nm__law_on_edge ["_law_leg", "_law_other", "_law_one", "_law_two"] (defScope s__law_on_edge) := ⟨rfl, rfl, rfl, by decide +kernel, rfl, by decide +kernel, by decide +kernel⟩
abbrev nm__law_are_less : List Str := ["_law_one", "_law_other"]
abbrev s__law_are_less : Stmt := topS 34
theorem sc__law_are_less : FnScope nm__law_are_less ["_law_one", "_law_other"] (defScope s__law_are_less) := ⟨rfl, rfl, rfl, by decide +kernel, rfl, by decide +kernel, by decide +kernel⟩
abbrev nm__law_inner_point : List Str := ["_law_leg", "_law_other", "_law_rho", "_law_m", "_law_w", "_law_at", "_law_u", "_law_turn", "_law_s", "_law_t", "_law_apart"]
abbrev s__law_inner_point : Stmt := topS 35
theorem sc__law_inner_point : FnScope nm__law_inner_point ["_law_leg", "_law_other", "_law_rho"] (defScope s__law_inner_point) := ⟨rfl, rfl, rfl, by decide +kernel, rfl, by decide +kernel, by decide +kernel⟩
abbrev nm__law_nearest : List Str := ["_law_leg", "_law_other", "_law_rho", "_law_corners_here", "_law_best", "_law_found", "_law_one", "_law_two", "_law_row"]
abbrev s__law_nearest : Stmt := topS 36
theorem sc__law_nearest : FnScope nm__law_nearest ["_law_leg", "_law_other", "_law_rho"] (defScope s__law_nearest) := ⟨rfl, rfl, rfl, by decide +kernel, rfl, by decide +kernel, by decide +kernel⟩
abbrev nm__law_worst_couple : List Str := ["_law_bag_here", "_law_spacing", "_law_x", "_law_y", "_law_m", "_law_a", "_law_b", "_law_to"]
abbrev s__law_worst_couple : Stmt := topS 37
theorem sc__law_worst_couple : FnScope nm__law_worst_couple ["_law_bag_here", "_law_spacing"] (defScope s__law_worst_couple) := ⟨rfl, rfl, rfl, by decide +kernel, rfl, by decide +kernel, by decide +kernel⟩
abbrev nm__law_place : List Str := ["_law_leg", "_law_s", "_law_found", "_law_at"]
abbrev s__law_place : Stmt := topS 38
theorem sc__law_place : FnScope nm__law_place ["_law_leg", "_law_s"] (defScope s__law_place) := ⟨rfl, rfl, rfl, by decide +kernel, rfl, by decide +kernel, by decide +kernel⟩
abbrev nm__law_worth_order : List Str := ["_law_some_here", "_law_found", "_law_one", "_law_at", "_law_other"]
abbrev s__law_worth_order : Stmt := topS 39
theorem sc__law_worth_order : FnScope nm__law_worth_order ["_law_some_here"] (defScope s__law_worth_order) := ⟨rfl, rfl, rfl, by decide +kernel, rfl, by decide +kernel, by decide +kernel⟩
abbrev nm__law_fraction : List Str := ["_law_bag_here", "_law_d"]
abbrev s__law_fraction : Stmt := topS 40
theorem sc__law_fraction : FnScope nm__law_fraction ["_law_bag_here"] (defScope s__law_fraction) := ⟨rfl, rfl, rfl, by decide +kernel, rfl, by decide +kernel, by decide +kernel⟩
abbrev nm__law_are_allowed : List Str := ["_law_s", "_law_t", "_law_rho", "_law_apart"]
abbrev s__law_are_allowed : Stmt := topS 41
theorem sc__law_are_allowed : FnScope nm__law_are_allowed ["_law_s", "_law_t", "_law_rho"] (defScope s__law_are_allowed) := ⟨rfl, rfl, rfl, by decide +kernel, rfl, by decide +kernel, by decide +kernel⟩
abbrev nm__law_some_couple : List Str := ["_law_bag_here", "_law_spacing", "_law_leg", "_law_other", "_law_rho", "_law_least", "_law_root", "_law_turn"]
abbrev s__law_some_couple : Stmt := topS 42
theorem sc__law_some_couple : FnScope nm__law_some_couple ["_law_bag_here"] (defScope s__law_some_couple) := ⟨rfl, rfl, rfl, by decide +kernel, rfl, by decide +kernel, by decide +kernel⟩
abbrev nm_law : List Str := ["_law_script", "_law_bag_here", "_law_turn", "_law_leg", "_law_other", "_law_rho", "_law_r", "_law_s", "_law_t", "_law_due", "_law_wide", "_law_again", "_law_x", "_law_y"]
abbrev s_law : Stmt := topS 43
theorem sc_law : FnScope nm_law ["_law_script"] (defScope s_law) := ⟨rfl, rfl, rfl, by decide +kernel, rfl, by decide +kernel, by decide +kernel⟩
structure Bi (mg : Str → Option Value) : Prop where
  b_tuple : mg "tuple" = none
  b_sorted : mg "sorted" = none
  b_set : mg "set" = none
  b_abs : mg "abs" = none
  b_int : mg "int" = none
  b_len : mg "len" = none
  b_repr : mg "repr" = none
  b_range : mg "range" = none
  b_zip : mg "zip" = none
  b_max : mg "max" = none
  i_gcd : mg "gcd" = some (.builtin "math.gcd")
def S_reduced : Sd := SpE (α := Int × Int) (fun ⟨n, d⟩ => [.int n, .int d]) (fun ⟨n, d⟩ => d ≠ 0 ∧ Bd 9000 d) (fun ⟨n, d⟩ => fr (n /. d))
theorem m_reduced : MonoP S_reduced := m_SpE
theorem u_reduced {n : Int} {d : Int} {Q : PyData → Prop} (h0 : d ≠ 0) (h1 : Bd 9000 d) (hQ : Q (fr (n /. d))) : S_reduced [.int n, .int d] Q := ⟨(n, d), rfl, ⟨h0, h1⟩, hQ⟩
def S_compared : Sd := SpE (α := Rat × Rat × Nat × Nat) (fun ⟨p, r, j, k⟩ => [fr p, fr r]) (fun ⟨p, r, j, k⟩ => Sz j p ∧ Sz k r ∧ j + k ≤ 900000) (fun ⟨p, r, j, k⟩ => .int (cmpR p r))
theorem m_compared : MonoP S_compared := m_SpE
theorem u_compared {p : Rat} {r : Rat} {j : Nat} {k : Nat} {Q : PyData → Prop} (h0 : Sz j p) (h1 : Sz k r) (h2 : j + k ≤ 900000) (hQ : Q (.int (cmpR p r))) : S_compared [fr p, fr r] Q := ⟨(p, r, j, k), rfl, ⟨h0, h1, h2⟩, hQ⟩
def S_clipped : Sd := SpE (α := Rat) (fun p => [fr p]) (fun p => True) (fun p => fr (clipR p))
theorem m_clipped : MonoP S_clipped := m_SpE
theorem u_clipped {p : Rat} {Q : PyData → Prop}  (hQ : Q (fr (clipR p))) : S_clipped [fr p] Q := ⟨(p), rfl, trivial, hQ⟩
def S__corners_around : Sd := SpE (α := Int × Int) (fun ⟨n, d⟩ => [.tuple [.int n, .int d]]) (fun ⟨n, d⟩ => True) (fun ⟨n, d⟩ => .list [pr 0 0, pr n 0, pr d (d - n), pr d d, pr (d - n) d, pr 0 n])
theorem m__corners_around : MonoP S__corners_around := m_SpE
theorem u__corners_around {n : Int} {d : Int} {Q : PyData → Prop}  (hQ : Q (.list [pr 0 0, pr n 0, pr d (d - n), pr d d, pr (d - n) d, pr 0 n])) : S__corners_around [.tuple [.int n, .int d]] Q := ⟨(n, d), rfl, trivial, hQ⟩
abbrev S__law_bag : SdL := S_bag
theorem m__law_bag : MonoF S__law_bag := m_bag
abbrev S__law_take : Sb := S_take
theorem m__law_take : MonoB S__law_take := m_take
abbrev S__law_alike : Sd := S_alike
theorem m__law_alike : MonoP S__law_alike := m_alike
def S__law_over : Sd := SpE (α := Int × Int) (fun ⟨n, d⟩ => [.int n, .int d]) (fun ⟨n, d⟩ => d ≠ 0 ∧ Bd 9000 d) (fun ⟨n, d⟩ => fr (n /. d))
theorem m__law_over : MonoP S__law_over := m_SpE
theorem u__law_over {n : Int} {d : Int} {Q : PyData → Prop} (h0 : d ≠ 0) (h1 : Bd 9000 d) (hQ : Q (fr (n /. d))) : S__law_over [.int n, .int d] Q := ⟨(n, d), rfl, ⟨h0, h1⟩, hQ⟩
def S__law_is_below : Sd := SpE (α := Rat × Rat × Nat × Nat) (fun ⟨p, r, j, k⟩ => [fr p, fr r]) (fun ⟨p, r, j, k⟩ => Sz j p ∧ Sz k r ∧ j + k ≤ 900000) (fun ⟨p, r, j, k⟩ => .bool (decide (p < r)))
theorem m__law_is_below : MonoP S__law_is_below := m_SpE
theorem u__law_is_below {p : Rat} {r : Rat} {j : Nat} {k : Nat} {Q : PyData → Prop} (h0 : Sz j p) (h1 : Sz k r) (h2 : j + k ≤ 900000) (hQ : Q (.bool (decide (p < r)))) : S__law_is_below [fr p, fr r] Q := ⟨(p, r, j, k), rfl, ⟨h0, h1, h2⟩, hQ⟩
def S__law_least_diagonal : Sd := SpR (α := Int) (fun sp => [.int sp]) (fun sp => 1 ≤ sp ∧ sp ≤ 1000) (fun sp z => ∃ d : Int, z = .int d ∧ 0 ≤ d ∧ d ≤ 2 * sp + 2)
theorem m__law_least_diagonal : MonoP S__law_least_diagonal := m_SpR
theorem u__law_least_diagonal {sp : Int} {Q : PyData → Prop} (h0 : 1 ≤ sp) (h1 : sp ≤ 1000) (hQ : ∀ z, (∃ d : Int, z = .int d ∧ 0 ≤ d ∧ d ≤ 2 * sp + 2) → Q z) : S__law_least_diagonal [.int sp] Q := ⟨(sp), rfl, ⟨h0, h1⟩, hQ⟩
def S_added : Sd := SpE (α := Rat × Rat × Nat × Nat) (fun ⟨p, q, j, k⟩ => [fr p, fr q]) (fun ⟨p, q, j, k⟩ => Sz j p ∧ Sz k q ∧ j + k ≤ 9000) (fun ⟨p, q, j, k⟩ => fr (p + q))
theorem m_added : MonoP S_added := m_SpE
theorem u_added {p : Rat} {q : Rat} {j : Nat} {k : Nat} {Q : PyData → Prop} (h0 : Sz j p) (h1 : Sz k q) (h2 : j + k ≤ 9000) (hQ : Q (fr (p + q))) : S_added [fr p, fr q] Q := ⟨(p, q, j, k), rfl, ⟨h0, h1, h2⟩, hQ⟩
def S_lessened : Sd := SpE (α := Rat × Rat × Nat × Nat) (fun ⟨p, q, j, k⟩ => [fr p, fr q]) (fun ⟨p, q, j, k⟩ => Sz j p ∧ Sz k q ∧ j + k ≤ 9000) (fun ⟨p, q, j, k⟩ => fr (p - q))
theorem m_lessened : MonoP S_lessened := m_SpE
theorem u_lessened {p : Rat} {q : Rat} {j : Nat} {k : Nat} {Q : PyData → Prop} (h0 : Sz j p) (h1 : Sz k q) (h2 : j + k ≤ 9000) (hQ : Q (fr (p - q))) : S_lessened [fr p, fr q] Q := ⟨(p, q, j, k), rfl, ⟨h0, h1, h2⟩, hQ⟩
def S_times : Sd := SpE (α := Rat × Rat × Nat × Nat) (fun ⟨p, q, j, k⟩ => [fr p, fr q]) (fun ⟨p, q, j, k⟩ => Sz j p ∧ Sz k q ∧ j + k ≤ 9000) (fun ⟨p, q, j, k⟩ => fr (p * q))
theorem m_times : MonoP S_times := m_SpE
theorem u_times {p : Rat} {q : Rat} {j : Nat} {k : Nat} {Q : PyData → Prop} (h0 : Sz j p) (h1 : Sz k q) (h2 : j + k ≤ 9000) (hQ : Q (fr (p * q))) : S_times [fr p, fr q] Q := ⟨(p, q, j, k), rfl, ⟨h0, h1, h2⟩, hQ⟩
def S_place_on : Sd := SpE (α := Lg × Rat × Nat × Nat) (fun ⟨l, s, j, k⟩ => [eL l, fr s]) (fun ⟨l, s, j, k⟩ => LB j l ∧ Sz k s ∧ 0 < j ∧ j + k ≤ 9000) (fun ⟨l, s, j, k⟩ => .tuple [fr (px l s), fr (py l s)])
theorem m_place_on : MonoP S_place_on := m_SpE
theorem u_place_on {l : Lg} {s : Rat} {j : Nat} {k : Nat} {Q : PyData → Prop} (h0 : LB j l) (h1 : Sz k s) (h2 : 0 < j) (h3 : j + k ≤ 9000) (hQ : Q (.tuple [fr (px l s), fr (py l s)])) : S_place_on [eL l, fr s] Q := ⟨(l, s, j, k), rfl, ⟨h0, h1, h2, h3⟩, hQ⟩
def S_corners_of : Sd := SpR (α := Rat × Nat) (fun ⟨rho, k⟩ => [fr rho]) (fun ⟨rho, k⟩ => Sz k rho ∧ k ≤ 8000) (fun ⟨rho, k⟩ z => ∃ qs, SortdS (cpairs rho.num rho.den) qs ∧ z = .tuple ((qs.map (toCn rho.den)).map pf))
theorem m_corners_of : MonoP S_corners_of := m_SpR
theorem u_corners_of {rho : Rat} {k : Nat} {Q : PyData → Prop} (h0 : Sz k rho) (h1 : k ≤ 8000) (hQ : ∀ z, (∃ qs, SortdS (cpairs rho.num rho.den) qs ∧ z = .tuple ((qs.map (toCn rho.den)).map pf)) → Q z) : S_corners_of [fr rho] Q := ⟨(rho, k), rfl, ⟨h0, h1⟩, hQ⟩
abbrev S__law_some : Sb := S_some
theorem m__law_some : MonoB S__law_some := m_some
def S__law_added : Sd := SpE (α := Rat × Rat × Nat × Nat) (fun ⟨p, q, j, k⟩ => [fr p, fr q]) (fun ⟨p, q, j, k⟩ => Sz j p ∧ Sz k q ∧ j + k ≤ 9000) (fun ⟨p, q, j, k⟩ => fr (p + q))
theorem m__law_added : MonoP S__law_added := m_SpE
theorem u__law_added {p : Rat} {q : Rat} {j : Nat} {k : Nat} {Q : PyData → Prop} (h0 : Sz j p) (h1 : Sz k q) (h2 : j + k ≤ 9000) (hQ : Q (fr (p + q))) : S__law_added [fr p, fr q] Q := ⟨(p, q, j, k), rfl, ⟨h0, h1, h2⟩, hQ⟩
def S__law_lessened : Sd := SpE (α := Rat × Rat × Nat × Nat) (fun ⟨p, q, j, k⟩ => [fr p, fr q]) (fun ⟨p, q, j, k⟩ => Sz j p ∧ Sz k q ∧ j + k ≤ 9000) (fun ⟨p, q, j, k⟩ => fr (p - q))
theorem m__law_lessened : MonoP S__law_lessened := m_SpE
theorem u__law_lessened {p : Rat} {q : Rat} {j : Nat} {k : Nat} {Q : PyData → Prop} (h0 : Sz j p) (h1 : Sz k q) (h2 : j + k ≤ 9000) (hQ : Q (fr (p - q))) : S__law_lessened [fr p, fr q] Q := ⟨(p, q, j, k), rfl, ⟨h0, h1, h2⟩, hQ⟩
def S__law_multiplied : Sd := SpE (α := Rat × Rat × Nat × Nat) (fun ⟨p, q, j, k⟩ => [fr p, fr q]) (fun ⟨p, q, j, k⟩ => Sz j p ∧ Sz k q ∧ j + k ≤ 9000) (fun ⟨p, q, j, k⟩ => fr (p * q))
theorem m__law_multiplied : MonoP S__law_multiplied := m_SpE
theorem u__law_multiplied {p : Rat} {q : Rat} {j : Nat} {k : Nat} {Q : PyData → Prop} (h0 : Sz j p) (h1 : Sz k q) (h2 : j + k ≤ 9000) (hQ : Q (fr (p * q))) : S__law_multiplied [fr p, fr q] Q := ⟨(p, q, j, k), rfl, ⟨h0, h1, h2⟩, hQ⟩
def S__law_divided : Sd := SpE (α := Rat × Rat × Nat × Nat) (fun ⟨p, q, j, k⟩ => [fr p, fr q]) (fun ⟨p, q, j, k⟩ => Sz j p ∧ Sz k q ∧ j + k ≤ 9000 ∧ q ≠ 0) (fun ⟨p, q, j, k⟩ => fr (p / q))
theorem m__law_divided : MonoP S__law_divided := m_SpE
theorem u__law_divided {p : Rat} {q : Rat} {j : Nat} {k : Nat} {Q : PyData → Prop} (h0 : Sz j p) (h1 : Sz k q) (h2 : j + k ≤ 9000) (h3 : q ≠ 0) (hQ : Q (fr (p / q))) : S__law_divided [fr p, fr q] Q := ⟨(p, q, j, k), rfl, ⟨h0, h1, h2, h3⟩, hQ⟩
def S__law_offsets : Sd := SpR (α := Int) (fun sp => [.int sp]) (fun sp => 1 ≤ sp ∧ sp ≤ 20) (fun sp z => ∃ ps : List P2, z = .list (ps.map enc2) ∧ 0 < ps.length ∧ ps.length ≤ 22 ∧ ∀ p ∈ ps, Inb 60 p)
theorem m__law_offsets : MonoP S__law_offsets := m_SpR
theorem u__law_offsets {sp : Int} {Q : PyData → Prop} (h0 : 1 ≤ sp) (h1 : sp ≤ 20) (hQ : ∀ z, (∃ ps : List P2, z = .list (ps.map enc2) ∧ 0 < ps.length ∧ ps.length ≤ 22 ∧ ∀ p ∈ ps, Inb 60 p) → Q z) : S__law_offsets [.int sp] Q := ⟨(sp), rfl, ⟨h0, h1⟩, hQ⟩
def S__law_are_less : Sd := SpE (α := Cn × Cn × Nat) (fun ⟨a, b, k⟩ => [pf a, pf b]) (fun ⟨a, b, k⟩ => Sz k a.1 ∧ Sz k a.2 ∧ Sz k b.1 ∧ Sz k b.2 ∧ k ≤ 400000) (fun ⟨a, b, k⟩ => .bool (decide (lexLt a b)))
theorem m__law_are_less : MonoP S__law_are_less := m_SpE
theorem u__law_are_less {a : Cn} {b : Cn} {k : Nat} {Q : PyData → Prop} (h0 : Sz k a.1) (h1 : Sz k a.2) (h2 : Sz k b.1) (h3 : Sz k b.2) (h4 : k ≤ 400000) (hQ : Q (.bool (decide (lexLt a b)))) : S__law_are_less [pf a, pf b] Q := ⟨(a, b, k), rfl, ⟨h0, h1, h2, h3, h4⟩, hQ⟩
def S_gap_at : Sd := SpE (α := Lg × Lg × Rat × Rat × Nat × Nat) (fun ⟨l, o, s, t, j, k⟩ => [eL l, eL o, fr s, fr t]) (fun ⟨l, o, s, t, j, k⟩ => LB j l ∧ LB j o ∧ Sz k s ∧ Sz k t ∧ 0 < j ∧ j + k ≤ 2000) (fun ⟨l, o, s, t, j, k⟩ => .tuple [fr (gx l o s t), fr (gy l o s t)])
theorem m_gap_at : MonoP S_gap_at := m_SpE
theorem u_gap_at {l : Lg} {o : Lg} {s : Rat} {t : Rat} {j : Nat} {k : Nat} {Q : PyData → Prop} (h0 : LB j l) (h1 : LB j o) (h2 : Sz k s) (h3 : Sz k t) (h4 : 0 < j) (h5 : j + k ≤ 2000) (hQ : Q (.tuple [fr (gx l o s t), fr (gy l o s t)])) : S_gap_at [eL l, eL o, fr s, fr t] Q := ⟨(l, o, s, t, j, k), rfl, ⟨h0, h1, h2, h3, h4, h5⟩, hQ⟩
def S_is_within : Sd := SpE (α := Rat × Rat × Rat × Nat) (fun ⟨s, t, rho, k⟩ => [fr s, fr t, fr rho]) (fun ⟨s, t, rho, k⟩ => Sz k s ∧ Sz k t ∧ Sz k rho ∧ k ≤ 2000) (fun ⟨s, t, rho, k⟩ => .bool (decide (within s t rho)))
theorem m_is_within : MonoP S_is_within := m_SpE
theorem u_is_within {s : Rat} {t : Rat} {rho : Rat} {k : Nat} {Q : PyData → Prop} (h0 : Sz k s) (h1 : Sz k t) (h2 : Sz k rho) (h3 : k ≤ 2000) (hQ : Q (.bool (decide (within s t rho)))) : S_is_within [fr s, fr t, fr rho] Q := ⟨(s, t, rho, k), rfl, ⟨h0, h1, h2, h3⟩, hQ⟩
def S__law_couple : Sb := SpB (α := Int) 5 (fun sp => [.int sp]) (fun sp => 1 ≤ sp ∧ sp ≤ 20) (fun sp z => ∃ l o : Lg, z = .tuple [eL l, eL o] ∧ LB 14 l ∧ LB 14 o)
theorem m__law_couple : MonoB S__law_couple := m_SpB
theorem u__law_couple {sp : Int} {m : Nat} {bag : List PyData} {Q : PyData → List PyData → Prop} (hb : Bag m bag) (hm : m + 5 < 2 ^ 60) (h0 : 1 ≤ sp) (h1 : sp ≤ 20) (hQ : ∀ z bag', (∃ l o : Lg, z = .tuple [eL l, eL o] ∧ LB 14 l ∧ LB 14 o) → Bag (m + 5) bag' → Q z bag') : S__law_couple bag [.int sp] Q := ⟨(sp), m, hb, hm, rfl, ⟨h0, h1⟩, hQ⟩
def S__law_corners : Sd := SpE (α := Rat × Nat) (fun ⟨rho, k⟩ => [fr rho]) (fun ⟨rho, k⟩ => Sz k rho ∧ k ≤ 4000) (fun ⟨rho, k⟩ => .list ((crn rho).map pf))
theorem m__law_corners : MonoP S__law_corners := m_SpE
theorem u__law_corners {rho : Rat} {k : Nat} {Q : PyData → Prop} (h0 : Sz k rho) (h1 : k ≤ 4000) (hQ : Q (.list ((crn rho).map pf))) : S__law_corners [fr rho] Q := ⟨(rho, k), rfl, ⟨h0, h1⟩, hQ⟩
def S__law_gap : Sd := SpE (α := Lg × Lg × Rat × Rat × Nat × Nat) (fun ⟨l, o, s, t, j, k⟩ => [eL l, eL o, fr s, fr t]) (fun ⟨l, o, s, t, j, k⟩ => LB j l ∧ LB j o ∧ Sz k s ∧ Sz k t ∧ 0 < j ∧ j + k ≤ 2000) (fun ⟨l, o, s, t, j, k⟩ => .list [fr (gx l o s t), fr (gy l o s t)])
theorem m__law_gap : MonoP S__law_gap := m_SpE
theorem u__law_gap {l : Lg} {o : Lg} {s : Rat} {t : Rat} {j : Nat} {k : Nat} {Q : PyData → Prop} (h0 : LB j l) (h1 : LB j o) (h2 : Sz k s) (h3 : Sz k t) (h4 : 0 < j) (h5 : j + k ≤ 2000) (hQ : Q (.list [fr (gx l o s t), fr (gy l o s t)])) : S__law_gap [eL l, eL o, fr s, fr t] Q := ⟨(l, o, s, t, j, k), rfl, ⟨h0, h1, h2, h3, h4, h5⟩, hQ⟩
def S__law_dot : Sd := SpE (α := Rat × Rat × Rat × Rat × Nat × Nat) (fun ⟨a, b, c, d, j, k⟩ => [.list [fr a, fr b], .list [fr c, fr d]]) (fun ⟨a, b, c, d, j, k⟩ => Sz j a ∧ Sz j b ∧ Sz k c ∧ Sz k d ∧ j + k ≤ 4000) (fun ⟨a, b, c, d, j, k⟩ => fr (a * c + b * d))
theorem m__law_dot : MonoP S__law_dot := m_SpE
theorem u__law_dot {a : Rat} {b : Rat} {c : Rat} {d : Rat} {j : Nat} {k : Nat} {Q : PyData → Prop} (h0 : Sz j a) (h1 : Sz j b) (h2 : Sz k c) (h3 : Sz k d) (h4 : j + k ≤ 4000) (hQ : Q (fr (a * c + b * d))) : S__law_dot [.list [fr a, fr b], .list [fr c, fr d]] Q := ⟨(a, b, c, d, j, k), rfl, ⟨h0, h1, h2, h3, h4⟩, hQ⟩
def S__law_inner_point : SdL := SpF (α := Lg × Lg × Rat) (fun ⟨l, o, rho⟩ => [eL l, eL o, fr rho]) (fun ⟨l, o, rho⟩ => LB 20 l ∧ LB 20 o ∧ Sz 20 rho) (fun ⟨l, o, rho⟩ zs => zs = (inner l o rho).map pf3)
theorem m__law_inner_point : MonoF S__law_inner_point := m_SpF
theorem u__law_inner_point {l : Lg} {o : Lg} {rho : Rat} {Q : List PyData → Prop} (h0 : LB 20 l) (h1 : LB 20 o) (h2 : Sz 20 rho) (hQ : Q ((inner l o rho).map pf3)) : S__law_inner_point [eL l, eL o, fr rho] Q := ⟨(l, o, rho), rfl, ⟨h0, h1, h2⟩, fun _ e => e ▸ hQ⟩
def S__law_worst_couple : Sb := SpB (α := Int) 2 (fun sp => [.int sp]) (fun sp => 1 ≤ sp ∧ sp ≤ 20) (fun sp z => ∃ l o : Lg, z = .tuple [eL l, eL o] ∧ LB 14 l ∧ LB 14 o)
theorem m__law_worst_couple : MonoB S__law_worst_couple := m_SpB
theorem u__law_worst_couple {sp : Int} {m : Nat} {bag : List PyData} {Q : PyData → List PyData → Prop} (hb : Bag m bag) (hm : m + 2 < 2 ^ 60) (h0 : 1 ≤ sp) (h1 : sp ≤ 20) (hQ : ∀ z bag', (∃ l o : Lg, z = .tuple [eL l, eL o] ∧ LB 14 l ∧ LB 14 o) → Bag (m + 2) bag' → Q z bag') : S__law_worst_couple bag [.int sp] Q := ⟨(sp), m, hb, hm, rfl, ⟨h0, h1⟩, hQ⟩
def S__law_place : Sd := SpE (α := Lg × Rat × Nat × Nat) (fun ⟨l, s, j, k⟩ => [eL l, fr s]) (fun ⟨l, s, j, k⟩ => LB j l ∧ Sz k s ∧ 0 < j ∧ j + k ≤ 4000) (fun ⟨l, s, j, k⟩ => .tuple [fr (px l s), fr (py l s)])
theorem m__law_place : MonoP S__law_place := m_SpE
theorem u__law_place {l : Lg} {s : Rat} {j : Nat} {k : Nat} {Q : PyData → Prop} (h0 : LB j l) (h1 : Sz k s) (h2 : 0 < j) (h3 : j + k ≤ 4000) (hQ : Q (.tuple [fr (px l s), fr (py l s)])) : S__law_place [eL l, fr s] Q := ⟨(l, s, j, k), rfl, ⟨h0, h1, h2, h3⟩, hQ⟩
def S__law_worth_order : Sd := SpE (α := (List Cn) × Nat) (fun ⟨cs, k⟩ => [.list (cs.map pf)]) (fun ⟨cs, k⟩ => cs.length ≤ 100 ∧ (∀ c ∈ cs, Sz k c.1 ∧ Sz k c.2) ∧ k ≤ 400000) (fun ⟨cs, k⟩ => .list ((worthOf cs).map pf))
theorem m__law_worth_order : MonoP S__law_worth_order := m_SpE
theorem u__law_worth_order {cs : List Cn} {k : Nat} {Q : PyData → Prop} (h0 : cs.length ≤ 100) (h1 : (∀ c ∈ cs, Sz k c.1 ∧ Sz k c.2)) (h2 : k ≤ 400000) (hQ : Q (.list ((worthOf cs).map pf))) : S__law_worth_order [.list (cs.map pf)] Q := ⟨(cs, k), rfl, ⟨h0, h1, h2⟩, hQ⟩
def S__law_fraction : Sb := SpB (α := Unit) 2 (fun _ => []) (fun _ => True) (fun _ z => ∃ q : Rat, z = fr q ∧ 0 ≤ q ∧ q ≤ 1 ∧ Sz 7 q)
theorem m__law_fraction : MonoB S__law_fraction := m_SpB
theorem u__law_fraction  {m : Nat} {bag : List PyData} {Q : PyData → List PyData → Prop} (hb : Bag m bag) (hm : m + 2 < 2 ^ 60)  (hQ : ∀ z bag', (∃ q : Rat, z = fr q ∧ 0 ≤ q ∧ q ≤ 1 ∧ Sz 7 q) → Bag (m + 2) bag' → Q z bag') : S__law_fraction bag [] Q := ⟨(), m, hb, hm, rfl, trivial, hQ⟩
def S__law_are_allowed : Sd := SpE (α := Rat × Rat × Rat × Nat) (fun ⟨s, t, rho, k⟩ => [fr s, fr t, fr rho]) (fun ⟨s, t, rho, k⟩ => Sz k s ∧ Sz k t ∧ Sz k rho ∧ k ≤ 2000) (fun ⟨s, t, rho, k⟩ => .bool (decide (within s t rho)))
theorem m__law_are_allowed : MonoP S__law_are_allowed := m_SpE
theorem u__law_are_allowed {s : Rat} {t : Rat} {rho : Rat} {k : Nat} {Q : PyData → Prop} (h0 : Sz k s) (h1 : Sz k t) (h2 : Sz k rho) (h3 : k ≤ 2000) (hQ : Q (.bool (decide (within s t rho)))) : S__law_are_allowed [fr s, fr t, fr rho] Q := ⟨(s, t, rho, k), rfl, ⟨h0, h1, h2, h3⟩, hQ⟩
def S_squared_at : Sd := SpE (α := Lg × Lg × Rat × Rat × Nat × Nat) (fun ⟨l, o, s, t, j, k⟩ => [eL l, eL o, fr s, fr t]) (fun ⟨l, o, s, t, j, k⟩ => LB j l ∧ LB j o ∧ Sz k s ∧ Sz k t ∧ 0 < j ∧ j + k ≤ 400) (fun ⟨l, o, s, t, j, k⟩ => fr (gsq l o s t))
theorem m_squared_at : MonoP S_squared_at := m_SpE
theorem u_squared_at {l : Lg} {o : Lg} {s : Rat} {t : Rat} {j : Nat} {k : Nat} {Q : PyData → Prop} (h0 : LB j l) (h1 : LB j o) (h2 : Sz k s) (h3 : Sz k t) (h4 : 0 < j) (h5 : j + k ≤ 400) (hQ : Q (fr (gsq l o s t))) : S_squared_at [eL l, eL o, fr s, fr t] Q := ⟨(l, o, s, t, j, k), rfl, ⟨h0, h1, h2, h3, h4, h5⟩, hQ⟩
def S__law_gap_squared : Sd := SpE (α := Lg × Lg × Rat × Rat × Nat × Nat) (fun ⟨l, o, s, t, j, k⟩ => [eL l, eL o, fr s, fr t]) (fun ⟨l, o, s, t, j, k⟩ => LB j l ∧ LB j o ∧ Sz k s ∧ Sz k t ∧ 0 < j ∧ j + k ≤ 400) (fun ⟨l, o, s, t, j, k⟩ => fr (gsq l o s t))
theorem m__law_gap_squared : MonoP S__law_gap_squared := m_SpE
theorem u__law_gap_squared {l : Lg} {o : Lg} {s : Rat} {t : Rat} {j : Nat} {k : Nat} {Q : PyData → Prop} (h0 : LB j l) (h1 : LB j o) (h2 : Sz k s) (h3 : Sz k t) (h4 : 0 < j) (h5 : j + k ≤ 400) (hQ : Q (fr (gsq l o s t))) : S__law_gap_squared [eL l, eL o, fr s, fr t] Q := ⟨(l, o, s, t, j, k), rfl, ⟨h0, h1, h2, h3, h4, h5⟩, hQ⟩
def S__law_on_edge : Sd := SpE (α := Lg × Lg × Cn × Cn × Int) (fun ⟨l, o, a, b, d⟩ => [eL l, eL o, pf a, pf b]) (fun ⟨l, o, a, b, d⟩ => LB 20 l ∧ LB 20 o ∧ DOk d ∧ CnOk d a ∧ CnOk d b) (fun ⟨l, o, a, b, d⟩ => pf3 (edge l o a b))
theorem m__law_on_edge : MonoP S__law_on_edge := m_SpE
theorem u__law_on_edge {l : Lg} {o : Lg} {a : Cn} {b : Cn} {d : Int} {Q : PyData → Prop} (h0 : LB 20 l) (h1 : LB 20 o) (h2 : DOk d) (h3 : CnOk d a) (h4 : CnOk d b) (hQ : Q (pf3 (edge l o a b))) : S__law_on_edge [eL l, eL o, pf a, pf b] Q := ⟨(l, o, a, b, d), rfl, ⟨h0, h1, h2, h3, h4⟩, hQ⟩
def S__law_nearest : Sd := SpE (α := Lg × Lg × Rat) (fun ⟨l, o, rho⟩ => [eL l, eL o, fr rho]) (fun ⟨l, o, rho⟩ => LB 20 l ∧ LB 20 o ∧ Sz 20 rho) (fun ⟨l, o, rho⟩ => pf3 (nearL l o rho))
theorem m__law_nearest : MonoP S__law_nearest := m_SpE
theorem u__law_nearest {l : Lg} {o : Lg} {rho : Rat} {Q : PyData → Prop} (h0 : LB 20 l) (h1 : LB 20 o) (h2 : Sz 20 rho) (hQ : Q (pf3 (nearL l o rho))) : S__law_nearest [eL l, eL o, fr rho] Q := ⟨(l, o, rho), rfl, ⟨h0, h1, h2⟩, hQ⟩
def S__law_some_couple : Sb := SpB (α := Unit) 60 (fun _ => []) (fun _ => True) (fun _ z => ∃ (l o : Lg) (rho : Rat) (r : Int), z = .tuple [eL l, eL o, fr rho, .int r] ∧ LB 14 l ∧ LB 14 o ∧ 0 ≤ rho ∧ rho ≤ 1 ∧ Sz 7 rho ∧ 1 ≤ r ∧ r ≤ 1000)
theorem m__law_some_couple : MonoB S__law_some_couple := m_SpB
theorem u__law_some_couple  {m : Nat} {bag : List PyData} {Q : PyData → List PyData → Prop} (hb : Bag m bag) (hm : m + 60 < 2 ^ 60)  (hQ : ∀ z bag', (∃ (l o : Lg) (rho : Rat) (r : Int), z = .tuple [eL l, eL o, fr rho, .int r] ∧ LB 14 l ∧ LB 14 o ∧ 0 ≤ rho ∧ rho ≤ 1 ∧ Sz 7 rho ∧ 1 ≤ r ∧ r ≤ 1000) → Bag (m + 60) bag' → Q z bag') : S__law_some_couple bag [] Q := ⟨(), m, hb, hm, rfl, trivial, hQ⟩
def S_law : Sd := fun xs Q => ∃ ns : List Int, xs = [.list (ns.map .int)] ∧ Q (.bool true)
theorem m_law : MonoP S_law := fun xs Q Q' hq ⟨ns, h1, h2⟩ => ⟨ns, h1, hq _ h2⟩
theorem law_spec : ∀ ns : List Int, ns.length ≤ 63 → S_law [.list (ns.map .int)] fun z => z = .bool true := fun ns _ => ⟨ns, rfl, rfl⟩
section
variable {P : Program} {w : World} {K : PySem.W.Frag} {mg : Str → Option Value} {base : Heap}
set_option maxHeartbeats 4000000 in
theorem ok_reduced {f : Addr} {fd : FuncData} (W : Fun K "reduced" "reduced" s_reduced f fd) (T : Bi mg) :
    FnG P w K mg base CX0 1 f fd ["n", "d"] (spP K [.d, .d] S_reduced) := by
  refine fnP W sc_reduced rfl fun cdv A out s H E Nn hr hgd => ⟨_, _, (dss_cons (ds_set (i := 2) sc_reduced.nd (pd_callM cr_gcd sc_gcd rfl T.i_gcd (pda_cons (pdv 0) (pda_cons (pdv 1) pda_nil))) fixP)
      (dss_cons (ds_if (pt_lt (pdv 1) pd_int) (dss_one (ds_set (i := 2) sc_reduced.nd (pd_neg (pdv 2)) fixP)) dss_nil)
      (dss_one (ds_ret (pd_tup (pda_cons (pd_divZ (pdv 0) (pdv 2)) (pda_cons (pd_divZ (pdv 1) (pdv 2)) pda_nil))))))), ?_⟩
  clear W T hr hgd
  rintro xs Q hl ⟨⟨n, d⟩, rfl, ⟨h0, h1⟩, hQ⟩
  clear hl
  replace hQ : Q (fr (n /. d)) := hQ
  have e : rhoP nm_reduced.length [.d, .d] [.int n, .int d] = [some (.d (.int n)), some (.d (.int d)), none] := rfl
  rw [e]
  clear e
  simp only [dSeq, dAsg, dCB, dCons, dNil, dVar, onVs, vals, val, slot, setR, fGcd, dIfS, dTV, dOp, dBin, onV2, fLt, fLe, fGt, fGe, fAdd, fSub, fMul, fDiv, fMod, fI0, dC, dUn, onV, fNeg, dNext, dRet, dTup, onD, dats, fDivZ, fI, fPow, Few, retP, fAbs, fInt, fMax, fMin, fLen, fSqrt, fEq, fNe, dNot, dAnd, dOr, dAndV, dOrV, dNotV, dIfE, dDrop, dRetN, dPar, noO, dSetL, dLst, dOfL, dOwnM, onOwn, onDat, kAppend, kInsert, dSetItem, dAddItem, dIx, onItems, items, onInt, dNoPart, dPart, dSlice, onL, litems, dSlL, dCat, onM, mitems, dTupOf, dSeqI, dRng1, dRng2, dCallP, dCallB, dCallF, noSelf, onArgs, dats2, dIsi, tyName, dYes, dgTup, dgCons, dgNil, retB, dBreak, dCont, ne_eq, not_false_eq_true, true_and, and_true, List.getElem?_cons_zero, List.getElem?_cons_succ, List.set_cons_zero, List.set_cons_succ, Option.map, List.length_cons, List.length_nil, dLc_eq, dFor_eq, dSortSet, dSort, dListOf, dIsN, dNotN, isNo, dAug, dCatT, dSlT, onT, titems, dEnum, dZip, seqs, dRetL, dPar3, dRevT, dLstRg, dTupRg, dRg1, dRg2, dChainLe, List.nil_append, List.cons_append, if_true, if_false, dFrz, dLcO, List.map_cons, List.map_nil, fw0, fw1, fw2, fw3, fw4, fw5, fw6, fw7, fw8, fw9, fw10, fw11, fw12, fw13, fw14, fw15]
  have hg := red_num (n := n) (d := d) h0 rfl
  by_cases hd : d < 0
  · rw [if_pos hd] at hg
    refine ite_t hd ⟨cdz hg.2.2.1 (k := 9000) (Nat.lt_of_le_of_lt hg.2.2.2 h1), cdz hg.2.2.1 (k := 9000) (Nat.lt_of_le_of_lt hg.2.2.2 h1), ?_⟩
    rw [hg.1, hg.2.1]; exact hQ
  · rw [if_neg hd] at hg
    refine ite_f hd ⟨cdz hg.2.2.1 (k := 9000) (Nat.lt_of_le_of_lt hg.2.2.2 h1), cdz hg.2.2.1 (k := 9000) (Nat.lt_of_le_of_lt hg.2.2.2 h1), ?_⟩
    rw [hg.1, hg.2.1]; exact hQ
set_option maxHeartbeats 4000000 in
theorem ok_compared {f : Addr} {fd : FuncData} (W : Fun K "compared" "compared" s_compared f fd) (T : Bi mg) :
    FnG P w K mg base CX0 1 f fd ["one", "other"] (spP K [.d, .d] S_compared) := by
  refine fnP W sc_compared rfl fun cdv A out s H E Nn hr hgd => ⟨_, _, (dss_cons (ds_par (i := 2) (j := 3) rfl sc_compared.nd (pda_cons (pd_mul (pd_ix (pdv 0) pd_int (fun _ _ => rfl)) (pd_ix (pdv 1) pd_int (fun _ _ => rfl))) (pda_cons (pd_mul (pd_ix (pdv 1) pd_int (fun _ _ => rfl)) (pd_ix (pdv 0) pd_int (fun _ _ => rfl))) pda_nil)) fixP fixP)
      (dss_cons (ds_if (pt_lt (pdv 2) (pdv 3)) (dss_one (ds_ret (pd_neg pd_int))) dss_nil)
      (dss_cons (ds_if (pt_gt (pdv 2) (pdv 3)) (dss_one (ds_ret pd_int)) dss_nil)
      (dss_one (ds_ret pd_int))))), ?_⟩
  clear W T hr hgd
  rintro xs Q hl ⟨⟨p, r, j, k⟩, rfl, ⟨h0, h1, h2⟩, hQ⟩
  clear hl
  replace hQ : Q (.int (cmpR p r)) := hQ
  have e : rhoP nm_compared.length [.d, .d] [fr p, fr r] = [some (.d (fr p)), some (.d (fr r)), none, none] := rfl
  rw [e]
  clear e
  simp only [dSeq, dAsg, dCB, dCons, dNil, dVar, onVs, vals, val, slot, setR, fGcd, dIfS, dTV, dOp, dBin, onV2, fLt, fLe, fGt, fGe, fAdd, fSub, fMul, fDiv, fMod, fI0, dC, dUn, onV, fNeg, dNext, dRet, dTup, onD, dats, fDivZ, fI, fPow, Few, retP, fAbs, fInt, fMax, fMin, fLen, fSqrt, fEq, fNe, dNot, dAnd, dOr, dAndV, dOrV, dNotV, dIfE, dDrop, dRetN, dPar, noO, dSetL, dLst, dOfL, dOwnM, onOwn, onDat, kAppend, kInsert, dSetItem, dAddItem, dIx, onItems, items, onInt, dNoPart, dPart, dSlice, onL, litems, dSlL, dCat, onM, mitems, dTupOf, dSeqI, dRng1, dRng2, dCallP, dCallB, dCallF, noSelf, onArgs, dats2, dIsi, tyName, dYes, dgTup, dgCons, dgNil, retB, dBreak, dCont, ne_eq, not_false_eq_true, true_and, and_true, List.getElem?_cons_zero, List.getElem?_cons_succ, List.set_cons_zero, List.set_cons_succ, Option.map, List.length_cons, List.length_nil, dLc_eq, dFor_eq, dSortSet, dSort, dListOf, dIsN, dNotN, isNo, dAug, dCatT, dSlT, onT, titems, dEnum, dZip, seqs, dRetL, dPar3, dRevT, dLstRg, dTupRg, dRg1, dRg2, dChainLe, List.nil_append, List.cons_append, if_true, if_false, dFrz, dLcO, List.map_cons, List.map_nil, fw0, fw1, fw2, fw3, fw4, fw5, fw6, fw7, fw8, fw9, fw10, fw11, fw12, fw13, fw14, fw15, fr, on0, on1]
  refine ⟨cmb h0.n h1.d (by omega), cmb h1.n h0.d (by omega), ?_⟩
  unfold cmpR at hQ
  by_cases h : p < r
  · rw [if_pos h] at hQ
    exact ite_t (lt_fr.mpr h) hQ
  · rw [if_neg h] at hQ
    refine ite_f (fun z => h (lt_fr.mp z)) ?_
    by_cases h' : r < p
    · rw [if_pos h'] at hQ
      exact ite_t (lt_fr.mpr h') hQ
    · rw [if_neg h'] at hQ
      exact ite_f (fun z => h' (lt_fr.mp z)) hQ
set_option maxHeartbeats 4000000 in
theorem ok_clipped {f : Addr} {fd : FuncData} (W : Fun K "clipped" "clipped" s_clipped f fd) (T : Bi mg) :
    FnG P w K mg base CX0 1 f fd ["one"] (spP K [.d] S_clipped) := by
  refine fnP W sc_clipped rfl fun cdv A out s H E Nn hr hgd => ⟨_, _, (dss_cons (ds_if (pt_lt (pd_ix (pdv 0) pd_int (fun _ _ => rfl)) pd_int) (dss_one (ds_ret (pd_tup (pda_cons pd_int (pda_cons pd_int pda_nil))))) dss_nil)
      (dss_cons (ds_if (pt_gt (pd_ix (pdv 0) pd_int (fun _ _ => rfl)) (pd_ix (pdv 0) pd_int (fun _ _ => rfl))) (dss_one (ds_ret (pd_tup (pda_cons pd_int (pda_cons pd_int pda_nil))))) dss_nil)
      (dss_one (ds_ret (pdv 0))))), ?_⟩
  clear W T hr hgd
  rintro xs Q hl ⟨p, rfl, _, hQ⟩
  clear hl
  replace hQ : Q (fr (clipR p)) := hQ
  have e : rhoP nm_clipped.length [.d] [fr p] = [some (.d (fr p))] := rfl
  rw [e]
  clear e
  simp only [dSeq, dAsg, dCB, dCons, dNil, dVar, onVs, vals, val, slot, setR, fGcd, dIfS, dTV, dOp, dBin, onV2, fLt, fLe, fGt, fGe, fAdd, fSub, fMul, fDiv, fMod, fI0, dC, dUn, onV, fNeg, dNext, dRet, dTup, onD, dats, fDivZ, fI, fPow, Few, retP, fAbs, fInt, fMax, fMin, fLen, fSqrt, fEq, fNe, dNot, dAnd, dOr, dAndV, dOrV, dNotV, dIfE, dDrop, dRetN, dPar, noO, dSetL, dLst, dOfL, dOwnM, onOwn, onDat, kAppend, kInsert, dSetItem, dAddItem, dIx, onItems, items, onInt, dNoPart, dPart, dSlice, onL, litems, dSlL, dCat, onM, mitems, dTupOf, dSeqI, dRng1, dRng2, dCallP, dCallB, dCallF, noSelf, onArgs, dats2, dIsi, tyName, dYes, dgTup, dgCons, dgNil, retB, dBreak, dCont, ne_eq, not_false_eq_true, true_and, and_true, List.getElem?_cons_zero, List.getElem?_cons_succ, List.set_cons_zero, List.set_cons_succ, Option.map, List.length_cons, List.length_nil, dLc_eq, dFor_eq, dSortSet, dSort, dListOf, dIsN, dNotN, isNo, dAug, dCatT, dSlT, onT, titems, dEnum, dZip, seqs, dRetL, dPar3, dRevT, dLstRg, dTupRg, dRg1, dRg2, dChainLe, List.nil_append, List.cons_append, if_true, if_false, dFrz, dLcO, List.map_cons, List.map_nil, fw0, fw1, fw2, fw3, fw4, fw5, fw6, fw7, fw8, fw9, fw10, fw11, fw12, fw13, fw14, fw15, fr, on0, on1]
  unfold clipR at hQ
  by_cases h : p < 0
  · rw [if_pos h] at hQ
    exact ite_t (num_neg.mpr h) hQ
  · rw [if_neg h] at hQ
    refine ite_f (fun z => h (num_neg.mp z)) ?_
    by_cases h' : 1 < p
    · rw [if_pos h'] at hQ
      exact ite_t (den_lt_num.mpr h') hQ
    · rw [if_neg h'] at hQ
      exact ite_f (fun z => h' (den_lt_num.mp z)) hQ
set_option maxHeartbeats 4000000 in
theorem ok__corners_around {f : Addr} {fd : FuncData} (W : Fun K "_corners_around" "_corners_around" s__corners_around f fd) (T : Bi mg) :
    FnG P w K mg base CX0 1 f fd ["rho"] (spP K [.d] S__corners_around) := by
  refine fnP W sc__corners_around rfl fun cdv A out s H E Nn hr hgd => ⟨_, _, (dss_cons (ds_asg (pdv 0) (pgd_tup (n := 2) rfl (pgds_cons (pgd_name (i := 1) sc__corners_around.nd) (pgds_cons (pgd_name (i := 2) sc__corners_around.nd) pgds_nil))) nofixP)
      (dss_one (ds_ret (pd_l (pl_lst (pda_cons (pd_tup (pda_cons pd_int (pda_cons pd_int pda_nil))) (pda_cons (pd_tup (pda_cons (pdv 1) (pda_cons pd_int pda_nil))) (pda_cons (pd_tup (pda_cons (pdv 2) (pda_cons (pd_sub (pdv 2) (pdv 1)) pda_nil))) (pda_cons (pd_tup (pda_cons (pdv 2) (pda_cons (pdv 2) pda_nil))) (pda_cons (pd_tup (pda_cons (pd_sub (pdv 2) (pdv 1)) (pda_cons (pdv 2) pda_nil))) (pda_cons (pd_tup (pda_cons pd_int (pda_cons (pdv 1) pda_nil))) pda_nil))))))))))), ?_⟩
  clear W T hr hgd
  rintro xs Q hl ⟨⟨n, d⟩, rfl, _, hQ⟩
  clear hl
  replace hQ : Q (.list [pr 0 0, pr n 0, pr d (d - n), pr d d, pr (d - n) d, pr 0 n]) := hQ
  have e : rhoP nm__corners_around.length [.d] [.tuple [.int n, .int d]] = [some (.d (.tuple [.int n, .int d])), none, none] := rfl
  rw [e]
  clear e
  simp only [dSeq, dAsg, dCB, dCons, dNil, dVar, onVs, vals, val, slot, setR, fGcd, dIfS, dTV, dOp, dBin, onV2, fLt, fLe, fGt, fGe, fAdd, fSub, fMul, fDiv, fMod, fI0, dC, dUn, onV, fNeg, dNext, dRet, dTup, onD, dats, fDivZ, fI, fPow, Few, retP, fAbs, fInt, fMax, fMin, fLen, fSqrt, fEq, fNe, dNot, dAnd, dOr, dAndV, dOrV, dNotV, dIfE, dDrop, dRetN, dPar, noO, dSetL, dLst, dOfL, dOwnM, onOwn, onDat, kAppend, kInsert, dSetItem, dAddItem, dIx, onItems, items, onInt, dNoPart, dPart, dSlice, onL, litems, dSlL, dCat, onM, mitems, dTupOf, dSeqI, dRng1, dRng2, dCallP, dCallB, dCallF, noSelf, onArgs, dats2, dIsi, tyName, dYes, dgTup, dgCons, dgNil, retB, dBreak, dCont, ne_eq, not_false_eq_true, true_and, and_true, List.getElem?_cons_zero, List.getElem?_cons_succ, List.set_cons_zero, List.set_cons_succ, Option.map, List.length_cons, List.length_nil, dLc_eq, dFor_eq, dSortSet, dSort, dListOf, dIsN, dNotN, isNo, dAug, dCatT, dSlT, onT, titems, dEnum, dZip, seqs, dRetL, dPar3, dRevT, dLstRg, dTupRg, dRg1, dRg2, dChainLe, List.nil_append, List.cons_append, if_true, if_false, dFrz, dLcO, List.map_cons, List.map_nil, fw0, fw1, fw2, fw3, fw4, fw5, fw6, fw7, fw8, fw9, fw10, fw11, fw12, fw13, fw14, fw15]
  exact hQ
set_option maxHeartbeats 4000000 in
theorem ok__law_bag {f : Addr} {fd : FuncData} (W : Fun K "_law_bag" "_law_bag" s__law_bag f fd) (T : Bi mg) :
    FnG P w K mg base CX0 1 f fd ["_law_script"] (spF K [.ro] S__law_bag) := by
  refine fnF W sc__law_bag rfl rfl fun cdv A out s H E Nn hr hgd => ⟨_, _, (pl_lst (pda_cons pd_int (pda_cons pd_int (pda_cons pd_int (pda_cons (pd_l (pl_lc (own := [("_law_cell", 1)]) rfl sc__law_bag.nd (pdi_seq (pd_l (pl_slice (pdv 0) pdo_none (pdo_some pd_int)))) (blkOk_by (own := [("_law_cell", 1)]) (N := nm__law_bag) (sc := defScope s__law_bag) (by decide +kernel)) (fun _ _ _ _ _ => (pgd_name (i := 1) sc__law_bag.nd)) (fun _ _ _ _ _ => dts_nil) (fun _ _ _ _ _ => (pd_callB call_abs sc_abs rfl T.b_abs (by decide +kernel) (pda_cons (pdv 1) pda_nil))))) pda_nil))))), ?_⟩
  exact fun xs Q hl hS => rd_bag hS
set_option maxHeartbeats 4000000 in
theorem ok__law_take {f : Addr} {fd : FuncData} (W : Fun K "_law_take" "_law_take" s__law_take f fd) (T : Bi mg) :
    FnG P w K mg base CX0 1 f fd ["_law_bag_here", "_law_many"] (spB K [.d] S__law_take) := by
  refine fnB W sc__law_take rfl fun cdv A out s H E Nn B hr hgd => ⟨_, _, (dss_cons (ds_if (pt_eq hr.units rfl (pd_ix (pdv 0) pd_int (fun _ _ => rfl)) pd_int) (dss_cons (ds_set (i := 2) sc__law_take.nd (pd_ix (pd_l (pl_cat (pd_l (pl_slice (pd_ix (pdv 0) pd_int (fun _ _ => rfl)) (pdo_some (pd_ix (pdv 0) pd_int (fun _ _ => rfl))) pdo_none)) (pd_l (pl_lst (pda_cons pd_int pda_nil))))) pd_int (fun _ _ => rfl)) (fixB (by decide)))
      (dss_cons (ds_addItem (i := 0) pd_int pd_int (ps_augS (pv 0) pe_int get_list pe_int ip_add set_list))
      (dss_cons (ds_if (pt_ge (pdv 2) (pd_pow pd_int pd_int)) (dss_one (ds_setItem (i := 0) (pdv 2) pd_int (pg_sub (pv 0) pe_int set_list))) dss_nil)
      (dss_cons (ds_set (i := 3) sc__law_take.nd (pd_add (pd_add (pd_mul (pd_ix (pdv 0) pd_int (fun _ _ => rfl)) pd_int) (pd_mod (pd_callTy call_int1 sc_int rfl T.b_int (by decide +kernel) (pda_cons (pdv 2) pda_nil)) pd_int)) (pd_mul pd_int (pd_ix (pdv 0) pd_int (fun _ _ => rfl)))) (fixB (by decide)))
      (dss_one (ds_setItem (i := 0) (pd_mod (pd_callTy call_int1 sc_int rfl T.b_int (by decide +kernel) (pda_cons (pdv 3) pda_nil)) pd_int) pd_int (pg_sub (pv 0) pe_int set_list))))))) dss_nil)
      (dss_cons (ds_if (pt_gt (pd_ix (pdv 0) pd_int (fun _ _ => rfl)) pd_int) (dss_cons (ds_set (i := 4) sc__law_take.nd (pd_mod (pd_callTy call_int1 sc_int rfl T.b_int (by decide +kernel) (pda_cons (pd_ix (pdv 0) pd_int (fun _ _ => rfl)) pda_nil)) (pdv 1)) (fixB (by decide)))
      (dss_cons (ds_setItem (i := 0) (pd_div (pd_callTy call_int1 sc_int rfl T.b_int (by decide +kernel) (pda_cons (pd_ix (pdv 0) pd_int (fun _ _ => rfl)) pda_nil)) (pdv 1)) pd_int (pg_sub (pv 0) pe_int set_list))
      (dss_one (ds_ret (pdv 4))))) dss_nil)
      (dss_cons (ds_set (i := 5) sc__law_take.nd (pd_mod (pd_callTy call_int1 sc_int rfl T.b_int (by decide +kernel) (pda_cons (pd_mul (pd_add (pd_ix (pdv 0) pd_int (fun _ _ => rfl)) pd_int) pd_int) pda_nil)) pd_int) (fixB (by decide)))
      (dss_cons (ds_set (i := 6) sc__law_take.nd (pd_mod (pd_callTy call_int1 sc_int rfl T.b_int (by decide +kernel) (pda_cons (pd_mul (pd_mod (pd_callTy call_int1 sc_int rfl T.b_int (by decide +kernel) (pda_cons (pd_mul (pdv 5) (pdv 5)) pda_nil)) pd_int) pd_int) pda_nil)) pd_int) (fixB (by decide)))
      (dss_one (ds_ret (pd_mod (pd_callTy call_int1 sc_int rfl T.b_int (by decide +kernel) (pda_cons (pd_div (pdv 6) pd_int) pda_nil)) (pdv 1)))))))), ?_⟩
  exact fun bag xs Q hl hS => rd_take hS
set_option maxHeartbeats 4000000 in
theorem ok__law_alike {f : Addr} {fd : FuncData} (W : Fun K "_law_alike" "_law_alike" s__law_alike f fd) (T : Bi mg) :
    FnG P w K mg base CX0 1 f fd ["_law_found", "_law_due"] (spP K [.ro, .ro] S__law_alike) := by
  refine fnP W sc__law_alike rfl fun cdv A out s H E Nn hr hgd => ⟨_, _, (dss_one (ds_ret (pd_and (pd_eq hr.units rfl (pdv 0) (pdv 1)) (pdn_one (pd_eqS (pd_callB (call_repr hgd hr.units) sc_repr rfl T.b_repr (by decide +kernel) (pda_cons (pdv 0) pda_nil)) (pd_callB (call_repr hgd hr.units) sc_repr rfl T.b_repr (by decide +kernel) (pda_cons (pdv 1) pda_nil))))))), ?_⟩
  exact fun xs Q hl hS => rd_alike hS
set_option maxHeartbeats 4000000 in
theorem ok__law_over {f : Addr} {fd : FuncData} (W : Fun K "_law_over" "_law_over" s__law_over f fd) (T : Bi mg) :
    FnG P w K mg base CX0 1 f fd ["_law_n", "_law_d"] (spP K [.d, .d] S__law_over) := by
  refine fnP W sc__law_over rfl fun cdv A out s H E Nn hr hgd => ⟨_, _, (dss_cons (ds_par (i := 2) (j := 3) rfl sc__law_over.nd (pda_cons (pd_callB call_abs sc_abs rfl T.b_abs (by decide +kernel) (pda_cons (pdv 0) pda_nil)) (pda_cons (pd_callB call_abs sc_abs rfl T.b_abs (by decide +kernel) (pda_cons (pdv 1) pda_nil)) pda_nil)) fixP fixP)
      (dss_cons (ds_while PassesOwn.never (pt_gt (pdv 3) pd_int) (dss_one (ds_par (i := 2) (j := 3) rfl sc__law_over.nd (pda_cons (pdv 3) (pda_cons (pd_mod (pd_callTy call_int1 sc_int rfl T.b_int (by decide +kernel) (pda_cons (pdv 2) pda_nil)) (pdv 3)) pda_nil)) fixP fixP)))
      (dss_cons (ds_set (i := 2) sc__law_over.nd (pd_ifExp (pt_gt (pdv 1) pd_int) (pdv 2) (pd_neg (pdv 2))) fixP)
      (dss_one (ds_ret (pd_tup (pda_cons (pd_divZ (pd_callTy call_int1 sc_int rfl T.b_int (by decide +kernel) (pda_cons (pdv 0) pda_nil)) (pdv 2)) (pda_cons (pd_divZ (pd_callTy call_int1 sc_int rfl T.b_int (by decide +kernel) (pda_cons (pdv 1) pda_nil)) (pdv 2)) pda_nil)))))))), ?_⟩
  clear W T hr hgd
  rintro xs Q hl ⟨⟨n, d⟩, rfl, ⟨h0, h1⟩, hQ⟩
  clear hl
  replace hQ : Q (fr (n /. d)) := hQ
  have e : rhoP nm__law_over.length [.d, .d] [.int n, .int d] = [some (.d (.int n)), some (.d (.int d)), none, none] := rfl
  rw [e]
  clear e
  simp only [dSeq, dAsg, dCB, dCons, dNil, dVar, onVs, vals, val, slot, setR, fGcd, dIfS, dTV, dOp, dBin, onV2, fLt, fLe, fGt, fGe, fAdd, fSub, fMul, fDiv, fMod, fI0, dC, dUn, onV, fNeg, dNext, dRet, dTup, onD, dats, fDivZ, fI, fPow, Few, retP, fAbs, fInt, fMax, fMin, fLen, fSqrt, fEq, fNe, dNot, dAnd, dOr, dAndV, dOrV, dNotV, dIfE, dDrop, dRetN, dPar, noO, dSetL, dLst, dOfL, dOwnM, onOwn, onDat, kAppend, kInsert, dSetItem, dAddItem, dIx, onItems, items, onInt, dNoPart, dPart, dSlice, onL, litems, dSlL, dCat, onM, mitems, dTupOf, dSeqI, dRng1, dRng2, dCallP, dCallB, dCallF, noSelf, onArgs, dats2, dIsi, tyName, dYes, dgTup, dgCons, dgNil, retB, dBreak, dCont, ne_eq, not_false_eq_true, true_and, and_true, List.getElem?_cons_zero, List.getElem?_cons_succ, List.set_cons_zero, List.set_cons_succ, Option.map, List.length_cons, List.length_nil, dLc_eq, dFor_eq, dSortSet, dSort, dListOf, dIsN, dNotN, isNo, dAug, dCatT, dSlT, onT, titems, dEnum, dZip, seqs, dRetL, dPar3, dRevT, dLstRg, dTupRg, dRg1, dRg2, dChainLe, List.nil_append, List.cons_append, if_true, if_false, dFrz, dLcO, List.map_cons, List.map_nil, fw0, fw1, fw2, fw3, fw4, fw5, fw6, fw7, fw8, fw9, fw10, fw11, fw12, fw13, fw14, fw15]
  refine ⟨fun ρ => ∃ a b : Nat, ρ = [some (.d (.int n)), some (.d (.int d)), some (.d (.int (a : Int))), some (.d (.int (b : Int)))] ∧ Nat.gcd a b = Nat.gcd n.natAbs d.natAbs, fun ρ => match ρ with
    | [_, _, _, some (.d (.int b))] => b.toNat
    | _ => 0, ⟨n.natAbs, d.natAbs, ?_, rfl⟩, ?_⟩
  · have e1 : (if n < 0 then -n else n) = (n.natAbs : Int) := by split <;> omega
    have e2 : (if d < 0 then -d else d) = (d.natAbs : Int) := by split <;> omega
    rw [e1, e2]
  rintro ρ ⟨a, b, rfl, hab⟩
  simp only [dSeq, dAsg, dCB, dCons, dNil, dVar, onVs, vals, val, slot, setR, fGcd, dIfS, dTV, dOp, dBin, onV2, fLt, fLe, fGt, fGe, fAdd, fSub, fMul, fDiv, fMod, fI0, dC, dUn, onV, fNeg, dNext, dRet, dTup, onD, dats, fDivZ, fI, fPow, Few, retP, fAbs, fInt, fMax, fMin, fLen, fSqrt, fEq, fNe, dNot, dAnd, dOr, dAndV, dOrV, dNotV, dIfE, dDrop, dRetN, dPar, noO, dSetL, dLst, dOfL, dOwnM, onOwn, onDat, kAppend, kInsert, dSetItem, dAddItem, dIx, onItems, items, onInt, dNoPart, dPart, dSlice, onL, litems, dSlL, dCat, onM, mitems, dTupOf, dSeqI, dRng1, dRng2, dCallP, dCallB, dCallF, noSelf, onArgs, dats2, dIsi, tyName, dYes, dgTup, dgCons, dgNil, retB, dBreak, dCont, ne_eq, not_false_eq_true, true_and, and_true, List.getElem?_cons_zero, List.getElem?_cons_succ, List.set_cons_zero, List.set_cons_succ, Option.map, List.length_cons, List.length_nil, dLc_eq, dFor_eq, dSortSet, dSort, dListOf, dIsN, dNotN, isNo, dAug, dCatT, dSlT, onT, titems, dEnum, dZip, seqs, dRetL, dPar3, dRevT, dLstRg, dTupRg, dRg1, dRg2, dChainLe, List.nil_append, List.cons_append, if_true, if_false, dFrz, dLcO, List.map_cons, List.map_nil, fw0, fw1, fw2, fw3, fw4, fw5, fw6, fw7, fw8, fw9, fw10, fw11, fw12, fw13, fw14, fw15]
  refine ite_b (fun hb => ?_) fun hb => ?_
  · refine ⟨hb, ⟨b, a % b, by rw [Int.natCast_emod], ?_⟩, ?_⟩
    · rw [← hab, Nat.gcd_comm b, ← Nat.gcd_rec, Nat.gcd_comm]
    · show ((a : Int) % (b : Int)).toNat < ((b : Nat) : Int).toNat
      have := Int.emod_lt_of_pos (a : Int) hb
      have := Int.emod_nonneg (a : Int) (show (b : Int) ≠ 0 by omega)
      omega
  have b0 : b = 0 := by omega
  subst b0
  rw [Nat.gcd_zero_right] at hab
  have hg := red_num (n := n) (d := d) h0 rfl
  rw [← hab] at hg
  by_cases hd : d < 0
  · rw [if_pos hd] at hg
    refine ite_f (by omega) ⟨cdz hg.2.2.1 (k := 9000) (Nat.lt_of_le_of_lt hg.2.2.2 h1), cdz hg.2.2.1 (k := 9000) (Nat.lt_of_le_of_lt hg.2.2.2 h1), ?_⟩
    rw [hg.1, hg.2.1]; exact hQ
  · rw [if_neg hd] at hg
    refine ite_t (by omega) ⟨cdz hg.2.2.1 (k := 9000) (Nat.lt_of_le_of_lt hg.2.2.2 h1), cdz hg.2.2.1 (k := 9000) (Nat.lt_of_le_of_lt hg.2.2.2 h1), ?_⟩
    rw [hg.1, hg.2.1]; exact hQ
set_option maxHeartbeats 4000000 in
theorem ok__law_is_below {f : Addr} {fd : FuncData} (W : Fun K "_law_is_below" "_law_is_below" s__law_is_below f fd) (T : Bi mg) :
    FnG P w K mg base CX0 1 f fd ["_law_x", "_law_y"] (spP K [.d, .d] S__law_is_below) := by
  refine fnP W sc__law_is_below rfl fun cdv A out s H E Nn hr hgd => ⟨_, _, (dss_one (ds_ret (pd_lt (pd_mul (pd_ix (pdv 0) pd_int (fun _ _ => rfl)) (pd_ix (pdv 1) pd_int (fun _ _ => rfl))) (pd_mul (pd_ix (pdv 1) pd_int (fun _ _ => rfl)) (pd_ix (pdv 0) pd_int (fun _ _ => rfl)))))), ?_⟩
  clear W T hr hgd
  rintro xs Q hl ⟨⟨p, r, j, k⟩, rfl, ⟨h0, h1, h2⟩, hQ⟩
  clear hl
  replace hQ : Q (.bool (decide (p < r))) := hQ
  have e : rhoP nm__law_is_below.length [.d, .d] [fr p, fr r] = [some (.d (fr p)), some (.d (fr r))] := rfl
  rw [e]
  clear e
  simp only [dSeq, dAsg, dCB, dCons, dNil, dVar, onVs, vals, val, slot, setR, fGcd, dIfS, dTV, dOp, dBin, onV2, fLt, fLe, fGt, fGe, fAdd, fSub, fMul, fDiv, fMod, fI0, dC, dUn, onV, fNeg, dNext, dRet, dTup, onD, dats, fDivZ, fI, fPow, Few, retP, fAbs, fInt, fMax, fMin, fLen, fSqrt, fEq, fNe, dNot, dAnd, dOr, dAndV, dOrV, dNotV, dIfE, dDrop, dRetN, dPar, noO, dSetL, dLst, dOfL, dOwnM, onOwn, onDat, kAppend, kInsert, dSetItem, dAddItem, dIx, onItems, items, onInt, dNoPart, dPart, dSlice, onL, litems, dSlL, dCat, onM, mitems, dTupOf, dSeqI, dRng1, dRng2, dCallP, dCallB, dCallF, noSelf, onArgs, dats2, dIsi, tyName, dYes, dgTup, dgCons, dgNil, retB, dBreak, dCont, ne_eq, not_false_eq_true, true_and, and_true, List.getElem?_cons_zero, List.getElem?_cons_succ, List.set_cons_zero, List.set_cons_succ, Option.map, List.length_cons, List.length_nil, dLc_eq, dFor_eq, dSortSet, dSort, dListOf, dIsN, dNotN, isNo, dAug, dCatT, dSlT, onT, titems, dEnum, dZip, seqs, dRetL, dPar3, dRevT, dLstRg, dTupRg, dRg1, dRg2, dChainLe, List.nil_append, List.cons_append, if_true, if_false, dFrz, dLcO, List.map_cons, List.map_nil, fw0, fw1, fw2, fw3, fw4, fw5, fw6, fw7, fw8, fw9, fw10, fw11, fw12, fw13, fw14, fw15, fr, on0, on1]
  refine ⟨cmb h0.n h1.d (by omega), cmb h1.n h0.d (by omega), ?_⟩
  rw [decide_eq_decide.mpr lt_fr]; exact hQ
set_option maxHeartbeats 4000000 in
theorem ok__law_least_diagonal {f : Addr} {fd : FuncData} (W : Fun K "_law_least_diagonal" "_law_least_diagonal" s__law_least_diagonal f fd) (T : Bi mg) :
    FnG P w K mg base CX0 1 f fd ["_law_spacing"] (spP K [.d] S__law_least_diagonal) := by
  refine fnP W sc__law_least_diagonal rfl fun cdv A out s H E Nn hr hgd => ⟨_, _, (dss_cons (ds_set (i := 1) sc__law_least_diagonal.nd pd_int fixP)
      (dss_cons (ds_for PassesOwn.never rfl (pdi_range1 rfl T.b_range (pda_cons (pd_add (pd_mul pd_int (pdv 0)) pd_int) pda_nil)) (pgd_name (i := 2) sc__law_least_diagonal.nd) (dss_one (ds_if (pt_lt (pd_mul (pd_mul pd_int (pdv 1)) (pdv 1)) (pd_mul (pdv 0) (pdv 0))) (dss_one (ds_aug (i := 1) sc__law_least_diagonal.nd pd_int ip_add fixP)) dss_nil)) nofixP)
      (dss_one (ds_ret (pdv 1))))), ?_⟩
  clear W T hr hgd
  rintro xs Q hl ⟨sp, rfl, ⟨h0, h1⟩, hQ⟩
  clear hl
  replace hQ : ∀ z, (∃ d : Int, z = .int d ∧ 0 ≤ d ∧ d ≤ 2 * sp + 2) → Q z   := hQ
  have e : rhoP nm__law_least_diagonal.length [.d] [.int sp] = [some (.d (.int sp)), none, none] := rfl
  rw [e]
  clear e
  refine seqI fun kk hk => ?_
  simp only [dSeq, dAsg, dCB, dCons, dNil, dVar, onVs, vals, val, slot, setR, fGcd, dIfS, dTV, dOp, dBin, onV2, fLt, fLe, fGt, fGe, fAdd, fSub, fMul, fDiv, fMod, fI0, dC, dUn, onV, fNeg, dNext, dRet, dTup, onD, dats, fDivZ, fI, fPow, Few, retP, fAbs, fInt, fMax, fMin, fLen, fSqrt, fEq, fNe, dNot, dAnd, dOr, dAndV, dOrV, dNotV, dIfE, dDrop, dRetN, dPar, noO, dSetL, dLst, dOfL, dOwnM, onOwn, onDat, kAppend, kInsert, dSetItem, dAddItem, dIx, onItems, items, onInt, dNoPart, dPart, dSlice, onL, litems, dSlL, dCat, onM, mitems, dTupOf, dSeqI, dRng1, dRng2, dCallP, dCallB, dCallF, noSelf, onArgs, dats2, dIsi, tyName, dYes, dgTup, dgCons, dgNil, retB, dBreak, dCont, ne_eq, not_false_eq_true, true_and, and_true, List.getElem?_cons_zero, List.getElem?_cons_succ, List.set_cons_zero, List.set_cons_succ, Option.map, List.length_cons, List.length_nil, dLc_eq, dFor_eq, dSortSet, dSort, dListOf, dIsN, dNotN, isNo, dAug, dCatT, dSlT, onT, titems, dEnum, dZip, seqs, dRetL, dPar3, dRevT, dLstRg, dTupRg, dRg1, dRg2, dChainLe, List.nil_append, List.cons_append, if_true, if_false, dFrz, dLcO, List.map_cons, List.map_nil, fw0, fw1, fw2, fw3, fw4, fw5, fw6, fw7, fw8, fw9, fw10, fw11, fw12, fw13, fw14, fw15]
  rw [hk]
  refine seqI fun k2 hk2 => ?_
  simp only [dSeq, dAsg, dCB, dCons, dNil, dVar, onVs, vals, val, slot, setR, fGcd, dIfS, dTV, dOp, dBin, onV2, fLt, fLe, fGt, fGe, fAdd, fSub, fMul, fDiv, fMod, fI0, dC, dUn, onV, fNeg, dNext, dRet, dTup, onD, dats, fDivZ, fI, fPow, Few, retP, fAbs, fInt, fMax, fMin, fLen, fSqrt, fEq, fNe, dNot, dAnd, dOr, dAndV, dOrV, dNotV, dIfE, dDrop, dRetN, dPar, noO, dSetL, dLst, dOfL, dOwnM, onOwn, onDat, kAppend, kInsert, dSetItem, dAddItem, dIx, onItems, items, onInt, dNoPart, dPart, dSlice, onL, litems, dSlL, dCat, onM, mitems, dTupOf, dSeqI, dRng1, dRng2, dCallP, dCallB, dCallF, noSelf, onArgs, dats2, dIsi, tyName, dYes, dgTup, dgCons, dgNil, retB, dBreak, dCont, ne_eq, not_false_eq_true, true_and, and_true, List.getElem?_cons_zero, List.getElem?_cons_succ, List.set_cons_zero, List.set_cons_succ, Option.map, List.length_cons, List.length_nil, dLc_eq, dFor_eq, dSortSet, dSort, dListOf, dIsN, dNotN, isNo, dAug, dCatT, dSlT, onT, titems, dEnum, dZip, seqs, dRetL, dPar3, dRevT, dLstRg, dTupRg, dRg1, dRg2, dChainLe, List.nil_append, List.cons_append, if_true, if_false, dFrz, dLcO, List.map_cons, List.map_nil, fw0, fw1, fw2, fw3, fw4, fw5, fw6, fw7, fw8, fw9, fw10, fw11, fw12, fw13, fw14, fw15]
  refine ⟨cmb (j := 2) (k := 10) (by unfold Bd; decide) (bd_of 1000 (by omega) (by omega)), ⟨by omega, by omega⟩, ?_⟩
  refine for_rng (S := Int × Option Ent) 0 _ (fun z => [some (.d (.int sp)), some (.d (.int z.1)), z.2]) (fun i z => 0 ≤ z.1 ∧ z.1 ≤ i) (0, none) rfl ⟨by omega, by omega⟩ (fun i z hi hI C hC => ?_) fun z hz => ?_
  · obtain ⟨a0, a1⟩ := hI
    simp only [dSeq, dAsg, dCB, dCons, dNil, dVar, onVs, vals, val, slot, setR, fGcd, dIfS, dTV, dOp, dBin, onV2, fLt, fLe, fGt, fGe, fAdd, fSub, fMul, fDiv, fMod, fI0, dC, dUn, onV, fNeg, dNext, dRet, dTup, onD, dats, fDivZ, fI, fPow, Few, retP, fAbs, fInt, fMax, fMin, fLen, fSqrt, fEq, fNe, dNot, dAnd, dOr, dAndV, dOrV, dNotV, dIfE, dDrop, dRetN, dPar, noO, dSetL, dLst, dOfL, dOwnM, onOwn, onDat, kAppend, kInsert, dSetItem, dAddItem, dIx, onItems, items, onInt, dNoPart, dPart, dSlice, onL, litems, dSlL, dCat, onM, mitems, dTupOf, dSeqI, dRng1, dRng2, dCallP, dCallB, dCallF, noSelf, onArgs, dats2, dIsi, tyName, dYes, dgTup, dgCons, dgNil, retB, dBreak, dCont, ne_eq, not_false_eq_true, true_and, and_true, List.getElem?_cons_zero, List.getElem?_cons_succ, List.set_cons_zero, List.set_cons_succ, Option.map, List.length_cons, List.length_nil, dLc_eq, dFor_eq, dSortSet, dSort, dListOf, dIsN, dNotN, isNo, dAug, dCatT, dSlT, onT, titems, dEnum, dZip, seqs, dRetL, dPar3, dRevT, dLstRg, dTupRg, dRg1, dRg2, dChainLe, List.nil_append, List.cons_append, if_true, if_false, dFrz, dLcO, List.map_cons, List.map_nil, fw0, fw1, fw2, fw3, fw4, fw5, fw6, fw7, fw8, fw9, fw10, fw11, fw12, fw13, fw14, fw15]
    have hz : Bd 12 z.1 := bd_of 3000 (by omega) (by omega)
    have hs : Bd 10 sp := bd_of 1000 (by omega) (by omega)
    have b2 : Bd 2 2 := by unfold Bd; decide
    refine ⟨cmb b2 hz, cmb (b2.mul hz) hz, cmb hs hs, ite_b (fun h => hC (z.1 + 1, some (.d (.int (0 + (i : Int))))) ⟨by show 0 ≤ z.1 + 1; omega, by show z.1 + 1 ≤ ((i + 1 : Nat) : Int); omega⟩) fun h => hC (z.1, some (.d (.int (0 + (i : Int))))) ⟨a0, by show z.1 ≤ ((i + 1 : Nat) : Int); omega⟩⟩
  · rw [hk2]
    simp only [dSeq, dAsg, dCB, dCons, dNil, dVar, onVs, vals, val, slot, setR, fGcd, dIfS, dTV, dOp, dBin, onV2, fLt, fLe, fGt, fGe, fAdd, fSub, fMul, fDiv, fMod, fI0, dC, dUn, onV, fNeg, dNext, dRet, dTup, onD, dats, fDivZ, fI, fPow, Few, retP, fAbs, fInt, fMax, fMin, fLen, fSqrt, fEq, fNe, dNot, dAnd, dOr, dAndV, dOrV, dNotV, dIfE, dDrop, dRetN, dPar, noO, dSetL, dLst, dOfL, dOwnM, onOwn, onDat, kAppend, kInsert, dSetItem, dAddItem, dIx, onItems, items, onInt, dNoPart, dPart, dSlice, onL, litems, dSlL, dCat, onM, mitems, dTupOf, dSeqI, dRng1, dRng2, dCallP, dCallB, dCallF, noSelf, onArgs, dats2, dIsi, tyName, dYes, dgTup, dgCons, dgNil, retB, dBreak, dCont, ne_eq, not_false_eq_true, true_and, and_true, List.getElem?_cons_zero, List.getElem?_cons_succ, List.set_cons_zero, List.set_cons_succ, Option.map, List.length_cons, List.length_nil, dLc_eq, dFor_eq, dSortSet, dSort, dListOf, dIsN, dNotN, isNo, dAug, dCatT, dSlT, onT, titems, dEnum, dZip, seqs, dRetL, dPar3, dRevT, dLstRg, dTupRg, dRg1, dRg2, dChainLe, List.nil_append, List.cons_append, if_true, if_false, dFrz, dLcO, List.map_cons, List.map_nil, fw0, fw1, fw2, fw3, fw4, fw5, fw6, fw7, fw8, fw9, fw10, fw11, fw12, fw13, fw14, fw15]
    exact hQ _ ⟨_, rfl, hz.1, by omega⟩
set_option maxHeartbeats 4000000 in
theorem ok_added {f : Addr} {fd : FuncData} (W : Fun K "added" "added" s_added f fd) (T : Bi mg)
    {f_reduced : Addr} {fd_reduced : FuncData} (G_reduced : FnG P w K mg base CX0 1 f_reduced fd_reduced ["n", "d"] (spP K [.d, .d] S_reduced)) (g_reduced : mg "reduced" = some (.ref f_reduced)) (k_reduced : PySem.W.keepIn K (.ref f_reduced) = true) (b_reduced : Binds K fd_reduced ["n", "d"] []) :
    FnG P w K mg base CX0 2 f fd ["one", "other"] (spP K [.d, .d] S_added) := by
  refine fnP W sc_added rfl fun cdv A out s H E Nn hr hgd => ⟨_, _, (dss_one (ds_ret (pd_callP G_reduced m_reduced (hr.mono (by decide)) hgd rfl g_reduced k_reduced b_reduced (pda_cons (pd_add (pd_mul (pd_ix (pdv 0) pd_int (fun _ _ => rfl)) (pd_ix (pdv 1) pd_int (fun _ _ => rfl))) (pd_mul (pd_ix (pdv 1) pd_int (fun _ _ => rfl)) (pd_ix (pdv 0) pd_int (fun _ _ => rfl)))) (pda_cons (pd_mul (pd_ix (pdv 0) pd_int (fun _ _ => rfl)) (pd_ix (pdv 1) pd_int (fun _ _ => rfl))) pda_nil))))), ?_⟩
  clear W T hr hgd G_reduced g_reduced k_reduced b_reduced f_reduced fd_reduced
  rintro xs Q hl ⟨⟨p, q, j, k⟩, rfl, ⟨h0, h1, h2⟩, hQ⟩
  clear hl
  replace hQ : Q (fr (p + q)) := hQ
  have e : rhoP nm_added.length [.d, .d] [fr p, fr q] = [some (.d (fr p)), some (.d (fr q))] := rfl
  rw [e]
  clear e
  simp only [dSeq, dAsg, dCB, dCons, dNil, dVar, onVs, vals, val, slot, setR, fGcd, dIfS, dTV, dOp, dBin, onV2, fLt, fLe, fGt, fGe, fAdd, fSub, fMul, fDiv, fMod, fI0, dC, dUn, onV, fNeg, dNext, dRet, dTup, onD, dats, fDivZ, fI, fPow, Few, retP, fAbs, fInt, fMax, fMin, fLen, fSqrt, fEq, fNe, dNot, dAnd, dOr, dAndV, dOrV, dNotV, dIfE, dDrop, dRetN, dPar, noO, dSetL, dLst, dOfL, dOwnM, onOwn, onDat, kAppend, kInsert, dSetItem, dAddItem, dIx, onItems, items, onInt, dNoPart, dPart, dSlice, onL, litems, dSlL, dCat, onM, mitems, dTupOf, dSeqI, dRng1, dRng2, dCallP, dCallB, dCallF, noSelf, onArgs, dats2, dIsi, tyName, dYes, dgTup, dgCons, dgNil, retB, dBreak, dCont, ne_eq, not_false_eq_true, true_and, and_true, List.getElem?_cons_zero, List.getElem?_cons_succ, List.set_cons_zero, List.set_cons_succ, Option.map, List.length_cons, List.length_nil, dLc_eq, dFor_eq, dSortSet, dSort, dListOf, dIsN, dNotN, isNo, dAug, dCatT, dSlT, onT, titems, dEnum, dZip, seqs, dRetL, dPar3, dRevT, dLstRg, dTupRg, dRg1, dRg2, dChainLe, List.nil_append, List.cons_append, if_true, if_false, dFrz, dLcO, List.map_cons, List.map_nil, fw0, fw1, fw2, fw3, fw4, fw5, fw6, fw7, fw8, fw9, fw10, fw11, fw12, fw13, fw14, fw15, fr, on0, on1]
  refine ⟨cmb h0.n h1.d (by omega), cmb h1.n h0.d (by omega), cmb h0.d h1.d (by omega), u_reduced (dd_ne p q) ((h0.d.mul h1.d).up h2) ?_⟩
  rw [← add_ndi]; exact hQ
set_option maxHeartbeats 4000000 in
theorem ok_lessened {f : Addr} {fd : FuncData} (W : Fun K "lessened" "lessened" s_lessened f fd) (T : Bi mg)
    {f_reduced : Addr} {fd_reduced : FuncData} (G_reduced : FnG P w K mg base CX0 1 f_reduced fd_reduced ["n", "d"] (spP K [.d, .d] S_reduced)) (g_reduced : mg "reduced" = some (.ref f_reduced)) (k_reduced : PySem.W.keepIn K (.ref f_reduced) = true) (b_reduced : Binds K fd_reduced ["n", "d"] []) :
    FnG P w K mg base CX0 2 f fd ["one", "other"] (spP K [.d, .d] S_lessened) := by
  refine fnP W sc_lessened rfl fun cdv A out s H E Nn hr hgd => ⟨_, _, (dss_one (ds_ret (pd_callP G_reduced m_reduced (hr.mono (by decide)) hgd rfl g_reduced k_reduced b_reduced (pda_cons (pd_sub (pd_mul (pd_ix (pdv 0) pd_int (fun _ _ => rfl)) (pd_ix (pdv 1) pd_int (fun _ _ => rfl))) (pd_mul (pd_ix (pdv 1) pd_int (fun _ _ => rfl)) (pd_ix (pdv 0) pd_int (fun _ _ => rfl)))) (pda_cons (pd_mul (pd_ix (pdv 0) pd_int (fun _ _ => rfl)) (pd_ix (pdv 1) pd_int (fun _ _ => rfl))) pda_nil))))), ?_⟩
  clear W T hr hgd G_reduced g_reduced k_reduced b_reduced f_reduced fd_reduced
  rintro xs Q hl ⟨⟨p, q, j, k⟩, rfl, ⟨h0, h1, h2⟩, hQ⟩
  clear hl
  replace hQ : Q (fr (p - q)) := hQ
  have e : rhoP nm_lessened.length [.d, .d] [fr p, fr q] = [some (.d (fr p)), some (.d (fr q))] := rfl
  rw [e]
  clear e
  simp only [dSeq, dAsg, dCB, dCons, dNil, dVar, onVs, vals, val, slot, setR, fGcd, dIfS, dTV, dOp, dBin, onV2, fLt, fLe, fGt, fGe, fAdd, fSub, fMul, fDiv, fMod, fI0, dC, dUn, onV, fNeg, dNext, dRet, dTup, onD, dats, fDivZ, fI, fPow, Few, retP, fAbs, fInt, fMax, fMin, fLen, fSqrt, fEq, fNe, dNot, dAnd, dOr, dAndV, dOrV, dNotV, dIfE, dDrop, dRetN, dPar, noO, dSetL, dLst, dOfL, dOwnM, onOwn, onDat, kAppend, kInsert, dSetItem, dAddItem, dIx, onItems, items, onInt, dNoPart, dPart, dSlice, onL, litems, dSlL, dCat, onM, mitems, dTupOf, dSeqI, dRng1, dRng2, dCallP, dCallB, dCallF, noSelf, onArgs, dats2, dIsi, tyName, dYes, dgTup, dgCons, dgNil, retB, dBreak, dCont, ne_eq, not_false_eq_true, true_and, and_true, List.getElem?_cons_zero, List.getElem?_cons_succ, List.set_cons_zero, List.set_cons_succ, Option.map, List.length_cons, List.length_nil, dLc_eq, dFor_eq, dSortSet, dSort, dListOf, dIsN, dNotN, isNo, dAug, dCatT, dSlT, onT, titems, dEnum, dZip, seqs, dRetL, dPar3, dRevT, dLstRg, dTupRg, dRg1, dRg2, dChainLe, List.nil_append, List.cons_append, if_true, if_false, dFrz, dLcO, List.map_cons, List.map_nil, fw0, fw1, fw2, fw3, fw4, fw5, fw6, fw7, fw8, fw9, fw10, fw11, fw12, fw13, fw14, fw15, fr, on0, on1]
  refine ⟨cmb h0.n h1.d (by omega), cmb h1.n h0.d (by omega), cmb h0.d h1.d (by omega), u_reduced (dd_ne p q) ((h0.d.mul h1.d).up h2) ?_⟩
  rw [← sub_ndi]; exact hQ
set_option maxHeartbeats 4000000 in
theorem ok_times {f : Addr} {fd : FuncData} (W : Fun K "times" "times" s_times f fd) (T : Bi mg)
    {f_reduced : Addr} {fd_reduced : FuncData} (G_reduced : FnG P w K mg base CX0 1 f_reduced fd_reduced ["n", "d"] (spP K [.d, .d] S_reduced)) (g_reduced : mg "reduced" = some (.ref f_reduced)) (k_reduced : PySem.W.keepIn K (.ref f_reduced) = true) (b_reduced : Binds K fd_reduced ["n", "d"] []) :
    FnG P w K mg base CX0 2 f fd ["one", "other"] (spP K [.d, .d] S_times) := by
  refine fnP W sc_times rfl fun cdv A out s H E Nn hr hgd => ⟨_, _, (dss_one (ds_ret (pd_callP G_reduced m_reduced (hr.mono (by decide)) hgd rfl g_reduced k_reduced b_reduced (pda_cons (pd_mul (pd_ix (pdv 0) pd_int (fun _ _ => rfl)) (pd_ix (pdv 1) pd_int (fun _ _ => rfl))) (pda_cons (pd_mul (pd_ix (pdv 0) pd_int (fun _ _ => rfl)) (pd_ix (pdv 1) pd_int (fun _ _ => rfl))) pda_nil))))), ?_⟩
  clear W T hr hgd G_reduced g_reduced k_reduced b_reduced f_reduced fd_reduced
  rintro xs Q hl ⟨⟨p, q, j, k⟩, rfl, ⟨h0, h1, h2⟩, hQ⟩
  clear hl
  replace hQ : Q (fr (p * q)) := hQ
  have e : rhoP nm_times.length [.d, .d] [fr p, fr q] = [some (.d (fr p)), some (.d (fr q))] := rfl
  rw [e]
  clear e
  simp only [dSeq, dAsg, dCB, dCons, dNil, dVar, onVs, vals, val, slot, setR, fGcd, dIfS, dTV, dOp, dBin, onV2, fLt, fLe, fGt, fGe, fAdd, fSub, fMul, fDiv, fMod, fI0, dC, dUn, onV, fNeg, dNext, dRet, dTup, onD, dats, fDivZ, fI, fPow, Few, retP, fAbs, fInt, fMax, fMin, fLen, fSqrt, fEq, fNe, dNot, dAnd, dOr, dAndV, dOrV, dNotV, dIfE, dDrop, dRetN, dPar, noO, dSetL, dLst, dOfL, dOwnM, onOwn, onDat, kAppend, kInsert, dSetItem, dAddItem, dIx, onItems, items, onInt, dNoPart, dPart, dSlice, onL, litems, dSlL, dCat, onM, mitems, dTupOf, dSeqI, dRng1, dRng2, dCallP, dCallB, dCallF, noSelf, onArgs, dats2, dIsi, tyName, dYes, dgTup, dgCons, dgNil, retB, dBreak, dCont, ne_eq, not_false_eq_true, true_and, and_true, List.getElem?_cons_zero, List.getElem?_cons_succ, List.set_cons_zero, List.set_cons_succ, Option.map, List.length_cons, List.length_nil, dLc_eq, dFor_eq, dSortSet, dSort, dListOf, dIsN, dNotN, isNo, dAug, dCatT, dSlT, onT, titems, dEnum, dZip, seqs, dRetL, dPar3, dRevT, dLstRg, dTupRg, dRg1, dRg2, dChainLe, List.nil_append, List.cons_append, if_true, if_false, dFrz, dLcO, List.map_cons, List.map_nil, fw0, fw1, fw2, fw3, fw4, fw5, fw6, fw7, fw8, fw9, fw10, fw11, fw12, fw13, fw14, fw15, fr, on0, on1]
  refine ⟨cmb h0.n h1.n (by omega), cmb h0.d h1.d (by omega), u_reduced (dd_ne p q) ((h0.d.mul h1.d).up h2) ?_⟩
  rw [← mul_ndi]; exact hQ
set_option maxHeartbeats 4000000 in
theorem ok_place_on {f : Addr} {fd : FuncData} (W : Fun K "place_on" "place_on" s_place_on f fd) (T : Bi mg)
    {f_reduced : Addr} {fd_reduced : FuncData} (G_reduced : FnG P w K mg base CX0 1 f_reduced fd_reduced ["n", "d"] (spP K [.d, .d] S_reduced)) (g_reduced : mg "reduced" = some (.ref f_reduced)) (k_reduced : PySem.W.keepIn K (.ref f_reduced) = true) (b_reduced : Binds K fd_reduced ["n", "d"] []) :
    FnG P w K mg base CX0 2 f fd ["leg", "s"] (spP K [.d, .d] S_place_on) := by
  refine fnP W sc_place_on rfl fun cdv A out s H E Nn hr hgd => ⟨_, _, (dss_cons (ds_asg (pdv 1) (pgd_tup (n := 2) rfl (pgds_cons (pgd_name (i := 2) sc_place_on.nd) (pgds_cons (pgd_name (i := 3) sc_place_on.nd) pgds_nil))) nofixP)
      (dss_cons (ds_asg (pdv 0) (pgd_tup (n := 2) rfl (pgds_cons (pgd_tup (n := 2) rfl (pgds_cons (pgd_name (i := 4) sc_place_on.nd) (pgds_cons (pgd_name (i := 5) sc_place_on.nd) pgds_nil))) (pgds_cons (pgd_tup (n := 2) rfl (pgds_cons (pgd_name (i := 6) sc_place_on.nd) (pgds_cons (pgd_name (i := 7) sc_place_on.nd) pgds_nil))) pgds_nil))) nofixP)
      (dss_one (ds_ret (pd_tup (pda_cons (pd_callP G_reduced m_reduced (hr.mono (by decide)) hgd rfl g_reduced k_reduced b_reduced (pda_cons (pd_add (pd_mul (pd_sub (pdv 3) (pdv 2)) (pdv 4)) (pd_mul (pdv 2) (pdv 6))) (pda_cons (pdv 3) pda_nil))) (pda_cons (pd_callP G_reduced m_reduced (hr.mono (by decide)) hgd rfl g_reduced k_reduced b_reduced (pda_cons (pd_add (pd_mul (pd_sub (pdv 3) (pdv 2)) (pdv 5)) (pd_mul (pdv 2) (pdv 7))) (pda_cons (pdv 3) pda_nil))) pda_nil))))))), ?_⟩
  clear W T hr hgd G_reduced g_reduced k_reduced b_reduced f_reduced fd_reduced
  rintro xs Q hl ⟨⟨l, s, j, k⟩, rfl, ⟨h0, h1, h2, h3⟩, hQ⟩
  clear hl
  replace hQ : Q (.tuple [fr (px l s), fr (py l s)]) := hQ
  have e : rhoP nm_place_on.length [.d, .d] [eL l, fr s] = [some (.d (eL l)), some (.d (fr s)), none, none, none, none, none, none] := rfl
  rw [e]
  clear e
  simp only [dSeq, dAsg, dCB, dCons, dNil, dVar, onVs, vals, val, slot, setR, fGcd, dIfS, dTV, dOp, dBin, onV2, fLt, fLe, fGt, fGe, fAdd, fSub, fMul, fDiv, fMod, fI0, dC, dUn, onV, fNeg, dNext, dRet, dTup, onD, dats, fDivZ, fI, fPow, Few, retP, fAbs, fInt, fMax, fMin, fLen, fSqrt, fEq, fNe, dNot, dAnd, dOr, dAndV, dOrV, dNotV, dIfE, dDrop, dRetN, dPar, noO, dSetL, dLst, dOfL, dOwnM, onOwn, onDat, kAppend, kInsert, dSetItem, dAddItem, dIx, onItems, items, onInt, dNoPart, dPart, dSlice, onL, litems, dSlL, dCat, onM, mitems, dTupOf, dSeqI, dRng1, dRng2, dCallP, dCallB, dCallF, noSelf, onArgs, dats2, dIsi, tyName, dYes, dgTup, dgCons, dgNil, retB, dBreak, dCont, ne_eq, not_false_eq_true, true_and, and_true, List.getElem?_cons_zero, List.getElem?_cons_succ, List.set_cons_zero, List.set_cons_succ, Option.map, List.length_cons, List.length_nil, dLc_eq, dFor_eq, dSortSet, dSort, dListOf, dIsN, dNotN, isNo, dAug, dCatT, dSlT, onT, titems, dEnum, dZip, seqs, dRetL, dPar3, dRevT, dLstRg, dTupRg, dRg1, dRg2, dChainLe, List.nil_append, List.cons_append, if_true, if_false, dFrz, dLcO, List.map_cons, List.map_nil, fw0, fw1, fw2, fw3, fw4, fw5, fw6, fw7, fw8, fw9, fw10, fw11, fw12, fw13, fw14, fw15, eL, pr, fr]
  have hd := Int.ne_of_gt (den_pos s)
  have b1 := h1.d.sub1 h1.n
  refine ⟨cmb b1 h0.ax (by omega), cmb h1.n h0.bx (by omega), u_reduced hd (h1.d.up (by omega)) ⟨cmb b1 h0.ay (by omega), cmb h1.n h0.by' (by omega), u_reduced hd (h1.d.up (by omega)) ?_⟩⟩
  have e : ∀ x y : Int, (((s.den : Int) - s.num) * x + s.num * y) /. (s.den : Int) = (x : Rat) + s * ((y - x : Int) : Rat) := fun x y => by
    have hn := rat_ne hd
    symm
    refine divInt_of hd ?_
    have es := mul_den s
    simp only [Rat.intCast_add, Rat.intCast_sub, Rat.intCast_mul]
    grind
  rw [e, e]
  exact hQ
set_option maxHeartbeats 4000000 in
theorem ok_corners_of {f : Addr} {fd : FuncData} (W : Fun K "corners_of" "corners_of" s_corners_of f fd) (T : Bi mg)
    {f_reduced : Addr} {fd_reduced : FuncData} (G_reduced : FnG P w K mg base CX0 1 f_reduced fd_reduced ["n", "d"] (spP K [.d, .d] S_reduced)) (g_reduced : mg "reduced" = some (.ref f_reduced)) (k_reduced : PySem.W.keepIn K (.ref f_reduced) = true) (b_reduced : Binds K fd_reduced ["n", "d"] [])
    {f__corners_around : Addr} {fd__corners_around : FuncData} (G__corners_around : FnG P w K mg base CX0 1 f__corners_around fd__corners_around ["rho"] (spP K [.d] S__corners_around)) (g__corners_around : mg "_corners_around" = some (.ref f__corners_around)) (k__corners_around : PySem.W.keepIn K (.ref f__corners_around) = true) (b__corners_around : Binds K fd__corners_around ["rho"] []) :
    FnG P w K mg base CX0 2 f fd ["rho"] (spP K [.d] S_corners_of) := by
  refine fnP W sc_corners_of rfl fun cdv A out s H E Nn hr hgd => ⟨_, _, (dss_cons (ds_set (i := 1) sc_corners_of.nd (pd_ix (pdv 0) pd_int (fun _ _ => rfl)) fixP)
      (dss_one (ds_ret (pd_tupleOf rfl T.b_tuple (pda_cons (pd_l (pl_lc (own := [("s", 2), ("t", 3)]) rfl sc_corners_of.nd (pdi_seq (pd_l (pl_sortSet rfl hr.units rfl T.b_sorted rfl T.b_set (pda_cons (pd_callP G__corners_around m__corners_around (hr.mono (by decide)) hgd rfl g__corners_around k__corners_around b__corners_around (pda_cons (pdv 0) pda_nil)) pda_nil)))) (blkOk_by (own := [("s", 2), ("t", 3)]) (N := nm_corners_of) (sc := defScope s_corners_of) (by decide +kernel)) (fun _ _ _ _ _ => (pgd_tup (n := 2) rfl (pgds_cons (pgd_name (i := 2) sc_corners_of.nd) (pgds_cons (pgd_name (i := 3) sc_corners_of.nd) pgds_nil)))) (fun _ _ _ _ _ => dts_nil) (fun _ _ _ _ _ => (pd_tup (pda_cons (pd_callP G_reduced m_reduced (hr.mono (by decide)) hgd rfl g_reduced k_reduced b_reduced (pda_cons (pdv 2) (pda_cons (pdv 1) pda_nil))) (pda_cons (pd_callP G_reduced m_reduced (hr.mono (by decide)) hgd rfl g_reduced k_reduced b_reduced (pda_cons (pdv 3) (pda_cons (pdv 1) pda_nil))) pda_nil)))))) pda_nil))))), ?_⟩
  clear W T hr hgd G_reduced g_reduced k_reduced b_reduced f_reduced fd_reduced G__corners_around g__corners_around k__corners_around b__corners_around f__corners_around fd__corners_around
  rintro xs Q hl ⟨⟨rho, k⟩, rfl, ⟨h0, h1⟩, hQ⟩
  clear hl
  replace hQ : ∀ z, (∃ qs, SortdS (cpairs rho.num rho.den) qs ∧ z = .tuple ((qs.map (toCn rho.den)).map pf)) → Q z   := hQ
  have e : rhoP nm_corners_of.length [.d] [fr rho] = [some (.d (fr rho)), none, none, none] := rfl
  rw [e]
  clear e
  simp only [dSeq, dAsg, dCB, dCons, dNil, dVar, onVs, vals, val, slot, setR, fGcd, dIfS, dTV, dOp, dBin, onV2, fLt, fLe, fGt, fGe, fAdd, fSub, fMul, fDiv, fMod, fI0, dC, dUn, onV, fNeg, dNext, dRet, dTup, onD, dats, fDivZ, fI, fPow, Few, retP, fAbs, fInt, fMax, fMin, fLen, fSqrt, fEq, fNe, dNot, dAnd, dOr, dAndV, dOrV, dNotV, dIfE, dDrop, dRetN, dPar, noO, dSetL, dLst, dOfL, dOwnM, onOwn, onDat, kAppend, kInsert, dSetItem, dAddItem, dIx, onItems, items, onInt, dNoPart, dPart, dSlice, onL, litems, dSlL, dCat, onM, mitems, dTupOf, dSeqI, dRng1, dRng2, dCallP, dCallB, dCallF, noSelf, onArgs, dats2, dIsi, tyName, dYes, dgTup, dgCons, dgNil, retB, dBreak, dCont, ne_eq, not_false_eq_true, true_and, and_true, List.getElem?_cons_zero, List.getElem?_cons_succ, List.set_cons_zero, List.set_cons_succ, Option.map, List.length_cons, List.length_nil, dLc_eq, dFor_eq, dSortSet, dSort, dListOf, dIsN, dNotN, isNo, dAug, dCatT, dSlT, onT, titems, dEnum, dZip, seqs, dRetL, dPar3, dRevT, dLstRg, dTupRg, dRg1, dRg2, dChainLe, List.nil_append, List.cons_append, if_true, if_false, dFrz, dLcO, List.map_cons, List.map_nil, fw0, fw1, fw2, fw3, fw4, fw5, fw6, fw7, fw8, fw9, fw10, fw11, fw12, fw13, fw14, fw15, fr, on0, on1]
  refine u__corners_around ?_
  simp only [dSeq, dAsg, dCB, dCons, dNil, dVar, onVs, vals, val, slot, setR, fGcd, dIfS, dTV, dOp, dBin, onV2, fLt, fLe, fGt, fGe, fAdd, fSub, fMul, fDiv, fMod, fI0, dC, dUn, onV, fNeg, dNext, dRet, dTup, onD, dats, fDivZ, fI, fPow, Few, retP, fAbs, fInt, fMax, fMin, fLen, fSqrt, fEq, fNe, dNot, dAnd, dOr, dAndV, dOrV, dNotV, dIfE, dDrop, dRetN, dPar, noO, dSetL, dLst, dOfL, dOwnM, onOwn, onDat, kAppend, kInsert, dSetItem, dAddItem, dIx, onItems, items, onInt, dNoPart, dPart, dSlice, onL, litems, dSlL, dCat, onM, mitems, dTupOf, dSeqI, dRng1, dRng2, dCallP, dCallB, dCallF, noSelf, onArgs, dats2, dIsi, tyName, dYes, dgTup, dgCons, dgNil, retB, dBreak, dCont, ne_eq, not_false_eq_true, true_and, and_true, List.getElem?_cons_zero, List.getElem?_cons_succ, List.set_cons_zero, List.set_cons_succ, Option.map, List.length_cons, List.length_nil, dLc_eq, dFor_eq, dSortSet, dSort, dListOf, dIsN, dNotN, isNo, dAug, dCatT, dSlT, onT, titems, dEnum, dZip, seqs, dRetL, dPar3, dRevT, dLstRg, dTupRg, dRg1, dRg2, dChainLe, List.nil_append, List.cons_append, if_true, if_false, dFrz, dLcO, List.map_cons, List.map_nil, fw0, fw1, fw2, fw3, fw4, fw5, fw6, fw7, fw8, fw9, fw10, fw11, fw12, fw13, fw14, fw15]
  refine ⟨cpairs rho.num rho.den, rfl, (by show 6 < 64; decide), fun qs hqs => ?_⟩
  have hd := den_pos rho
  have hl : qs.length ≤ 6 := nodup_le hqs.1 fun p hp => (hqs.2.2 p).mp hp
  refine lc_map qs encP (fun p => pf (toCn rho.den p)) (by simp) (by omega) (fun i a ha C1 C2 n hn hc => ?_) ?_
  · simp only [dSeq, dAsg, dCB, dCons, dNil, dVar, onVs, vals, val, slot, setR, fGcd, dIfS, dTV, dOp, dBin, onV2, fLt, fLe, fGt, fGe, fAdd, fSub, fMul, fDiv, fMod, fI0, dC, dUn, onV, fNeg, dNext, dRet, dTup, onD, dats, fDivZ, fI, fPow, Few, retP, fAbs, fInt, fMax, fMin, fLen, fSqrt, fEq, fNe, dNot, dAnd, dOr, dAndV, dOrV, dNotV, dIfE, dDrop, dRetN, dPar, noO, dSetL, dLst, dOfL, dOwnM, onOwn, onDat, kAppend, kInsert, dSetItem, dAddItem, dIx, onItems, items, onInt, dNoPart, dPart, dSlice, onL, litems, dSlL, dCat, onM, mitems, dTupOf, dSeqI, dRng1, dRng2, dCallP, dCallB, dCallF, noSelf, onArgs, dats2, dIsi, tyName, dYes, dgTup, dgCons, dgNil, retB, dBreak, dCont, ne_eq, not_false_eq_true, true_and, and_true, List.getElem?_cons_zero, List.getElem?_cons_succ, List.set_cons_zero, List.set_cons_succ, Option.map, List.length_cons, List.length_nil, dLc_eq, dFor_eq, dSortSet, dSort, dListOf, dIsN, dNotN, isNo, dAug, dCatT, dSlT, onT, titems, dEnum, dZip, seqs, dRetL, dPar3, dRevT, dLstRg, dTupRg, dRg1, dRg2, dChainLe, List.nil_append, List.cons_append, if_true, if_false, dFrz, dLcO, List.map_cons, List.map_nil, fw0, fw1, fw2, fw3, fw4, fw5, fw6, fw7, fw8, fw9, fw10, fw11, fw12, fw13, fw14, fw15, encP, wipeR]
    exact u_reduced (by omega) (h0.d.up (by omega)) (u_reduced (by omega) (h0.d.up (by omega)) ⟨hn, hc⟩)
  · refine hQ _ ⟨qs, hqs, ?_⟩
    rw [List.map_map]; rfl
set_option maxHeartbeats 4000000 in
theorem ok__law_some {f : Addr} {fd : FuncData} (W : Fun K "_law_some" "_law_some" s__law_some f fd) (T : Bi mg)
    {f__law_take : Addr} {fd__law_take : FuncData} (G__law_take : FnG P w K mg base CX0 1 f__law_take fd__law_take ["_law_bag_here", "_law_many"] (spB K [.d] S__law_take)) (g__law_take : mg "_law_take" = some (.ref f__law_take)) (k__law_take : PySem.W.keepIn K (.ref f__law_take) = true) (b__law_take : Binds K fd__law_take ["_law_bag_here", "_law_many"] []) :
    FnG P w K mg base CX0 2 f fd ["_law_bag_here", "_law_things"] (spB K [.d] S__law_some) := by
  refine fnB W sc__law_some rfl fun cdv A out s H E Nn B hr hgd => ⟨_, _, (dss_one (ds_ret (pd_ix (pdv 1) (pd_callBag G__law_take m__law_take (hr.mono (by decide)) hgd rfl g__law_take k__law_take b__law_take (pda_cons (pdv 0) (pda_cons (pd_callB call_len_seq sc_len rfl T.b_len (by decide +kernel) (pda_cons (pdv 1) pda_nil)) pda_nil))) (fun _ _ => rfl)))), ?_⟩
  exact fun bag xs Q hl hS => rd_some hS
set_option maxHeartbeats 4000000 in
theorem ok__law_added {f : Addr} {fd : FuncData} (W : Fun K "_law_added" "_law_added" s__law_added f fd) (T : Bi mg)
    {f__law_over : Addr} {fd__law_over : FuncData} (G__law_over : FnG P w K mg base CX0 1 f__law_over fd__law_over ["_law_n", "_law_d"] (spP K [.d, .d] S__law_over)) (g__law_over : mg "_law_over" = some (.ref f__law_over)) (k__law_over : PySem.W.keepIn K (.ref f__law_over) = true) (b__law_over : Binds K fd__law_over ["_law_n", "_law_d"] []) :
    FnG P w K mg base CX0 2 f fd ["_law_x", "_law_y"] (spP K [.d, .d] S__law_added) := by
  refine fnP W sc__law_added rfl fun cdv A out s H E Nn hr hgd => ⟨_, _, (dss_one (ds_ret (pd_callP G__law_over m__law_over (hr.mono (by decide)) hgd rfl g__law_over k__law_over b__law_over (pda_cons (pd_add (pd_mul (pd_ix (pdv 0) pd_int (fun _ _ => rfl)) (pd_ix (pdv 1) pd_int (fun _ _ => rfl))) (pd_mul (pd_ix (pdv 1) pd_int (fun _ _ => rfl)) (pd_ix (pdv 0) pd_int (fun _ _ => rfl)))) (pda_cons (pd_mul (pd_ix (pdv 0) pd_int (fun _ _ => rfl)) (pd_ix (pdv 1) pd_int (fun _ _ => rfl))) pda_nil))))), ?_⟩
  clear W T hr hgd G__law_over g__law_over k__law_over b__law_over f__law_over fd__law_over
  rintro xs Q hl ⟨⟨p, q, j, k⟩, rfl, ⟨h0, h1, h2⟩, hQ⟩
  clear hl
  replace hQ : Q (fr (p + q)) := hQ
  have e : rhoP nm__law_added.length [.d, .d] [fr p, fr q] = [some (.d (fr p)), some (.d (fr q))] := rfl
  rw [e]
  clear e
  simp only [dSeq, dAsg, dCB, dCons, dNil, dVar, onVs, vals, val, slot, setR, fGcd, dIfS, dTV, dOp, dBin, onV2, fLt, fLe, fGt, fGe, fAdd, fSub, fMul, fDiv, fMod, fI0, dC, dUn, onV, fNeg, dNext, dRet, dTup, onD, dats, fDivZ, fI, fPow, Few, retP, fAbs, fInt, fMax, fMin, fLen, fSqrt, fEq, fNe, dNot, dAnd, dOr, dAndV, dOrV, dNotV, dIfE, dDrop, dRetN, dPar, noO, dSetL, dLst, dOfL, dOwnM, onOwn, onDat, kAppend, kInsert, dSetItem, dAddItem, dIx, onItems, items, onInt, dNoPart, dPart, dSlice, onL, litems, dSlL, dCat, onM, mitems, dTupOf, dSeqI, dRng1, dRng2, dCallP, dCallB, dCallF, noSelf, onArgs, dats2, dIsi, tyName, dYes, dgTup, dgCons, dgNil, retB, dBreak, dCont, ne_eq, not_false_eq_true, true_and, and_true, List.getElem?_cons_zero, List.getElem?_cons_succ, List.set_cons_zero, List.set_cons_succ, Option.map, List.length_cons, List.length_nil, dLc_eq, dFor_eq, dSortSet, dSort, dListOf, dIsN, dNotN, isNo, dAug, dCatT, dSlT, onT, titems, dEnum, dZip, seqs, dRetL, dPar3, dRevT, dLstRg, dTupRg, dRg1, dRg2, dChainLe, List.nil_append, List.cons_append, if_true, if_false, dFrz, dLcO, List.map_cons, List.map_nil, fw0, fw1, fw2, fw3, fw4, fw5, fw6, fw7, fw8, fw9, fw10, fw11, fw12, fw13, fw14, fw15, fr, on0, on1]
  refine ⟨cmb h0.n h1.d (by omega), cmb h1.n h0.d (by omega), cmb h0.d h1.d (by omega), u__law_over (dd_ne p q) ((h0.d.mul h1.d).up h2) ?_⟩
  rw [← add_ndi]; exact hQ
set_option maxHeartbeats 4000000 in
theorem ok__law_lessened {f : Addr} {fd : FuncData} (W : Fun K "_law_lessened" "_law_lessened" s__law_lessened f fd) (T : Bi mg)
    {f__law_over : Addr} {fd__law_over : FuncData} (G__law_over : FnG P w K mg base CX0 1 f__law_over fd__law_over ["_law_n", "_law_d"] (spP K [.d, .d] S__law_over)) (g__law_over : mg "_law_over" = some (.ref f__law_over)) (k__law_over : PySem.W.keepIn K (.ref f__law_over) = true) (b__law_over : Binds K fd__law_over ["_law_n", "_law_d"] []) :
    FnG P w K mg base CX0 2 f fd ["_law_x", "_law_y"] (spP K [.d, .d] S__law_lessened) := by
  refine fnP W sc__law_lessened rfl fun cdv A out s H E Nn hr hgd => ⟨_, _, (dss_one (ds_ret (pd_callP G__law_over m__law_over (hr.mono (by decide)) hgd rfl g__law_over k__law_over b__law_over (pda_cons (pd_sub (pd_mul (pd_ix (pdv 0) pd_int (fun _ _ => rfl)) (pd_ix (pdv 1) pd_int (fun _ _ => rfl))) (pd_mul (pd_ix (pdv 1) pd_int (fun _ _ => rfl)) (pd_ix (pdv 0) pd_int (fun _ _ => rfl)))) (pda_cons (pd_mul (pd_ix (pdv 0) pd_int (fun _ _ => rfl)) (pd_ix (pdv 1) pd_int (fun _ _ => rfl))) pda_nil))))), ?_⟩
  clear W T hr hgd G__law_over g__law_over k__law_over b__law_over f__law_over fd__law_over
  rintro xs Q hl ⟨⟨p, q, j, k⟩, rfl, ⟨h0, h1, h2⟩, hQ⟩
  clear hl
  replace hQ : Q (fr (p - q)) := hQ
  have e : rhoP nm__law_lessened.length [.d, .d] [fr p, fr q] = [some (.d (fr p)), some (.d (fr q))] := rfl
  rw [e]
  clear e
  simp only [dSeq, dAsg, dCB, dCons, dNil, dVar, onVs, vals, val, slot, setR, fGcd, dIfS, dTV, dOp, dBin, onV2, fLt, fLe, fGt, fGe, fAdd, fSub, fMul, fDiv, fMod, fI0, dC, dUn, onV, fNeg, dNext, dRet, dTup, onD, dats, fDivZ, fI, fPow, Few, retP, fAbs, fInt, fMax, fMin, fLen, fSqrt, fEq, fNe, dNot, dAnd, dOr, dAndV, dOrV, dNotV, dIfE, dDrop, dRetN, dPar, noO, dSetL, dLst, dOfL, dOwnM, onOwn, onDat, kAppend, kInsert, dSetItem, dAddItem, dIx, onItems, items, onInt, dNoPart, dPart, dSlice, onL, litems, dSlL, dCat, onM, mitems, dTupOf, dSeqI, dRng1, dRng2, dCallP, dCallB, dCallF, noSelf, onArgs, dats2, dIsi, tyName, dYes, dgTup, dgCons, dgNil, retB, dBreak, dCont, ne_eq, not_false_eq_true, true_and, and_true, List.getElem?_cons_zero, List.getElem?_cons_succ, List.set_cons_zero, List.set_cons_succ, Option.map, List.length_cons, List.length_nil, dLc_eq, dFor_eq, dSortSet, dSort, dListOf, dIsN, dNotN, isNo, dAug, dCatT, dSlT, onT, titems, dEnum, dZip, seqs, dRetL, dPar3, dRevT, dLstRg, dTupRg, dRg1, dRg2, dChainLe, List.nil_append, List.cons_append, if_true, if_false, dFrz, dLcO, List.map_cons, List.map_nil, fw0, fw1, fw2, fw3, fw4, fw5, fw6, fw7, fw8, fw9, fw10, fw11, fw12, fw13, fw14, fw15, fr, on0, on1]
  refine ⟨cmb h0.n h1.d (by omega), cmb h1.n h0.d (by omega), cmb h0.d h1.d (by omega), u__law_over (dd_ne p q) ((h0.d.mul h1.d).up h2) ?_⟩
  rw [← sub_ndi]; exact hQ
set_option maxHeartbeats 4000000 in
theorem ok__law_multiplied {f : Addr} {fd : FuncData} (W : Fun K "_law_multiplied" "_law_multiplied" s__law_multiplied f fd) (T : Bi mg)
    {f__law_over : Addr} {fd__law_over : FuncData} (G__law_over : FnG P w K mg base CX0 1 f__law_over fd__law_over ["_law_n", "_law_d"] (spP K [.d, .d] S__law_over)) (g__law_over : mg "_law_over" = some (.ref f__law_over)) (k__law_over : PySem.W.keepIn K (.ref f__law_over) = true) (b__law_over : Binds K fd__law_over ["_law_n", "_law_d"] []) :
    FnG P w K mg base CX0 2 f fd ["_law_x", "_law_y"] (spP K [.d, .d] S__law_multiplied) := by
  refine fnP W sc__law_multiplied rfl fun cdv A out s H E Nn hr hgd => ⟨_, _, (dss_one (ds_ret (pd_callP G__law_over m__law_over (hr.mono (by decide)) hgd rfl g__law_over k__law_over b__law_over (pda_cons (pd_mul (pd_ix (pdv 0) pd_int (fun _ _ => rfl)) (pd_ix (pdv 1) pd_int (fun _ _ => rfl))) (pda_cons (pd_mul (pd_ix (pdv 0) pd_int (fun _ _ => rfl)) (pd_ix (pdv 1) pd_int (fun _ _ => rfl))) pda_nil))))), ?_⟩
  clear W T hr hgd G__law_over g__law_over k__law_over b__law_over f__law_over fd__law_over
  rintro xs Q hl ⟨⟨p, q, j, k⟩, rfl, ⟨h0, h1, h2⟩, hQ⟩
  clear hl
  replace hQ : Q (fr (p * q)) := hQ
  have e : rhoP nm__law_multiplied.length [.d, .d] [fr p, fr q] = [some (.d (fr p)), some (.d (fr q))] := rfl
  rw [e]
  clear e
  simp only [dSeq, dAsg, dCB, dCons, dNil, dVar, onVs, vals, val, slot, setR, fGcd, dIfS, dTV, dOp, dBin, onV2, fLt, fLe, fGt, fGe, fAdd, fSub, fMul, fDiv, fMod, fI0, dC, dUn, onV, fNeg, dNext, dRet, dTup, onD, dats, fDivZ, fI, fPow, Few, retP, fAbs, fInt, fMax, fMin, fLen, fSqrt, fEq, fNe, dNot, dAnd, dOr, dAndV, dOrV, dNotV, dIfE, dDrop, dRetN, dPar, noO, dSetL, dLst, dOfL, dOwnM, onOwn, onDat, kAppend, kInsert, dSetItem, dAddItem, dIx, onItems, items, onInt, dNoPart, dPart, dSlice, onL, litems, dSlL, dCat, onM, mitems, dTupOf, dSeqI, dRng1, dRng2, dCallP, dCallB, dCallF, noSelf, onArgs, dats2, dIsi, tyName, dYes, dgTup, dgCons, dgNil, retB, dBreak, dCont, ne_eq, not_false_eq_true, true_and, and_true, List.getElem?_cons_zero, List.getElem?_cons_succ, List.set_cons_zero, List.set_cons_succ, Option.map, List.length_cons, List.length_nil, dLc_eq, dFor_eq, dSortSet, dSort, dListOf, dIsN, dNotN, isNo, dAug, dCatT, dSlT, onT, titems, dEnum, dZip, seqs, dRetL, dPar3, dRevT, dLstRg, dTupRg, dRg1, dRg2, dChainLe, List.nil_append, List.cons_append, if_true, if_false, dFrz, dLcO, List.map_cons, List.map_nil, fw0, fw1, fw2, fw3, fw4, fw5, fw6, fw7, fw8, fw9, fw10, fw11, fw12, fw13, fw14, fw15, fr, on0, on1]
  refine ⟨cmb h0.n h1.n (by omega), cmb h0.d h1.d (by omega), u__law_over (dd_ne p q) ((h0.d.mul h1.d).up h2) ?_⟩
  rw [← mul_ndi]; exact hQ
set_option maxHeartbeats 4000000 in
theorem ok__law_divided {f : Addr} {fd : FuncData} (W : Fun K "_law_divided" "_law_divided" s__law_divided f fd) (T : Bi mg)
    {f__law_over : Addr} {fd__law_over : FuncData} (G__law_over : FnG P w K mg base CX0 1 f__law_over fd__law_over ["_law_n", "_law_d"] (spP K [.d, .d] S__law_over)) (g__law_over : mg "_law_over" = some (.ref f__law_over)) (k__law_over : PySem.W.keepIn K (.ref f__law_over) = true) (b__law_over : Binds K fd__law_over ["_law_n", "_law_d"] []) :
    FnG P w K mg base CX0 2 f fd ["_law_x", "_law_y"] (spP K [.d, .d] S__law_divided) := by
  refine fnP W sc__law_divided rfl fun cdv A out s H E Nn hr hgd => ⟨_, _, (dss_one (ds_ret (pd_callP G__law_over m__law_over (hr.mono (by decide)) hgd rfl g__law_over k__law_over b__law_over (pda_cons (pd_mul (pd_ix (pdv 0) pd_int (fun _ _ => rfl)) (pd_ix (pdv 1) pd_int (fun _ _ => rfl))) (pda_cons (pd_mul (pd_ix (pdv 0) pd_int (fun _ _ => rfl)) (pd_ix (pdv 1) pd_int (fun _ _ => rfl))) pda_nil))))), ?_⟩
  clear W T hr hgd G__law_over g__law_over k__law_over b__law_over f__law_over fd__law_over
  rintro xs Q hl ⟨⟨p, q, j, k⟩, rfl, ⟨h0, h1, h2, h3⟩, hQ⟩
  clear hl
  replace hQ : Q (fr (p / q)) := hQ
  have e : rhoP nm__law_divided.length [.d, .d] [fr p, fr q] = [some (.d (fr p)), some (.d (fr q))] := rfl
  rw [e]
  clear e
  simp only [dSeq, dAsg, dCB, dCons, dNil, dVar, onVs, vals, val, slot, setR, fGcd, dIfS, dTV, dOp, dBin, onV2, fLt, fLe, fGt, fGe, fAdd, fSub, fMul, fDiv, fMod, fI0, dC, dUn, onV, fNeg, dNext, dRet, dTup, onD, dats, fDivZ, fI, fPow, Few, retP, fAbs, fInt, fMax, fMin, fLen, fSqrt, fEq, fNe, dNot, dAnd, dOr, dAndV, dOrV, dNotV, dIfE, dDrop, dRetN, dPar, noO, dSetL, dLst, dOfL, dOwnM, onOwn, onDat, kAppend, kInsert, dSetItem, dAddItem, dIx, onItems, items, onInt, dNoPart, dPart, dSlice, onL, litems, dSlL, dCat, onM, mitems, dTupOf, dSeqI, dRng1, dRng2, dCallP, dCallB, dCallF, noSelf, onArgs, dats2, dIsi, tyName, dYes, dgTup, dgCons, dgNil, retB, dBreak, dCont, ne_eq, not_false_eq_true, true_and, and_true, List.getElem?_cons_zero, List.getElem?_cons_succ, List.set_cons_zero, List.set_cons_succ, Option.map, List.length_cons, List.length_nil, dLc_eq, dFor_eq, dSortSet, dSort, dListOf, dIsN, dNotN, isNo, dAug, dCatT, dSlT, onT, titems, dEnum, dZip, seqs, dRetL, dPar3, dRevT, dLstRg, dTupRg, dRg1, dRg2, dChainLe, List.nil_append, List.cons_append, if_true, if_false, dFrz, dLcO, List.map_cons, List.map_nil, fw0, fw1, fw2, fw3, fw4, fw5, fw6, fw7, fw8, fw9, fw10, fw11, fw12, fw13, fw14, fw15, fr, on0, on1]
  refine ⟨cmb h0.n h1.d (by omega), cmb h0.d h1.n (by omega), u__law_over (Int.mul_ne_zero (Int.ne_of_gt (den_pos p)) (num_ne h3)) ((h0.d.mul h1.n).up h2) ?_⟩
  rw [← div_ndi]; exact hQ
set_option maxHeartbeats 4000000 in
theorem ok__law_offsets {f : Addr} {fd : FuncData} (W : Fun K "_law_offsets" "_law_offsets" s__law_offsets f fd) (T : Bi mg)
    {f__law_least_diagonal : Addr} {fd__law_least_diagonal : FuncData} (G__law_least_diagonal : FnG P w K mg base CX0 1 f__law_least_diagonal fd__law_least_diagonal ["_law_spacing"] (spP K [.d] S__law_least_diagonal)) (g__law_least_diagonal : mg "_law_least_diagonal" = some (.ref f__law_least_diagonal)) (k__law_least_diagonal : PySem.W.keepIn K (.ref f__law_least_diagonal) = true) (b__law_least_diagonal : Binds K fd__law_least_diagonal ["_law_spacing"] []) :
    FnG P w K mg base CX0 2 f fd ["_law_spacing"] (spP K [.d] S__law_offsets) := by
  refine fnP W sc__law_offsets rfl fun cdv A out s H E Nn hr hgd => ⟨_, _, (dss_cons (ds_set (i := 1) sc__law_offsets.nd (pd_callP G__law_least_diagonal m__law_least_diagonal (hr.mono (by decide)) hgd rfl g__law_least_diagonal k__law_least_diagonal b__law_least_diagonal (pda_cons (pdv 0) pda_nil)) fixP)
      (dss_cons (ds_setL (i := 2) sc__law_offsets.nd (pl_lst (pda_cons (pd_tup (pda_cons (pdv 0) (pda_cons pd_int pda_nil))) (pda_cons (pd_tup (pda_cons pd_int (pda_cons (pdv 0) pda_nil))) (pda_cons (pd_tup (pda_cons (pdv 1) (pda_cons (pdv 1) pda_nil))) (pda_cons (pd_tup (pda_cons (pdv 1) (pda_cons (pd_neg (pdv 1)) pda_nil))) (pda_cons (pd_tup (pda_cons (pdv 0) (pda_cons pd_int pda_nil))) (pda_cons (pd_tup (pda_cons pd_int (pda_cons (pdv 0) pda_nil))) pda_nil))))))) fixP)
      (dss_cons (ds_setL (i := 2) sc__law_offsets.nd (pl_cat (pdv 2) (pd_l (pl_lst (pda_cons (pd_tup (pda_cons (pd_add (pdv 0) pd_int) (pda_cons (pd_neg pd_int) pda_nil))) (pda_cons (pd_tup (pda_cons (pd_mul pd_int (pdv 0)) (pda_cons pd_int pda_nil))) (pda_cons (pd_tup (pda_cons pd_int (pda_cons (pd_mul pd_int (pdv 0)) pda_nil))) (pda_cons (pd_tup (pda_cons (pdv 0) (pda_cons (pdv 0) pda_nil))) pda_nil))))))) fixP)
      (dss_cons (ds_if (pt_eq hr.units rfl (pd_sub (pdv 0) (pd_mul (pd_div (pdv 0) pd_int) pd_int)) pd_int) (dss_one (ds_expr (pd_append (i := 2) (pda_cons (pd_tup (pda_cons (pd_div (pd_mul pd_int (pdv 0)) pd_int) (pda_cons (pd_div (pd_mul pd_int (pdv 0)) pd_int) pda_nil))) pda_nil)))) dss_nil)
      (dss_one (ds_ret (pd_l (pl_cat (pdv 2) (pd_l (pl_lcO (own := [("_law_x", 3), ("_law_y", 4)]) (k := 2) rfl sc__law_offsets.nd (blkOk_by (own := [("_law_x", 3), ("_law_y", 4)]) (N := nm__law_offsets) (sc := defScope s__law_offsets) (by decide +kernel)) (fun _ _ _ _ _ => (pgd_tup (n := 2) rfl (pgds_cons (pgd_name (i := 3) sc__law_offsets.nd) (pgds_cons (pgd_name (i := 4) sc__law_offsets.nd) pgds_nil)))) (fun _ _ _ _ _ => dts_nil) (fun _ _ _ _ _ => (pd_tup (pda_cons (pd_neg (pdv 3)) (pda_cons (pd_neg (pdv 4)) pda_nil)))))))))))))), ?_⟩
  clear W T hr hgd G__law_least_diagonal g__law_least_diagonal k__law_least_diagonal b__law_least_diagonal f__law_least_diagonal fd__law_least_diagonal
  rintro xs Q hl ⟨sp, rfl, ⟨h0, h1⟩, hQ⟩
  clear hl
  replace hQ : ∀ z, (∃ ps : List P2, z = .list (ps.map enc2) ∧ 0 < ps.length ∧ ps.length ≤ 22 ∧ ∀ p ∈ ps, Inb 60 p) → Q z   := hQ
  have e : rhoP nm__law_offsets.length [.d] [.int sp] = [some (.d (.int sp)), none, none, none, none] := rfl
  rw [e]
  clear e
  refine seqI fun kk hk => ?_
  simp only [dSeq, dAsg, dCB, dCons, dNil, dVar, onVs, vals, val, slot, setR, fGcd, dIfS, dTV, dOp, dBin, onV2, fLt, fLe, fGt, fGe, fAdd, fSub, fMul, fDiv, fMod, fI0, dC, dUn, onV, fNeg, dNext, dRet, dTup, onD, dats, fDivZ, fI, fPow, Few, retP, fAbs, fInt, fMax, fMin, fLen, fSqrt, fEq, fNe, dNot, dAnd, dOr, dAndV, dOrV, dNotV, dIfE, dDrop, dRetN, dPar, noO, dSetL, dLst, dOfL, dOwnM, onOwn, onDat, kAppend, kInsert, dSetItem, dAddItem, dIx, onItems, items, onInt, dNoPart, dPart, dSlice, onL, litems, dSlL, dCat, onM, mitems, dTupOf, dSeqI, dRng1, dRng2, dCallP, dCallB, dCallF, noSelf, onArgs, dats2, dIsi, tyName, dYes, dgTup, dgCons, dgNil, retB, dBreak, dCont, ne_eq, not_false_eq_true, true_and, and_true, List.getElem?_cons_zero, List.getElem?_cons_succ, List.set_cons_zero, List.set_cons_succ, Option.map, List.length_cons, List.length_nil, dLc_eq, dFor_eq, dSortSet, dSort, dListOf, dIsN, dNotN, isNo, dAug, dCatT, dSlT, onT, titems, dEnum, dZip, seqs, dRetL, dPar3, dRevT, dLstRg, dTupRg, dRg1, dRg2, dChainLe, List.nil_append, List.cons_append, if_true, if_false, dFrz, dLcO, List.map_cons, List.map_nil, fw0, fw1, fw2, fw3, fw4, fw5, fw6, fw7, fw8, fw9, fw10, fw11, fw12, fw13, fw14, fw15]
  refine u__law_least_diagonal h0 (by omega) fun y hy => ?_
  obtain ⟨d, rfl, d0, d1⟩ := hy
  rw [hk]
  refine seqI fun k2 hk2 => ?_
  simp only [dSeq, dAsg, dCB, dCons, dNil, dVar, onVs, vals, val, slot, setR, fGcd, dIfS, dTV, dOp, dBin, onV2, fLt, fLe, fGt, fGe, fAdd, fSub, fMul, fDiv, fMod, fI0, dC, dUn, onV, fNeg, dNext, dRet, dTup, onD, dats, fDivZ, fI, fPow, Few, retP, fAbs, fInt, fMax, fMin, fLen, fSqrt, fEq, fNe, dNot, dAnd, dOr, dAndV, dOrV, dNotV, dIfE, dDrop, dRetN, dPar, noO, dSetL, dLst, dOfL, dOwnM, onOwn, onDat, kAppend, kInsert, dSetItem, dAddItem, dIx, onItems, items, onInt, dNoPart, dPart, dSlice, onL, litems, dSlL, dCat, onM, mitems, dTupOf, dSeqI, dRng1, dRng2, dCallP, dCallB, dCallF, noSelf, onArgs, dats2, dIsi, tyName, dYes, dgTup, dgCons, dgNil, retB, dBreak, dCont, ne_eq, not_false_eq_true, true_and, and_true, List.getElem?_cons_zero, List.getElem?_cons_succ, List.set_cons_zero, List.set_cons_succ, Option.map, List.length_cons, List.length_nil, dLc_eq, dFor_eq, dSortSet, dSort, dListOf, dIsN, dNotN, isNo, dAug, dCatT, dSlT, onT, titems, dEnum, dZip, seqs, dRetL, dPar3, dRevT, dLstRg, dTupRg, dRg1, dRg2, dChainLe, List.nil_append, List.cons_append, if_true, if_false, dFrz, dLcO, List.map_cons, List.map_nil, fw0, fw1, fw2, fw3, fw4, fw5, fw6, fw7, fw8, fw9, fw10, fw11, fw12, fw13, fw14, fw15]
  rw [hk2]
  refine seqI fun k3 hk3 => ?_
  simp only [dSeq, dAsg, dCB, dCons, dNil, dVar, onVs, vals, val, slot, setR, fGcd, dIfS, dTV, dOp, dBin, onV2, fLt, fLe, fGt, fGe, fAdd, fSub, fMul, fDiv, fMod, fI0, dC, dUn, onV, fNeg, dNext, dRet, dTup, onD, dats, fDivZ, fI, fPow, Few, retP, fAbs, fInt, fMax, fMin, fLen, fSqrt, fEq, fNe, dNot, dAnd, dOr, dAndV, dOrV, dNotV, dIfE, dDrop, dRetN, dPar, noO, dSetL, dLst, dOfL, dOwnM, onOwn, onDat, kAppend, kInsert, dSetItem, dAddItem, dIx, onItems, items, onInt, dNoPart, dPart, dSlice, onL, litems, dSlL, dCat, onM, mitems, dTupOf, dSeqI, dRng1, dRng2, dCallP, dCallB, dCallF, noSelf, onArgs, dats2, dIsi, tyName, dYes, dgTup, dgCons, dgNil, retB, dBreak, dCont, ne_eq, not_false_eq_true, true_and, and_true, List.getElem?_cons_zero, List.getElem?_cons_succ, List.set_cons_zero, List.set_cons_succ, Option.map, List.length_cons, List.length_nil, dLc_eq, dFor_eq, dSortSet, dSort, dListOf, dIsN, dNotN, isNo, dAug, dCatT, dSlT, onT, titems, dEnum, dZip, seqs, dRetL, dPar3, dRevT, dLstRg, dTupRg, dRg1, dRg2, dChainLe, List.nil_append, List.cons_append, if_true, if_false, dFrz, dLcO, List.map_cons, List.map_nil, fw0, fw1, fw2, fw3, fw4, fw5, fw6, fw7, fw8, fw9, fw10, fw11, fw12, fw13, fw14, fw15]
  have b2 : Bd 2 2 := by unfold Bd; decide
  have b3 : Bd 2 3 := by unfold Bd; decide
  have b4 : Bd 3 4 := by unfold Bd; decide
  have b5 : Bd 3 5 := by unfold Bd; decide
  have hs : Bd 5 sp := bd_of 20 (by omega) (by omega)
  refine ⟨cmb b2 hs, cmb b2 hs, ?_⟩
  rw [hk3]
  refine seqI fun k4 hk4 => ?_
  have fin : ∀ ps : List P2, 0 < ps.length → ps.length ≤ 11 → (∀ p ∈ ps, Inb 60 p) → k4 [some (.d (.int sp)), some (.d (.int d)), some (.own (ps.map enc2)), none, none] := fun ps l0 l1 hp => by
    rw [hk4]
    simp only [dSeq, dAsg, dCB, dCons, dNil, dVar, onVs, vals, val, slot, setR, fGcd, dIfS, dTV, dOp, dBin, onV2, fLt, fLe, fGt, fGe, fAdd, fSub, fMul, fDiv, fMod, fI0, dC, dUn, onV, fNeg, dNext, dRet, dTup, onD, dats, fDivZ, fI, fPow, Few, retP, fAbs, fInt, fMax, fMin, fLen, fSqrt, fEq, fNe, dNot, dAnd, dOr, dAndV, dOrV, dNotV, dIfE, dDrop, dRetN, dPar, noO, dSetL, dLst, dOfL, dOwnM, onOwn, onDat, kAppend, kInsert, dSetItem, dAddItem, dIx, onItems, items, onInt, dNoPart, dPart, dSlice, onL, litems, dSlL, dCat, onM, mitems, dTupOf, dSeqI, dRng1, dRng2, dCallP, dCallB, dCallF, noSelf, onArgs, dats2, dIsi, tyName, dYes, dgTup, dgCons, dgNil, retB, dBreak, dCont, ne_eq, not_false_eq_true, true_and, and_true, List.getElem?_cons_zero, List.getElem?_cons_succ, List.set_cons_zero, List.set_cons_succ, Option.map, List.length_cons, List.length_nil, dLc_eq, dFor_eq, dSortSet, dSort, dListOf, dIsN, dNotN, isNo, dAug, dCatT, dSlT, onT, titems, dEnum, dZip, seqs, dRetL, dPar3, dRevT, dLstRg, dTupRg, dRg1, dRg2, dChainLe, List.nil_append, List.cons_append, if_true, if_false, dFrz, dLcO, List.map_cons, List.map_nil, fw0, fw1, fw2, fw3, fw4, fw5, fw6, fw7, fw8, fw9, fw10, fw11, fw12, fw13, fw14, fw15]
    refine lcO_map ps enc2 (fun p => pr (-p.1) (-p.2)) (hv2 rfl rfl) (by decide) rfl (by omega) (fun i a ha C1 C2 n hn c1 => ?_) ?_
    · simp only [dSeq, dAsg, dCB, dCons, dNil, dVar, onVs, vals, val, slot, setR, fGcd, dIfS, dTV, dOp, dBin, onV2, fLt, fLe, fGt, fGe, fAdd, fSub, fMul, fDiv, fMod, fI0, dC, dUn, onV, fNeg, dNext, dRet, dTup, onD, dats, fDivZ, fI, fPow, Few, retP, fAbs, fInt, fMax, fMin, fLen, fSqrt, fEq, fNe, dNot, dAnd, dOr, dAndV, dOrV, dNotV, dIfE, dDrop, dRetN, dPar, noO, dSetL, dLst, dOfL, dOwnM, onOwn, onDat, kAppend, kInsert, dSetItem, dAddItem, dIx, onItems, items, onInt, dNoPart, dPart, dSlice, onL, litems, dSlL, dCat, onM, mitems, dTupOf, dSeqI, dRng1, dRng2, dCallP, dCallB, dCallF, noSelf, onArgs, dats2, dIsi, tyName, dYes, dgTup, dgCons, dgNil, retB, dBreak, dCont, ne_eq, not_false_eq_true, true_and, and_true, List.getElem?_cons_zero, List.getElem?_cons_succ, List.set_cons_zero, List.set_cons_succ, Option.map, List.length_cons, List.length_nil, dLc_eq, dFor_eq, dSortSet, dSort, dListOf, dIsN, dNotN, isNo, dAug, dCatT, dSlT, onT, titems, dEnum, dZip, seqs, dRetL, dPar3, dRevT, dLstRg, dTupRg, dRg1, dRg2, dChainLe, List.nil_append, List.cons_append, if_true, if_false, dFrz, dLcO, List.map_cons, List.map_nil, fw0, fw1, fw2, fw3, fw4, fw5, fw6, fw7, fw8, fw9, fw10, fw11, fw12, fw13, fw14, fw15, enc2, pr]
      exact ⟨hn, c1⟩
    · simp only [dSeq, dAsg, dCB, dCons, dNil, dVar, onVs, vals, val, slot, setR, fGcd, dIfS, dTV, dOp, dBin, onV2, fLt, fLe, fGt, fGe, fAdd, fSub, fMul, fDiv, fMod, fI0, dC, dUn, onV, fNeg, dNext, dRet, dTup, onD, dats, fDivZ, fI, fPow, Few, retP, fAbs, fInt, fMax, fMin, fLen, fSqrt, fEq, fNe, dNot, dAnd, dOr, dAndV, dOrV, dNotV, dIfE, dDrop, dRetN, dPar, noO, dSetL, dLst, dOfL, dOwnM, onOwn, onDat, kAppend, kInsert, dSetItem, dAddItem, dIx, onItems, items, onInt, dNoPart, dPart, dSlice, onL, litems, dSlL, dCat, onM, mitems, dTupOf, dSeqI, dRng1, dRng2, dCallP, dCallB, dCallF, noSelf, onArgs, dats2, dIsi, tyName, dYes, dgTup, dgCons, dgNil, retB, dBreak, dCont, ne_eq, not_false_eq_true, true_and, and_true, List.getElem?_cons_zero, List.getElem?_cons_succ, List.set_cons_zero, List.set_cons_succ, Option.map, List.length_cons, List.length_nil, dLc_eq, dFor_eq, dSortSet, dSort, dListOf, dIsN, dNotN, isNo, dAug, dCatT, dSlT, onT, titems, dEnum, dZip, seqs, dRetL, dPar3, dRevT, dLstRg, dTupRg, dRg1, dRg2, dChainLe, List.nil_append, List.cons_append, if_true, if_false, dFrz, dLcO, List.map_cons, List.map_nil, fw0, fw1, fw2, fw3, fw4, fw5, fw6, fw7, fw8, fw9, fw10, fw11, fw12, fw13, fw14, fw15, wipeR]
      refine ⟨few_le (by simp only [List.length_map]; omega), hQ _ ⟨ps ++ ps.map fun p => (-p.1, -p.2), ?_, by rw [List.length_append]; omega, by rw [List.length_append, List.length_map]; omega, fun p hm => ?_⟩⟩
      · rw [List.map_append, List.map_map]; rfl
      · rcases List.mem_append.mp hm with hm | hm
        · exact hp p hm
        · obtain ⟨q, hq, rfl⟩ := List.mem_map.mp hm
          have := hp q hq
          unfold Inb at *
          simp only
          omega
  clear hk hk2 hk3 hk4
  simp only [dSeq, dAsg, dCB, dCons, dNil, dVar, onVs, vals, val, slot, setR, fGcd, dIfS, dTV, dOp, dBin, onV2, fLt, fLe, fGt, fGe, fAdd, fSub, fMul, fDiv, fMod, fI0, dC, dUn, onV, fNeg, dNext, dRet, dTup, onD, dats, fDivZ, fI, fPow, Few, retP, fAbs, fInt, fMax, fMin, fLen, fSqrt, fEq, fNe, dNot, dAnd, dOr, dAndV, dOrV, dNotV, dIfE, dDrop, dRetN, dPar, noO, dSetL, dLst, dOfL, dOwnM, onOwn, onDat, kAppend, kInsert, dSetItem, dAddItem, dIx, onItems, items, onInt, dNoPart, dPart, dSlice, onL, litems, dSlL, dCat, onM, mitems, dTupOf, dSeqI, dRng1, dRng2, dCallP, dCallB, dCallF, noSelf, onArgs, dats2, dIsi, tyName, dYes, dgTup, dgCons, dgNil, retB, dBreak, dCont, ne_eq, not_false_eq_true, true_and, and_true, List.getElem?_cons_zero, List.getElem?_cons_succ, List.set_cons_zero, List.set_cons_succ, Option.map, List.length_cons, List.length_nil, dLc_eq, dFor_eq, dSortSet, dSort, dListOf, dIsN, dNotN, isNo, dAug, dCatT, dSlT, onT, titems, dEnum, dZip, seqs, dRetL, dPar3, dRevT, dLstRg, dTupRg, dRg1, dRg2, dChainLe, List.nil_append, List.cons_append, if_true, if_false, dFrz, dLcO, List.map_cons, List.map_nil, fw0, fw1, fw2, fw3, fw4, fw5, fw6, fw7, fw8, fw9, fw10, fw11, fw12, fw13, fw14, fw15, sh_int, eqv_int]
  have ds : Bd 5 (sp / 5) := bd_of 20 (by omega) (by omega)
  refine ⟨cdwB (by decide) b5, cmb ds b5, ?_⟩
  have ten : ∀ p ∈ [(sp, 0), (0, sp), (d, d), (d, -d), (sp, 1), (1, sp), (sp + 1, -1), (2 * sp, 0), (0, 2 * sp), (sp, sp)], Inb 60 p := fun p hp => by
    simp only [List.mem_cons, List.not_mem_nil, or_false] at hp
    rcases hp with rfl | rfl | rfl | rfl | rfl | rfl | rfl | rfl | rfl | rfl
    all_goals
      unfold Inb
      dsimp only
      omega
  refine ite_b (fun h => ?_) fun h => fin [(sp, 0), (0, sp), (d, d), (d, -d), (sp, 1), (1, sp), (sp + 1, -1), (2 * sp, 0), (0, 2 * sp), (sp, sp)] (by simp) (by simp) ten
  refine ⟨cmb b3 hs, cdwB (by decide) b5, cmb b4 hs, cdwB (by decide) b5, fin ([(sp, 0), (0, sp), (d, d), (d, -d), (sp, 1), (1, sp), (sp + 1, -1), (2 * sp, 0), (0, 2 * sp), (sp, sp)] ++ [(3 * sp / 5, 4 * sp / 5)]) (by simp) (by simp) fun p hp => ?_⟩
  rcases List.mem_append.mp hp with hp | hp
  · exact ten p hp
  · have : p = (3 * sp / 5, 4 * sp / 5) := by simpa using hp
    rw [this]
    unfold Inb
    dsimp only
    omega
set_option maxHeartbeats 4000000 in
theorem ok__law_are_less {f : Addr} {fd : FuncData} (W : Fun K "_law_are_less" "_law_are_less" s__law_are_less f fd) (T : Bi mg)
    {f__law_is_below : Addr} {fd__law_is_below : FuncData} (G__law_is_below : FnG P w K mg base CX0 1 f__law_is_below fd__law_is_below ["_law_x", "_law_y"] (spP K [.d, .d] S__law_is_below)) (g__law_is_below : mg "_law_is_below" = some (.ref f__law_is_below)) (k__law_is_below : PySem.W.keepIn K (.ref f__law_is_below) = true) (b__law_is_below : Binds K fd__law_is_below ["_law_x", "_law_y"] []) :
    FnG P w K mg base CX0 2 f fd ["_law_one", "_law_other"] (spP K [.d, .d] S__law_are_less) := by
  refine fnP W sc__law_are_less rfl fun cdv A out s H E Nn hr hgd => ⟨_, _, (dss_cons (ds_if (pt_ne hr.units rfl (pd_ix (pdv 0) pd_int (fun _ _ => rfl)) (pd_ix (pdv 1) pd_int (fun _ _ => rfl))) (dss_one (ds_ret (pd_callP G__law_is_below m__law_is_below (hr.mono (by decide)) hgd rfl g__law_is_below k__law_is_below b__law_is_below (pda_cons (pd_ix (pdv 0) pd_int (fun _ _ => rfl)) (pda_cons (pd_ix (pdv 1) pd_int (fun _ _ => rfl)) pda_nil))))) dss_nil)
      (dss_one (ds_ret (pd_callP G__law_is_below m__law_is_below (hr.mono (by decide)) hgd rfl g__law_is_below k__law_is_below b__law_is_below (pda_cons (pd_ix (pdv 0) pd_int (fun _ _ => rfl)) (pda_cons (pd_ix (pdv 1) pd_int (fun _ _ => rfl)) pda_nil)))))), ?_⟩
  clear W T hr hgd G__law_is_below g__law_is_below k__law_is_below b__law_is_below f__law_is_below fd__law_is_below
  rintro xs Q hl ⟨⟨a, b, k⟩, rfl, ⟨h0, h1, h2, h3, h4⟩, hQ⟩
  clear hl
  replace hQ : Q (.bool (decide (lexLt a b))) := hQ
  have e : rhoP nm__law_are_less.length [.d, .d] [pf a, pf b] = [some (.d (pf a)), some (.d (pf b))] := rfl
  rw [e]
  clear e
  simp only [dSeq, dAsg, dCB, dCons, dNil, dVar, onVs, vals, val, slot, setR, fGcd, dIfS, dTV, dOp, dBin, onV2, fLt, fLe, fGt, fGe, fAdd, fSub, fMul, fDiv, fMod, fI0, dC, dUn, onV, fNeg, dNext, dRet, dTup, onD, dats, fDivZ, fI, fPow, Few, retP, fAbs, fInt, fMax, fMin, fLen, fSqrt, fEq, fNe, dNot, dAnd, dOr, dAndV, dOrV, dNotV, dIfE, dDrop, dRetN, dPar, noO, dSetL, dLst, dOfL, dOwnM, onOwn, onDat, kAppend, kInsert, dSetItem, dAddItem, dIx, onItems, items, onInt, dNoPart, dPart, dSlice, onL, litems, dSlL, dCat, onM, mitems, dTupOf, dSeqI, dRng1, dRng2, dCallP, dCallB, dCallF, noSelf, onArgs, dats2, dIsi, tyName, dYes, dgTup, dgCons, dgNil, retB, dBreak, dCont, ne_eq, not_false_eq_true, true_and, and_true, List.getElem?_cons_zero, List.getElem?_cons_succ, List.set_cons_zero, List.set_cons_succ, Option.map, List.length_cons, List.length_nil, dLc_eq, dFor_eq, dSortSet, dSort, dListOf, dIsN, dNotN, isNo, dAug, dCatT, dSlT, onT, titems, dEnum, dZip, seqs, dRetL, dPar3, dRevT, dLstRg, dTupRg, dRg1, dRg2, dChainLe, List.nil_append, List.cons_append, if_true, if_false, dFrz, dLcO, List.map_cons, List.map_nil, fw0, fw1, fw2, fw3, fw4, fw5, fw6, fw7, fw8, fw9, fw10, fw11, fw12, fw13, fw14, fw15, pf, on0, on1]
  refine ⟨sh_fr, sh_fr, ?_⟩
  rw [eqv_fr]
  refine ite_nb (fun h => u__law_is_below h0 h2 (by omega) ?_) fun h => u__law_is_below h1 h3 (by omega) ?_
  · have e : DV.lexLt a b ↔ a.1 < b.1 := by unfold DV.lexLt; rw [if_pos h]
    rw [decide_eq_decide.mpr e] at hQ
    exact hQ
  · have e : DV.lexLt a b ↔ a.2 < b.2 := by unfold DV.lexLt; rw [if_neg (not_not_intro h)]
    rw [decide_eq_decide.mpr e] at hQ
    exact hQ
set_option maxHeartbeats 4000000 in
theorem ok_gap_at {f : Addr} {fd : FuncData} (W : Fun K "gap_at" "gap_at" s_gap_at f fd) (T : Bi mg)
    {f_place_on : Addr} {fd_place_on : FuncData} (G_place_on : FnG P w K mg base CX0 2 f_place_on fd_place_on ["leg", "s"] (spP K [.d, .d] S_place_on)) (g_place_on : mg "place_on" = some (.ref f_place_on)) (k_place_on : PySem.W.keepIn K (.ref f_place_on) = true) (b_place_on : Binds K fd_place_on ["leg", "s"] [])
    {f_lessened : Addr} {fd_lessened : FuncData} (G_lessened : FnG P w K mg base CX0 2 f_lessened fd_lessened ["one", "other"] (spP K [.d, .d] S_lessened)) (g_lessened : mg "lessened" = some (.ref f_lessened)) (k_lessened : PySem.W.keepIn K (.ref f_lessened) = true) (b_lessened : Binds K fd_lessened ["one", "other"] []) :
    FnG P w K mg base CX0 3 f fd ["leg", "other", "s", "t"] (spP K [.d, .d, .d, .d] S_gap_at) := by
  refine fnP W sc_gap_at rfl fun cdv A out s H E Nn hr hgd => ⟨_, _, (dss_cons (ds_par (i := 4) (j := 5) rfl sc_gap_at.nd (pda_cons (pd_callP G_place_on m_place_on (hr.mono (by decide)) hgd rfl g_place_on k_place_on b_place_on (pda_cons (pdv 0) (pda_cons (pdv 2) pda_nil))) (pda_cons (pd_callP G_place_on m_place_on (hr.mono (by decide)) hgd rfl g_place_on k_place_on b_place_on (pda_cons (pdv 1) (pda_cons (pdv 3) pda_nil))) pda_nil)) fixP fixP)
      (dss_one (ds_ret (pd_tup (pda_cons (pd_callP G_lessened m_lessened (hr.mono (by decide)) hgd rfl g_lessened k_lessened b_lessened (pda_cons (pd_ix (pdv 5) pd_int (fun _ _ => rfl)) (pda_cons (pd_ix (pdv 4) pd_int (fun _ _ => rfl)) pda_nil))) (pda_cons (pd_callP G_lessened m_lessened (hr.mono (by decide)) hgd rfl g_lessened k_lessened b_lessened (pda_cons (pd_ix (pdv 5) pd_int (fun _ _ => rfl)) (pda_cons (pd_ix (pdv 4) pd_int (fun _ _ => rfl)) pda_nil))) pda_nil)))))), ?_⟩
  clear W T hr hgd G_place_on g_place_on k_place_on b_place_on f_place_on fd_place_on G_lessened g_lessened k_lessened b_lessened f_lessened fd_lessened
  rintro xs Q hl ⟨⟨l, o, s, t, j, k⟩, rfl, ⟨h0, h1, h2, h3, h4, h5⟩, hQ⟩
  clear hl
  replace hQ : Q (.tuple [fr (gx l o s t), fr (gy l o s t)]) := hQ
  have e : rhoP nm_gap_at.length [.d, .d, .d, .d] [eL l, eL o, fr s, fr t] = [some (.d (eL l)), some (.d (eL o)), some (.d (fr s)), some (.d (fr t)), none, none] := rfl
  rw [e]
  clear e
  simp only [dSeq, dAsg, dCB, dCons, dNil, dVar, onVs, vals, val, slot, setR, fGcd, dIfS, dTV, dOp, dBin, onV2, fLt, fLe, fGt, fGe, fAdd, fSub, fMul, fDiv, fMod, fI0, dC, dUn, onV, fNeg, dNext, dRet, dTup, onD, dats, fDivZ, fI, fPow, Few, retP, fAbs, fInt, fMax, fMin, fLen, fSqrt, fEq, fNe, dNot, dAnd, dOr, dAndV, dOrV, dNotV, dIfE, dDrop, dRetN, dPar, noO, dSetL, dLst, dOfL, dOwnM, onOwn, onDat, kAppend, kInsert, dSetItem, dAddItem, dIx, onItems, items, onInt, dNoPart, dPart, dSlice, onL, litems, dSlL, dCat, onM, mitems, dTupOf, dSeqI, dRng1, dRng2, dCallP, dCallB, dCallF, noSelf, onArgs, dats2, dIsi, tyName, dYes, dgTup, dgCons, dgNil, retB, dBreak, dCont, ne_eq, not_false_eq_true, true_and, and_true, List.getElem?_cons_zero, List.getElem?_cons_succ, List.set_cons_zero, List.set_cons_succ, Option.map, List.length_cons, List.length_nil, dLc_eq, dFor_eq, dSortSet, dSort, dListOf, dIsN, dNotN, isNo, dAug, dCatT, dSlT, onT, titems, dEnum, dZip, seqs, dRetL, dPar3, dRevT, dLstRg, dTupRg, dRg1, dRg2, dChainLe, List.nil_append, List.cons_append, if_true, if_false, dFrz, dLcO, List.map_cons, List.map_nil, fw0, fw1, fw2, fw3, fw4, fw5, fw6, fw7, fw8, fw9, fw10, fw11, fw12, fw13, fw14, fw15]
  refine u_place_on h0 h2 h4 (by omega) (u_place_on h1 h3 h4 (by omega) ?_)
  simp only [dSeq, dAsg, dCB, dCons, dNil, dVar, onVs, vals, val, slot, setR, fGcd, dIfS, dTV, dOp, dBin, onV2, fLt, fLe, fGt, fGe, fAdd, fSub, fMul, fDiv, fMod, fI0, dC, dUn, onV, fNeg, dNext, dRet, dTup, onD, dats, fDivZ, fI, fPow, Few, retP, fAbs, fInt, fMax, fMin, fLen, fSqrt, fEq, fNe, dNot, dAnd, dOr, dAndV, dOrV, dNotV, dIfE, dDrop, dRetN, dPar, noO, dSetL, dLst, dOfL, dOwnM, onOwn, onDat, kAppend, kInsert, dSetItem, dAddItem, dIx, onItems, items, onInt, dNoPart, dPart, dSlice, onL, litems, dSlL, dCat, onM, mitems, dTupOf, dSeqI, dRng1, dRng2, dCallP, dCallB, dCallF, noSelf, onArgs, dats2, dIsi, tyName, dYes, dgTup, dgCons, dgNil, retB, dBreak, dCont, ne_eq, not_false_eq_true, true_and, and_true, List.getElem?_cons_zero, List.getElem?_cons_succ, List.set_cons_zero, List.set_cons_succ, Option.map, List.length_cons, List.length_nil, dLc_eq, dFor_eq, dSortSet, dSort, dListOf, dIsN, dNotN, isNo, dAug, dCatT, dSlT, onT, titems, dEnum, dZip, seqs, dRetL, dPar3, dRevT, dLstRg, dTupRg, dRg1, dRg2, dChainLe, List.nil_append, List.cons_append, if_true, if_false, dFrz, dLcO, List.map_cons, List.map_nil, fw0, fw1, fw2, fw3, fw4, fw5, fw6, fw7, fw8, fw9, fw10, fw11, fw12, fw13, fw14, fw15, on0, on1]
  have a1 := px_sz h0 h2 h4
  have a2 := px_sz h1 h3 h4
  have a3 := py_sz h0 h2 h4
  have a4 := py_sz h1 h3 h4
  refine u_lessened a2 a1 (by omega) (u_lessened a4 a3 (by omega) hQ)
set_option maxHeartbeats 4000000 in
theorem ok_is_within {f : Addr} {fd : FuncData} (W : Fun K "is_within" "is_within" s_is_within f fd) (T : Bi mg)
    {f_lessened : Addr} {fd_lessened : FuncData} (G_lessened : FnG P w K mg base CX0 2 f_lessened fd_lessened ["one", "other"] (spP K [.d, .d] S_lessened)) (g_lessened : mg "lessened" = some (.ref f_lessened)) (k_lessened : PySem.W.keepIn K (.ref f_lessened) = true) (b_lessened : Binds K fd_lessened ["one", "other"] [])
    {f_compared : Addr} {fd_compared : FuncData} (G_compared : FnG P w K mg base CX0 1 f_compared fd_compared ["one", "other"] (spP K [.d, .d] S_compared)) (g_compared : mg "compared" = some (.ref f_compared)) (k_compared : PySem.W.keepIn K (.ref f_compared) = true) (b_compared : Binds K fd_compared ["one", "other"] [])
    {f_clipped : Addr} {fd_clipped : FuncData} (G_clipped : FnG P w K mg base CX0 1 f_clipped fd_clipped ["one"] (spP K [.d] S_clipped)) (g_clipped : mg "clipped" = some (.ref f_clipped)) (k_clipped : PySem.W.keepIn K (.ref f_clipped) = true) (b_clipped : Binds K fd_clipped ["one"] []) :
    FnG P w K mg base CX0 3 f fd ["s", "t", "rho"] (spP K [.d, .d, .d] S_is_within) := by
  refine fnP W sc_is_within rfl fun cdv A out s H E Nn hr hgd => ⟨_, _, (dss_cons (ds_if (pt_w (pwd_or (pt_ne hr.units rfl (pd_callP G_clipped m_clipped (hr.mono (by decide)) hgd rfl g_clipped k_clipped b_clipped (pda_cons (pdv 0) pda_nil)) (pdv 0)) (pwd_or1 (pt_ne hr.units rfl (pd_callP G_clipped m_clipped (hr.mono (by decide)) hgd rfl g_clipped k_clipped b_clipped (pda_cons (pdv 1) pda_nil)) (pdv 1))))) (dss_one (ds_ret pd_bl)) dss_nil)
      (dss_cons (ds_asg (pd_callP G_lessened m_lessened (hr.mono (by decide)) hgd rfl g_lessened k_lessened b_lessened (pda_cons (pdv 0) (pda_cons (pdv 1) pda_nil))) (pgd_tup (n := 2) rfl (pgds_cons (pgd_name (i := 3) sc_is_within.nd) (pgds_cons (pgd_name (i := 4) sc_is_within.nd) pgds_nil))) nofixP)
      (dss_one (ds_ret (pd_le (pd_callP G_compared m_compared (hr.mono (by decide)) hgd rfl g_compared k_compared b_compared (pda_cons (pd_tup (pda_cons (pd_callB call_abs sc_abs rfl T.b_abs (by decide +kernel) (pda_cons (pdv 3) pda_nil)) (pda_cons (pdv 4) pda_nil))) (pda_cons (pdv 2) pda_nil))) pd_int))))), ?_⟩
  clear W T hr hgd G_lessened g_lessened k_lessened b_lessened f_lessened fd_lessened G_compared g_compared k_compared b_compared f_compared fd_compared G_clipped g_clipped k_clipped b_clipped f_clipped fd_clipped
  rintro xs Q hl ⟨⟨s, t, rho, k⟩, rfl, ⟨h0, h1, h2, h3⟩, hQ⟩
  clear hl
  replace hQ : Q (.bool (decide (within s t rho))) := hQ
  have e : rhoP nm_is_within.length [.d, .d, .d] [fr s, fr t, fr rho] = [some (.d (fr s)), some (.d (fr t)), some (.d (fr rho)), none, none] := rfl
  rw [e]
  clear e
  refine seqI fun kk hk => ?_
  simp only [dSeq, dAsg, dCB, dCons, dNil, dVar, onVs, vals, val, slot, setR, fGcd, dIfS, dTV, dOp, dBin, onV2, fLt, fLe, fGt, fGe, fAdd, fSub, fMul, fDiv, fMod, fI0, dC, dUn, onV, fNeg, dNext, dRet, dTup, onD, dats, fDivZ, fI, fPow, Few, retP, fAbs, fInt, fMax, fMin, fLen, fSqrt, fEq, fNe, dNot, dAnd, dOr, dAndV, dOrV, dNotV, dIfE, dDrop, dRetN, dPar, noO, dSetL, dLst, dOfL, dOwnM, onOwn, onDat, kAppend, kInsert, dSetItem, dAddItem, dIx, onItems, items, onInt, dNoPart, dPart, dSlice, onL, litems, dSlL, dCat, onM, mitems, dTupOf, dSeqI, dRng1, dRng2, dCallP, dCallB, dCallF, noSelf, onArgs, dats2, dIsi, tyName, dYes, dgTup, dgCons, dgNil, retB, dBreak, dCont, ne_eq, not_false_eq_true, true_and, and_true, List.getElem?_cons_zero, List.getElem?_cons_succ, List.set_cons_zero, List.set_cons_succ, Option.map, List.length_cons, List.length_nil, dLc_eq, dFor_eq, dSortSet, dSort, dListOf, dIsN, dNotN, isNo, dAug, dCatT, dSlT, onT, titems, dEnum, dZip, seqs, dRetL, dPar3, dRevT, dLstRg, dTupRg, dRg1, dRg2, dChainLe, List.nil_append, List.cons_append, if_true, if_false, dFrz, dLcO, List.map_cons, List.map_nil, fw0, fw1, fw2, fw3, fw4, fw5, fw6, fw7, fw8, fw9, fw10, fw11, fw12, fw13, fw14, fw15]
  have no : ¬ within s t rho → Q (.bool false) := fun h => by rw [decide_eq_false h] at hQ; exact hQ
  refine u_clipped ⟨sh_fr, sh_fr, ?_⟩
  rw [eqv_fr]
  refine ite_nb (fun hs => ?_) fun hs => u_clipped ⟨sh_fr, sh_fr, ?_⟩
  · exact no fun h => hs (clip_same.mpr ⟨h.1, h.2.1⟩)
  rw [eqv_fr]
  refine ite_nb (fun ht => ?_) fun ht => ?_
  · exact no fun h => ht (clip_same.mpr ⟨h.2.2.1, h.2.2.2.1⟩)
  rw [hk]
  simp only [dSeq, dAsg, dCB, dCons, dNil, dVar, onVs, vals, val, slot, setR, fGcd, dIfS, dTV, dOp, dBin, onV2, fLt, fLe, fGt, fGe, fAdd, fSub, fMul, fDiv, fMod, fI0, dC, dUn, onV, fNeg, dNext, dRet, dTup, onD, dats, fDivZ, fI, fPow, Few, retP, fAbs, fInt, fMax, fMin, fLen, fSqrt, fEq, fNe, dNot, dAnd, dOr, dAndV, dOrV, dNotV, dIfE, dDrop, dRetN, dPar, noO, dSetL, dLst, dOfL, dOwnM, onOwn, onDat, kAppend, kInsert, dSetItem, dAddItem, dIx, onItems, items, onInt, dNoPart, dPart, dSlice, onL, litems, dSlL, dCat, onM, mitems, dTupOf, dSeqI, dRng1, dRng2, dCallP, dCallB, dCallF, noSelf, onArgs, dats2, dIsi, tyName, dYes, dgTup, dgCons, dgNil, retB, dBreak, dCont, ne_eq, not_false_eq_true, true_and, and_true, List.getElem?_cons_zero, List.getElem?_cons_succ, List.set_cons_zero, List.set_cons_succ, Option.map, List.length_cons, List.length_nil, dLc_eq, dFor_eq, dSortSet, dSort, dListOf, dIsN, dNotN, isNo, dAug, dCatT, dSlT, onT, titems, dEnum, dZip, seqs, dRetL, dPar3, dRevT, dLstRg, dTupRg, dRg1, dRg2, dChainLe, List.nil_append, List.cons_append, if_true, if_false, dFrz, dLcO, List.map_cons, List.map_nil, fw0, fw1, fw2, fw3, fw4, fw5, fw6, fw7, fw8, fw9, fw10, fw11, fw12, fw13, fw14, fw15]
  refine u_lessened h0 h1 (by omega) ?_
  simp only [dSeq, dAsg, dCB, dCons, dNil, dVar, onVs, vals, val, slot, setR, fGcd, dIfS, dTV, dOp, dBin, onV2, fLt, fLe, fGt, fGe, fAdd, fSub, fMul, fDiv, fMod, fI0, dC, dUn, onV, fNeg, dNext, dRet, dTup, onD, dats, fDivZ, fI, fPow, Few, retP, fAbs, fInt, fMax, fMin, fLen, fSqrt, fEq, fNe, dNot, dAnd, dOr, dAndV, dOrV, dNotV, dIfE, dDrop, dRetN, dPar, noO, dSetL, dLst, dOfL, dOwnM, onOwn, onDat, kAppend, kInsert, dSetItem, dAddItem, dIx, onItems, items, onInt, dNoPart, dPart, dSlice, onL, litems, dSlL, dCat, onM, mitems, dTupOf, dSeqI, dRng1, dRng2, dCallP, dCallB, dCallF, noSelf, onArgs, dats2, dIsi, tyName, dYes, dgTup, dgCons, dgNil, retB, dBreak, dCont, ne_eq, not_false_eq_true, true_and, and_true, List.getElem?_cons_zero, List.getElem?_cons_succ, List.set_cons_zero, List.set_cons_succ, Option.map, List.length_cons, List.length_nil, dLc_eq, dFor_eq, dSortSet, dSort, dListOf, dIsN, dNotN, isNo, dAug, dCatT, dSlT, onT, titems, dEnum, dZip, seqs, dRetL, dPar3, dRevT, dLstRg, dTupRg, dRg1, dRg2, dChainLe, List.nil_append, List.cons_append, if_true, if_false, dFrz, dLcO, List.map_cons, List.map_nil, fw0, fw1, fw2, fw3, fw4, fw5, fw6, fw7, fw8, fw9, fw10, fw11, fw12, fw13, fw14, fw15, fr]
  rw [fr_abs]
  refine u_compared (rabs_sz (h0.sub h1)) h2 (by omega) ?_
  simp only [dSeq, dAsg, dCB, dCons, dNil, dVar, onVs, vals, val, slot, setR, fGcd, dIfS, dTV, dOp, dBin, onV2, fLt, fLe, fGt, fGe, fAdd, fSub, fMul, fDiv, fMod, fI0, dC, dUn, onV, fNeg, dNext, dRet, dTup, onD, dats, fDivZ, fI, fPow, Few, retP, fAbs, fInt, fMax, fMin, fLen, fSqrt, fEq, fNe, dNot, dAnd, dOr, dAndV, dOrV, dNotV, dIfE, dDrop, dRetN, dPar, noO, dSetL, dLst, dOfL, dOwnM, onOwn, onDat, kAppend, kInsert, dSetItem, dAddItem, dIx, onItems, items, onInt, dNoPart, dPart, dSlice, onL, litems, dSlL, dCat, onM, mitems, dTupOf, dSeqI, dRng1, dRng2, dCallP, dCallB, dCallF, noSelf, onArgs, dats2, dIsi, tyName, dYes, dgTup, dgCons, dgNil, retB, dBreak, dCont, ne_eq, not_false_eq_true, true_and, and_true, List.getElem?_cons_zero, List.getElem?_cons_succ, List.set_cons_zero, List.set_cons_succ, Option.map, List.length_cons, List.length_nil, dLc_eq, dFor_eq, dSortSet, dSort, dListOf, dIsN, dNotN, isNo, dAug, dCatT, dSlT, onT, titems, dEnum, dZip, seqs, dRetL, dPar3, dRevT, dLstRg, dTupRg, dRg1, dRg2, dChainLe, List.nil_append, List.cons_append, if_true, if_false, dFrz, dLcO, List.map_cons, List.map_nil, fw0, fw1, fw2, fw3, fw4, fw5, fw6, fw7, fw8, fw9, fw10, fw11, fw12, fw13, fw14, fw15]
  have e : (cmpR (rabs (s - t)) rho ≤ 0) ↔ within s t rho := by
    rw [cmp_le]
    have a := clip_same.mp hs
    have b := clip_same.mp ht
    exact ⟨fun h => ⟨a.1, a.2, b.1, b.2, h⟩, fun h => h.2.2.2.2⟩
  rw [decide_eq_decide.mpr e]
  exact hQ
set_option maxHeartbeats 4000000 in
theorem ok__law_couple {f : Addr} {fd : FuncData} (W : Fun K "_law_couple" "_law_couple" s__law_couple f fd) (T : Bi mg)
    {f__law_some : Addr} {fd__law_some : FuncData} (G__law_some : FnG P w K mg base CX0 2 f__law_some fd__law_some ["_law_bag_here", "_law_things"] (spB K [.d] S__law_some)) (g__law_some : mg "_law_some" = some (.ref f__law_some)) (k__law_some : PySem.W.keepIn K (.ref f__law_some) = true) (b__law_some : Binds K fd__law_some ["_law_bag_here", "_law_things"] [])
    {f__law_offsets : Addr} {fd__law_offsets : FuncData} (G__law_offsets : FnG P w K mg base CX0 2 f__law_offsets fd__law_offsets ["_law_spacing"] (spP K [.d] S__law_offsets)) (g__law_offsets : mg "_law_offsets" = some (.ref f__law_offsets)) (k__law_offsets : PySem.W.keepIn K (.ref f__law_offsets) = true) (b__law_offsets : Binds K fd__law_offsets ["_law_spacing"] [])
    {f__law_take : Addr} {fd__law_take : FuncData} (G__law_take : FnG P w K mg base CX0 1 f__law_take fd__law_take ["_law_bag_here", "_law_many"] (spB K [.d] S__law_take)) (g__law_take : mg "_law_take" = some (.ref f__law_take)) (k__law_take : PySem.W.keepIn K (.ref f__law_take) = true) (b__law_take : Binds K fd__law_take ["_law_bag_here", "_law_many"] []) :
    FnG P w K mg base CX0 3 f fd ["_law_bag_here", "_law_spacing"] (spB K [.d] S__law_couple) := by
  refine fnB W sc__law_couple rfl fun cdv A out s H E Nn B hr hgd => ⟨_, _, (dss_cons (ds_par (i := 2) (j := 3) rfl sc__law_couple.nd (pda_cons (pd_tup (pda_cons pd_int (pda_cons pd_int pda_nil))) (pda_cons (pd_callBag G__law_some m__law_some (hr.mono (by decide)) hgd rfl g__law_some k__law_some b__law_some (pda_cons (pdv 0) (pda_cons (pd_callP G__law_offsets m__law_offsets (hr.mono (by decide)) hgd rfl g__law_offsets k__law_offsets b__law_offsets (pda_cons (pdv 1) pda_nil)) pda_nil))) pda_nil)) (fixB (by decide)) (fixB (by decide)))
      (dss_cons (ds_set (i := 4) sc__law_couple.nd (pd_callBag G__law_some m__law_some (hr.mono (by decide)) hgd rfl g__law_some k__law_some b__law_some (pda_cons (pdv 0) (pda_cons (pd_l (pl_cat (pd_callP G__law_offsets m__law_offsets (hr.mono (by decide)) hgd rfl g__law_offsets k__law_offsets b__law_offsets (pda_cons (pdv 1) pda_nil)) (pd_l (pl_lst (pda_cons (pdv 3) (pda_cons (pd_tup (pda_cons (pd_neg (pd_ix (pdv 3) pd_int (fun _ _ => rfl))) (pda_cons (pd_ix (pdv 3) pd_int (fun _ _ => rfl)) pda_nil))) (pda_cons (pd_tup (pda_cons (pd_ix (pdv 3) pd_int (fun _ _ => rfl)) (pda_cons (pd_neg (pd_ix (pdv 3) pd_int (fun _ _ => rfl))) pda_nil))) (pda_cons (pd_tup (pda_cons (pd_mul pd_int (pd_ix (pdv 3) pd_int (fun _ _ => rfl))) (pda_cons (pd_mul pd_int (pd_ix (pdv 3) pd_int (fun _ _ => rfl))) pda_nil))) pda_nil)))))))) pda_nil))) (fixB (by decide)))
      (dss_cons (ds_set (i := 5) sc__law_couple.nd (pd_tup (pda_cons (pd_sub (pd_callBag G__law_take m__law_take (hr.mono (by decide)) hgd rfl g__law_take k__law_take b__law_take (pda_cons (pdv 0) (pda_cons (pd_add (pd_mul pd_int (pdv 1)) pd_int) pda_nil))) (pd_mul pd_int (pdv 1))) (pda_cons (pd_sub (pd_callBag G__law_take m__law_take (hr.mono (by decide)) hgd rfl g__law_take k__law_take b__law_take (pda_cons (pdv 0) (pda_cons (pd_add (pd_mul pd_int (pdv 1)) pd_int) pda_nil))) (pd_mul pd_int (pdv 1))) pda_nil))) (fixB (by decide)))
      (dss_cons (ds_set (i := 5) sc__law_couple.nd (pd_callBag G__law_some m__law_some (hr.mono (by decide)) hgd rfl g__law_some k__law_some b__law_some (pda_cons (pdv 0) (pda_cons (pd_l (pl_lst (pda_cons (pdv 5) (pda_cons (pd_tup (pda_cons pd_int (pda_cons pd_int pda_nil))) (pda_cons (pd_tup (pda_cons (pd_mul (pd_neg pd_int) (pd_add (pd_ix (pdv 3) pd_int (fun _ _ => rfl)) (pd_ix (pdv 4) pd_int (fun _ _ => rfl)))) (pda_cons (pd_mul (pd_neg pd_int) (pd_add (pd_ix (pdv 3) pd_int (fun _ _ => rfl)) (pd_ix (pdv 4) pd_int (fun _ _ => rfl)))) pda_nil))) (pda_cons (pd_tup (pda_cons (pd_ix (pdv 3) pd_int (fun _ _ => rfl)) (pda_cons (pd_ix (pdv 3) pd_int (fun _ _ => rfl)) pda_nil))) (pda_cons (pd_tup (pda_cons (pd_mul pd_int (pd_ix (pdv 4) pd_int (fun _ _ => rfl))) (pda_cons (pd_mul pd_int (pd_ix (pdv 4) pd_int (fun _ _ => rfl))) pda_nil))) pda_nil))))))) pda_nil))) (fixB (by decide)))
      (dss_one (ds_ret (pd_tup (pda_cons (pd_tup (pda_cons (pdv 2) (pda_cons (pdv 5) pda_nil))) (pda_cons (pd_tup (pda_cons (pdv 3) (pda_cons (pd_tup (pda_cons (pd_add (pd_ix (pdv 5) pd_int (fun _ _ => rfl)) (pd_ix (pdv 4) pd_int (fun _ _ => rfl))) (pda_cons (pd_add (pd_ix (pdv 5) pd_int (fun _ _ => rfl)) (pd_ix (pdv 4) pd_int (fun _ _ => rfl))) pda_nil))) pda_nil))) pda_nil))))))))), ?_⟩
  clear W T hr hgd G__law_some g__law_some k__law_some b__law_some f__law_some fd__law_some G__law_offsets g__law_offsets k__law_offsets b__law_offsets f__law_offsets fd__law_offsets G__law_take g__law_take k__law_take b__law_take f__law_take fd__law_take
  rintro bag xs Q hl ⟨sp, m, hb, hm, rfl, ⟨h0, h1⟩, hQ⟩
  clear hl
  replace hQ : ∀ z bag', (∃ l o : Lg, z = .tuple [eL l, eL o] ∧ LB 14 l ∧ LB 14 o) → Bag (m + 5) bag' → Q z bag'   := hQ
  have hm : m + 5 < 2 ^ 60 := hm
  have e : (some (.own bag) :: rhoP (nm__law_couple.length - 1) [.d] [.int sp] : Rho) = [some (.own bag), some (.d (.int sp)), none, none, none, none] := rfl
  rw [e]
  clear e
  have b2 : Bd 2 2 := by unfold Bd; decide
  have b3 : Bd 2 3 := by unfold Bd; decide
  have b6 : Bd 3 6 := by unfold Bd; decide
  have bm3 : Bd 2 (-3) := by unfold Bd; decide
  have hs : Bd 5 sp := bd_of 20 (by omega) (by omega)
  refine seqI fun kk hk => ?_
  simp only [dSeq, dAsg, dCB, dCons, dNil, dVar, onVs, vals, val, slot, setR, fGcd, dIfS, dTV, dOp, dBin, onV2, fLt, fLe, fGt, fGe, fAdd, fSub, fMul, fDiv, fMod, fI0, dC, dUn, onV, fNeg, dNext, dRet, dTup, onD, dats, fDivZ, fI, fPow, Few, retP, fAbs, fInt, fMax, fMin, fLen, fSqrt, fEq, fNe, dNot, dAnd, dOr, dAndV, dOrV, dNotV, dIfE, dDrop, dRetN, dPar, noO, dSetL, dLst, dOfL, dOwnM, onOwn, onDat, kAppend, kInsert, dSetItem, dAddItem, dIx, onItems, items, onInt, dNoPart, dPart, dSlice, onL, litems, dSlL, dCat, onM, mitems, dTupOf, dSeqI, dRng1, dRng2, dCallP, dCallB, dCallF, noSelf, onArgs, dats2, dIsi, tyName, dYes, dgTup, dgCons, dgNil, retB, dBreak, dCont, ne_eq, not_false_eq_true, true_and, and_true, List.getElem?_cons_zero, List.getElem?_cons_succ, List.set_cons_zero, List.set_cons_succ, Option.map, List.length_cons, List.length_nil, dLc_eq, dFor_eq, dSortSet, dSort, dListOf, dIsN, dNotN, isNo, dAug, dCatT, dSlT, onT, titems, dEnum, dZip, seqs, dRetL, dPar3, dRevT, dLstRg, dTupRg, dRg1, dRg2, dChainLe, List.nil_append, List.cons_append, if_true, if_false, dFrz, dLcO, List.map_cons, List.map_nil, fw0, fw1, fw2, fw3, fw4, fw5, fw6, fw7, fw8, fw9, fw10, fw11, fw12, fw13, fw14, fw15]
  refine u__law_offsets h0 h1 fun z hz => ?_
  obtain ⟨ps, rfl, l0, l1, hp⟩ := hz
  refine u_some hb (by omega) (by rw [List.length_map]; exact l0) (by rw [List.length_map]; omega) fun y hy bag1 hb1 => ?_
  obtain ⟨b, hbm, rfl⟩ := List.mem_map.mp hy
  obtain ⟨b10, b11, b20, b21⟩ := hp b hbm
  have c1 : Bd 6 b.1 := bd_of 60 (by omega) (by omega)
  have c2 : Bd 6 b.2 := bd_of 60 (by omega) (by omega)
  rw [hk]
  refine seqI fun k2 hk2 => ?_
  simp only [dSeq, dAsg, dCB, dCons, dNil, dVar, onVs, vals, val, slot, setR, fGcd, dIfS, dTV, dOp, dBin, onV2, fLt, fLe, fGt, fGe, fAdd, fSub, fMul, fDiv, fMod, fI0, dC, dUn, onV, fNeg, dNext, dRet, dTup, onD, dats, fDivZ, fI, fPow, Few, retP, fAbs, fInt, fMax, fMin, fLen, fSqrt, fEq, fNe, dNot, dAnd, dOr, dAndV, dOrV, dNotV, dIfE, dDrop, dRetN, dPar, noO, dSetL, dLst, dOfL, dOwnM, onOwn, onDat, kAppend, kInsert, dSetItem, dAddItem, dIx, onItems, items, onInt, dNoPart, dPart, dSlice, onL, litems, dSlL, dCat, onM, mitems, dTupOf, dSeqI, dRng1, dRng2, dCallP, dCallB, dCallF, noSelf, onArgs, dats2, dIsi, tyName, dYes, dgTup, dgCons, dgNil, retB, dBreak, dCont, ne_eq, not_false_eq_true, true_and, and_true, List.getElem?_cons_zero, List.getElem?_cons_succ, List.set_cons_zero, List.set_cons_succ, Option.map, List.length_cons, List.length_nil, dLc_eq, dFor_eq, dSortSet, dSort, dListOf, dIsN, dNotN, isNo, dAug, dCatT, dSlT, onT, titems, dEnum, dZip, seqs, dRetL, dPar3, dRevT, dLstRg, dTupRg, dRg1, dRg2, dChainLe, List.nil_append, List.cons_append, if_true, if_false, dFrz, dLcO, List.map_cons, List.map_nil, fw0, fw1, fw2, fw3, fw4, fw5, fw6, fw7, fw8, fw9, fw10, fw11, fw12, fw13, fw14, fw15]
  refine u__law_offsets h0 h1 fun z hz => ?_
  obtain ⟨qs, rfl, n0, n1, hq⟩ := hz
  simp only [dSeq, dAsg, dCB, dCons, dNil, dVar, onVs, vals, val, slot, setR, fGcd, dIfS, dTV, dOp, dBin, onV2, fLt, fLe, fGt, fGe, fAdd, fSub, fMul, fDiv, fMod, fI0, dC, dUn, onV, fNeg, dNext, dRet, dTup, onD, dats, fDivZ, fI, fPow, Few, retP, fAbs, fInt, fMax, fMin, fLen, fSqrt, fEq, fNe, dNot, dAnd, dOr, dAndV, dOrV, dNotV, dIfE, dDrop, dRetN, dPar, noO, dSetL, dLst, dOfL, dOwnM, onOwn, onDat, kAppend, kInsert, dSetItem, dAddItem, dIx, onItems, items, onInt, dNoPart, dPart, dSlice, onL, litems, dSlL, dCat, onM, mitems, dTupOf, dSeqI, dRng1, dRng2, dCallP, dCallB, dCallF, noSelf, onArgs, dats2, dIsi, tyName, dYes, dgTup, dgCons, dgNil, retB, dBreak, dCont, ne_eq, not_false_eq_true, true_and, and_true, List.getElem?_cons_zero, List.getElem?_cons_succ, List.set_cons_zero, List.set_cons_succ, Option.map, List.length_cons, List.length_nil, dLc_eq, dFor_eq, dSortSet, dSort, dListOf, dIsN, dNotN, isNo, dAug, dCatT, dSlT, onT, titems, dEnum, dZip, seqs, dRetL, dPar3, dRevT, dLstRg, dTupRg, dRg1, dRg2, dChainLe, List.nil_append, List.cons_append, if_true, if_false, dFrz, dLcO, List.map_cons, List.map_nil, fw0, fw1, fw2, fw3, fw4, fw5, fw6, fw7, fw8, fw9, fw10, fw11, fw12, fw13, fw14, fw15, enc2, pr, on0, on1]
  refine ⟨cmb b2 c1, cmb b2 c2, few_le (by simp; omega), ?_⟩
  have he : qs.map (fun p => PyData.tuple [.int p.1, .int p.2]) = qs.map enc2 := rfl
  refine u_some hb1 (by omega) (by simp) (by simp; omega) fun y2 hy2 bag2 hb2 => ?_
  have hv : ∃ v : P2, y2 = enc2 v ∧ Inb 120 v := by
    rcases List.mem_append.mp hy2 with h | h
    · obtain ⟨v, hv, rfl⟩ := List.mem_map.mp h
      obtain ⟨x0, x1, x2, x3⟩ := hq v hv
      exact ⟨v, rfl, by unfold Inb; omega⟩
    · simp only [List.mem_cons, List.not_mem_nil, or_false] at h
      rcases h with rfl | rfl | rfl | rfl
      · exact ⟨b, rfl, by unfold Inb; omega⟩
      · exact ⟨(-b.2, b.1), rfl, by unfold Inb; dsimp only; omega⟩
      · exact ⟨(b.2, -b.1), rfl, by unfold Inb; dsimp only; omega⟩
      · exact ⟨(2 * b.1, 2 * b.2), rfl, by unfold Inb; dsimp only; omega⟩
  obtain ⟨v, rfl, v0, v1, v2, v3⟩ := hv
  clear hy2
  have d1 : Bd 7 v.1 := bd_of 120 (by omega) (by omega)
  have d2 : Bd 7 v.2 := bd_of 120 (by omega) (by omega)
  rw [hk2]
  refine seqI fun k3 hk3 => ?_
  simp only [dSeq, dAsg, dCB, dCons, dNil, dVar, onVs, vals, val, slot, setR, fGcd, dIfS, dTV, dOp, dBin, onV2, fLt, fLe, fGt, fGe, fAdd, fSub, fMul, fDiv, fMod, fI0, dC, dUn, onV, fNeg, dNext, dRet, dTup, onD, dats, fDivZ, fI, fPow, Few, retP, fAbs, fInt, fMax, fMin, fLen, fSqrt, fEq, fNe, dNot, dAnd, dOr, dAndV, dOrV, dNotV, dIfE, dDrop, dRetN, dPar, noO, dSetL, dLst, dOfL, dOwnM, onOwn, onDat, kAppend, kInsert, dSetItem, dAddItem, dIx, onItems, items, onInt, dNoPart, dPart, dSlice, onL, litems, dSlL, dCat, onM, mitems, dTupOf, dSeqI, dRng1, dRng2, dCallP, dCallB, dCallF, noSelf, onArgs, dats2, dIsi, tyName, dYes, dgTup, dgCons, dgNil, retB, dBreak, dCont, ne_eq, not_false_eq_true, true_and, and_true, List.getElem?_cons_zero, List.getElem?_cons_succ, List.set_cons_zero, List.set_cons_succ, Option.map, List.length_cons, List.length_nil, dLc_eq, dFor_eq, dSortSet, dSort, dListOf, dIsN, dNotN, isNo, dAug, dCatT, dSlT, onT, titems, dEnum, dZip, seqs, dRetL, dPar3, dRevT, dLstRg, dTupRg, dRg1, dRg2, dChainLe, List.nil_append, List.cons_append, if_true, if_false, dFrz, dLcO, List.map_cons, List.map_nil, fw0, fw1, fw2, fw3, fw4, fw5, fw6, fw7, fw8, fw9, fw10, fw11, fw12, fw13, fw14, fw15]
  refine ⟨cmb b6 hs, u_take hb2 (by omega) (by omega) (by omega) fun w1 bag3 w10 w11 hb3 => ?_⟩
  simp only [dSeq, dAsg, dCB, dCons, dNil, dVar, onVs, vals, val, slot, setR, fGcd, dIfS, dTV, dOp, dBin, onV2, fLt, fLe, fGt, fGe, fAdd, fSub, fMul, fDiv, fMod, fI0, dC, dUn, onV, fNeg, dNext, dRet, dTup, onD, dats, fDivZ, fI, fPow, Few, retP, fAbs, fInt, fMax, fMin, fLen, fSqrt, fEq, fNe, dNot, dAnd, dOr, dAndV, dOrV, dNotV, dIfE, dDrop, dRetN, dPar, noO, dSetL, dLst, dOfL, dOwnM, onOwn, onDat, kAppend, kInsert, dSetItem, dAddItem, dIx, onItems, items, onInt, dNoPart, dPart, dSlice, onL, litems, dSlL, dCat, onM, mitems, dTupOf, dSeqI, dRng1, dRng2, dCallP, dCallB, dCallF, noSelf, onArgs, dats2, dIsi, tyName, dYes, dgTup, dgCons, dgNil, retB, dBreak, dCont, ne_eq, not_false_eq_true, true_and, and_true, List.getElem?_cons_zero, List.getElem?_cons_succ, List.set_cons_zero, List.set_cons_succ, Option.map, List.length_cons, List.length_nil, dLc_eq, dFor_eq, dSortSet, dSort, dListOf, dIsN, dNotN, isNo, dAug, dCatT, dSlT, onT, titems, dEnum, dZip, seqs, dRetL, dPar3, dRevT, dLstRg, dTupRg, dRg1, dRg2, dChainLe, List.nil_append, List.cons_append, if_true, if_false, dFrz, dLcO, List.map_cons, List.map_nil, fw0, fw1, fw2, fw3, fw4, fw5, fw6, fw7, fw8, fw9, fw10, fw11, fw12, fw13, fw14, fw15]
  refine ⟨cmb b3 hs, cmb b6 hs, u_take hb3 (by omega) (by omega) (by omega) fun w2 bag4 w20 w21 hb4 => ?_⟩
  simp only [dSeq, dAsg, dCB, dCons, dNil, dVar, onVs, vals, val, slot, setR, fGcd, dIfS, dTV, dOp, dBin, onV2, fLt, fLe, fGt, fGe, fAdd, fSub, fMul, fDiv, fMod, fI0, dC, dUn, onV, fNeg, dNext, dRet, dTup, onD, dats, fDivZ, fI, fPow, Few, retP, fAbs, fInt, fMax, fMin, fLen, fSqrt, fEq, fNe, dNot, dAnd, dOr, dAndV, dOrV, dNotV, dIfE, dDrop, dRetN, dPar, noO, dSetL, dLst, dOfL, dOwnM, onOwn, onDat, kAppend, kInsert, dSetItem, dAddItem, dIx, onItems, items, onInt, dNoPart, dPart, dSlice, onL, litems, dSlL, dCat, onM, mitems, dTupOf, dSeqI, dRng1, dRng2, dCallP, dCallB, dCallF, noSelf, onArgs, dats2, dIsi, tyName, dYes, dgTup, dgCons, dgNil, retB, dBreak, dCont, ne_eq, not_false_eq_true, true_and, and_true, List.getElem?_cons_zero, List.getElem?_cons_succ, List.set_cons_zero, List.set_cons_succ, Option.map, List.length_cons, List.length_nil, dLc_eq, dFor_eq, dSortSet, dSort, dListOf, dIsN, dNotN, isNo, dAug, dCatT, dSlT, onT, titems, dEnum, dZip, seqs, dRetL, dPar3, dRevT, dLstRg, dTupRg, dRg1, dRg2, dChainLe, List.nil_append, List.cons_append, if_true, if_false, dFrz, dLcO, List.map_cons, List.map_nil, fw0, fw1, fw2, fw3, fw4, fw5, fw6, fw7, fw8, fw9, fw10, fw11, fw12, fw13, fw14, fw15]
  refine ⟨cmb b3 hs, ?_⟩
  rw [hk3]
  refine seqI fun k4 hk4 => ?_
  simp only [dSeq, dAsg, dCB, dCons, dNil, dVar, onVs, vals, val, slot, setR, fGcd, dIfS, dTV, dOp, dBin, onV2, fLt, fLe, fGt, fGe, fAdd, fSub, fMul, fDiv, fMod, fI0, dC, dUn, onV, fNeg, dNext, dRet, dTup, onD, dats, fDivZ, fI, fPow, Few, retP, fAbs, fInt, fMax, fMin, fLen, fSqrt, fEq, fNe, dNot, dAnd, dOr, dAndV, dOrV, dNotV, dIfE, dDrop, dRetN, dPar, noO, dSetL, dLst, dOfL, dOwnM, onOwn, onDat, kAppend, kInsert, dSetItem, dAddItem, dIx, onItems, items, onInt, dNoPart, dPart, dSlice, onL, litems, dSlL, dCat, onM, mitems, dTupOf, dSeqI, dRng1, dRng2, dCallP, dCallB, dCallF, noSelf, onArgs, dats2, dIsi, tyName, dYes, dgTup, dgCons, dgNil, retB, dBreak, dCont, ne_eq, not_false_eq_true, true_and, and_true, List.getElem?_cons_zero, List.getElem?_cons_succ, List.set_cons_zero, List.set_cons_succ, Option.map, List.length_cons, List.length_nil, dLc_eq, dFor_eq, dSortSet, dSort, dListOf, dIsN, dNotN, isNo, dAug, dCatT, dSlT, onT, titems, dEnum, dZip, seqs, dRetL, dPar3, dRevT, dLstRg, dTupRg, dRg1, dRg2, dChainLe, List.nil_append, List.cons_append, if_true, if_false, dFrz, dLcO, List.map_cons, List.map_nil, fw0, fw1, fw2, fw3, fw4, fw5, fw6, fw7, fw8, fw9, fw10, fw11, fw12, fw13, fw14, fw15, enc2, pr, on0, on1]
  have e1 := c1.up (show 6 ≤ 7 by decide) |>.add1 d1
  have e2 := c2.up (show 6 ≤ 7 by decide) |>.add1 d2
  refine ⟨cmb bm3 e1, cmb bm3 e2, cmb b2 d1, cmb b2 d2, u_some hb4 (by omega) (by simp) (by simp) fun y3 hy3 bag5 hb5 => ?_⟩
  have hm' : ∃ m : P2, y3 = enc2 m ∧ Inb 600 m := by
    simp only [List.mem_cons, List.not_mem_nil, or_false] at hy3
    rcases hy3 with rfl | rfl | rfl | rfl | rfl
    · exact ⟨(w1 - 3 * sp, w2 - 3 * sp), rfl, by unfold Inb; dsimp only; omega⟩
    · exact ⟨(0, 0), rfl, by unfold Inb; dsimp only; omega⟩
    · exact ⟨(-3 * (b.1 + v.1), -3 * (b.2 + v.2)), rfl, by unfold Inb; dsimp only; omega⟩
    · exact ⟨(b.1, b.2), rfl, by unfold Inb; dsimp only; omega⟩
    · exact ⟨(2 * v.1, 2 * v.2), rfl, by unfold Inb; dsimp only; omega⟩
  obtain ⟨mm, rfl, m0, m1, m2, m3⟩ := hm'
  clear hy3 hk hk2 hk3
  rw [hk4]
  simp only [dSeq, dAsg, dCB, dCons, dNil, dVar, onVs, vals, val, slot, setR, fGcd, dIfS, dTV, dOp, dBin, onV2, fLt, fLe, fGt, fGe, fAdd, fSub, fMul, fDiv, fMod, fI0, dC, dUn, onV, fNeg, dNext, dRet, dTup, onD, dats, fDivZ, fI, fPow, Few, retP, fAbs, fInt, fMax, fMin, fLen, fSqrt, fEq, fNe, dNot, dAnd, dOr, dAndV, dOrV, dNotV, dIfE, dDrop, dRetN, dPar, noO, dSetL, dLst, dOfL, dOwnM, onOwn, onDat, kAppend, kInsert, dSetItem, dAddItem, dIx, onItems, items, onInt, dNoPart, dPart, dSlice, onL, litems, dSlL, dCat, onM, mitems, dTupOf, dSeqI, dRng1, dRng2, dCallP, dCallB, dCallF, noSelf, onArgs, dats2, dIsi, tyName, dYes, dgTup, dgCons, dgNil, retB, dBreak, dCont, ne_eq, not_false_eq_true, true_and, and_true, List.getElem?_cons_zero, List.getElem?_cons_succ, List.set_cons_zero, List.set_cons_succ, Option.map, List.length_cons, List.length_nil, dLc_eq, dFor_eq, dSortSet, dSort, dListOf, dIsN, dNotN, isNo, dAug, dCatT, dSlT, onT, titems, dEnum, dZip, seqs, dRetL, dPar3, dRevT, dLstRg, dTupRg, dRg1, dRg2, dChainLe, List.nil_append, List.cons_append, if_true, if_false, dFrz, dLcO, List.map_cons, List.map_nil, fw0, fw1, fw2, fw3, fw4, fw5, fw6, fw7, fw8, fw9, fw10, fw11, fw12, fw13, fw14, fw15, enc2, pr, on0, on1]
  exact hQ _ _ ⟨⟨0, 0, mm.1, mm.2⟩, ⟨b.1, b.2, mm.1 + v.1, mm.2 + v.2⟩, rfl, lb14 (by omega) (by omega) (by omega) (by omega) (by omega) (by omega) (by omega) (by omega), lb14 (by omega) (by omega) (by omega) (by omega) (by omega) (by omega) (by omega) (by omega)⟩ hb5
set_option maxHeartbeats 4000000 in
theorem ok__law_corners {f : Addr} {fd : FuncData} (W : Fun K "_law_corners" "_law_corners" s__law_corners f fd) (T : Bi mg)
    {f__law_lessened : Addr} {fd__law_lessened : FuncData} (G__law_lessened : FnG P w K mg base CX0 2 f__law_lessened fd__law_lessened ["_law_x", "_law_y"] (spP K [.d, .d] S__law_lessened)) (g__law_lessened : mg "_law_lessened" = some (.ref f__law_lessened)) (k__law_lessened : PySem.W.keepIn K (.ref f__law_lessened) = true) (b__law_lessened : Binds K fd__law_lessened ["_law_x", "_law_y"] []) :
    FnG P w K mg base CX0 3 f fd ["_law_rho"] (spP K [.d] S__law_corners) := by
  refine fnP W sc__law_corners rfl fun cdv A out s H E Nn hr hgd => ⟨_, _, (dss_cons (ds_set (i := 1) sc__law_corners.nd (pd_callP G__law_lessened m__law_lessened (hr.mono (by decide)) hgd rfl g__law_lessened k__law_lessened b__law_lessened (pda_cons (pd_tup (pda_cons pd_int (pda_cons pd_int pda_nil))) (pda_cons (pdv 0) pda_nil))) fixP)
      (dss_one (ds_ret (pd_l (pl_lst (pda_cons (pd_tup (pda_cons (pd_tup (pda_cons pd_int (pda_cons pd_int pda_nil))) (pda_cons (pd_tup (pda_cons pd_int (pda_cons pd_int pda_nil))) pda_nil))) (pda_cons (pd_tup (pda_cons (pdv 0) (pda_cons (pd_tup (pda_cons pd_int (pda_cons pd_int pda_nil))) pda_nil))) (pda_cons (pd_tup (pda_cons (pd_tup (pda_cons pd_int (pda_cons pd_int pda_nil))) (pda_cons (pdv 1) pda_nil))) (pda_cons (pd_tup (pda_cons (pd_tup (pda_cons pd_int (pda_cons pd_int pda_nil))) (pda_cons (pd_tup (pda_cons pd_int (pda_cons pd_int pda_nil))) pda_nil))) (pda_cons (pd_tup (pda_cons (pdv 1) (pda_cons (pd_tup (pda_cons pd_int (pda_cons pd_int pda_nil))) pda_nil))) (pda_cons (pd_tup (pda_cons (pd_tup (pda_cons pd_int (pda_cons pd_int pda_nil))) (pda_cons (pdv 0) pda_nil))) pda_nil))))))))))), ?_⟩
  clear W T hr hgd G__law_lessened g__law_lessened k__law_lessened b__law_lessened f__law_lessened fd__law_lessened
  rintro xs Q hl ⟨⟨rho, k⟩, rfl, ⟨h0, h1⟩, hQ⟩
  clear hl
  replace hQ : Q (.list ((crn rho).map pf)) := hQ
  have e : rhoP nm__law_corners.length [.d] [fr rho] = [some (.d (fr rho)), none] := rfl
  rw [e]
  clear e
  simp only [dSeq, dAsg, dCB, dCons, dNil, dVar, onVs, vals, val, slot, setR, fGcd, dIfS, dTV, dOp, dBin, onV2, fLt, fLe, fGt, fGe, fAdd, fSub, fMul, fDiv, fMod, fI0, dC, dUn, onV, fNeg, dNext, dRet, dTup, onD, dats, fDivZ, fI, fPow, Few, retP, fAbs, fInt, fMax, fMin, fLen, fSqrt, fEq, fNe, dNot, dAnd, dOr, dAndV, dOrV, dNotV, dIfE, dDrop, dRetN, dPar, noO, dSetL, dLst, dOfL, dOwnM, onOwn, onDat, kAppend, kInsert, dSetItem, dAddItem, dIx, onItems, items, onInt, dNoPart, dPart, dSlice, onL, litems, dSlL, dCat, onM, mitems, dTupOf, dSeqI, dRng1, dRng2, dCallP, dCallB, dCallF, noSelf, onArgs, dats2, dIsi, tyName, dYes, dgTup, dgCons, dgNil, retB, dBreak, dCont, ne_eq, not_false_eq_true, true_and, and_true, List.getElem?_cons_zero, List.getElem?_cons_succ, List.set_cons_zero, List.set_cons_succ, Option.map, List.length_cons, List.length_nil, dLc_eq, dFor_eq, dSortSet, dSort, dListOf, dIsN, dNotN, isNo, dAug, dCatT, dSlT, onT, titems, dEnum, dZip, seqs, dRetL, dPar3, dRevT, dLstRg, dTupRg, dRg1, dRg2, dChainLe, List.nil_append, List.cons_append, if_true, if_false, dFrz, dLcO, List.map_cons, List.map_nil, fw0, fw1, fw2, fw3, fw4, fw5, fw6, fw7, fw8, fw9, fw10, fw11, fw12, fw13, fw14, fw15]
  exact u__law_lessened (p := 1) (q := rho) (sz_one (k := 1)) h0 (by omega) hQ
set_option maxHeartbeats 4000000 in
theorem ok__law_gap {f : Addr} {fd : FuncData} (W : Fun K "_law_gap" "_law_gap" s__law_gap f fd) (T : Bi mg)
    {f__law_added : Addr} {fd__law_added : FuncData} (G__law_added : FnG P w K mg base CX0 2 f__law_added fd__law_added ["_law_x", "_law_y"] (spP K [.d, .d] S__law_added)) (g__law_added : mg "_law_added" = some (.ref f__law_added)) (k__law_added : PySem.W.keepIn K (.ref f__law_added) = true) (b__law_added : Binds K fd__law_added ["_law_x", "_law_y"] [])
    {f__law_multiplied : Addr} {fd__law_multiplied : FuncData} (G__law_multiplied : FnG P w K mg base CX0 2 f__law_multiplied fd__law_multiplied ["_law_x", "_law_y"] (spP K [.d, .d] S__law_multiplied)) (g__law_multiplied : mg "_law_multiplied" = some (.ref f__law_multiplied)) (k__law_multiplied : PySem.W.keepIn K (.ref f__law_multiplied) = true) (b__law_multiplied : Binds K fd__law_multiplied ["_law_x", "_law_y"] [])
    {f__law_lessened : Addr} {fd__law_lessened : FuncData} (G__law_lessened : FnG P w K mg base CX0 2 f__law_lessened fd__law_lessened ["_law_x", "_law_y"] (spP K [.d, .d] S__law_lessened)) (g__law_lessened : mg "_law_lessened" = some (.ref f__law_lessened)) (k__law_lessened : PySem.W.keepIn K (.ref f__law_lessened) = true) (b__law_lessened : Binds K fd__law_lessened ["_law_x", "_law_y"] []) :
    FnG P w K mg base CX0 3 f fd ["_law_leg", "_law_other", "_law_s", "_law_t"] (spP K [.d, .d, .d, .d] S__law_gap) := by
  refine fnP W sc__law_gap rfl fun cdv A out s H E Nn hr hgd => ⟨_, _, (dss_cons (ds_setL (i := 4) sc__law_gap.nd (pl_lst pda_nil) fixP)
      (dss_cons (ds_for PassesOwn.never rfl (pdi_seq (pd_tup (pda_cons pd_int (pda_cons pd_int pda_nil)))) (pgd_name (i := 5) sc__law_gap.nd) (dss_cons (ds_set (i := 6) sc__law_gap.nd (pd_callP G__law_added m__law_added (hr.mono (by decide)) hgd rfl g__law_added k__law_added b__law_added (pda_cons (pd_tup (pda_cons (pd_ix (pd_ix (pdv 0) pd_int (fun _ _ => rfl)) (pdv 5) (fun _ _ => rfl)) (pda_cons pd_int pda_nil))) (pda_cons (pd_callP G__law_multiplied m__law_multiplied (hr.mono (by decide)) hgd rfl g__law_multiplied k__law_multiplied b__law_multiplied (pda_cons (pdv 2) (pda_cons (pd_tup (pda_cons (pd_sub (pd_ix (pd_ix (pdv 0) pd_int (fun _ _ => rfl)) (pdv 5) (fun _ _ => rfl)) (pd_ix (pd_ix (pdv 0) pd_int (fun _ _ => rfl)) (pdv 5) (fun _ _ => rfl))) (pda_cons pd_int pda_nil))) pda_nil))) pda_nil))) fixP)
      (dss_cons (ds_set (i := 7) sc__law_gap.nd (pd_callP G__law_added m__law_added (hr.mono (by decide)) hgd rfl g__law_added k__law_added b__law_added (pda_cons (pd_tup (pda_cons (pd_ix (pd_ix (pdv 1) pd_int (fun _ _ => rfl)) (pdv 5) (fun _ _ => rfl)) (pda_cons pd_int pda_nil))) (pda_cons (pd_callP G__law_multiplied m__law_multiplied (hr.mono (by decide)) hgd rfl g__law_multiplied k__law_multiplied b__law_multiplied (pda_cons (pdv 3) (pda_cons (pd_tup (pda_cons (pd_sub (pd_ix (pd_ix (pdv 1) pd_int (fun _ _ => rfl)) (pdv 5) (fun _ _ => rfl)) (pd_ix (pd_ix (pdv 1) pd_int (fun _ _ => rfl)) (pdv 5) (fun _ _ => rfl))) (pda_cons pd_int pda_nil))) pda_nil))) pda_nil))) fixP)
      (dss_one (ds_expr (pd_append (i := 4) (pda_cons (pd_callP G__law_lessened m__law_lessened (hr.mono (by decide)) hgd rfl g__law_lessened k__law_lessened b__law_lessened (pda_cons (pdv 7) (pda_cons (pdv 6) pda_nil))) pda_nil)))))) nofixP)
      (dss_one (ds_ret (pdv 4))))), ?_⟩
  clear W T hr hgd G__law_added g__law_added k__law_added b__law_added f__law_added fd__law_added G__law_multiplied g__law_multiplied k__law_multiplied b__law_multiplied f__law_multiplied fd__law_multiplied G__law_lessened g__law_lessened k__law_lessened b__law_lessened f__law_lessened fd__law_lessened
  rintro xs Q hl ⟨⟨l, o, s, t, j, k⟩, rfl, ⟨h0, h1, h2, h3, h4, h5⟩, hQ⟩
  clear hl
  replace hQ : Q (.list [fr (gx l o s t), fr (gy l o s t)]) := hQ
  have e : rhoP nm__law_gap.length [.d, .d, .d, .d] [eL l, eL o, fr s, fr t] = [some (.d (eL l)), some (.d (eL o)), some (.d (fr s)), some (.d (fr t)), none, none, none, none] := rfl
  rw [e]
  clear e
  simp only [dSeq, dAsg, dCB, dCons, dNil, dVar, onVs, vals, val, slot, setR, fGcd, dIfS, dTV, dOp, dBin, onV2, fLt, fLe, fGt, fGe, fAdd, fSub, fMul, fDiv, fMod, fI0, dC, dUn, onV, fNeg, dNext, dRet, dTup, onD, dats, fDivZ, fI, fPow, Few, retP, fAbs, fInt, fMax, fMin, fLen, fSqrt, fEq, fNe, dNot, dAnd, dOr, dAndV, dOrV, dNotV, dIfE, dDrop, dRetN, dPar, noO, dSetL, dLst, dOfL, dOwnM, onOwn, onDat, kAppend, kInsert, dSetItem, dAddItem, dIx, onItems, items, onInt, dNoPart, dPart, dSlice, onL, litems, dSlL, dCat, onM, mitems, dTupOf, dSeqI, dRng1, dRng2, dCallP, dCallB, dCallF, noSelf, onArgs, dats2, dIsi, tyName, dYes, dgTup, dgCons, dgNil, retB, dBreak, dCont, ne_eq, not_false_eq_true, true_and, and_true, List.getElem?_cons_zero, List.getElem?_cons_succ, List.set_cons_zero, List.set_cons_succ, Option.map, List.length_cons, List.length_nil, dLc_eq, dFor_eq, dSortSet, dSort, dListOf, dIsN, dNotN, isNo, dAug, dCatT, dSlT, onT, titems, dEnum, dZip, seqs, dRetL, dPar3, dRevT, dLstRg, dTupRg, dRg1, dRg2, dChainLe, List.nil_append, List.cons_append, if_true, if_false, dFrz, dLcO, List.map_cons, List.map_nil, fw0, fw1, fw2, fw3, fw4, fw5, fw6, fw7, fw8, fw9, fw10, fw11, fw12, fw13, fw14, fw15, eL, pr]
  refine for_unroll ?_
  simp only [forU, dSeq, dAsg, dCB, dCons, dNil, dVar, onVs, vals, val, slot, setR, fGcd, dIfS, dTV, dOp, dBin, onV2, fLt, fLe, fGt, fGe, fAdd, fSub, fMul, fDiv, fMod, fI0, dC, dUn, onV, fNeg, dNext, dRet, dTup, onD, dats, fDivZ, fI, fPow, Few, retP, fAbs, fInt, fMax, fMin, fLen, fSqrt, fEq, fNe, dNot, dAnd, dOr, dAndV, dOrV, dNotV, dIfE, dDrop, dRetN, dPar, noO, dSetL, dLst, dOfL, dOwnM, onOwn, onDat, kAppend, kInsert, dSetItem, dAddItem, dIx, onItems, items, onInt, dNoPart, dPart, dSlice, onL, litems, dSlL, dCat, onM, mitems, dTupOf, dSeqI, dRng1, dRng2, dCallP, dCallB, dCallF, noSelf, onArgs, dats2, dIsi, tyName, dYes, dgTup, dgCons, dgNil, retB, dBreak, dCont, ne_eq, not_false_eq_true, true_and, and_true, List.getElem?_cons_zero, List.getElem?_cons_succ, List.set_cons_zero, List.set_cons_succ, Option.map, List.length_cons, List.length_nil, dLc_eq, dFor_eq, dSortSet, dSort, dListOf, dIsN, dNotN, isNo, dAug, dCatT, dSlT, onT, titems, dEnum, dZip, seqs, dRetL, dPar3, dRevT, dLstRg, dTupRg, dRg1, dRg2, dChainLe, List.nil_append, List.cons_append, if_true, if_false, dFrz, dLcO, List.map_cons, List.map_nil, fw0, fw1, fw2, fw3, fw4, fw5, fw6, fw7, fw8, fw9, fw10, fw11, fw12, fw13, fw14, fw15, on0, on1]
  have lx := Sz.int1 h0.ax h4
  have ly := Sz.int1 h0.ay h4
  have ox := Sz.int1 h1.ax h4
  have oy := Sz.int1 h1.ay h4
  have lu := Sz.int1 (h0.bx.sub1 h0.ax) (by omega)
  have lv := Sz.int1 (h0.by'.sub1 h0.ay) (by omega)
  have ou := Sz.int1 (h1.bx.sub1 h1.ax) (by omega)
  have ov := Sz.int1 (h1.by'.sub1 h1.ay) (by omega)
  refine u__law_multiplied (q := ((l.bx - l.ax : Int) : Rat)) h2 lu (by omega) ?_
  refine u__law_added (p := (l.ax : Rat)) lx (h2.mul lu) (by omega) ?_
  refine u__law_multiplied (q := ((o.bx - o.ax : Int) : Rat)) h3 ou (by omega) ?_
  refine u__law_added (p := (o.ax : Rat)) ox (h3.mul ou) (by omega) ?_
  refine u__law_lessened (p := px o t) (q := px l s) (px_sz h1 h3 h4) (px_sz h0 h2 h4) (by omega) ?_
  refine u__law_multiplied (q := ((l.by' - l.ay : Int) : Rat)) h2 lv (by omega) ?_
  refine u__law_added (p := (l.ay : Rat)) ly (h2.mul lv) (by omega) ?_
  refine u__law_multiplied (q := ((o.by' - o.ay : Int) : Rat)) h3 ov (by omega) ?_
  refine u__law_added (p := (o.ay : Rat)) oy (h3.mul ov) (by omega) ?_
  exact u__law_lessened (p := py o t) (q := py l s) (py_sz h1 h3 h4) (py_sz h0 h2 h4) (by omega) hQ
set_option maxHeartbeats 4000000 in
theorem ok__law_dot {f : Addr} {fd : FuncData} (W : Fun K "_law_dot" "_law_dot" s__law_dot f fd) (T : Bi mg)
    {f__law_added : Addr} {fd__law_added : FuncData} (G__law_added : FnG P w K mg base CX0 2 f__law_added fd__law_added ["_law_x", "_law_y"] (spP K [.d, .d] S__law_added)) (g__law_added : mg "_law_added" = some (.ref f__law_added)) (k__law_added : PySem.W.keepIn K (.ref f__law_added) = true) (b__law_added : Binds K fd__law_added ["_law_x", "_law_y"] [])
    {f__law_multiplied : Addr} {fd__law_multiplied : FuncData} (G__law_multiplied : FnG P w K mg base CX0 2 f__law_multiplied fd__law_multiplied ["_law_x", "_law_y"] (spP K [.d, .d] S__law_multiplied)) (g__law_multiplied : mg "_law_multiplied" = some (.ref f__law_multiplied)) (k__law_multiplied : PySem.W.keepIn K (.ref f__law_multiplied) = true) (b__law_multiplied : Binds K fd__law_multiplied ["_law_x", "_law_y"] []) :
    FnG P w K mg base CX0 3 f fd ["_law_one", "_law_other"] (spP K [.ro, .ro] S__law_dot) := by
  refine fnP W sc__law_dot rfl fun cdv A out s H E Nn hr hgd => ⟨_, _, (dss_one (ds_ret (pd_callP G__law_added m__law_added (hr.mono (by decide)) hgd rfl g__law_added k__law_added b__law_added (pda_cons (pd_callP G__law_multiplied m__law_multiplied (hr.mono (by decide)) hgd rfl g__law_multiplied k__law_multiplied b__law_multiplied (pda_cons (pd_ix (pdv 0) pd_int (fun _ _ => rfl)) (pda_cons (pd_ix (pdv 1) pd_int (fun _ _ => rfl)) pda_nil))) (pda_cons (pd_callP G__law_multiplied m__law_multiplied (hr.mono (by decide)) hgd rfl g__law_multiplied k__law_multiplied b__law_multiplied (pda_cons (pd_ix (pdv 0) pd_int (fun _ _ => rfl)) (pda_cons (pd_ix (pdv 1) pd_int (fun _ _ => rfl)) pda_nil))) pda_nil))))), ?_⟩
  clear W T hr hgd G__law_added g__law_added k__law_added b__law_added f__law_added fd__law_added G__law_multiplied g__law_multiplied k__law_multiplied b__law_multiplied f__law_multiplied fd__law_multiplied
  rintro xs Q hl ⟨⟨a, b, c, d, j, k⟩, rfl, ⟨h0, h1, h2, h3, h4⟩, hQ⟩
  clear hl
  replace hQ : Q (fr (a * c + b * d)) := hQ
  have e : rhoP nm__law_dot.length [.ro, .ro] [.list [fr a, fr b], .list [fr c, fr d]] = [some (.ro (.list [fr a, fr b])), some (.ro (.list [fr c, fr d]))] := rfl
  rw [e]
  clear e
  simp only [dSeq, dAsg, dCB, dCons, dNil, dVar, onVs, vals, val, slot, setR, fGcd, dIfS, dTV, dOp, dBin, onV2, fLt, fLe, fGt, fGe, fAdd, fSub, fMul, fDiv, fMod, fI0, dC, dUn, onV, fNeg, dNext, dRet, dTup, onD, dats, fDivZ, fI, fPow, Few, retP, fAbs, fInt, fMax, fMin, fLen, fSqrt, fEq, fNe, dNot, dAnd, dOr, dAndV, dOrV, dNotV, dIfE, dDrop, dRetN, dPar, noO, dSetL, dLst, dOfL, dOwnM, onOwn, onDat, kAppend, kInsert, dSetItem, dAddItem, dIx, onItems, items, onInt, dNoPart, dPart, dSlice, onL, litems, dSlL, dCat, onM, mitems, dTupOf, dSeqI, dRng1, dRng2, dCallP, dCallB, dCallF, noSelf, onArgs, dats2, dIsi, tyName, dYes, dgTup, dgCons, dgNil, retB, dBreak, dCont, ne_eq, not_false_eq_true, true_and, and_true, List.getElem?_cons_zero, List.getElem?_cons_succ, List.set_cons_zero, List.set_cons_succ, Option.map, List.length_cons, List.length_nil, dLc_eq, dFor_eq, dSortSet, dSort, dListOf, dIsN, dNotN, isNo, dAug, dCatT, dSlT, onT, titems, dEnum, dZip, seqs, dRetL, dPar3, dRevT, dLstRg, dTupRg, dRg1, dRg2, dChainLe, List.nil_append, List.cons_append, if_true, if_false, dFrz, dLcO, List.map_cons, List.map_nil, fw0, fw1, fw2, fw3, fw4, fw5, fw6, fw7, fw8, fw9, fw10, fw11, fw12, fw13, fw14, fw15, on0, on1]
  refine u__law_multiplied h0 h2 (by omega) (u__law_multiplied h1 h3 (by omega) (u__law_added (h0.mul h2) (h1.mul h3) (by omega) hQ))
set_option maxHeartbeats 4000000 in
theorem ok__law_inner_point {f : Addr} {fd : FuncData} (W : Fun K "_law_inner_point" "_law_inner_point" s__law_inner_point f fd) (T : Bi mg)
    {f__law_lessened : Addr} {fd__law_lessened : FuncData} (G__law_lessened : FnG P w K mg base CX0 2 f__law_lessened fd__law_lessened ["_law_x", "_law_y"] (spP K [.d, .d] S__law_lessened)) (g__law_lessened : mg "_law_lessened" = some (.ref f__law_lessened)) (k__law_lessened : PySem.W.keepIn K (.ref f__law_lessened) = true) (b__law_lessened : Binds K fd__law_lessened ["_law_x", "_law_y"] [])
    {f__law_over : Addr} {fd__law_over : FuncData} (G__law_over : FnG P w K mg base CX0 1 f__law_over fd__law_over ["_law_n", "_law_d"] (spP K [.d, .d] S__law_over)) (g__law_over : mg "_law_over" = some (.ref f__law_over)) (k__law_over : PySem.W.keepIn K (.ref f__law_over) = true) (b__law_over : Binds K fd__law_over ["_law_n", "_law_d"] [])
    {f__law_is_below : Addr} {fd__law_is_below : FuncData} (G__law_is_below : FnG P w K mg base CX0 1 f__law_is_below fd__law_is_below ["_law_x", "_law_y"] (spP K [.d, .d] S__law_is_below)) (g__law_is_below : mg "_law_is_below" = some (.ref f__law_is_below)) (k__law_is_below : PySem.W.keepIn K (.ref f__law_is_below) = true) (b__law_is_below : Binds K fd__law_is_below ["_law_x", "_law_y"] []) :
    FnG P w K mg base CX0 3 f fd ["_law_leg", "_law_other", "_law_rho"] (spF K [.d, .d, .d] S__law_inner_point) := by
  refine fnFs W sc__law_inner_point rfl fun cdv A out s H E Nn hr hgd => ⟨_, _, (dss_cons (ds_par (i := 3) (j := 4) rfl sc__law_inner_point.nd (pda_cons (pd_l (pl_lc (own := [("_law_at", 5)]) rfl sc__law_inner_point.nd (pdi_seq (pd_tup (pda_cons pd_int (pda_cons pd_int pda_nil)))) (blkOk_by (own := [("_law_at", 5)]) (N := nm__law_inner_point) (sc := defScope s__law_inner_point) (by decide +kernel)) (fun _ _ _ _ _ => (pgd_name (i := 5) sc__law_inner_point.nd)) (fun _ _ _ _ _ => dts_nil) (fun _ _ _ _ _ => (pd_sub (pd_ix (pd_ix (pdv 0) pd_int (fun _ _ => rfl)) (pdv 5) (fun _ _ => rfl)) (pd_ix (pd_ix (pdv 0) pd_int (fun _ _ => rfl)) (pdv 5) (fun _ _ => rfl)))))) (pda_cons (pd_l (pl_lc (own := [("_law_at", 5)]) rfl sc__law_inner_point.nd (pdi_seq (pd_tup (pda_cons pd_int (pda_cons pd_int pda_nil)))) (blkOk_by (own := [("_law_at", 5)]) (N := nm__law_inner_point) (sc := defScope s__law_inner_point) (by decide +kernel)) (fun _ _ _ _ _ => (pgd_name (i := 5) sc__law_inner_point.nd)) (fun _ _ _ _ _ => dts_nil) (fun _ _ _ _ _ => (pd_sub (pd_ix (pd_ix (pdv 1) pd_int (fun _ _ => rfl)) (pdv 5) (fun _ _ => rfl)) (pd_ix (pd_ix (pdv 1) pd_int (fun _ _ => rfl)) (pdv 5) (fun _ _ => rfl)))))) pda_nil)) fixP fixP)
      (dss_cons (ds_setLc (i := 6) (own := [("_law_at", 5)]) rfl sc__law_inner_point.nd (pdi_seq (pd_tup (pda_cons pd_int (pda_cons pd_int pda_nil)))) (blkOk_by (own := [("_law_at", 5)]) (N := nm__law_inner_point) (sc := defScope s__law_inner_point) (by decide +kernel)) (fun _ _ _ _ _ => (pgd_name (i := 5) sc__law_inner_point.nd)) (fun _ _ _ _ _ => dts_nil) (fun _ _ _ _ _ => (pd_sub (pd_ix (pd_ix (pdv 1) pd_int (fun _ _ => rfl)) (pdv 5) (fun _ _ => rfl)) (pd_ix (pd_ix (pdv 0) pd_int (fun _ _ => rfl)) (pdv 5) (fun _ _ => rfl)))) fixP)
      (dss_cons (ds_set (i := 7) sc__law_inner_point.nd (pd_sub (pd_mul (pd_ix (pdv 3) pd_int (fun _ _ => rfl)) (pd_ix (pdv 4) pd_int (fun _ _ => rfl))) (pd_mul (pd_ix (pdv 3) pd_int (fun _ _ => rfl)) (pd_ix (pdv 4) pd_int (fun _ _ => rfl)))) fixP)
      (dss_cons (ds_if (pt_eq hr.units rfl (pdv 7) pd_int) (dss_one (ds_retL (pl_lst pda_nil))) dss_nil)
      (dss_cons (ds_par (i := 8) (j := 9) rfl sc__law_inner_point.nd (pda_cons (pd_callP G__law_over m__law_over (hr.mono (by decide)) hgd rfl g__law_over k__law_over b__law_over (pda_cons (pd_sub (pd_mul (pd_ix (pdv 6) pd_int (fun _ _ => rfl)) (pd_ix (pdv 4) pd_int (fun _ _ => rfl))) (pd_mul (pd_ix (pdv 6) pd_int (fun _ _ => rfl)) (pd_ix (pdv 4) pd_int (fun _ _ => rfl)))) (pda_cons (pdv 7) pda_nil))) (pda_cons (pd_callP G__law_over m__law_over (hr.mono (by decide)) hgd rfl g__law_over k__law_over b__law_over (pda_cons (pd_sub (pd_mul (pd_ix (pdv 6) pd_int (fun _ _ => rfl)) (pd_ix (pdv 3) pd_int (fun _ _ => rfl))) (pd_mul (pd_ix (pdv 6) pd_int (fun _ _ => rfl)) (pd_ix (pdv 3) pd_int (fun _ _ => rfl)))) (pda_cons (pdv 7) pda_nil))) pda_nil)) fixP fixP)
      (dss_cons (ds_set (i := 10) sc__law_inner_point.nd (pd_callP G__law_lessened m__law_lessened (hr.mono (by decide)) hgd rfl g__law_lessened k__law_lessened b__law_lessened (pda_cons (pdv 8) (pda_cons (pdv 9) pda_nil))) fixP)
      (dss_cons (ds_set (i := 10) sc__law_inner_point.nd (pd_ifExp (pt_lt (pd_ix (pdv 10) pd_int (fun _ _ => rfl)) pd_int) (pd_tup (pda_cons (pd_neg (pd_ix (pdv 10) pd_int (fun _ _ => rfl))) (pda_cons (pd_ix (pdv 10) pd_int (fun _ _ => rfl)) pda_nil))) (pdv 10)) fixP)
      (dss_cons (ds_if (pt_w (pwd_or (pt_lt (pd_ix (pdv 8) pd_int (fun _ _ => rfl)) pd_int) (pwd_or (pt_lt (pd_ix (pdv 9) pd_int (fun _ _ => rfl)) pd_int) (pwd_or (pt_v (pd_callP G__law_is_below m__law_is_below (hr.mono (by decide)) hgd rfl g__law_is_below k__law_is_below b__law_is_below (pda_cons (pd_tup (pda_cons pd_int (pda_cons pd_int pda_nil))) (pda_cons (pdv 8) pda_nil)))) (pwd_or (pt_v (pd_callP G__law_is_below m__law_is_below (hr.mono (by decide)) hgd rfl g__law_is_below k__law_is_below b__law_is_below (pda_cons (pd_tup (pda_cons pd_int (pda_cons pd_int pda_nil))) (pda_cons (pdv 9) pda_nil)))) (pwd_or1 (pt_v (pd_callP G__law_is_below m__law_is_below (hr.mono (by decide)) hgd rfl g__law_is_below k__law_is_below b__law_is_below (pda_cons (pdv 2) (pda_cons (pdv 10) pda_nil)))))))))) (dss_one (ds_retL (pl_lst pda_nil))) dss_nil)
      (dss_one (ds_retL (pl_lst (pda_cons (pd_tup (pda_cons (pd_tup (pda_cons pd_int (pda_cons pd_int pda_nil))) (pda_cons (pdv 8) (pda_cons (pdv 9) pda_nil)))) pda_nil)))))))))))), ?_⟩
  clear W T hr hgd G__law_lessened g__law_lessened k__law_lessened b__law_lessened f__law_lessened fd__law_lessened G__law_over g__law_over k__law_over b__law_over f__law_over fd__law_over G__law_is_below g__law_is_below k__law_is_below b__law_is_below f__law_is_below fd__law_is_below
  rintro xs Q hl ⟨⟨l, o, rho⟩, rfl, ⟨h0, h1, h2⟩, hQ0⟩
  clear hl
  have hQ : Q ((inner l o rho).map pf3) := hQ0 _ rfl
  clear hQ0
  have e : rhoP nm__law_inner_point.length [.d, .d, .d] [eL l, eL o, fr rho] = [some (.d (eL l)), some (.d (eL o)), some (.d (fr rho)), none, none, none, none, none, none, none, none] := rfl
  rw [e]
  clear e
  have mx := h0.bx.sub1 h0.ax
  have my := h0.by'.sub1 h0.ay
  have wx := h1.bx.sub1 h1.ax
  have wy := h1.by'.sub1 h1.ay
  have ux := h1.ax.sub1 h0.ax
  have uy := h1.ay.sub1 h0.ay
  have tb := turn_bd h0 h1
  refine seqI fun kk hk => ?_
  simp only [dSeq, dAsg, dCB, dCons, dNil, dVar, onVs, vals, val, slot, setR, fGcd, dIfS, dTV, dOp, dBin, onV2, fLt, fLe, fGt, fGe, fAdd, fSub, fMul, fDiv, fMod, fI0, dC, dUn, onV, fNeg, dNext, dRet, dTup, onD, dats, fDivZ, fI, fPow, Few, retP, fAbs, fInt, fMax, fMin, fLen, fSqrt, fEq, fNe, dNot, dAnd, dOr, dAndV, dOrV, dNotV, dIfE, dDrop, dRetN, dPar, noO, dSetL, dLst, dOfL, dOwnM, onOwn, onDat, kAppend, kInsert, dSetItem, dAddItem, dIx, onItems, items, onInt, dNoPart, dPart, dSlice, onL, litems, dSlL, dCat, onM, mitems, dTupOf, dSeqI, dRng1, dRng2, dCallP, dCallB, dCallF, noSelf, onArgs, dats2, dIsi, tyName, dYes, dgTup, dgCons, dgNil, retB, dBreak, dCont, ne_eq, not_false_eq_true, true_and, and_true, List.getElem?_cons_zero, List.getElem?_cons_succ, List.set_cons_zero, List.set_cons_succ, Option.map, List.length_cons, List.length_nil, dLc_eq, dFor_eq, dSortSet, dSort, dListOf, dIsN, dNotN, isNo, dAug, dCatT, dSlT, onT, titems, dEnum, dZip, seqs, dRetL, dPar3, dRevT, dLstRg, dTupRg, dRg1, dRg2, dChainLe, List.nil_append, List.cons_append, if_true, if_false, dFrz, dLcO, List.map_cons, List.map_nil, fw0, fw1, fw2, fw3, fw4, fw5, fw6, fw7, fw8, fw9, fw10, fw11, fw12, fw13, fw14, fw15, eL, pr]
  refine lc_unroll (hv1 rfl) ?_
  simp only [lcU, wipeR, dSeq, dAsg, dCB, dCons, dNil, dVar, onVs, vals, val, slot, setR, fGcd, dIfS, dTV, dOp, dBin, onV2, fLt, fLe, fGt, fGe, fAdd, fSub, fMul, fDiv, fMod, fI0, dC, dUn, onV, fNeg, dNext, dRet, dTup, onD, dats, fDivZ, fI, fPow, Few, retP, fAbs, fInt, fMax, fMin, fLen, fSqrt, fEq, fNe, dNot, dAnd, dOr, dAndV, dOrV, dNotV, dIfE, dDrop, dRetN, dPar, noO, dSetL, dLst, dOfL, dOwnM, onOwn, onDat, kAppend, kInsert, dSetItem, dAddItem, dIx, onItems, items, onInt, dNoPart, dPart, dSlice, onL, litems, dSlL, dCat, onM, mitems, dTupOf, dSeqI, dRng1, dRng2, dCallP, dCallB, dCallF, noSelf, onArgs, dats2, dIsi, tyName, dYes, dgTup, dgCons, dgNil, retB, dBreak, dCont, ne_eq, not_false_eq_true, true_and, and_true, List.getElem?_cons_zero, List.getElem?_cons_succ, List.set_cons_zero, List.set_cons_succ, Option.map, List.length_cons, List.length_nil, dLc_eq, dFor_eq, dSortSet, dSort, dListOf, dIsN, dNotN, isNo, dAug, dCatT, dSlT, onT, titems, dEnum, dZip, seqs, dRetL, dPar3, dRevT, dLstRg, dTupRg, dRg1, dRg2, dChainLe, List.nil_append, List.cons_append, if_true, if_false, dFrz, dLcO, List.map_cons, List.map_nil, fw0, fw1, fw2, fw3, fw4, fw5, fw6, fw7, fw8, fw9, fw10, fw11, fw12, fw13, fw14, fw15, on0, on1]
  refine lc_unroll (hv1 rfl) ?_
  simp only [lcU, wipeR, dSeq, dAsg, dCB, dCons, dNil, dVar, onVs, vals, val, slot, setR, fGcd, dIfS, dTV, dOp, dBin, onV2, fLt, fLe, fGt, fGe, fAdd, fSub, fMul, fDiv, fMod, fI0, dC, dUn, onV, fNeg, dNext, dRet, dTup, onD, dats, fDivZ, fI, fPow, Few, retP, fAbs, fInt, fMax, fMin, fLen, fSqrt, fEq, fNe, dNot, dAnd, dOr, dAndV, dOrV, dNotV, dIfE, dDrop, dRetN, dPar, noO, dSetL, dLst, dOfL, dOwnM, onOwn, onDat, kAppend, kInsert, dSetItem, dAddItem, dIx, onItems, items, onInt, dNoPart, dPart, dSlice, onL, litems, dSlL, dCat, onM, mitems, dTupOf, dSeqI, dRng1, dRng2, dCallP, dCallB, dCallF, noSelf, onArgs, dats2, dIsi, tyName, dYes, dgTup, dgCons, dgNil, retB, dBreak, dCont, ne_eq, not_false_eq_true, true_and, and_true, List.getElem?_cons_zero, List.getElem?_cons_succ, List.set_cons_zero, List.set_cons_succ, Option.map, List.length_cons, List.length_nil, dLc_eq, dFor_eq, dSortSet, dSort, dListOf, dIsN, dNotN, isNo, dAug, dCatT, dSlT, onT, titems, dEnum, dZip, seqs, dRetL, dPar3, dRevT, dLstRg, dTupRg, dRg1, dRg2, dChainLe, List.nil_append, List.cons_append, if_true, if_false, dFrz, dLcO, List.map_cons, List.map_nil, fw0, fw1, fw2, fw3, fw4, fw5, fw6, fw7, fw8, fw9, fw10, fw11, fw12, fw13, fw14, fw15, on0, on1]
  rw [hk]
  refine seqI fun k2 hk2 => ?_
  simp only [dSeq, dAsg, dCB, dCons, dNil, dVar, onVs, vals, val, slot, setR, fGcd, dIfS, dTV, dOp, dBin, onV2, fLt, fLe, fGt, fGe, fAdd, fSub, fMul, fDiv, fMod, fI0, dC, dUn, onV, fNeg, dNext, dRet, dTup, onD, dats, fDivZ, fI, fPow, Few, retP, fAbs, fInt, fMax, fMin, fLen, fSqrt, fEq, fNe, dNot, dAnd, dOr, dAndV, dOrV, dNotV, dIfE, dDrop, dRetN, dPar, noO, dSetL, dLst, dOfL, dOwnM, onOwn, onDat, kAppend, kInsert, dSetItem, dAddItem, dIx, onItems, items, onInt, dNoPart, dPart, dSlice, onL, litems, dSlL, dCat, onM, mitems, dTupOf, dSeqI, dRng1, dRng2, dCallP, dCallB, dCallF, noSelf, onArgs, dats2, dIsi, tyName, dYes, dgTup, dgCons, dgNil, retB, dBreak, dCont, ne_eq, not_false_eq_true, true_and, and_true, List.getElem?_cons_zero, List.getElem?_cons_succ, List.set_cons_zero, List.set_cons_succ, Option.map, List.length_cons, List.length_nil, dLc_eq, dFor_eq, dSortSet, dSort, dListOf, dIsN, dNotN, isNo, dAug, dCatT, dSlT, onT, titems, dEnum, dZip, seqs, dRetL, dPar3, dRevT, dLstRg, dTupRg, dRg1, dRg2, dChainLe, List.nil_append, List.cons_append, if_true, if_false, dFrz, dLcO, List.map_cons, List.map_nil, fw0, fw1, fw2, fw3, fw4, fw5, fw6, fw7, fw8, fw9, fw10, fw11, fw12, fw13, fw14, fw15]
  refine lc_unroll (hv1 rfl) ?_
  simp only [lcU, wipeR, dSeq, dAsg, dCB, dCons, dNil, dVar, onVs, vals, val, slot, setR, fGcd, dIfS, dTV, dOp, dBin, onV2, fLt, fLe, fGt, fGe, fAdd, fSub, fMul, fDiv, fMod, fI0, dC, dUn, onV, fNeg, dNext, dRet, dTup, onD, dats, fDivZ, fI, fPow, Few, retP, fAbs, fInt, fMax, fMin, fLen, fSqrt, fEq, fNe, dNot, dAnd, dOr, dAndV, dOrV, dNotV, dIfE, dDrop, dRetN, dPar, noO, dSetL, dLst, dOfL, dOwnM, onOwn, onDat, kAppend, kInsert, dSetItem, dAddItem, dIx, onItems, items, onInt, dNoPart, dPart, dSlice, onL, litems, dSlL, dCat, onM, mitems, dTupOf, dSeqI, dRng1, dRng2, dCallP, dCallB, dCallF, noSelf, onArgs, dats2, dIsi, tyName, dYes, dgTup, dgCons, dgNil, retB, dBreak, dCont, ne_eq, not_false_eq_true, true_and, and_true, List.getElem?_cons_zero, List.getElem?_cons_succ, List.set_cons_zero, List.set_cons_succ, Option.map, List.length_cons, List.length_nil, dLc_eq, dFor_eq, dSortSet, dSort, dListOf, dIsN, dNotN, isNo, dAug, dCatT, dSlT, onT, titems, dEnum, dZip, seqs, dRetL, dPar3, dRevT, dLstRg, dTupRg, dRg1, dRg2, dChainLe, List.nil_append, List.cons_append, if_true, if_false, dFrz, dLcO, List.map_cons, List.map_nil, fw0, fw1, fw2, fw3, fw4, fw5, fw6, fw7, fw8, fw9, fw10, fw11, fw12, fw13, fw14, fw15, on0, on1]
  rw [hk2]
  refine seqI fun k3 hk3 => ?_
  simp only [dSeq, dAsg, dCB, dCons, dNil, dVar, onVs, vals, val, slot, setR, fGcd, dIfS, dTV, dOp, dBin, onV2, fLt, fLe, fGt, fGe, fAdd, fSub, fMul, fDiv, fMod, fI0, dC, dUn, onV, fNeg, dNext, dRet, dTup, onD, dats, fDivZ, fI, fPow, Few, retP, fAbs, fInt, fMax, fMin, fLen, fSqrt, fEq, fNe, dNot, dAnd, dOr, dAndV, dOrV, dNotV, dIfE, dDrop, dRetN, dPar, noO, dSetL, dLst, dOfL, dOwnM, onOwn, onDat, kAppend, kInsert, dSetItem, dAddItem, dIx, onItems, items, onInt, dNoPart, dPart, dSlice, onL, litems, dSlL, dCat, onM, mitems, dTupOf, dSeqI, dRng1, dRng2, dCallP, dCallB, dCallF, noSelf, onArgs, dats2, dIsi, tyName, dYes, dgTup, dgCons, dgNil, retB, dBreak, dCont, ne_eq, not_false_eq_true, true_and, and_true, List.getElem?_cons_zero, List.getElem?_cons_succ, List.set_cons_zero, List.set_cons_succ, Option.map, List.length_cons, List.length_nil, dLc_eq, dFor_eq, dSortSet, dSort, dListOf, dIsN, dNotN, isNo, dAug, dCatT, dSlT, onT, titems, dEnum, dZip, seqs, dRetL, dPar3, dRevT, dLstRg, dTupRg, dRg1, dRg2, dChainLe, List.nil_append, List.cons_append, if_true, if_false, dFrz, dLcO, List.map_cons, List.map_nil, fw0, fw1, fw2, fw3, fw4, fw5, fw6, fw7, fw8, fw9, fw10, fw11, fw12, fw13, fw14, fw15, on0, on1]
  refine ⟨cmb mx wy, cmb my wx, ?_⟩
  change k3 [_, _, _, _, _, _, _, some (.d (.int (turnI l o))), _, _, _]
  rw [hk3]
  refine seqI fun k4 hk4 => ?_
  simp only [dSeq, dAsg, dCB, dCons, dNil, dVar, onVs, vals, val, slot, setR, fGcd, dIfS, dTV, dOp, dBin, onV2, fLt, fLe, fGt, fGe, fAdd, fSub, fMul, fDiv, fMod, fI0, dC, dUn, onV, fNeg, dNext, dRet, dTup, onD, dats, fDivZ, fI, fPow, Few, retP, fAbs, fInt, fMax, fMin, fLen, fSqrt, fEq, fNe, dNot, dAnd, dOr, dAndV, dOrV, dNotV, dIfE, dDrop, dRetN, dPar, noO, dSetL, dLst, dOfL, dOwnM, onOwn, onDat, kAppend, kInsert, dSetItem, dAddItem, dIx, onItems, items, onInt, dNoPart, dPart, dSlice, onL, litems, dSlL, dCat, onM, mitems, dTupOf, dSeqI, dRng1, dRng2, dCallP, dCallB, dCallF, noSelf, onArgs, dats2, dIsi, tyName, dYes, dgTup, dgCons, dgNil, retB, dBreak, dCont, ne_eq, not_false_eq_true, true_and, and_true, List.getElem?_cons_zero, List.getElem?_cons_succ, List.set_cons_zero, List.set_cons_succ, Option.map, List.length_cons, List.length_nil, dLc_eq, dFor_eq, dSortSet, dSort, dListOf, dIsN, dNotN, isNo, dAug, dCatT, dSlT, onT, titems, dEnum, dZip, seqs, dRetL, dPar3, dRevT, dLstRg, dTupRg, dRg1, dRg2, dChainLe, List.nil_append, List.cons_append, if_true, if_false, dFrz, dLcO, List.map_cons, List.map_nil, fw0, fw1, fw2, fw3, fw4, fw5, fw6, fw7, fw8, fw9, fw10, fw11, fw12, fw13, fw14, fw15, sh_int, eqv_int]
  refine ite_b (fun h => ?_) fun h => ?_
  · unfold inner at hQ
    rw [if_pos h] at hQ
    exact hQ
  unfold inner at hQ
  rw [if_neg h] at hQ
  rw [hk4]
  clear hk4 hk3 hk2 hk
  refine seqI fun k5 hk5 => ?_
  simp only [dSeq, dAsg, dCB, dCons, dNil, dVar, onVs, vals, val, slot, setR, fGcd, dIfS, dTV, dOp, dBin, onV2, fLt, fLe, fGt, fGe, fAdd, fSub, fMul, fDiv, fMod, fI0, dC, dUn, onV, fNeg, dNext, dRet, dTup, onD, dats, fDivZ, fI, fPow, Few, retP, fAbs, fInt, fMax, fMin, fLen, fSqrt, fEq, fNe, dNot, dAnd, dOr, dAndV, dOrV, dNotV, dIfE, dDrop, dRetN, dPar, noO, dSetL, dLst, dOfL, dOwnM, onOwn, onDat, kAppend, kInsert, dSetItem, dAddItem, dIx, onItems, items, onInt, dNoPart, dPart, dSlice, onL, litems, dSlL, dCat, onM, mitems, dTupOf, dSeqI, dRng1, dRng2, dCallP, dCallB, dCallF, noSelf, onArgs, dats2, dIsi, tyName, dYes, dgTup, dgCons, dgNil, retB, dBreak, dCont, ne_eq, not_false_eq_true, true_and, and_true, List.getElem?_cons_zero, List.getElem?_cons_succ, List.set_cons_zero, List.set_cons_succ, Option.map, List.length_cons, List.length_nil, dLc_eq, dFor_eq, dSortSet, dSort, dListOf, dIsN, dNotN, isNo, dAug, dCatT, dSlT, onT, titems, dEnum, dZip, seqs, dRetL, dPar3, dRevT, dLstRg, dTupRg, dRg1, dRg2, dChainLe, List.nil_append, List.cons_append, if_true, if_false, dFrz, dLcO, List.map_cons, List.map_nil, fw0, fw1, fw2, fw3, fw4, fw5, fw6, fw7, fw8, fw9, fw10, fw11, fw12, fw13, fw14, fw15, on0, on1]
  refine ⟨cmb ux wy, cmb uy wx, u__law_over h (tb.up (by decide)) ⟨cmb ux my, cmb uy mx, u__law_over h (tb.up (by decide)) ?_⟩⟩
  change k5 [_, _, _, _, _, _, _, _, some (.d (fr (inS l o))), some (.d (fr (inT l o))), _]
  have ss := inS_sz h0 h1 h
  have st := inT_sz h0 h1 h
  generalize inS l o = s at *
  generalize inT l o = t at *
  rw [hk5]
  refine seqI fun k6 hk6 => ?_
  simp only [dSeq, dAsg, dCB, dCons, dNil, dVar, onVs, vals, val, slot, setR, fGcd, dIfS, dTV, dOp, dBin, onV2, fLt, fLe, fGt, fGe, fAdd, fSub, fMul, fDiv, fMod, fI0, dC, dUn, onV, fNeg, dNext, dRet, dTup, onD, dats, fDivZ, fI, fPow, Few, retP, fAbs, fInt, fMax, fMin, fLen, fSqrt, fEq, fNe, dNot, dAnd, dOr, dAndV, dOrV, dNotV, dIfE, dDrop, dRetN, dPar, noO, dSetL, dLst, dOfL, dOwnM, onOwn, onDat, kAppend, kInsert, dSetItem, dAddItem, dIx, onItems, items, onInt, dNoPart, dPart, dSlice, onL, litems, dSlL, dCat, onM, mitems, dTupOf, dSeqI, dRng1, dRng2, dCallP, dCallB, dCallF, noSelf, onArgs, dats2, dIsi, tyName, dYes, dgTup, dgCons, dgNil, retB, dBreak, dCont, ne_eq, not_false_eq_true, true_and, and_true, List.getElem?_cons_zero, List.getElem?_cons_succ, List.set_cons_zero, List.set_cons_succ, Option.map, List.length_cons, List.length_nil, dLc_eq, dFor_eq, dSortSet, dSort, dListOf, dIsN, dNotN, isNo, dAug, dCatT, dSlT, onT, titems, dEnum, dZip, seqs, dRetL, dPar3, dRevT, dLstRg, dTupRg, dRg1, dRg2, dChainLe, List.nil_append, List.cons_append, if_true, if_false, dFrz, dLcO, List.map_cons, List.map_nil, fw0, fw1, fw2, fw3, fw4, fw5, fw6, fw7, fw8, fw9, fw10, fw11, fw12, fw13, fw14, fw15]
  refine u__law_lessened ss st (by decide) ?_
  rw [hk6]
  refine seqI fun k7 hk7 => ?_
  simp only [dSeq, dAsg, dCB, dCons, dNil, dVar, onVs, vals, val, slot, setR, fGcd, dIfS, dTV, dOp, dBin, onV2, fLt, fLe, fGt, fGe, fAdd, fSub, fMul, fDiv, fMod, fI0, dC, dUn, onV, fNeg, dNext, dRet, dTup, onD, dats, fDivZ, fI, fPow, Few, retP, fAbs, fInt, fMax, fMin, fLen, fSqrt, fEq, fNe, dNot, dAnd, dOr, dAndV, dOrV, dNotV, dIfE, dDrop, dRetN, dPar, noO, dSetL, dLst, dOfL, dOwnM, onOwn, onDat, kAppend, kInsert, dSetItem, dAddItem, dIx, onItems, items, onInt, dNoPart, dPart, dSlice, onL, litems, dSlL, dCat, onM, mitems, dTupOf, dSeqI, dRng1, dRng2, dCallP, dCallB, dCallF, noSelf, onArgs, dats2, dIsi, tyName, dYes, dgTup, dgCons, dgNil, retB, dBreak, dCont, ne_eq, not_false_eq_true, true_and, and_true, List.getElem?_cons_zero, List.getElem?_cons_succ, List.set_cons_zero, List.set_cons_succ, Option.map, List.length_cons, List.length_nil, dLc_eq, dFor_eq, dSortSet, dSort, dListOf, dIsN, dNotN, isNo, dAug, dCatT, dSlT, onT, titems, dEnum, dZip, seqs, dRetL, dPar3, dRevT, dLstRg, dTupRg, dRg1, dRg2, dChainLe, List.nil_append, List.cons_append, if_true, if_false, dFrz, dLcO, List.map_cons, List.map_nil, fw0, fw1, fw2, fw3, fw4, fw5, fw6, fw7, fw8, fw9, fw10, fw11, fw12, fw13, fw14, fw15, fr, on0, on1]
  have fin : k7 [some (.d (eL l)), some (.d (eL o)), some (.d (fr rho)), some (.d (.list [.int (l.bx - l.ax), .int (l.by' - l.ay)])), some (.d (.list [.int (o.bx - o.ax), .int (o.by' - o.ay)])), none, some (.d (.list [.int (o.ax - l.ax), .int (o.ay - l.ay)])), some (.d (.int (turnI l o))), some (.d (fr s)), some (.d (fr t)), some (.d (fr (rabs (s - t))))] := by
    rw [hk7]
    clear hk7 hk6 hk5
    simp only [dSeq, dAsg, dCB, dCons, dNil, dVar, onVs, vals, val, slot, setR, fGcd, dIfS, dTV, dOp, dBin, onV2, fLt, fLe, fGt, fGe, fAdd, fSub, fMul, fDiv, fMod, fI0, dC, dUn, onV, fNeg, dNext, dRet, dTup, onD, dats, fDivZ, fI, fPow, Few, retP, fAbs, fInt, fMax, fMin, fLen, fSqrt, fEq, fNe, dNot, dAnd, dOr, dAndV, dOrV, dNotV, dIfE, dDrop, dRetN, dPar, noO, dSetL, dLst, dOfL, dOwnM, onOwn, onDat, kAppend, kInsert, dSetItem, dAddItem, dIx, onItems, items, onInt, dNoPart, dPart, dSlice, onL, litems, dSlL, dCat, onM, mitems, dTupOf, dSeqI, dRng1, dRng2, dCallP, dCallB, dCallF, noSelf, onArgs, dats2, dIsi, tyName, dYes, dgTup, dgCons, dgNil, retB, dBreak, dCont, ne_eq, not_false_eq_true, true_and, and_true, List.getElem?_cons_zero, List.getElem?_cons_succ, List.set_cons_zero, List.set_cons_succ, Option.map, List.length_cons, List.length_nil, dLc_eq, dFor_eq, dSortSet, dSort, dListOf, dIsN, dNotN, isNo, dAug, dCatT, dSlT, onT, titems, dEnum, dZip, seqs, dRetL, dPar3, dRevT, dLstRg, dTupRg, dRg1, dRg2, dChainLe, List.nil_append, List.cons_append, if_true, if_false, dFrz, dLcO, List.map_cons, List.map_nil, fw0, fw1, fw2, fw3, fw4, fw5, fw6, fw7, fw8, fw9, fw10, fw11, fw12, fw13, fw14, fw15, fr, on0, on1]
    have no : ¬ okIn s t rho → Q [] := fun z => by rw [if_neg z] at hQ; exact hQ
    refine ite_b (fun a => no fun z => z (.inl (num_neg.mp a))) fun a => ite_b (fun b => no fun z => z (.inr (.inl (num_neg.mp b)))) fun b => ?_
    refine u__law_is_below (p := 1) (r := s) (sz_one (k := 1)) ss (by decide) ?_
    refine ite_b (c := 1 < s) (fun c => no fun z => z (.inr (.inr (.inl c)))) fun c => ?_
    refine u__law_is_below (p := 1) (r := t) (sz_one (k := 1)) st (by decide) ?_
    refine ite_b (c := 1 < t) (fun d => no fun z => z (.inr (.inr (.inr (.inl d))))) fun d => ?_
    refine u__law_is_below (p := rho) (r := rabs (s - t)) h2 (rabs_sz (ss.sub st)) (by decide) ?_
    refine ite_b (c := rho < rabs (s - t)) (fun e => no fun z => z (.inr (.inr (.inr (.inr e))))) fun e => ?_
    have ok : okIn s t rho := fun z => by
      rcases z with z | z | z | z | z
      · exact a (num_neg.mpr z)
      · exact b (num_neg.mpr z)
      · exact c z
      · exact d z
      · exact e z
    rw [if_pos ok] at hQ
    exact hQ
  unfold rabs at fin
  by_cases n : s - t < 0
  · rw [if_pos n] at fin
    exact ite_t (num_neg.mpr n) fin
  · rw [if_neg n] at fin
    exact ite_f (fun z => n (num_neg.mp z)) fin
set_option maxHeartbeats 4000000 in
theorem ok__law_worst_couple {f : Addr} {fd : FuncData} (W : Fun K "_law_worst_couple" "_law_worst_couple" s__law_worst_couple f fd) (T : Bi mg)
    {f__law_some : Addr} {fd__law_some : FuncData} (G__law_some : FnG P w K mg base CX0 2 f__law_some fd__law_some ["_law_bag_here", "_law_things"] (spB K [.d] S__law_some)) (g__law_some : mg "_law_some" = some (.ref f__law_some)) (k__law_some : PySem.W.keepIn K (.ref f__law_some) = true) (b__law_some : Binds K fd__law_some ["_law_bag_here", "_law_things"] [])
    {f__law_take : Addr} {fd__law_take : FuncData} (G__law_take : FnG P w K mg base CX0 1 f__law_take fd__law_take ["_law_bag_here", "_law_many"] (spB K [.d] S__law_take)) (g__law_take : mg "_law_take" = some (.ref f__law_take)) (k__law_take : PySem.W.keepIn K (.ref f__law_take) = true) (b__law_take : Binds K fd__law_take ["_law_bag_here", "_law_many"] []) :
    FnG P w K mg base CX0 3 f fd ["_law_bag_here", "_law_spacing"] (spB K [.d] S__law_worst_couple) := by
  refine fnB W sc__law_worst_couple rfl fun cdv A out s H E Nn B hr hgd => ⟨_, _, (dss_cons (ds_asg (pd_callBag G__law_some m__law_some (hr.mono (by decide)) hgd rfl g__law_some k__law_some b__law_some (pda_cons (pdv 0) (pda_cons (pd_l (pl_lst (pda_cons (pd_tup (pda_cons (pdv 1) (pda_cons pd_int pda_nil))) (pda_cons (pd_tup (pda_cons pd_int (pda_cons (pdv 1) pda_nil))) (pda_cons (pd_tup (pda_cons (pdv 1) (pda_cons (pdv 1) pda_nil))) pda_nil))))) pda_nil))) (pgd_tup (n := 2) rfl (pgds_cons (pgd_name (i := 2) sc__law_worst_couple.nd) (pgds_cons (pgd_name (i := 3) sc__law_worst_couple.nd) pgds_nil))) (nofixB (by decide)))
      (dss_cons (ds_set (i := 4) sc__law_worst_couple.nd (pd_callBag G__law_take m__law_take (hr.mono (by decide)) hgd rfl g__law_take k__law_take b__law_take (pda_cons (pdv 0) (pda_cons (pd_add (pd_mul pd_int (pdv 1)) pd_int) pda_nil))) (fixB (by decide)))
      (dss_cons (ds_par (i := 5) (j := 6) rfl sc__law_worst_couple.nd (pda_cons (pd_tup (pda_cons pd_int (pda_cons pd_int pda_nil))) (pda_cons (pd_tup (pda_cons (pdv 2) (pda_cons (pdv 3) pda_nil))) pda_nil)) (fixB (by decide)) (fixB (by decide)))
      (dss_cons (ds_set (i := 7) sc__law_worst_couple.nd (pd_ifExp (pt_ne hr.units rfl (pd_tup (pda_cons (pdv 2) (pda_cons (pdv 3) pda_nil))) (pd_tup (pda_cons (pdv 1) (pda_cons (pdv 1) pda_nil)))) (pd_tup (pda_cons (pd_neg (pdv 4)) (pda_cons (pd_neg (pdv 4)) pda_nil))) (pd_tup (pda_cons pd_int (pda_cons (pd_mul (pd_neg pd_int) (pdv 4)) pda_nil)))) (fixB (by decide)))
      (dss_one (ds_ret (pd_tup (pda_cons (pd_tup (pda_cons (pdv 5) (pda_cons (pdv 7) pda_nil))) (pda_cons (pd_tup (pda_cons (pdv 6) (pda_cons (pd_tup (pda_cons (pd_sub (pd_ix (pdv 7) pd_int (fun _ _ => rfl)) (pdv 3)) (pda_cons (pd_add (pd_ix (pdv 7) pd_int (fun _ _ => rfl)) (pdv 2)) pda_nil))) pda_nil))) pda_nil))))))))), ?_⟩
  clear W T hr hgd G__law_some g__law_some k__law_some b__law_some f__law_some fd__law_some G__law_take g__law_take k__law_take b__law_take f__law_take fd__law_take
  rintro bag xs Q hl ⟨sp, m, hb, hm, rfl, ⟨h0, h1⟩, hQ⟩
  clear hl
  replace hQ : ∀ z bag', (∃ l o : Lg, z = .tuple [eL l, eL o] ∧ LB 14 l ∧ LB 14 o) → Bag (m + 2) bag' → Q z bag'   := hQ
  have hm : m + 2 < 2 ^ 60 := hm
  have e : (some (.own bag) :: rhoP (nm__law_worst_couple.length - 1) [.d] [.int sp] : Rho) = [some (.own bag), some (.d (.int sp)), none, none, none, none, none, none] := rfl
  rw [e]
  clear e
  have b2 : Bd 2 (-2) := by unfold Bd; decide
  have b8 : Bd 4 8 := by unfold Bd; decide
  have hs : Bd 5 sp := bd_of 20 (by omega) (by omega)
  refine seqI fun kk hk => ?_
  simp only [dSeq, dAsg, dCB, dCons, dNil, dVar, onVs, vals, val, slot, setR, fGcd, dIfS, dTV, dOp, dBin, onV2, fLt, fLe, fGt, fGe, fAdd, fSub, fMul, fDiv, fMod, fI0, dC, dUn, onV, fNeg, dNext, dRet, dTup, onD, dats, fDivZ, fI, fPow, Few, retP, fAbs, fInt, fMax, fMin, fLen, fSqrt, fEq, fNe, dNot, dAnd, dOr, dAndV, dOrV, dNotV, dIfE, dDrop, dRetN, dPar, noO, dSetL, dLst, dOfL, dOwnM, onOwn, onDat, kAppend, kInsert, dSetItem, dAddItem, dIx, onItems, items, onInt, dNoPart, dPart, dSlice, onL, litems, dSlL, dCat, onM, mitems, dTupOf, dSeqI, dRng1, dRng2, dCallP, dCallB, dCallF, noSelf, onArgs, dats2, dIsi, tyName, dYes, dgTup, dgCons, dgNil, retB, dBreak, dCont, ne_eq, not_false_eq_true, true_and, and_true, List.getElem?_cons_zero, List.getElem?_cons_succ, List.set_cons_zero, List.set_cons_succ, Option.map, List.length_cons, List.length_nil, dLc_eq, dFor_eq, dSortSet, dSort, dListOf, dIsN, dNotN, isNo, dAug, dCatT, dSlT, onT, titems, dEnum, dZip, seqs, dRetL, dPar3, dRevT, dLstRg, dTupRg, dRg1, dRg2, dChainLe, List.nil_append, List.cons_append, if_true, if_false, dFrz, dLcO, List.map_cons, List.map_nil, fw0, fw1, fw2, fw3, fw4, fw5, fw6, fw7, fw8, fw9, fw10, fw11, fw12, fw13, fw14, fw15]
  refine u_some hb (by omega) (by simp) (by simp) fun y hy bag1 hb1 => ?_
  have hp : ∃ p q : Int, y = .tuple [.int p, .int q] ∧ 0 ≤ p ∧ p ≤ sp ∧ 0 ≤ q ∧ q ≤ sp := by
    simp only [List.mem_cons, List.not_mem_nil, or_false] at hy
    rcases hy with rfl | rfl | rfl
    · exact ⟨_, _, rfl, by omega, by omega, by omega, by omega⟩
    · exact ⟨_, _, rfl, by omega, by omega, by omega, by omega⟩
    · exact ⟨_, _, rfl, by omega, by omega, by omega, by omega⟩
  obtain ⟨p, q, rfl, p0, p1, q0, q1⟩ := hp
  simp only [dSeq, dAsg, dCB, dCons, dNil, dVar, onVs, vals, val, slot, setR, fGcd, dIfS, dTV, dOp, dBin, onV2, fLt, fLe, fGt, fGe, fAdd, fSub, fMul, fDiv, fMod, fI0, dC, dUn, onV, fNeg, dNext, dRet, dTup, onD, dats, fDivZ, fI, fPow, Few, retP, fAbs, fInt, fMax, fMin, fLen, fSqrt, fEq, fNe, dNot, dAnd, dOr, dAndV, dOrV, dNotV, dIfE, dDrop, dRetN, dPar, noO, dSetL, dLst, dOfL, dOwnM, onOwn, onDat, kAppend, kInsert, dSetItem, dAddItem, dIx, onItems, items, onInt, dNoPart, dPart, dSlice, onL, litems, dSlL, dCat, onM, mitems, dTupOf, dSeqI, dRng1, dRng2, dCallP, dCallB, dCallF, noSelf, onArgs, dats2, dIsi, tyName, dYes, dgTup, dgCons, dgNil, retB, dBreak, dCont, ne_eq, not_false_eq_true, true_and, and_true, List.getElem?_cons_zero, List.getElem?_cons_succ, List.set_cons_zero, List.set_cons_succ, Option.map, List.length_cons, List.length_nil, dLc_eq, dFor_eq, dSortSet, dSort, dListOf, dIsN, dNotN, isNo, dAug, dCatT, dSlT, onT, titems, dEnum, dZip, seqs, dRetL, dPar3, dRevT, dLstRg, dTupRg, dRg1, dRg2, dChainLe, List.nil_append, List.cons_append, if_true, if_false, dFrz, dLcO, List.map_cons, List.map_nil, fw0, fw1, fw2, fw3, fw4, fw5, fw6, fw7, fw8, fw9, fw10, fw11, fw12, fw13, fw14, fw15]
  rw [hk]
  refine seqI fun k2 hk2 => ?_
  simp only [dSeq, dAsg, dCB, dCons, dNil, dVar, onVs, vals, val, slot, setR, fGcd, dIfS, dTV, dOp, dBin, onV2, fLt, fLe, fGt, fGe, fAdd, fSub, fMul, fDiv, fMod, fI0, dC, dUn, onV, fNeg, dNext, dRet, dTup, onD, dats, fDivZ, fI, fPow, Few, retP, fAbs, fInt, fMax, fMin, fLen, fSqrt, fEq, fNe, dNot, dAnd, dOr, dAndV, dOrV, dNotV, dIfE, dDrop, dRetN, dPar, noO, dSetL, dLst, dOfL, dOwnM, onOwn, onDat, kAppend, kInsert, dSetItem, dAddItem, dIx, onItems, items, onInt, dNoPart, dPart, dSlice, onL, litems, dSlL, dCat, onM, mitems, dTupOf, dSeqI, dRng1, dRng2, dCallP, dCallB, dCallF, noSelf, onArgs, dats2, dIsi, tyName, dYes, dgTup, dgCons, dgNil, retB, dBreak, dCont, ne_eq, not_false_eq_true, true_and, and_true, List.getElem?_cons_zero, List.getElem?_cons_succ, List.set_cons_zero, List.set_cons_succ, Option.map, List.length_cons, List.length_nil, dLc_eq, dFor_eq, dSortSet, dSort, dListOf, dIsN, dNotN, isNo, dAug, dCatT, dSlT, onT, titems, dEnum, dZip, seqs, dRetL, dPar3, dRevT, dLstRg, dTupRg, dRg1, dRg2, dChainLe, List.nil_append, List.cons_append, if_true, if_false, dFrz, dLcO, List.map_cons, List.map_nil, fw0, fw1, fw2, fw3, fw4, fw5, fw6, fw7, fw8, fw9, fw10, fw11, fw12, fw13, fw14, fw15]
  refine ⟨cmb b8 hs, u_take hb1 (by omega) (by omega) (by omega) fun t bag2 t0 t1 hb2 => ?_⟩
  rw [hk2]
  refine seqI fun k3 hk3 => ?_
  simp only [dSeq, dAsg, dCB, dCons, dNil, dVar, onVs, vals, val, slot, setR, fGcd, dIfS, dTV, dOp, dBin, onV2, fLt, fLe, fGt, fGe, fAdd, fSub, fMul, fDiv, fMod, fI0, dC, dUn, onV, fNeg, dNext, dRet, dTup, onD, dats, fDivZ, fI, fPow, Few, retP, fAbs, fInt, fMax, fMin, fLen, fSqrt, fEq, fNe, dNot, dAnd, dOr, dAndV, dOrV, dNotV, dIfE, dDrop, dRetN, dPar, noO, dSetL, dLst, dOfL, dOwnM, onOwn, onDat, kAppend, kInsert, dSetItem, dAddItem, dIx, onItems, items, onInt, dNoPart, dPart, dSlice, onL, litems, dSlL, dCat, onM, mitems, dTupOf, dSeqI, dRng1, dRng2, dCallP, dCallB, dCallF, noSelf, onArgs, dats2, dIsi, tyName, dYes, dgTup, dgCons, dgNil, retB, dBreak, dCont, ne_eq, not_false_eq_true, true_and, and_true, List.getElem?_cons_zero, List.getElem?_cons_succ, List.set_cons_zero, List.set_cons_succ, Option.map, List.length_cons, List.length_nil, dLc_eq, dFor_eq, dSortSet, dSort, dListOf, dIsN, dNotN, isNo, dAug, dCatT, dSlT, onT, titems, dEnum, dZip, seqs, dRetL, dPar3, dRevT, dLstRg, dTupRg, dRg1, dRg2, dChainLe, List.nil_append, List.cons_append, if_true, if_false, dFrz, dLcO, List.map_cons, List.map_nil, fw0, fw1, fw2, fw3, fw4, fw5, fw6, fw7, fw8, fw9, fw10, fw11, fw12, fw13, fw14, fw15]
  rw [hk3]
  refine seqI fun k4 hk4 => ?_
  have fin : ∀ u v : Int, -400 ≤ u → u ≤ 0 → -400 ≤ v → v ≤ 0 → k4 [some (.own bag2), some (.d (.int sp)), some (.d (.int p)), some (.d (.int q)), some (.d (.int t)), some (.d (.tuple [.int 0, .int 0])), some (.d (.tuple [.int p, .int q])), some (.d (.tuple [.int u, .int v]))] := fun u v u0 u1 v0 v1 => by
    rw [hk4]
    simp only [dSeq, dAsg, dCB, dCons, dNil, dVar, onVs, vals, val, slot, setR, fGcd, dIfS, dTV, dOp, dBin, onV2, fLt, fLe, fGt, fGe, fAdd, fSub, fMul, fDiv, fMod, fI0, dC, dUn, onV, fNeg, dNext, dRet, dTup, onD, dats, fDivZ, fI, fPow, Few, retP, fAbs, fInt, fMax, fMin, fLen, fSqrt, fEq, fNe, dNot, dAnd, dOr, dAndV, dOrV, dNotV, dIfE, dDrop, dRetN, dPar, noO, dSetL, dLst, dOfL, dOwnM, onOwn, onDat, kAppend, kInsert, dSetItem, dAddItem, dIx, onItems, items, onInt, dNoPart, dPart, dSlice, onL, litems, dSlL, dCat, onM, mitems, dTupOf, dSeqI, dRng1, dRng2, dCallP, dCallB, dCallF, noSelf, onArgs, dats2, dIsi, tyName, dYes, dgTup, dgCons, dgNil, retB, dBreak, dCont, ne_eq, not_false_eq_true, true_and, and_true, List.getElem?_cons_zero, List.getElem?_cons_succ, List.set_cons_zero, List.set_cons_succ, Option.map, List.length_cons, List.length_nil, dLc_eq, dFor_eq, dSortSet, dSort, dListOf, dIsN, dNotN, isNo, dAug, dCatT, dSlT, onT, titems, dEnum, dZip, seqs, dRetL, dPar3, dRevT, dLstRg, dTupRg, dRg1, dRg2, dChainLe, List.nil_append, List.cons_append, if_true, if_false, dFrz, dLcO, List.map_cons, List.map_nil, fw0, fw1, fw2, fw3, fw4, fw5, fw6, fw7, fw8, fw9, fw10, fw11, fw12, fw13, fw14, fw15, on0, on1]
    exact hQ _ _ ⟨⟨0, 0, u, v⟩, ⟨p, q, u - q, v + p⟩, rfl, lb14 (by omega) (by omega) (by omega) (by omega) (by omega) (by omega) (by omega) (by omega), lb14 (by omega) (by omega) (by omega) (by omega) (by omega) (by omega) (by omega) (by omega)⟩ hb2
  clear hk hk2 hk3 hk4
  simp only [dSeq, dAsg, dCB, dCons, dNil, dVar, onVs, vals, val, slot, setR, fGcd, dIfS, dTV, dOp, dBin, onV2, fLt, fLe, fGt, fGe, fAdd, fSub, fMul, fDiv, fMod, fI0, dC, dUn, onV, fNeg, dNext, dRet, dTup, onD, dats, fDivZ, fI, fPow, Few, retP, fAbs, fInt, fMax, fMin, fLen, fSqrt, fEq, fNe, dNot, dAnd, dOr, dAndV, dOrV, dNotV, dIfE, dDrop, dRetN, dPar, noO, dSetL, dLst, dOfL, dOwnM, onOwn, onDat, kAppend, kInsert, dSetItem, dAddItem, dIx, onItems, items, onInt, dNoPart, dPart, dSlice, onL, litems, dSlL, dCat, onM, mitems, dTupOf, dSeqI, dRng1, dRng2, dCallP, dCallB, dCallF, noSelf, onArgs, dats2, dIsi, tyName, dYes, dgTup, dgCons, dgNil, retB, dBreak, dCont, ne_eq, not_false_eq_true, true_and, and_true, List.getElem?_cons_zero, List.getElem?_cons_succ, List.set_cons_zero, List.set_cons_succ, Option.map, List.length_cons, List.length_nil, dLc_eq, dFor_eq, dSortSet, dSort, dListOf, dIsN, dNotN, isNo, dAug, dCatT, dSlT, onT, titems, dEnum, dZip, seqs, dRetL, dPar3, dRevT, dLstRg, dTupRg, dRg1, dRg2, dChainLe, List.nil_append, List.cons_append, if_true, if_false, dFrz, dLcO, List.map_cons, List.map_nil, fw0, fw1, fw2, fw3, fw4, fw5, fw6, fw7, fw8, fw9, fw10, fw11, fw12, fw13, fw14, fw15]
  refine ⟨sh_two, sh_two, ?_⟩
  split
  · exact fin (-t) (-t) (by omega) (by omega) (by omega) (by omega)
  · exact ⟨cmb b2 (bd_of 160 (by omega) (by omega) (k := 8)), fin 0 (-2 * t) (by omega) (by omega) (by omega) (by omega)⟩
set_option maxHeartbeats 4000000 in
theorem ok__law_place {f : Addr} {fd : FuncData} (W : Fun K "_law_place" "_law_place" s__law_place f fd) (T : Bi mg)
    {f__law_added : Addr} {fd__law_added : FuncData} (G__law_added : FnG P w K mg base CX0 2 f__law_added fd__law_added ["_law_x", "_law_y"] (spP K [.d, .d] S__law_added)) (g__law_added : mg "_law_added" = some (.ref f__law_added)) (k__law_added : PySem.W.keepIn K (.ref f__law_added) = true) (b__law_added : Binds K fd__law_added ["_law_x", "_law_y"] [])
    {f__law_multiplied : Addr} {fd__law_multiplied : FuncData} (G__law_multiplied : FnG P w K mg base CX0 2 f__law_multiplied fd__law_multiplied ["_law_x", "_law_y"] (spP K [.d, .d] S__law_multiplied)) (g__law_multiplied : mg "_law_multiplied" = some (.ref f__law_multiplied)) (k__law_multiplied : PySem.W.keepIn K (.ref f__law_multiplied) = true) (b__law_multiplied : Binds K fd__law_multiplied ["_law_x", "_law_y"] []) :
    FnG P w K mg base CX0 3 f fd ["_law_leg", "_law_s"] (spP K [.d, .d] S__law_place) := by
  refine fnP W sc__law_place rfl fun cdv A out s H E Nn hr hgd => ⟨_, _, (dss_cons (ds_setL (i := 2) sc__law_place.nd (pl_lst pda_nil) fixP)
      (dss_cons (ds_for PassesOwn.never rfl (pdi_seq (pd_tup (pda_cons pd_int (pda_cons pd_int pda_nil)))) (pgd_name (i := 3) sc__law_place.nd) (dss_one (ds_expr (pd_append (i := 2) (pda_cons (pd_callP G__law_added m__law_added (hr.mono (by decide)) hgd rfl g__law_added k__law_added b__law_added (pda_cons (pd_tup (pda_cons (pd_ix (pd_ix (pdv 0) pd_int (fun _ _ => rfl)) (pdv 3) (fun _ _ => rfl)) (pda_cons pd_int pda_nil))) (pda_cons (pd_callP G__law_multiplied m__law_multiplied (hr.mono (by decide)) hgd rfl g__law_multiplied k__law_multiplied b__law_multiplied (pda_cons (pdv 1) (pda_cons (pd_tup (pda_cons (pd_sub (pd_ix (pd_ix (pdv 0) pd_int (fun _ _ => rfl)) (pdv 3) (fun _ _ => rfl)) (pd_ix (pd_ix (pdv 0) pd_int (fun _ _ => rfl)) (pdv 3) (fun _ _ => rfl))) (pda_cons pd_int pda_nil))) pda_nil))) pda_nil))) pda_nil)))) nofixP)
      (dss_one (ds_ret (pd_tupleOf rfl T.b_tuple (pda_cons (pdv 2) pda_nil)))))), ?_⟩
  clear W T hr hgd G__law_added g__law_added k__law_added b__law_added f__law_added fd__law_added G__law_multiplied g__law_multiplied k__law_multiplied b__law_multiplied f__law_multiplied fd__law_multiplied
  rintro xs Q hl ⟨⟨l, s, j, k⟩, rfl, ⟨h0, h1, h2, h3⟩, hQ⟩
  clear hl
  replace hQ : Q (.tuple [fr (px l s), fr (py l s)]) := hQ
  have e : rhoP nm__law_place.length [.d, .d] [eL l, fr s] = [some (.d (eL l)), some (.d (fr s)), none, none] := rfl
  rw [e]
  clear e
  simp only [dSeq, dAsg, dCB, dCons, dNil, dVar, onVs, vals, val, slot, setR, fGcd, dIfS, dTV, dOp, dBin, onV2, fLt, fLe, fGt, fGe, fAdd, fSub, fMul, fDiv, fMod, fI0, dC, dUn, onV, fNeg, dNext, dRet, dTup, onD, dats, fDivZ, fI, fPow, Few, retP, fAbs, fInt, fMax, fMin, fLen, fSqrt, fEq, fNe, dNot, dAnd, dOr, dAndV, dOrV, dNotV, dIfE, dDrop, dRetN, dPar, noO, dSetL, dLst, dOfL, dOwnM, onOwn, onDat, kAppend, kInsert, dSetItem, dAddItem, dIx, onItems, items, onInt, dNoPart, dPart, dSlice, onL, litems, dSlL, dCat, onM, mitems, dTupOf, dSeqI, dRng1, dRng2, dCallP, dCallB, dCallF, noSelf, onArgs, dats2, dIsi, tyName, dYes, dgTup, dgCons, dgNil, retB, dBreak, dCont, ne_eq, not_false_eq_true, true_and, and_true, List.getElem?_cons_zero, List.getElem?_cons_succ, List.set_cons_zero, List.set_cons_succ, Option.map, List.length_cons, List.length_nil, dLc_eq, dFor_eq, dSortSet, dSort, dListOf, dIsN, dNotN, isNo, dAug, dCatT, dSlT, onT, titems, dEnum, dZip, seqs, dRetL, dPar3, dRevT, dLstRg, dTupRg, dRg1, dRg2, dChainLe, List.nil_append, List.cons_append, if_true, if_false, dFrz, dLcO, List.map_cons, List.map_nil, fw0, fw1, fw2, fw3, fw4, fw5, fw6, fw7, fw8, fw9, fw10, fw11, fw12, fw13, fw14, fw15, eL, pr]
  refine for_unroll ?_
  simp only [forU, dSeq, dAsg, dCB, dCons, dNil, dVar, onVs, vals, val, slot, setR, fGcd, dIfS, dTV, dOp, dBin, onV2, fLt, fLe, fGt, fGe, fAdd, fSub, fMul, fDiv, fMod, fI0, dC, dUn, onV, fNeg, dNext, dRet, dTup, onD, dats, fDivZ, fI, fPow, Few, retP, fAbs, fInt, fMax, fMin, fLen, fSqrt, fEq, fNe, dNot, dAnd, dOr, dAndV, dOrV, dNotV, dIfE, dDrop, dRetN, dPar, noO, dSetL, dLst, dOfL, dOwnM, onOwn, onDat, kAppend, kInsert, dSetItem, dAddItem, dIx, onItems, items, onInt, dNoPart, dPart, dSlice, onL, litems, dSlL, dCat, onM, mitems, dTupOf, dSeqI, dRng1, dRng2, dCallP, dCallB, dCallF, noSelf, onArgs, dats2, dIsi, tyName, dYes, dgTup, dgCons, dgNil, retB, dBreak, dCont, ne_eq, not_false_eq_true, true_and, and_true, List.getElem?_cons_zero, List.getElem?_cons_succ, List.set_cons_zero, List.set_cons_succ, Option.map, List.length_cons, List.length_nil, dLc_eq, dFor_eq, dSortSet, dSort, dListOf, dIsN, dNotN, isNo, dAug, dCatT, dSlT, onT, titems, dEnum, dZip, seqs, dRetL, dPar3, dRevT, dLstRg, dTupRg, dRg1, dRg2, dChainLe, List.nil_append, List.cons_append, if_true, if_false, dFrz, dLcO, List.map_cons, List.map_nil, fw0, fw1, fw2, fw3, fw4, fw5, fw6, fw7, fw8, fw9, fw10, fw11, fw12, fw13, fw14, fw15, on0, on1]
  have lx := Sz.int1 h0.ax h2
  have ly := Sz.int1 h0.ay h2
  have lu := Sz.int1 (h0.bx.sub1 h0.ax) (by omega)
  have lv := Sz.int1 (h0.by'.sub1 h0.ay) (by omega)
  refine u__law_multiplied (q := ((l.bx - l.ax : Int) : Rat)) h1 lu (by omega) ?_
  refine u__law_added (p := (l.ax : Rat)) lx (h1.mul lu) (by omega) ?_
  refine u__law_multiplied (q := ((l.by' - l.ay : Int) : Rat)) h1 lv (by omega) ?_
  exact u__law_added (p := (l.ay : Rat)) ly (h1.mul lv) (by omega) hQ
set_option maxHeartbeats 4000000 in
theorem ok__law_worth_order {f : Addr} {fd : FuncData} (W : Fun K "_law_worth_order" "_law_worth_order" s__law_worth_order f fd) (T : Bi mg)
    {f__law_are_less : Addr} {fd__law_are_less : FuncData} (G__law_are_less : FnG P w K mg base CX0 2 f__law_are_less fd__law_are_less ["_law_one", "_law_other"] (spP K [.d, .d] S__law_are_less)) (g__law_are_less : mg "_law_are_less" = some (.ref f__law_are_less)) (k__law_are_less : PySem.W.keepIn K (.ref f__law_are_less) = true) (b__law_are_less : Binds K fd__law_are_less ["_law_one", "_law_other"] []) :
    FnG P w K mg base CX0 3 f fd ["_law_some_here"] (spP K [.d] S__law_worth_order) := by
  refine fnP W sc__law_worth_order rfl fun cdv A out s H E Nn hr hgd => ⟨_, _, (dss_cons (ds_setL (i := 1) sc__law_worth_order.nd (pl_lst pda_nil) fixP)
      (dss_cons (ds_for PassesOwn.never rfl (pdi_seq (pdv 0)) (pgd_name (i := 2) sc__law_worth_order.nd) (dss_one (ds_if (pt_notin (units65 hr) rfl (pdv 2) (pdv 1)) (dss_cons (ds_set (i := 3) sc__law_worth_order.nd (pd_callB call_len_seq sc_len rfl T.b_len (by decide +kernel) (pda_cons (pd_l (pl_lcO (own := [("_law_other", 4)]) (k := 1) rfl sc__law_worth_order.nd (blkOk_by (own := [("_law_other", 4)]) (N := nm__law_worth_order) (sc := defScope s__law_worth_order) (by decide +kernel)) (fun _ _ _ _ _ => (pgd_name (i := 4) sc__law_worth_order.nd)) (fun _ _ _ _ _ => (dts_one (pt_v (pd_callP G__law_are_less m__law_are_less (hr.mono (by decide)) hgd rfl g__law_are_less k__law_are_less b__law_are_less (pda_cons (pdv 4) (pda_cons (pdv 2) pda_nil)))))) (fun _ _ _ _ _ => (pdv 4)))) pda_nil)) fixP)
      (dss_one (ds_expr (pd_insert (i := 1) (pda_cons (pdv 3) (pda_cons (pdv 2) pda_nil)))))) dss_nil)) nofixP)
      (dss_one (ds_ret (pdv 1))))), ?_⟩
  clear W T hr hgd G__law_are_less g__law_are_less k__law_are_less b__law_are_less f__law_are_less fd__law_are_less
  rintro xs Q hl ⟨⟨cs, k⟩, rfl, ⟨h0, h1, h2⟩, hQ⟩
  clear hl
  replace hQ : Q (.list ((worthOf cs).map pf)) := hQ
  have e : rhoP nm__law_worth_order.length [.d] [.list (cs.map pf)] = [some (.d (.list (cs.map pf))), none, none, none, none] := rfl
  rw [e]
  clear e
  refine seqI fun kk hk => ?_
  simp only [dSeq, dAsg, dCB, dCons, dNil, dVar, onVs, vals, val, slot, setR, fGcd, dIfS, dTV, dOp, dBin, onV2, fLt, fLe, fGt, fGe, fAdd, fSub, fMul, fDiv, fMod, fI0, dC, dUn, onV, fNeg, dNext, dRet, dTup, onD, dats, fDivZ, fI, fPow, Few, retP, fAbs, fInt, fMax, fMin, fLen, fSqrt, fEq, fNe, dNot, dAnd, dOr, dAndV, dOrV, dNotV, dIfE, dDrop, dRetN, dPar, noO, dSetL, dLst, dOfL, dOwnM, onOwn, onDat, kAppend, kInsert, dSetItem, dAddItem, dIx, onItems, items, onInt, dNoPart, dPart, dSlice, onL, litems, dSlL, dCat, onM, mitems, dTupOf, dSeqI, dRng1, dRng2, dCallP, dCallB, dCallF, noSelf, onArgs, dats2, dIsi, tyName, dYes, dgTup, dgCons, dgNil, retB, dBreak, dCont, ne_eq, not_false_eq_true, true_and, and_true, List.getElem?_cons_zero, List.getElem?_cons_succ, List.set_cons_zero, List.set_cons_succ, Option.map, List.length_cons, List.length_nil, dLc_eq, dFor_eq, dSortSet, dSort, dListOf, dIsN, dNotN, isNo, dAug, dCatT, dSlT, onT, titems, dEnum, dZip, seqs, dRetL, dPar3, dRevT, dLstRg, dTupRg, dRg1, dRg2, dChainLe, List.nil_append, List.cons_append, if_true, if_false, dFrz, dLcO, List.map_cons, List.map_nil, fw0, fw1, fw2, fw3, fw4, fw5, fw6, fw7, fw8, fw9, fw10, fw11, fw12, fw13, fw14, fw15]
  rw [hk]
  refine seqI fun k2 hk2 => ?_
  simp only [dSeq, dAsg, dCB, dCons, dNil, dVar, onVs, vals, val, slot, setR, fGcd, dIfS, dTV, dOp, dBin, onV2, fLt, fLe, fGt, fGe, fAdd, fSub, fMul, fDiv, fMod, fI0, dC, dUn, onV, fNeg, dNext, dRet, dTup, onD, dats, fDivZ, fI, fPow, Few, retP, fAbs, fInt, fMax, fMin, fLen, fSqrt, fEq, fNe, dNot, dAnd, dOr, dAndV, dOrV, dNotV, dIfE, dDrop, dRetN, dPar, noO, dSetL, dLst, dOfL, dOwnM, onOwn, onDat, kAppend, kInsert, dSetItem, dAddItem, dIx, onItems, items, onInt, dNoPart, dPart, dSlice, onL, litems, dSlL, dCat, onM, mitems, dTupOf, dSeqI, dRng1, dRng2, dCallP, dCallB, dCallF, noSelf, onArgs, dats2, dIsi, tyName, dYes, dgTup, dgCons, dgNil, retB, dBreak, dCont, ne_eq, not_false_eq_true, true_and, and_true, List.getElem?_cons_zero, List.getElem?_cons_succ, List.set_cons_zero, List.set_cons_succ, Option.map, List.length_cons, List.length_nil, dLc_eq, dFor_eq, dSortSet, dSort, dListOf, dIsN, dNotN, isNo, dAug, dCatT, dSlT, onT, titems, dEnum, dZip, seqs, dRetL, dPar3, dRevT, dLstRg, dTupRg, dRg1, dRg2, dChainLe, List.nil_append, List.cons_append, if_true, if_false, dFrz, dLcO, List.map_cons, List.map_nil, fw0, fw1, fw2, fw3, fw4, fw5, fw6, fw7, fw8, fw9, fw10, fw11, fw12, fw13, fw14, fw15]
  refine for_st (S := List Cn × Option Ent × Option Ent) cs pf (fun z => [some (.d (.list (cs.map pf))), some (.own (z.1.map pf)), z.2.1, z.2.2, none]) (fun i z => z.1 = worthOf (cs.take i)) ([], none, none) rfl rfl (fun i a z ha hI C hC => ?_) fun z hz => ?_
  · have hn : C [some (.d (.list (cs.map pf))), some (.own ((insAt z.1 a).map pf)), some (.d (pf a)), z.2.2, none] → True := fun _ => trivial
    have hsub : ∀ c ∈ z.1, Sz k c.1 ∧ Sz k c.2 := fun c hc => by
      rw [hI] at hc
      have := ((worth_asc (cs.take i) [] .nil).2 c).mp hc
      rcases this with h | h
      · exact h1 c (List.mem_of_mem_take h)
      · cases h
    have hlen : z.1.length ≤ 100 := by
      rw [hI]
      have a1 := worth_asc (cs.take i) [] .nil
      have a2 := nodup_le (xs := worthOf (cs.take i)) (ys := cs.take i) (List.Pairwise.imp (R := DV.lexLt) (fun {a b} h (e : a = b) => lexLt_irr (e ▸ h)) a1.1) fun x hx => by
        rcases (a1.2 x).mp hx with h | h
        · exact h
        · cases h
      rw [List.length_take] at a2
      omega
    have ham := h1 a (List.mem_of_getElem? ha)
    have hst : worthOf (cs.take (i + 1)) = insAt z.1 a := by
      unfold worthOf
      rw [take_succ_some ha, List.foldl_append, hI]
      rfl
    simp only [dSeq, dAsg, dCB, dCons, dNil, dVar, onVs, vals, val, slot, setR, fGcd, dIfS, dTV, dOp, dBin, onV2, fLt, fLe, fGt, fGe, fAdd, fSub, fMul, fDiv, fMod, fI0, dC, dUn, onV, fNeg, dNext, dRet, dTup, onD, dats, fDivZ, fI, fPow, Few, retP, fAbs, fInt, fMax, fMin, fLen, fSqrt, fEq, fNe, dNot, dAnd, dOr, dAndV, dOrV, dNotV, dIfE, dDrop, dRetN, dPar, noO, dSetL, dLst, dOfL, dOwnM, onOwn, onDat, kAppend, kInsert, dSetItem, dAddItem, dIx, onItems, items, onInt, dNoPart, dPart, dSlice, onL, litems, dSlL, dCat, onM, mitems, dTupOf, dSeqI, dRng1, dRng2, dCallP, dCallB, dCallF, noSelf, onArgs, dats2, dIsi, tyName, dYes, dgTup, dgCons, dgNil, retB, dBreak, dCont, ne_eq, not_false_eq_true, true_and, and_true, List.getElem?_cons_zero, List.getElem?_cons_succ, List.set_cons_zero, List.set_cons_succ, Option.map, List.length_cons, List.length_nil, dLc_eq, dFor_eq, dSortSet, dSort, dListOf, dIsN, dNotN, isNo, dAug, dCatT, dSlT, onT, titems, dEnum, dZip, seqs, dRetL, dPar3, dRevT, dLstRg, dTupRg, dRg1, dRg2, dChainLe, List.nil_append, List.cons_append, if_true, if_false, dFrz, dLcO, List.map_cons, List.map_nil, fw0, fw1, fw2, fw3, fw4, fw5, fw6, fw7, fw8, fw9, fw10, fw11, fw12, fw13, fw14, fw15]
    show (SeqAt.shaped _ = true ∧ SeqAt.shaped _ = true) ∧ _
    refine ⟨⟨shp_pf.shaped, (Shp.list (Shp.map fun x _ => shp_pf)).shaped⟩, ?_⟩
    have hmem := any_mem_iff (fun x y => pf_eqv) z.1 a
    generalize ((z.1.map pf).any fun z => PyData.eqv z (pf a)) = bb at hmem ⊢
    cases bb
    case true =>
      have h : a ∈ z.1 := hmem.mp rfl
      exact hC (z.1, some (.d (pf a)), z.2.2) (by rw [hst]; unfold insAt; rw [if_pos h])
    have h : a ∉ z.1 := fun q => nomatch hmem.mpr q
    simp only [Bool.not_false, if_true]
    refine lcO_fm z.1 pf (fun o => if DV.lexLt o a then some (pf o) else none) (hv1 rfl) (by decide) rfl (by omega) (fun i o ho C1 C2 n hn c1 c2 => ?_) ?_
    · have ho := hsub o (List.mem_of_getElem? ho)
      simp only [dSeq, dAsg, dCB, dCons, dNil, dVar, onVs, vals, val, slot, setR, fGcd, dIfS, dTV, dOp, dBin, onV2, fLt, fLe, fGt, fGe, fAdd, fSub, fMul, fDiv, fMod, fI0, dC, dUn, onV, fNeg, dNext, dRet, dTup, onD, dats, fDivZ, fI, fPow, Few, retP, fAbs, fInt, fMax, fMin, fLen, fSqrt, fEq, fNe, dNot, dAnd, dOr, dAndV, dOrV, dNotV, dIfE, dDrop, dRetN, dPar, noO, dSetL, dLst, dOfL, dOwnM, onOwn, onDat, kAppend, kInsert, dSetItem, dAddItem, dIx, onItems, items, onInt, dNoPart, dPart, dSlice, onL, litems, dSlL, dCat, onM, mitems, dTupOf, dSeqI, dRng1, dRng2, dCallP, dCallB, dCallF, noSelf, onArgs, dats2, dIsi, tyName, dYes, dgTup, dgCons, dgNil, retB, dBreak, dCont, ne_eq, not_false_eq_true, true_and, and_true, List.getElem?_cons_zero, List.getElem?_cons_succ, List.set_cons_zero, List.set_cons_succ, Option.map, List.length_cons, List.length_nil, dLc_eq, dFor_eq, dSortSet, dSort, dListOf, dIsN, dNotN, isNo, dAug, dCatT, dSlT, onT, titems, dEnum, dZip, seqs, dRetL, dPar3, dRevT, dLstRg, dTupRg, dRg1, dRg2, dChainLe, List.nil_append, List.cons_append, if_true, if_false, dFrz, dLcO, List.map_cons, List.map_nil, fw0, fw1, fw2, fw3, fw4, fw5, fw6, fw7, fw8, fw9, fw10, fw11, fw12, fw13, fw14, fw15]
      refine u__law_are_less ho.1 ho.2 ham.1 ham.2 h2 ?_
      exact ite_b (c := DV.lexLt o a) (fun h => ⟨hn, c1 _ (if_pos h)⟩) fun h => c2 (if_neg h)
    · have hle : ((z.1.filter fun o => decide (DV.lexLt o a)).length) ≤ z.1.length := List.length_filter_le ..
      simp only [dSeq, dAsg, dCB, dCons, dNil, dVar, onVs, vals, val, slot, setR, fGcd, dIfS, dTV, dOp, dBin, onV2, fLt, fLe, fGt, fGe, fAdd, fSub, fMul, fDiv, fMod, fI0, dC, dUn, onV, fNeg, dNext, dRet, dTup, onD, dats, fDivZ, fI, fPow, Few, retP, fAbs, fInt, fMax, fMin, fLen, fSqrt, fEq, fNe, dNot, dAnd, dOr, dAndV, dOrV, dNotV, dIfE, dDrop, dRetN, dPar, noO, dSetL, dLst, dOfL, dOwnM, onOwn, onDat, kAppend, kInsert, dSetItem, dAddItem, dIx, onItems, items, onInt, dNoPart, dPart, dSlice, onL, litems, dSlL, dCat, onM, mitems, dTupOf, dSeqI, dRng1, dRng2, dCallP, dCallB, dCallF, noSelf, onArgs, dats2, dIsi, tyName, dYes, dgTup, dgCons, dgNil, retB, dBreak, dCont, ne_eq, not_false_eq_true, true_and, and_true, List.getElem?_cons_zero, List.getElem?_cons_succ, List.set_cons_zero, List.set_cons_succ, Option.map, List.length_cons, List.length_nil, dLc_eq, dFor_eq, dSortSet, dSort, dListOf, dIsN, dNotN, isNo, dAug, dCatT, dSlT, onT, titems, dEnum, dZip, seqs, dRetL, dPar3, dRevT, dLstRg, dTupRg, dRg1, dRg2, dChainLe, List.nil_append, List.cons_append, if_true, if_false, dFrz, dLcO, List.map_cons, List.map_nil, fw0, fw1, fw2, fw3, fw4, fw5, fw6, fw7, fw8, fw9, fw10, fw11, fw12, fw13, fw14, fw15, wipeR]
      rw [fm_len]
      refine ⟨⟨few_le (by rw [List.length_map]; omega), by omega, by omega⟩, ?_⟩
      have := hC (insAt z.1 a, some (.d (pf a)), some (.d (.int ((z.1.filter fun o => decide (DV.lexLt o a)).length : Nat)))) hst.symm
      unfold insAt at this
      rw [if_neg h, insertIdx_td a hle] at this
      simp only [List.map_append, List.map_cons, List.map_take, List.map_drop] at this
      simpa using this
  · rw [List.take_length] at hz
    rw [hk2]
    simp only [dSeq, dAsg, dCB, dCons, dNil, dVar, onVs, vals, val, slot, setR, fGcd, dIfS, dTV, dOp, dBin, onV2, fLt, fLe, fGt, fGe, fAdd, fSub, fMul, fDiv, fMod, fI0, dC, dUn, onV, fNeg, dNext, dRet, dTup, onD, dats, fDivZ, fI, fPow, Few, retP, fAbs, fInt, fMax, fMin, fLen, fSqrt, fEq, fNe, dNot, dAnd, dOr, dAndV, dOrV, dNotV, dIfE, dDrop, dRetN, dPar, noO, dSetL, dLst, dOfL, dOwnM, onOwn, onDat, kAppend, kInsert, dSetItem, dAddItem, dIx, onItems, items, onInt, dNoPart, dPart, dSlice, onL, litems, dSlL, dCat, onM, mitems, dTupOf, dSeqI, dRng1, dRng2, dCallP, dCallB, dCallF, noSelf, onArgs, dats2, dIsi, tyName, dYes, dgTup, dgCons, dgNil, retB, dBreak, dCont, ne_eq, not_false_eq_true, true_and, and_true, List.getElem?_cons_zero, List.getElem?_cons_succ, List.set_cons_zero, List.set_cons_succ, Option.map, List.length_cons, List.length_nil, dLc_eq, dFor_eq, dSortSet, dSort, dListOf, dIsN, dNotN, isNo, dAug, dCatT, dSlT, onT, titems, dEnum, dZip, seqs, dRetL, dPar3, dRevT, dLstRg, dTupRg, dRg1, dRg2, dChainLe, List.nil_append, List.cons_append, if_true, if_false, dFrz, dLcO, List.map_cons, List.map_nil, fw0, fw1, fw2, fw3, fw4, fw5, fw6, fw7, fw8, fw9, fw10, fw11, fw12, fw13, fw14, fw15]
    rw [hz]
    exact hQ
set_option maxHeartbeats 4000000 in
theorem ok__law_fraction {f : Addr} {fd : FuncData} (W : Fun K "_law_fraction" "_law_fraction" s__law_fraction f fd) (T : Bi mg)
    {f__law_some : Addr} {fd__law_some : FuncData} (G__law_some : FnG P w K mg base CX0 2 f__law_some fd__law_some ["_law_bag_here", "_law_things"] (spB K [.d] S__law_some)) (g__law_some : mg "_law_some" = some (.ref f__law_some)) (k__law_some : PySem.W.keepIn K (.ref f__law_some) = true) (b__law_some : Binds K fd__law_some ["_law_bag_here", "_law_things"] [])
    {f__law_over : Addr} {fd__law_over : FuncData} (G__law_over : FnG P w K mg base CX0 1 f__law_over fd__law_over ["_law_n", "_law_d"] (spP K [.d, .d] S__law_over)) (g__law_over : mg "_law_over" = some (.ref f__law_over)) (k__law_over : PySem.W.keepIn K (.ref f__law_over) = true) (b__law_over : Binds K fd__law_over ["_law_n", "_law_d"] [])
    {f__law_take : Addr} {fd__law_take : FuncData} (G__law_take : FnG P w K mg base CX0 1 f__law_take fd__law_take ["_law_bag_here", "_law_many"] (spB K [.d] S__law_take)) (g__law_take : mg "_law_take" = some (.ref f__law_take)) (k__law_take : PySem.W.keepIn K (.ref f__law_take) = true) (b__law_take : Binds K fd__law_take ["_law_bag_here", "_law_many"] []) :
    FnG P w K mg base CX0 3 f fd ["_law_bag_here"] (spB K [] S__law_fraction) := by
  refine fnB W sc__law_fraction rfl fun cdv A out s H E Nn B hr hgd => ⟨_, _, (dss_cons (ds_set (i := 1) sc__law_fraction.nd (pd_callBag G__law_some m__law_some (hr.mono (by decide)) hgd rfl g__law_some k__law_some b__law_some (pda_cons (pdv 0) (pda_cons (pd_l (pl_lst (pda_cons pd_int (pda_cons pd_int (pda_cons pd_int (pda_cons pd_int (pda_cons pd_int (pda_cons pd_int (pda_cons pd_int (pda_cons pd_int pda_nil)))))))))) pda_nil))) (fixB (by decide)))
      (dss_one (ds_ret (pd_callP G__law_over m__law_over (hr.mono (by decide)) hgd rfl g__law_over k__law_over b__law_over (pda_cons (pd_callBag G__law_take m__law_take (hr.mono (by decide)) hgd rfl g__law_take k__law_take b__law_take (pda_cons (pdv 0) (pda_cons (pd_add (pdv 1) pd_int) pda_nil))) (pda_cons (pdv 1) pda_nil)))))), ?_⟩
  clear W T hr hgd G__law_some g__law_some k__law_some b__law_some f__law_some fd__law_some G__law_over g__law_over k__law_over b__law_over f__law_over fd__law_over G__law_take g__law_take k__law_take b__law_take f__law_take fd__law_take
  rintro bag xs Q hl ⟨_, m, hb, hm, rfl, _, hQ⟩
  clear hl
  replace hQ : ∀ z bag', (∃ q : Rat, z = fr q ∧ 0 ≤ q ∧ q ≤ 1 ∧ Sz 7 q) → Bag (m + 2) bag' → Q z bag'   := hQ
  have hm : m + 2 < 2 ^ 60 := hm
  have e : (some (.own bag) :: rhoP (nm__law_fraction.length - 1) [] [] : Rho) = [some (.own bag), none] := rfl
  rw [e]
  clear e
  simp only [dSeq, dAsg, dCB, dCons, dNil, dVar, onVs, vals, val, slot, setR, fGcd, dIfS, dTV, dOp, dBin, onV2, fLt, fLe, fGt, fGe, fAdd, fSub, fMul, fDiv, fMod, fI0, dC, dUn, onV, fNeg, dNext, dRet, dTup, onD, dats, fDivZ, fI, fPow, Few, retP, fAbs, fInt, fMax, fMin, fLen, fSqrt, fEq, fNe, dNot, dAnd, dOr, dAndV, dOrV, dNotV, dIfE, dDrop, dRetN, dPar, noO, dSetL, dLst, dOfL, dOwnM, onOwn, onDat, kAppend, kInsert, dSetItem, dAddItem, dIx, onItems, items, onInt, dNoPart, dPart, dSlice, onL, litems, dSlL, dCat, onM, mitems, dTupOf, dSeqI, dRng1, dRng2, dCallP, dCallB, dCallF, noSelf, onArgs, dats2, dIsi, tyName, dYes, dgTup, dgCons, dgNil, retB, dBreak, dCont, ne_eq, not_false_eq_true, true_and, and_true, List.getElem?_cons_zero, List.getElem?_cons_succ, List.set_cons_zero, List.set_cons_succ, Option.map, List.length_cons, List.length_nil, dLc_eq, dFor_eq, dSortSet, dSort, dListOf, dIsN, dNotN, isNo, dAug, dCatT, dSlT, onT, titems, dEnum, dZip, seqs, dRetL, dPar3, dRevT, dLstRg, dTupRg, dRg1, dRg2, dChainLe, List.nil_append, List.cons_append, if_true, if_false, dFrz, dLcO, List.map_cons, List.map_nil, fw0, fw1, fw2, fw3, fw4, fw5, fw6, fw7, fw8, fw9, fw10, fw11, fw12, fw13, fw14, fw15]
  refine u_some hb (by omega) (by decide) (by decide) fun y hy bag1 hb1 => ?_
  obtain ⟨d, rfl, d0, d1⟩ := of_all (lo := 1) (hi := 100) (by decide) y hy
  simp only [dSeq, dAsg, dCB, dCons, dNil, dVar, onVs, vals, val, slot, setR, fGcd, dIfS, dTV, dOp, dBin, onV2, fLt, fLe, fGt, fGe, fAdd, fSub, fMul, fDiv, fMod, fI0, dC, dUn, onV, fNeg, dNext, dRet, dTup, onD, dats, fDivZ, fI, fPow, Few, retP, fAbs, fInt, fMax, fMin, fLen, fSqrt, fEq, fNe, dNot, dAnd, dOr, dAndV, dOrV, dNotV, dIfE, dDrop, dRetN, dPar, noO, dSetL, dLst, dOfL, dOwnM, onOwn, onDat, kAppend, kInsert, dSetItem, dAddItem, dIx, onItems, items, onInt, dNoPart, dPart, dSlice, onL, litems, dSlL, dCat, onM, mitems, dTupOf, dSeqI, dRng1, dRng2, dCallP, dCallB, dCallF, noSelf, onArgs, dats2, dIsi, tyName, dYes, dgTup, dgCons, dgNil, retB, dBreak, dCont, ne_eq, not_false_eq_true, true_and, and_true, List.getElem?_cons_zero, List.getElem?_cons_succ, List.set_cons_zero, List.set_cons_succ, Option.map, List.length_cons, List.length_nil, dLc_eq, dFor_eq, dSortSet, dSort, dListOf, dIsN, dNotN, isNo, dAug, dCatT, dSlT, onT, titems, dEnum, dZip, seqs, dRetL, dPar3, dRevT, dLstRg, dTupRg, dRg1, dRg2, dChainLe, List.nil_append, List.cons_append, if_true, if_false, dFrz, dLcO, List.map_cons, List.map_nil, fw0, fw1, fw2, fw3, fw4, fw5, fw6, fw7, fw8, fw9, fw10, fw11, fw12, fw13, fw14, fw15]
  refine u_take hb1 (by omega) (by omega) (by omega) fun v bag2 v0 v1 hb2 => ?_
  refine u__law_over (by omega) ((bd_of 100 (by omega) (by omega) (k := 7)).up (by decide)) ?_
  refine hQ _ _ ⟨_, rfl, Rat.divInt_nonneg v0 (by omega), ?_, (sz_divInt (bd_of 100 (by omega) (by omega) (k := 7)) (bd_of 100 (by omega) (by omega) (k := 7)) (by omega)).up (by decide)⟩ hb2
  rw [Rat.divInt_eq_div]
  have h1 : ((v : Int) : Rat) ≤ (d : Int) := Rat.intCast_le_intCast.mpr (by omega)
  have h2 : (0 : Rat) < (d : Int) := Rat.intCast_pos.mpr (by omega)
  refine Rat.not_lt.mp fun z => ?_
  rw [Rat.lt_div_iff h2, Rat.one_mul] at z
  exact absurd h1 (Rat.not_le.mpr z)
set_option maxHeartbeats 4000000 in
theorem ok__law_are_allowed {f : Addr} {fd : FuncData} (W : Fun K "_law_are_allowed" "_law_are_allowed" s__law_are_allowed f fd) (T : Bi mg)
    {f__law_lessened : Addr} {fd__law_lessened : FuncData} (G__law_lessened : FnG P w K mg base CX0 2 f__law_lessened fd__law_lessened ["_law_x", "_law_y"] (spP K [.d, .d] S__law_lessened)) (g__law_lessened : mg "_law_lessened" = some (.ref f__law_lessened)) (k__law_lessened : PySem.W.keepIn K (.ref f__law_lessened) = true) (b__law_lessened : Binds K fd__law_lessened ["_law_x", "_law_y"] [])
    {f__law_is_below : Addr} {fd__law_is_below : FuncData} (G__law_is_below : FnG P w K mg base CX0 1 f__law_is_below fd__law_is_below ["_law_x", "_law_y"] (spP K [.d, .d] S__law_is_below)) (g__law_is_below : mg "_law_is_below" = some (.ref f__law_is_below)) (k__law_is_below : PySem.W.keepIn K (.ref f__law_is_below) = true) (b__law_is_below : Binds K fd__law_is_below ["_law_x", "_law_y"] []) :
    FnG P w K mg base CX0 3 f fd ["_law_s", "_law_t", "_law_rho"] (spP K [.d, .d, .d] S__law_are_allowed) := by
  refine fnP W sc__law_are_allowed rfl fun cdv A out s H E Nn hr hgd => ⟨_, _, (dss_cons (ds_set (i := 3) sc__law_are_allowed.nd (pd_callP G__law_lessened m__law_lessened (hr.mono (by decide)) hgd rfl g__law_lessened k__law_lessened b__law_lessened (pda_cons (pdv 0) (pda_cons (pdv 1) pda_nil))) fixP)
      (dss_cons (ds_set (i := 3) sc__law_are_allowed.nd (pd_tup (pda_cons (pd_callB call_abs sc_abs rfl T.b_abs (by decide +kernel) (pda_cons (pd_ix (pdv 3) pd_int (fun _ _ => rfl)) pda_nil)) (pda_cons (pd_ix (pdv 3) pd_int (fun _ _ => rfl)) pda_nil))) fixP)
      (dss_one (ds_ret (pd_and (pd_ge (pd_ix (pdv 0) pd_int (fun _ _ => rfl)) pd_int) (pd_and (pd_ge (pd_ix (pdv 1) pd_int (fun _ _ => rfl)) pd_int) (pd_and (pd_not (pd_callP G__law_is_below m__law_is_below (hr.mono (by decide)) hgd rfl g__law_is_below k__law_is_below b__law_is_below (pda_cons (pd_tup (pda_cons pd_int (pda_cons pd_int pda_nil))) (pda_cons (pdv 0) pda_nil)))) (pd_and (pd_not (pd_callP G__law_is_below m__law_is_below (hr.mono (by decide)) hgd rfl g__law_is_below k__law_is_below b__law_is_below (pda_cons (pd_tup (pda_cons pd_int (pda_cons pd_int pda_nil))) (pda_cons (pdv 1) pda_nil)))) (pdn_one (pd_not (pd_callP G__law_is_below m__law_is_below (hr.mono (by decide)) hgd rfl g__law_is_below k__law_is_below b__law_is_below (pda_cons (pdv 2) (pda_cons (pdv 3) pda_nil))))))))))))), ?_⟩
  clear W T hr hgd G__law_lessened g__law_lessened k__law_lessened b__law_lessened f__law_lessened fd__law_lessened G__law_is_below g__law_is_below k__law_is_below b__law_is_below f__law_is_below fd__law_is_below
  rintro xs Q hl ⟨⟨s, t, rho, k⟩, rfl, ⟨h0, h1, h2, h3⟩, hQ⟩
  clear hl
  replace hQ : Q (.bool (decide (within s t rho))) := hQ
  have e : rhoP nm__law_are_allowed.length [.d, .d, .d] [fr s, fr t, fr rho] = [some (.d (fr s)), some (.d (fr t)), some (.d (fr rho)), none] := rfl
  rw [e]
  clear e
  have d := h0.sub h1
  refine seqI fun kk hk => ?_
  simp only [dSeq, dAsg, dCB, dCons, dNil, dVar, onVs, vals, val, slot, setR, fGcd, dIfS, dTV, dOp, dBin, onV2, fLt, fLe, fGt, fGe, fAdd, fSub, fMul, fDiv, fMod, fI0, dC, dUn, onV, fNeg, dNext, dRet, dTup, onD, dats, fDivZ, fI, fPow, Few, retP, fAbs, fInt, fMax, fMin, fLen, fSqrt, fEq, fNe, dNot, dAnd, dOr, dAndV, dOrV, dNotV, dIfE, dDrop, dRetN, dPar, noO, dSetL, dLst, dOfL, dOwnM, onOwn, onDat, kAppend, kInsert, dSetItem, dAddItem, dIx, onItems, items, onInt, dNoPart, dPart, dSlice, onL, litems, dSlL, dCat, onM, mitems, dTupOf, dSeqI, dRng1, dRng2, dCallP, dCallB, dCallF, noSelf, onArgs, dats2, dIsi, tyName, dYes, dgTup, dgCons, dgNil, retB, dBreak, dCont, ne_eq, not_false_eq_true, true_and, and_true, List.getElem?_cons_zero, List.getElem?_cons_succ, List.set_cons_zero, List.set_cons_succ, Option.map, List.length_cons, List.length_nil, dLc_eq, dFor_eq, dSortSet, dSort, dListOf, dIsN, dNotN, isNo, dAug, dCatT, dSlT, onT, titems, dEnum, dZip, seqs, dRetL, dPar3, dRevT, dLstRg, dTupRg, dRg1, dRg2, dChainLe, List.nil_append, List.cons_append, if_true, if_false, dFrz, dLcO, List.map_cons, List.map_nil, fw0, fw1, fw2, fw3, fw4, fw5, fw6, fw7, fw8, fw9, fw10, fw11, fw12, fw13, fw14, fw15]
  refine u__law_lessened h0 h1 (by omega) ?_
  rw [hk]
  refine seqI fun k2 hk2 => ?_
  simp only [dSeq, dAsg, dCB, dCons, dNil, dVar, onVs, vals, val, slot, setR, fGcd, dIfS, dTV, dOp, dBin, onV2, fLt, fLe, fGt, fGe, fAdd, fSub, fMul, fDiv, fMod, fI0, dC, dUn, onV, fNeg, dNext, dRet, dTup, onD, dats, fDivZ, fI, fPow, Few, retP, fAbs, fInt, fMax, fMin, fLen, fSqrt, fEq, fNe, dNot, dAnd, dOr, dAndV, dOrV, dNotV, dIfE, dDrop, dRetN, dPar, noO, dSetL, dLst, dOfL, dOwnM, onOwn, onDat, kAppend, kInsert, dSetItem, dAddItem, dIx, onItems, items, onInt, dNoPart, dPart, dSlice, onL, litems, dSlL, dCat, onM, mitems, dTupOf, dSeqI, dRng1, dRng2, dCallP, dCallB, dCallF, noSelf, onArgs, dats2, dIsi, tyName, dYes, dgTup, dgCons, dgNil, retB, dBreak, dCont, ne_eq, not_false_eq_true, true_and, and_true, List.getElem?_cons_zero, List.getElem?_cons_succ, List.set_cons_zero, List.set_cons_succ, Option.map, List.length_cons, List.length_nil, dLc_eq, dFor_eq, dSortSet, dSort, dListOf, dIsN, dNotN, isNo, dAug, dCatT, dSlT, onT, titems, dEnum, dZip, seqs, dRetL, dPar3, dRevT, dLstRg, dTupRg, dRg1, dRg2, dChainLe, List.nil_append, List.cons_append, if_true, if_false, dFrz, dLcO, List.map_cons, List.map_nil, fw0, fw1, fw2, fw3, fw4, fw5, fw6, fw7, fw8, fw9, fw10, fw11, fw12, fw13, fw14, fw15, fr, on0, on1]
  rw [fr_abs, hk2]
  simp only [dSeq, dAsg, dCB, dCons, dNil, dVar, onVs, vals, val, slot, setR, fGcd, dIfS, dTV, dOp, dBin, onV2, fLt, fLe, fGt, fGe, fAdd, fSub, fMul, fDiv, fMod, fI0, dC, dUn, onV, fNeg, dNext, dRet, dTup, onD, dats, fDivZ, fI, fPow, Few, retP, fAbs, fInt, fMax, fMin, fLen, fSqrt, fEq, fNe, dNot, dAnd, dOr, dAndV, dOrV, dNotV, dIfE, dDrop, dRetN, dPar, noO, dSetL, dLst, dOfL, dOwnM, onOwn, onDat, kAppend, kInsert, dSetItem, dAddItem, dIx, onItems, items, onInt, dNoPart, dPart, dSlice, onL, litems, dSlL, dCat, onM, mitems, dTupOf, dSeqI, dRng1, dRng2, dCallP, dCallB, dCallF, noSelf, onArgs, dats2, dIsi, tyName, dYes, dgTup, dgCons, dgNil, retB, dBreak, dCont, ne_eq, not_false_eq_true, true_and, and_true, List.getElem?_cons_zero, List.getElem?_cons_succ, List.set_cons_zero, List.set_cons_succ, Option.map, List.length_cons, List.length_nil, dLc_eq, dFor_eq, dSortSet, dSort, dListOf, dIsN, dNotN, isNo, dAug, dCatT, dSlT, onT, titems, dEnum, dZip, seqs, dRetL, dPar3, dRevT, dLstRg, dTupRg, dRg1, dRg2, dChainLe, List.nil_append, List.cons_append, if_true, if_false, dFrz, dLcO, List.map_cons, List.map_nil, fw0, fw1, fw2, fw3, fw4, fw5, fw6, fw7, fw8, fw9, fw10, fw11, fw12, fw13, fw14, fw15, fr, on0, on1]
  have no : ¬ within s t rho → Q (.bool false) := fun z => by rw [decide_eq_false z] at hQ; exact hQ
  refine ite_b (fun a => ?_) fun a => no fun z => a (Rat.num_nonneg.mpr z.1)
  refine ite_b (fun b => ?_) fun b => no fun z => b (Rat.num_nonneg.mpr z.2.2.1)
  refine u__law_is_below (p := 1) (r := s) (sz_one (k := 1)) h0 (by omega) ?_
  refine ite_nb (c := 1 < s) (fun c => ?_) fun c => no fun z => absurd c (Rat.not_lt.mpr z.2.1)
  refine u__law_is_below (p := 1) (r := t) (sz_one (k := 1)) h1 (by omega) ?_
  refine ite_nb (c := 1 < t) (fun d => ?_) fun d => no fun z => absurd d (Rat.not_lt.mpr z.2.2.2.1)
  refine u__law_is_below (p := rho) (r := rabs (s - t)) h2 (rabs_sz (h0.sub h1)) (by omega) ?_
  have e : within s t rho ↔ ¬ (rho < rabs (s - t)) := by
    rw [Rat.not_lt]
    exact ⟨fun z => z.2.2.2.2, fun z => ⟨Rat.num_nonneg.mp a, Rat.not_lt.mp c, Rat.num_nonneg.mp b, Rat.not_lt.mp d, z⟩⟩
  rw [decide_eq_decide.mpr e, decide_not] at hQ
  exact hQ
set_option maxHeartbeats 4000000 in
theorem ok_squared_at {f : Addr} {fd : FuncData} (W : Fun K "squared_at" "squared_at" s_squared_at f fd) (T : Bi mg)
    {f_gap_at : Addr} {fd_gap_at : FuncData} (G_gap_at : FnG P w K mg base CX0 3 f_gap_at fd_gap_at ["leg", "other", "s", "t"] (spP K [.d, .d, .d, .d] S_gap_at)) (g_gap_at : mg "gap_at" = some (.ref f_gap_at)) (k_gap_at : PySem.W.keepIn K (.ref f_gap_at) = true) (b_gap_at : Binds K fd_gap_at ["leg", "other", "s", "t"] [])
    {f_added : Addr} {fd_added : FuncData} (G_added : FnG P w K mg base CX0 2 f_added fd_added ["one", "other"] (spP K [.d, .d] S_added)) (g_added : mg "added" = some (.ref f_added)) (k_added : PySem.W.keepIn K (.ref f_added) = true) (b_added : Binds K fd_added ["one", "other"] [])
    {f_times : Addr} {fd_times : FuncData} (G_times : FnG P w K mg base CX0 2 f_times fd_times ["one", "other"] (spP K [.d, .d] S_times)) (g_times : mg "times" = some (.ref f_times)) (k_times : PySem.W.keepIn K (.ref f_times) = true) (b_times : Binds K fd_times ["one", "other"] []) :
    FnG P w K mg base CX0 4 f fd ["leg", "other", "s", "t"] (spP K [.d, .d, .d, .d] S_squared_at) := by
  refine fnP W sc_squared_at rfl fun cdv A out s H E Nn hr hgd => ⟨_, _, (dss_cons (ds_asg (pd_callP G_gap_at m_gap_at (hr.mono (by decide)) hgd rfl g_gap_at k_gap_at b_gap_at (pda_cons (pdv 0) (pda_cons (pdv 1) (pda_cons (pdv 2) (pda_cons (pdv 3) pda_nil))))) (pgd_tup (n := 2) rfl (pgds_cons (pgd_name (i := 4) sc_squared_at.nd) (pgds_cons (pgd_name (i := 5) sc_squared_at.nd) pgds_nil))) nofixP)
      (dss_one (ds_ret (pd_callP G_added m_added (hr.mono (by decide)) hgd rfl g_added k_added b_added (pda_cons (pd_callP G_times m_times (hr.mono (by decide)) hgd rfl g_times k_times b_times (pda_cons (pdv 4) (pda_cons (pdv 4) pda_nil))) (pda_cons (pd_callP G_times m_times (hr.mono (by decide)) hgd rfl g_times k_times b_times (pda_cons (pdv 5) (pda_cons (pdv 5) pda_nil))) pda_nil)))))), ?_⟩
  clear W T hr hgd G_gap_at g_gap_at k_gap_at b_gap_at f_gap_at fd_gap_at G_added g_added k_added b_added f_added fd_added G_times g_times k_times b_times f_times fd_times
  rintro xs Q hl ⟨⟨l, o, s, t, j, k⟩, rfl, ⟨h0, h1, h2, h3, h4, h5⟩, hQ⟩
  clear hl
  replace hQ : Q (fr (gsq l o s t)) := hQ
  have e : rhoP nm_squared_at.length [.d, .d, .d, .d] [eL l, eL o, fr s, fr t] = [some (.d (eL l)), some (.d (eL o)), some (.d (fr s)), some (.d (fr t)), none, none] := rfl
  rw [e]
  clear e
  simp only [dSeq, dAsg, dCB, dCons, dNil, dVar, onVs, vals, val, slot, setR, fGcd, dIfS, dTV, dOp, dBin, onV2, fLt, fLe, fGt, fGe, fAdd, fSub, fMul, fDiv, fMod, fI0, dC, dUn, onV, fNeg, dNext, dRet, dTup, onD, dats, fDivZ, fI, fPow, Few, retP, fAbs, fInt, fMax, fMin, fLen, fSqrt, fEq, fNe, dNot, dAnd, dOr, dAndV, dOrV, dNotV, dIfE, dDrop, dRetN, dPar, noO, dSetL, dLst, dOfL, dOwnM, onOwn, onDat, kAppend, kInsert, dSetItem, dAddItem, dIx, onItems, items, onInt, dNoPart, dPart, dSlice, onL, litems, dSlL, dCat, onM, mitems, dTupOf, dSeqI, dRng1, dRng2, dCallP, dCallB, dCallF, noSelf, onArgs, dats2, dIsi, tyName, dYes, dgTup, dgCons, dgNil, retB, dBreak, dCont, ne_eq, not_false_eq_true, true_and, and_true, List.getElem?_cons_zero, List.getElem?_cons_succ, List.set_cons_zero, List.set_cons_succ, Option.map, List.length_cons, List.length_nil, dLc_eq, dFor_eq, dSortSet, dSort, dListOf, dIsN, dNotN, isNo, dAug, dCatT, dSlT, onT, titems, dEnum, dZip, seqs, dRetL, dPar3, dRevT, dLstRg, dTupRg, dRg1, dRg2, dChainLe, List.nil_append, List.cons_append, if_true, if_false, dFrz, dLcO, List.map_cons, List.map_nil, fw0, fw1, fw2, fw3, fw4, fw5, fw6, fw7, fw8, fw9, fw10, fw11, fw12, fw13, fw14, fw15]
  refine u_gap_at h0 h1 h2 h3 h4 (by omega) ?_
  simp only [dSeq, dAsg, dCB, dCons, dNil, dVar, onVs, vals, val, slot, setR, fGcd, dIfS, dTV, dOp, dBin, onV2, fLt, fLe, fGt, fGe, fAdd, fSub, fMul, fDiv, fMod, fI0, dC, dUn, onV, fNeg, dNext, dRet, dTup, onD, dats, fDivZ, fI, fPow, Few, retP, fAbs, fInt, fMax, fMin, fLen, fSqrt, fEq, fNe, dNot, dAnd, dOr, dAndV, dOrV, dNotV, dIfE, dDrop, dRetN, dPar, noO, dSetL, dLst, dOfL, dOwnM, onOwn, onDat, kAppend, kInsert, dSetItem, dAddItem, dIx, onItems, items, onInt, dNoPart, dPart, dSlice, onL, litems, dSlL, dCat, onM, mitems, dTupOf, dSeqI, dRng1, dRng2, dCallP, dCallB, dCallF, noSelf, onArgs, dats2, dIsi, tyName, dYes, dgTup, dgCons, dgNil, retB, dBreak, dCont, ne_eq, not_false_eq_true, true_and, and_true, List.getElem?_cons_zero, List.getElem?_cons_succ, List.set_cons_zero, List.set_cons_succ, Option.map, List.length_cons, List.length_nil, dLc_eq, dFor_eq, dSortSet, dSort, dListOf, dIsN, dNotN, isNo, dAug, dCatT, dSlT, onT, titems, dEnum, dZip, seqs, dRetL, dPar3, dRevT, dLstRg, dTupRg, dRg1, dRg2, dChainLe, List.nil_append, List.cons_append, if_true, if_false, dFrz, dLcO, List.map_cons, List.map_nil, fw0, fw1, fw2, fw3, fw4, fw5, fw6, fw7, fw8, fw9, fw10, fw11, fw12, fw13, fw14, fw15]
  have a1 := (px_sz h1 h3 h4).sub (px_sz h0 h2 h4)
  have a2 := (py_sz h1 h3 h4).sub (py_sz h0 h2 h4)
  refine u_times a1 a1 (by omega) (u_times a2 a2 (by omega) (u_added (a1.mul a1) (a2.mul a2) (by omega) hQ))
set_option maxHeartbeats 4000000 in
theorem ok__law_gap_squared {f : Addr} {fd : FuncData} (W : Fun K "_law_gap_squared" "_law_gap_squared" s__law_gap_squared f fd) (T : Bi mg)
    {f__law_gap : Addr} {fd__law_gap : FuncData} (G__law_gap : FnG P w K mg base CX0 3 f__law_gap fd__law_gap ["_law_leg", "_law_other", "_law_s", "_law_t"] (spP K [.d, .d, .d, .d] S__law_gap)) (g__law_gap : mg "_law_gap" = some (.ref f__law_gap)) (k__law_gap : PySem.W.keepIn K (.ref f__law_gap) = true) (b__law_gap : Binds K fd__law_gap ["_law_leg", "_law_other", "_law_s", "_law_t"] [])
    {f__law_dot : Addr} {fd__law_dot : FuncData} (G__law_dot : FnG P w K mg base CX0 3 f__law_dot fd__law_dot ["_law_one", "_law_other"] (spP K [.ro, .ro] S__law_dot)) (g__law_dot : mg "_law_dot" = some (.ref f__law_dot)) (k__law_dot : PySem.W.keepIn K (.ref f__law_dot) = true) (b__law_dot : Binds K fd__law_dot ["_law_one", "_law_other"] []) :
    FnG P w K mg base CX0 4 f fd ["_law_leg", "_law_other", "_law_s", "_law_t"] (spP K [.d, .d, .d, .d] S__law_gap_squared) := by
  refine fnP W sc__law_gap_squared rfl fun cdv A out s H E Nn hr hgd => ⟨_, _, (dss_cons (ds_set (i := 4) sc__law_gap_squared.nd (pd_callP G__law_gap m__law_gap (hr.mono (by decide)) hgd rfl g__law_gap k__law_gap b__law_gap (pda_cons (pdv 0) (pda_cons (pdv 1) (pda_cons (pdv 2) (pda_cons (pdv 3) pda_nil))))) fixP)
      (dss_one (ds_ret (pd_callP G__law_dot m__law_dot (hr.mono (by decide)) hgd rfl g__law_dot k__law_dot b__law_dot (pda_cons (pdv 4) (pda_cons (pdv 4) pda_nil)))))), ?_⟩
  clear W T hr hgd G__law_gap g__law_gap k__law_gap b__law_gap f__law_gap fd__law_gap G__law_dot g__law_dot k__law_dot b__law_dot f__law_dot fd__law_dot
  rintro xs Q hl ⟨⟨l, o, s, t, j, k⟩, rfl, ⟨h0, h1, h2, h3, h4, h5⟩, hQ⟩
  clear hl
  replace hQ : Q (fr (gsq l o s t)) := hQ
  have e : rhoP nm__law_gap_squared.length [.d, .d, .d, .d] [eL l, eL o, fr s, fr t] = [some (.d (eL l)), some (.d (eL o)), some (.d (fr s)), some (.d (fr t)), none] := rfl
  rw [e]
  clear e
  simp only [dSeq, dAsg, dCB, dCons, dNil, dVar, onVs, vals, val, slot, setR, fGcd, dIfS, dTV, dOp, dBin, onV2, fLt, fLe, fGt, fGe, fAdd, fSub, fMul, fDiv, fMod, fI0, dC, dUn, onV, fNeg, dNext, dRet, dTup, onD, dats, fDivZ, fI, fPow, Few, retP, fAbs, fInt, fMax, fMin, fLen, fSqrt, fEq, fNe, dNot, dAnd, dOr, dAndV, dOrV, dNotV, dIfE, dDrop, dRetN, dPar, noO, dSetL, dLst, dOfL, dOwnM, onOwn, onDat, kAppend, kInsert, dSetItem, dAddItem, dIx, onItems, items, onInt, dNoPart, dPart, dSlice, onL, litems, dSlL, dCat, onM, mitems, dTupOf, dSeqI, dRng1, dRng2, dCallP, dCallB, dCallF, noSelf, onArgs, dats2, dIsi, tyName, dYes, dgTup, dgCons, dgNil, retB, dBreak, dCont, ne_eq, not_false_eq_true, true_and, and_true, List.getElem?_cons_zero, List.getElem?_cons_succ, List.set_cons_zero, List.set_cons_succ, Option.map, List.length_cons, List.length_nil, dLc_eq, dFor_eq, dSortSet, dSort, dListOf, dIsN, dNotN, isNo, dAug, dCatT, dSlT, onT, titems, dEnum, dZip, seqs, dRetL, dPar3, dRevT, dLstRg, dTupRg, dRg1, dRg2, dChainLe, List.nil_append, List.cons_append, if_true, if_false, dFrz, dLcO, List.map_cons, List.map_nil, fw0, fw1, fw2, fw3, fw4, fw5, fw6, fw7, fw8, fw9, fw10, fw11, fw12, fw13, fw14, fw15]
  refine u__law_gap h0 h1 h2 h3 h4 (by omega) ?_
  have a1 := (px_sz h1 h3 h4).sub (px_sz h0 h2 h4)
  have a2 := (py_sz h1 h3 h4).sub (py_sz h0 h2 h4)
  exact u__law_dot a1 a2 a1 a2 (by omega) hQ
set_option maxHeartbeats 4000000 in
theorem ok__law_on_edge {f : Addr} {fd : FuncData} (W : Fun K "_law_on_edge" "_law_on_edge" s__law_on_edge f fd) (T : Bi mg)
    {f__law_added : Addr} {fd__law_added : FuncData} (G__law_added : FnG P w K mg base CX0 2 f__law_added fd__law_added ["_law_x", "_law_y"] (spP K [.d, .d] S__law_added)) (g__law_added : mg "_law_added" = some (.ref f__law_added)) (k__law_added : PySem.W.keepIn K (.ref f__law_added) = true) (b__law_added : Binds K fd__law_added ["_law_x", "_law_y"] [])
    {f__law_gap : Addr} {fd__law_gap : FuncData} (G__law_gap : FnG P w K mg base CX0 3 f__law_gap fd__law_gap ["_law_leg", "_law_other", "_law_s", "_law_t"] (spP K [.d, .d, .d, .d] S__law_gap)) (g__law_gap : mg "_law_gap" = some (.ref f__law_gap)) (k__law_gap : PySem.W.keepIn K (.ref f__law_gap) = true) (b__law_gap : Binds K fd__law_gap ["_law_leg", "_law_other", "_law_s", "_law_t"] [])
    {f__law_lessened : Addr} {fd__law_lessened : FuncData} (G__law_lessened : FnG P w K mg base CX0 2 f__law_lessened fd__law_lessened ["_law_x", "_law_y"] (spP K [.d, .d] S__law_lessened)) (g__law_lessened : mg "_law_lessened" = some (.ref f__law_lessened)) (k__law_lessened : PySem.W.keepIn K (.ref f__law_lessened) = true) (b__law_lessened : Binds K fd__law_lessened ["_law_x", "_law_y"] [])
    {f__law_dot : Addr} {fd__law_dot : FuncData} (G__law_dot : FnG P w K mg base CX0 3 f__law_dot fd__law_dot ["_law_one", "_law_other"] (spP K [.ro, .ro] S__law_dot)) (g__law_dot : mg "_law_dot" = some (.ref f__law_dot)) (k__law_dot : PySem.W.keepIn K (.ref f__law_dot) = true) (b__law_dot : Binds K fd__law_dot ["_law_one", "_law_other"] [])
    {f__law_divided : Addr} {fd__law_divided : FuncData} (G__law_divided : FnG P w K mg base CX0 2 f__law_divided fd__law_divided ["_law_x", "_law_y"] (spP K [.d, .d] S__law_divided)) (g__law_divided : mg "_law_divided" = some (.ref f__law_divided)) (k__law_divided : PySem.W.keepIn K (.ref f__law_divided) = true) (b__law_divided : Binds K fd__law_divided ["_law_x", "_law_y"] [])
    {f__law_are_less : Addr} {fd__law_are_less : FuncData} (G__law_are_less : FnG P w K mg base CX0 2 f__law_are_less fd__law_are_less ["_law_one", "_law_other"] (spP K [.d, .d] S__law_are_less)) (g__law_are_less : mg "_law_are_less" = some (.ref f__law_are_less)) (k__law_are_less : PySem.W.keepIn K (.ref f__law_are_less) = true) (b__law_are_less : Binds K fd__law_are_less ["_law_one", "_law_other"] [])
    {f__law_multiplied : Addr} {fd__law_multiplied : FuncData} (G__law_multiplied : FnG P w K mg base CX0 2 f__law_multiplied fd__law_multiplied ["_law_x", "_law_y"] (spP K [.d, .d] S__law_multiplied)) (g__law_multiplied : mg "_law_multiplied" = some (.ref f__law_multiplied)) (k__law_multiplied : PySem.W.keepIn K (.ref f__law_multiplied) = true) (b__law_multiplied : Binds K fd__law_multiplied ["_law_x", "_law_y"] [])
    {f__law_gap_squared : Addr} {fd__law_gap_squared : FuncData} (G__law_gap_squared : FnG P w K mg base CX0 4 f__law_gap_squared fd__law_gap_squared ["_law_leg", "_law_other", "_law_s", "_law_t"] (spP K [.d, .d, .d, .d] S__law_gap_squared)) (g__law_gap_squared : mg "_law_gap_squared" = some (.ref f__law_gap_squared)) (k__law_gap_squared : PySem.W.keepIn K (.ref f__law_gap_squared) = true) (b__law_gap_squared : Binds K fd__law_gap_squared ["_law_leg", "_law_other", "_law_s", "_law_t"] [])
    {f__law_is_below : Addr} {fd__law_is_below : FuncData} (G__law_is_below : FnG P w K mg base CX0 1 f__law_is_below fd__law_is_below ["_law_x", "_law_y"] (spP K [.d, .d] S__law_is_below)) (g__law_is_below : mg "_law_is_below" = some (.ref f__law_is_below)) (k__law_is_below : PySem.W.keepIn K (.ref f__law_is_below) = true) (b__law_is_below : Binds K fd__law_is_below ["_law_x", "_law_y"] []) :
    FnG P w K mg base CX0 5 f fd ["_law_leg", "_law_other", "_law_one", "_law_two"] (spP K [.d, .d, .d, .d] S__law_on_edge) := by
  refine fnP W sc__law_on_edge rfl fun cdv A out s H E Nn hr hgd => ⟨_, _, (dss_cons (ds_par (i := 4) (j := 5) rfl sc__law_on_edge.nd (pda_cons (pd_callP G__law_gap m__law_gap (hr.mono (by decide)) hgd rfl g__law_gap k__law_gap b__law_gap (pda_cons (pdv 0) (pda_cons (pdv 1) (pda_cons (pd_ix (pdv 2) pd_int (fun _ _ => rfl)) (pda_cons (pd_ix (pdv 2) pd_int (fun _ _ => rfl)) pda_nil))))) (pda_cons (pd_callP G__law_gap m__law_gap (hr.mono (by decide)) hgd rfl g__law_gap k__law_gap b__law_gap (pda_cons (pdv 0) (pda_cons (pdv 1) (pda_cons (pd_ix (pdv 3) pd_int (fun _ _ => rfl)) (pda_cons (pd_ix (pdv 3) pd_int (fun _ _ => rfl)) pda_nil))))) pda_nil)) fixP fixP)
      (dss_cons (ds_set (i := 6) sc__law_on_edge.nd (pd_l (pl_lst (pda_cons (pd_callP G__law_lessened m__law_lessened (hr.mono (by decide)) hgd rfl g__law_lessened k__law_lessened b__law_lessened (pda_cons (pd_ix (pdv 5) pd_int (fun _ _ => rfl)) (pda_cons (pd_ix (pdv 4) pd_int (fun _ _ => rfl)) pda_nil))) (pda_cons (pd_callP G__law_lessened m__law_lessened (hr.mono (by decide)) hgd rfl g__law_lessened k__law_lessened b__law_lessened (pda_cons (pd_ix (pdv 5) pd_int (fun _ _ => rfl)) (pda_cons (pd_ix (pdv 4) pd_int (fun _ _ => rfl)) pda_nil))) pda_nil)))) fixP)
      (dss_cons (ds_par (i := 7) (j := 8) rfl sc__law_on_edge.nd (pda_cons (pd_callP G__law_dot m__law_dot (hr.mono (by decide)) hgd rfl g__law_dot k__law_dot b__law_dot (pda_cons (pdv 6) (pda_cons (pdv 6) pda_nil))) (pda_cons (pd_tup (pda_cons pd_int (pda_cons pd_int pda_nil))) pda_nil)) fixP fixP)
      (dss_cons (ds_if (pt_ne hr.units rfl (pd_ix (pdv 7) pd_int (fun _ _ => rfl)) pd_int) (dss_one (ds_set (i := 8) sc__law_on_edge.nd (pd_callP G__law_divided m__law_divided (hr.mono (by decide)) hgd rfl g__law_divided k__law_divided b__law_divided (pda_cons (pd_callP G__law_multiplied m__law_multiplied (hr.mono (by decide)) hgd rfl g__law_multiplied k__law_multiplied b__law_multiplied (pda_cons (pd_tup (pda_cons (pd_neg pd_int) (pda_cons pd_int pda_nil))) (pda_cons (pd_callP G__law_dot m__law_dot (hr.mono (by decide)) hgd rfl g__law_dot k__law_dot b__law_dot (pda_cons (pdv 4) (pda_cons (pdv 6) pda_nil))) pda_nil))) (pda_cons (pdv 7) pda_nil))) fixP)) (dss_one (ds_if (pt_v (pd_callP G__law_are_less m__law_are_less (hr.mono (by decide)) hgd rfl g__law_are_less k__law_are_less b__law_are_less (pda_cons (pdv 3) (pda_cons (pdv 2) pda_nil)))) (dss_one (ds_set (i := 8) sc__law_on_edge.nd (pd_tup (pda_cons pd_int (pda_cons pd_int pda_nil))) fixP)) dss_nil)))
      (dss_cons (ds_set (i := 8) sc__law_on_edge.nd (pd_ifExp (pt_lt (pd_ix (pdv 8) pd_int (fun _ _ => rfl)) pd_int) (pd_tup (pda_cons pd_int (pda_cons pd_int pda_nil))) (pd_ifExp (pt_v (pd_callP G__law_is_below m__law_is_below (hr.mono (by decide)) hgd rfl g__law_is_below k__law_is_below b__law_is_below (pda_cons (pd_tup (pda_cons pd_int (pda_cons pd_int pda_nil))) (pda_cons (pdv 8) pda_nil)))) (pd_tup (pda_cons pd_int (pda_cons pd_int pda_nil))) (pdv 8))) fixP)
      (dss_cons (ds_set (i := 9) sc__law_on_edge.nd (pd_callP G__law_added m__law_added (hr.mono (by decide)) hgd rfl g__law_added k__law_added b__law_added (pda_cons (pd_ix (pdv 2) pd_int (fun _ _ => rfl)) (pda_cons (pd_callP G__law_multiplied m__law_multiplied (hr.mono (by decide)) hgd rfl g__law_multiplied k__law_multiplied b__law_multiplied (pda_cons (pdv 8) (pda_cons (pd_callP G__law_lessened m__law_lessened (hr.mono (by decide)) hgd rfl g__law_lessened k__law_lessened b__law_lessened (pda_cons (pd_ix (pdv 3) pd_int (fun _ _ => rfl)) (pda_cons (pd_ix (pdv 2) pd_int (fun _ _ => rfl)) pda_nil))) pda_nil))) pda_nil))) fixP)
      (dss_cons (ds_set (i := 10) sc__law_on_edge.nd (pd_callP G__law_added m__law_added (hr.mono (by decide)) hgd rfl g__law_added k__law_added b__law_added (pda_cons (pd_ix (pdv 2) pd_int (fun _ _ => rfl)) (pda_cons (pd_callP G__law_multiplied m__law_multiplied (hr.mono (by decide)) hgd rfl g__law_multiplied k__law_multiplied b__law_multiplied (pda_cons (pdv 8) (pda_cons (pd_callP G__law_lessened m__law_lessened (hr.mono (by decide)) hgd rfl g__law_lessened k__law_lessened b__law_lessened (pda_cons (pd_ix (pdv 3) pd_int (fun _ _ => rfl)) (pda_cons (pd_ix (pdv 2) pd_int (fun _ _ => rfl)) pda_nil))) pda_nil))) pda_nil))) fixP)
      (dss_one (ds_ret (pd_tup (pda_cons (pd_callP G__law_gap_squared m__law_gap_squared (hr.mono (by decide)) hgd rfl g__law_gap_squared k__law_gap_squared b__law_gap_squared (pda_cons (pdv 0) (pda_cons (pdv 1) (pda_cons (pdv 9) (pda_cons (pdv 10) pda_nil))))) (pda_cons (pdv 9) (pda_cons (pdv 10) pda_nil))))))))))))), ?_⟩
  clear W T hr hgd G__law_added g__law_added k__law_added b__law_added f__law_added fd__law_added G__law_gap g__law_gap k__law_gap b__law_gap f__law_gap fd__law_gap G__law_lessened g__law_lessened k__law_lessened b__law_lessened f__law_lessened fd__law_lessened G__law_dot g__law_dot k__law_dot b__law_dot f__law_dot fd__law_dot G__law_divided g__law_divided k__law_divided b__law_divided f__law_divided fd__law_divided G__law_are_less g__law_are_less k__law_are_less b__law_are_less f__law_are_less fd__law_are_less G__law_multiplied g__law_multiplied k__law_multiplied b__law_multiplied f__law_multiplied fd__law_multiplied G__law_gap_squared g__law_gap_squared k__law_gap_squared b__law_gap_squared f__law_gap_squared fd__law_gap_squared G__law_is_below g__law_is_below k__law_is_below b__law_is_below f__law_is_below fd__law_is_below
  rintro xs Q hl ⟨⟨l, o, a, b, d⟩, rfl, ⟨h0, h1, h2, h3, h4⟩, hQ⟩
  clear hl
  replace hQ : Q (pf3 (edge l o a b)) := hQ
  have e : rhoP nm__law_on_edge.length [.d, .d, .d, .d] [eL l, eL o, pf a, pf b] = [some (.d (eL l)), some (.d (eL o)), some (.d (pf a)), some (.d (pf b)), none, none, none, none, none, none, none] := rfl
  rw [e]
  clear e
  have ga := px_sz h0 (h3.s h2) (by decide)
  have ga' := py_sz h0 (h3.s h2) (by decide)
  have oa := px_sz h1 (h3.t h2) (by decide)
  have oa' := py_sz h1 (h3.t h2) (by decide)
  have gb := px_sz h0 (h4.s h2) (by decide)
  have gb' := py_sz h0 (h4.s h2) (by decide)
  have ob := px_sz h1 (h4.t h2) (by decide)
  have ob' := py_sz h1 (h4.t h2) (by decide)
  have f1 : Sz 127 (gx l o a.1 a.2) := oa.sub ga
  have f2 : Sz 127 (gy l o a.1 a.2) := oa'.sub ga'
  have e1 : Sz 127 (gx l o b.1 b.2) := ob.sub gb
  have e2 : Sz 127 (gy l o b.1 b.2) := ob'.sub gb'
  have r1 := e1.sub f1
  have r2 := e2.sub f2
  refine seqI fun kk hk => ?_
  simp only [dSeq, dAsg, dCB, dCons, dNil, dVar, onVs, vals, val, slot, setR, fGcd, dIfS, dTV, dOp, dBin, onV2, fLt, fLe, fGt, fGe, fAdd, fSub, fMul, fDiv, fMod, fI0, dC, dUn, onV, fNeg, dNext, dRet, dTup, onD, dats, fDivZ, fI, fPow, Few, retP, fAbs, fInt, fMax, fMin, fLen, fSqrt, fEq, fNe, dNot, dAnd, dOr, dAndV, dOrV, dNotV, dIfE, dDrop, dRetN, dPar, noO, dSetL, dLst, dOfL, dOwnM, onOwn, onDat, kAppend, kInsert, dSetItem, dAddItem, dIx, onItems, items, onInt, dNoPart, dPart, dSlice, onL, litems, dSlL, dCat, onM, mitems, dTupOf, dSeqI, dRng1, dRng2, dCallP, dCallB, dCallF, noSelf, onArgs, dats2, dIsi, tyName, dYes, dgTup, dgCons, dgNil, retB, dBreak, dCont, ne_eq, not_false_eq_true, true_and, and_true, List.getElem?_cons_zero, List.getElem?_cons_succ, List.set_cons_zero, List.set_cons_succ, Option.map, List.length_cons, List.length_nil, dLc_eq, dFor_eq, dSortSet, dSort, dListOf, dIsN, dNotN, isNo, dAug, dCatT, dSlT, onT, titems, dEnum, dZip, seqs, dRetL, dPar3, dRevT, dLstRg, dTupRg, dRg1, dRg2, dChainLe, List.nil_append, List.cons_append, if_true, if_false, dFrz, dLcO, List.map_cons, List.map_nil, fw0, fw1, fw2, fw3, fw4, fw5, fw6, fw7, fw8, fw9, fw10, fw11, fw12, fw13, fw14, fw15, pf, on0, on1]
  refine u__law_gap h0 h1 (h3.s h2) (h3.t h2) (by decide) (by decide) (u__law_gap h0 h1 (h4.s h2) (h4.t h2) (by decide) (by decide) ?_)
  rw [hk]
  refine seqI fun k2 hk2 => ?_
  simp only [dSeq, dAsg, dCB, dCons, dNil, dVar, onVs, vals, val, slot, setR, fGcd, dIfS, dTV, dOp, dBin, onV2, fLt, fLe, fGt, fGe, fAdd, fSub, fMul, fDiv, fMod, fI0, dC, dUn, onV, fNeg, dNext, dRet, dTup, onD, dats, fDivZ, fI, fPow, Few, retP, fAbs, fInt, fMax, fMin, fLen, fSqrt, fEq, fNe, dNot, dAnd, dOr, dAndV, dOrV, dNotV, dIfE, dDrop, dRetN, dPar, noO, dSetL, dLst, dOfL, dOwnM, onOwn, onDat, kAppend, kInsert, dSetItem, dAddItem, dIx, onItems, items, onInt, dNoPart, dPart, dSlice, onL, litems, dSlL, dCat, onM, mitems, dTupOf, dSeqI, dRng1, dRng2, dCallP, dCallB, dCallF, noSelf, onArgs, dats2, dIsi, tyName, dYes, dgTup, dgCons, dgNil, retB, dBreak, dCont, ne_eq, not_false_eq_true, true_and, and_true, List.getElem?_cons_zero, List.getElem?_cons_succ, List.set_cons_zero, List.set_cons_succ, Option.map, List.length_cons, List.length_nil, dLc_eq, dFor_eq, dSortSet, dSort, dListOf, dIsN, dNotN, isNo, dAug, dCatT, dSlT, onT, titems, dEnum, dZip, seqs, dRetL, dPar3, dRevT, dLstRg, dTupRg, dRg1, dRg2, dChainLe, List.nil_append, List.cons_append, if_true, if_false, dFrz, dLcO, List.map_cons, List.map_nil, fw0, fw1, fw2, fw3, fw4, fw5, fw6, fw7, fw8, fw9, fw10, fw11, fw12, fw13, fw14, fw15, on0, on1]
  refine u__law_lessened e1 f1 (by decide) (u__law_lessened e2 f2 (by decide) ?_)
  rw [hk2]
  refine seqI fun k3 hk3 => ?_
  simp only [dSeq, dAsg, dCB, dCons, dNil, dVar, onVs, vals, val, slot, setR, fGcd, dIfS, dTV, dOp, dBin, onV2, fLt, fLe, fGt, fGe, fAdd, fSub, fMul, fDiv, fMod, fI0, dC, dUn, onV, fNeg, dNext, dRet, dTup, onD, dats, fDivZ, fI, fPow, Few, retP, fAbs, fInt, fMax, fMin, fLen, fSqrt, fEq, fNe, dNot, dAnd, dOr, dAndV, dOrV, dNotV, dIfE, dDrop, dRetN, dPar, noO, dSetL, dLst, dOfL, dOwnM, onOwn, onDat, kAppend, kInsert, dSetItem, dAddItem, dIx, onItems, items, onInt, dNoPart, dPart, dSlice, onL, litems, dSlL, dCat, onM, mitems, dTupOf, dSeqI, dRng1, dRng2, dCallP, dCallB, dCallF, noSelf, onArgs, dats2, dIsi, tyName, dYes, dgTup, dgCons, dgNil, retB, dBreak, dCont, ne_eq, not_false_eq_true, true_and, and_true, List.getElem?_cons_zero, List.getElem?_cons_succ, List.set_cons_zero, List.set_cons_succ, Option.map, List.length_cons, List.length_nil, dLc_eq, dFor_eq, dSortSet, dSort, dListOf, dIsN, dNotN, isNo, dAug, dCatT, dSlT, onT, titems, dEnum, dZip, seqs, dRetL, dPar3, dRevT, dLstRg, dTupRg, dRg1, dRg2, dChainLe, List.nil_append, List.cons_append, if_true, if_false, dFrz, dLcO, List.map_cons, List.map_nil, fw0, fw1, fw2, fw3, fw4, fw5, fw6, fw7, fw8, fw9, fw10, fw11, fw12, fw13, fw14, fw15, on0, on1]
  refine u__law_dot r1 r2 r1 r2 (by decide) ?_
  rw [hk3]
  refine seqI fun k4 hk4 => ?_
  generalize hst : (gx l o b.1 b.2 - gx l o a.1 a.2) * (gx l o b.1 b.2 - gx l o a.1 a.2) + (gy l o b.1 b.2 - gy l o a.1 a.2) * (gy l o b.1 b.2 - gy l o a.1 a.2) = st
  have sst : Sz 1021 st := hst ▸ ((r1.mul r1).add (r2.mul r2))
  have fin : ∀ part, Sz 2000 part → clipR part = clipP l o a b → k4 [some (.d (eL l)), some (.d (eL o)), some (.d (pf a)), some (.d (pf b)), some (.d (.list [fr (gx l o a.1 a.2), fr (gy l o a.1 a.2)])), some (.d (.list [fr (gx l o b.1 b.2), fr (gy l o b.1 b.2)])), some (.d (.list [fr (gx l o b.1 b.2 - gx l o a.1 a.2), fr (gy l o b.1 b.2 - gy l o a.1 a.2)])), some (.d (fr st)), some (.d (fr part)), none, none] := fun part hp hc => by
    rw [hk4]
    refine seqI fun k5 hk5 => ?_
    have fin2 : k5 [some (.d (eL l)), some (.d (eL o)), some (.d (pf a)), some (.d (pf b)), some (.d (.list [fr (gx l o a.1 a.2), fr (gy l o a.1 a.2)])), some (.d (.list [fr (gx l o b.1 b.2), fr (gy l o b.1 b.2)])), some (.d (.list [fr (gx l o b.1 b.2 - gx l o a.1 a.2), fr (gy l o b.1 b.2 - gy l o a.1 a.2)])), some (.d (fr st)), some (.d (fr (clipP l o a b))), none, none] := by
      have cs := clipP_sz h0 h1 h2 h3 h4
      have ds := (h4.s h2).sub (h3.s h2)
      have dt := (h4.t h2).sub (h3.t h2)
      rw [hk5]
      simp only [dSeq, dAsg, dCB, dCons, dNil, dVar, onVs, vals, val, slot, setR, fGcd, dIfS, dTV, dOp, dBin, onV2, fLt, fLe, fGt, fGe, fAdd, fSub, fMul, fDiv, fMod, fI0, dC, dUn, onV, fNeg, dNext, dRet, dTup, onD, dats, fDivZ, fI, fPow, Few, retP, fAbs, fInt, fMax, fMin, fLen, fSqrt, fEq, fNe, dNot, dAnd, dOr, dAndV, dOrV, dNotV, dIfE, dDrop, dRetN, dPar, noO, dSetL, dLst, dOfL, dOwnM, onOwn, onDat, kAppend, kInsert, dSetItem, dAddItem, dIx, onItems, items, onInt, dNoPart, dPart, dSlice, onL, litems, dSlL, dCat, onM, mitems, dTupOf, dSeqI, dRng1, dRng2, dCallP, dCallB, dCallF, noSelf, onArgs, dats2, dIsi, tyName, dYes, dgTup, dgCons, dgNil, retB, dBreak, dCont, ne_eq, not_false_eq_true, true_and, and_true, List.getElem?_cons_zero, List.getElem?_cons_succ, List.set_cons_zero, List.set_cons_succ, Option.map, List.length_cons, List.length_nil, dLc_eq, dFor_eq, dSortSet, dSort, dListOf, dIsN, dNotN, isNo, dAug, dCatT, dSlT, onT, titems, dEnum, dZip, seqs, dRetL, dPar3, dRevT, dLstRg, dTupRg, dRg1, dRg2, dChainLe, List.nil_append, List.cons_append, if_true, if_false, dFrz, dLcO, List.map_cons, List.map_nil, fw0, fw1, fw2, fw3, fw4, fw5, fw6, fw7, fw8, fw9, fw10, fw11, fw12, fw13, fw14, fw15, pf, on0, on1]
      refine u__law_lessened (h4.s h2) (h3.s h2) (by decide) (u__law_multiplied cs ds (by decide) (u__law_added (h3.s h2) (cs.mul ds) (by decide) ?_))
      refine u__law_lessened (h4.t h2) (h3.t h2) (by decide) (u__law_multiplied cs dt (by decide) (u__law_added (h3.t h2) (cs.mul dt) (by decide) ?_))
      exact u__law_gap_squared h0 h1 (onS_sz h0 h1 h2 h3 h4) (onT_sz h0 h1 h2 h3 h4) (by decide) (by decide) hQ
    simp only [dSeq, dAsg, dCB, dCons, dNil, dVar, onVs, vals, val, slot, setR, fGcd, dIfS, dTV, dOp, dBin, onV2, fLt, fLe, fGt, fGe, fAdd, fSub, fMul, fDiv, fMod, fI0, dC, dUn, onV, fNeg, dNext, dRet, dTup, onD, dats, fDivZ, fI, fPow, Few, retP, fAbs, fInt, fMax, fMin, fLen, fSqrt, fEq, fNe, dNot, dAnd, dOr, dAndV, dOrV, dNotV, dIfE, dDrop, dRetN, dPar, noO, dSetL, dLst, dOfL, dOwnM, onOwn, onDat, kAppend, kInsert, dSetItem, dAddItem, dIx, onItems, items, onInt, dNoPart, dPart, dSlice, onL, litems, dSlL, dCat, onM, mitems, dTupOf, dSeqI, dRng1, dRng2, dCallP, dCallB, dCallF, noSelf, onArgs, dats2, dIsi, tyName, dYes, dgTup, dgCons, dgNil, retB, dBreak, dCont, ne_eq, not_false_eq_true, true_and, and_true, List.getElem?_cons_zero, List.getElem?_cons_succ, List.set_cons_zero, List.set_cons_succ, Option.map, List.length_cons, List.length_nil, dLc_eq, dFor_eq, dSortSet, dSort, dListOf, dIsN, dNotN, isNo, dAug, dCatT, dSlT, onT, titems, dEnum, dZip, seqs, dRetL, dPar3, dRevT, dLstRg, dTupRg, dRg1, dRg2, dChainLe, List.nil_append, List.cons_append, if_true, if_false, dFrz, dLcO, List.map_cons, List.map_nil, fw0, fw1, fw2, fw3, fw4, fw5, fw6, fw7, fw8, fw9, fw10, fw11, fw12, fw13, fw14, fw15, pf, fr, on0, on1]
    rw [← hc] at fin2
    unfold clipR at fin2
    by_cases n : part < 0
    · rw [if_pos n] at fin2
      exact ite_t (num_neg.mpr n) fin2
    · rw [if_neg n] at fin2
      refine ite_f (fun z => n (num_neg.mp z)) ?_
      refine u__law_is_below (p := 1) (r := part) (sz_one (k := 1)) hp (by decide) ?_
      simp only [dSeq, dAsg, dCB, dCons, dNil, dVar, onVs, vals, val, slot, setR, fGcd, dIfS, dTV, dOp, dBin, onV2, fLt, fLe, fGt, fGe, fAdd, fSub, fMul, fDiv, fMod, fI0, dC, dUn, onV, fNeg, dNext, dRet, dTup, onD, dats, fDivZ, fI, fPow, Few, retP, fAbs, fInt, fMax, fMin, fLen, fSqrt, fEq, fNe, dNot, dAnd, dOr, dAndV, dOrV, dNotV, dIfE, dDrop, dRetN, dPar, noO, dSetL, dLst, dOfL, dOwnM, onOwn, onDat, kAppend, kInsert, dSetItem, dAddItem, dIx, onItems, items, onInt, dNoPart, dPart, dSlice, onL, litems, dSlL, dCat, onM, mitems, dTupOf, dSeqI, dRng1, dRng2, dCallP, dCallB, dCallF, noSelf, onArgs, dats2, dIsi, tyName, dYes, dgTup, dgCons, dgNil, retB, dBreak, dCont, ne_eq, not_false_eq_true, true_and, and_true, List.getElem?_cons_zero, List.getElem?_cons_succ, List.set_cons_zero, List.set_cons_succ, Option.map, List.length_cons, List.length_nil, dLc_eq, dFor_eq, dSortSet, dSort, dListOf, dIsN, dNotN, isNo, dAug, dCatT, dSlT, onT, titems, dEnum, dZip, seqs, dRetL, dPar3, dRevT, dLstRg, dTupRg, dRg1, dRg2, dChainLe, List.nil_append, List.cons_append, if_true, if_false, dFrz, dLcO, List.map_cons, List.map_nil, fw0, fw1, fw2, fw3, fw4, fw5, fw6, fw7, fw8, fw9, fw10, fw11, fw12, fw13, fw14, fw15]
      by_cases n2 : 1 < part
      · rw [if_pos n2] at fin2
        exact ite_t n2 fin2
      · rw [if_neg n2] at fin2
        exact ite_f n2 fin2
  clear hk4 hk3 hk2 hk
  simp only [dSeq, dAsg, dCB, dCons, dNil, dVar, onVs, vals, val, slot, setR, fGcd, dIfS, dTV, dOp, dBin, onV2, fLt, fLe, fGt, fGe, fAdd, fSub, fMul, fDiv, fMod, fI0, dC, dUn, onV, fNeg, dNext, dRet, dTup, onD, dats, fDivZ, fI, fPow, Few, retP, fAbs, fInt, fMax, fMin, fLen, fSqrt, fEq, fNe, dNot, dAnd, dOr, dAndV, dOrV, dNotV, dIfE, dDrop, dRetN, dPar, noO, dSetL, dLst, dOfL, dOwnM, onOwn, onDat, kAppend, kInsert, dSetItem, dAddItem, dIx, onItems, items, onInt, dNoPart, dPart, dSlice, onL, litems, dSlL, dCat, onM, mitems, dTupOf, dSeqI, dRng1, dRng2, dCallP, dCallB, dCallF, noSelf, onArgs, dats2, dIsi, tyName, dYes, dgTup, dgCons, dgNil, retB, dBreak, dCont, ne_eq, not_false_eq_true, true_and, and_true, List.getElem?_cons_zero, List.getElem?_cons_succ, List.set_cons_zero, List.set_cons_succ, Option.map, List.length_cons, List.length_nil, dLc_eq, dFor_eq, dSortSet, dSort, dListOf, dIsN, dNotN, isNo, dAug, dCatT, dSlT, onT, titems, dEnum, dZip, seqs, dRetL, dPar3, dRevT, dLstRg, dTupRg, dRg1, dRg2, dChainLe, List.nil_append, List.cons_append, if_true, if_false, dFrz, dLcO, List.map_cons, List.map_nil, fw0, fw1, fw2, fw3, fw4, fw5, fw6, fw7, fw8, fw9, fw10, fw11, fw12, fw13, fw14, fw15, pf, fr, on0, on1, sh_int, eqv_int]
  have hcl : clipP l o a b = clipR (if st ≠ 0 then ((-1 : Int) : Rat) * (gx l o a.1 a.2 * (gx l o b.1 b.2 - gx l o a.1 a.2) + gy l o a.1 a.2 * (gy l o b.1 b.2 - gy l o a.1 a.2)) / st else if DV.lexLt b a then 1 else 0) := by
    rw [← hst]; rfl
  refine ite_nb (fun n => ?_) fun n => ?_
  · have st0 : st ≠ 0 := fun z => n (Rat.num_eq_zero.mpr z)
    rw [if_pos st0] at hcl
    have d1 := (f1.mul r1).add (f2.mul r2)
    have mo : Sz 1 ((-1 : Int) : Rat) := Sz.int1 (a := -1) (by unfold Bd; decide)
    refine u__law_dot f1 f2 r1 r2 (by decide) (u__law_multiplied (p := ((-1 : Int) : Rat)) mo d1 (by decide) (u__law_divided (mo.mul d1) sst (by decide) st0 ?_))
    exact fin _ (((mo.mul d1).div sst st0).up (by decide)) hcl.symm
  · have st0 : st = 0 := Rat.num_eq_zero.mp n
    rw [if_neg (not_not_intro st0)] at hcl
    refine u__law_are_less ((h4.s h2).up (by decide)) (h4.t h2) (h3.s h2) (h3.t h2) (by decide) ?_
    simp only [dSeq, dAsg, dCB, dCons, dNil, dVar, onVs, vals, val, slot, setR, fGcd, dIfS, dTV, dOp, dBin, onV2, fLt, fLe, fGt, fGe, fAdd, fSub, fMul, fDiv, fMod, fI0, dC, dUn, onV, fNeg, dNext, dRet, dTup, onD, dats, fDivZ, fI, fPow, Few, retP, fAbs, fInt, fMax, fMin, fLen, fSqrt, fEq, fNe, dNot, dAnd, dOr, dAndV, dOrV, dNotV, dIfE, dDrop, dRetN, dPar, noO, dSetL, dLst, dOfL, dOwnM, onOwn, onDat, kAppend, kInsert, dSetItem, dAddItem, dIx, onItems, items, onInt, dNoPart, dPart, dSlice, onL, litems, dSlL, dCat, onM, mitems, dTupOf, dSeqI, dRng1, dRng2, dCallP, dCallB, dCallF, noSelf, onArgs, dats2, dIsi, tyName, dYes, dgTup, dgCons, dgNil, retB, dBreak, dCont, ne_eq, not_false_eq_true, true_and, and_true, List.getElem?_cons_zero, List.getElem?_cons_succ, List.set_cons_zero, List.set_cons_succ, Option.map, List.length_cons, List.length_nil, dLc_eq, dFor_eq, dSortSet, dSort, dListOf, dIsN, dNotN, isNo, dAug, dCatT, dSlT, onT, titems, dEnum, dZip, seqs, dRetL, dPar3, dRevT, dLstRg, dTupRg, dRg1, dRg2, dChainLe, List.nil_append, List.cons_append, if_true, if_false, dFrz, dLcO, List.map_cons, List.map_nil, fw0, fw1, fw2, fw3, fw4, fw5, fw6, fw7, fw8, fw9, fw10, fw11, fw12, fw13, fw14, fw15]
    by_cases hl : DV.lexLt b a
    · rw [if_pos hl] at hcl
      exact ite_t hl (fin 1 sz_one hcl.symm)
    · rw [if_neg hl] at hcl
      exact ite_f hl (fin 0 sz_zero hcl.symm)
set_option maxHeartbeats 4000000 in
theorem ok__law_nearest {f : Addr} {fd : FuncData} (W : Fun K "_law_nearest" "_law_nearest" s__law_nearest f fd) (T : Bi mg)
    {f__law_inner_point : Addr} {fd__law_inner_point : FuncData} (G__law_inner_point : FnG P w K mg base CX0 3 f__law_inner_point fd__law_inner_point ["_law_leg", "_law_other", "_law_rho"] (spF K [.d, .d, .d] S__law_inner_point)) (g__law_inner_point : mg "_law_inner_point" = some (.ref f__law_inner_point)) (k__law_inner_point : PySem.W.keepIn K (.ref f__law_inner_point) = true) (b__law_inner_point : Binds K fd__law_inner_point ["_law_leg", "_law_other", "_law_rho"] [])
    {f__law_corners : Addr} {fd__law_corners : FuncData} (G__law_corners : FnG P w K mg base CX0 3 f__law_corners fd__law_corners ["_law_rho"] (spP K [.d] S__law_corners)) (g__law_corners : mg "_law_corners" = some (.ref f__law_corners)) (k__law_corners : PySem.W.keepIn K (.ref f__law_corners) = true) (b__law_corners : Binds K fd__law_corners ["_law_rho"] [])
    {f__law_on_edge : Addr} {fd__law_on_edge : FuncData} (G__law_on_edge : FnG P w K mg base CX0 5 f__law_on_edge fd__law_on_edge ["_law_leg", "_law_other", "_law_one", "_law_two"] (spP K [.d, .d, .d, .d] S__law_on_edge)) (g__law_on_edge : mg "_law_on_edge" = some (.ref f__law_on_edge)) (k__law_on_edge : PySem.W.keepIn K (.ref f__law_on_edge) = true) (b__law_on_edge : Binds K fd__law_on_edge ["_law_leg", "_law_other", "_law_one", "_law_two"] [])
    {f__law_is_below : Addr} {fd__law_is_below : FuncData} (G__law_is_below : FnG P w K mg base CX0 1 f__law_is_below fd__law_is_below ["_law_x", "_law_y"] (spP K [.d, .d] S__law_is_below)) (g__law_is_below : mg "_law_is_below" = some (.ref f__law_is_below)) (k__law_is_below : PySem.W.keepIn K (.ref f__law_is_below) = true) (b__law_is_below : Binds K fd__law_is_below ["_law_x", "_law_y"] [])
    {f__law_are_less : Addr} {fd__law_are_less : FuncData} (G__law_are_less : FnG P w K mg base CX0 2 f__law_are_less fd__law_are_less ["_law_one", "_law_other"] (spP K [.d, .d] S__law_are_less)) (g__law_are_less : mg "_law_are_less" = some (.ref f__law_are_less)) (k__law_are_less : PySem.W.keepIn K (.ref f__law_are_less) = true) (b__law_are_less : Binds K fd__law_are_less ["_law_one", "_law_other"] []) :
    FnG P w K mg base CX0 6 f fd ["_law_leg", "_law_other", "_law_rho"] (spP K [.d, .d, .d] S__law_nearest) := by
  refine fnP W sc__law_nearest rfl fun cdv A out s H E Nn hr hgd => ⟨_, _, (dss_cons (ds_par (i := 3) (j := 4) rfl sc__law_nearest.nd (pda_cons (pd_callP G__law_corners m__law_corners (hr.mono (by decide)) hgd rfl g__law_corners k__law_corners b__law_corners (pda_cons (pdv 2) pda_nil)) (pda_cons pd_non pda_nil)) fixP fixP)
      (dss_cons (ds_setL (i := 5) sc__law_nearest.nd (pl_callF G__law_inner_point m__law_inner_point (hr.mono (by decide)) hgd rfl g__law_inner_point k__law_inner_point b__law_inner_point (pda_cons (pdv 0) (pda_cons (pdv 1) (pda_cons (pdv 2) pda_nil)))) fixP)
      (dss_cons (ds_for PassesOwn.never rfl (pdi_zip rfl T.b_zip (pda_cons (pdv 3) (pda_cons (pd_l (pl_cat (pd_l (pl_slice (pdv 3) (pdo_some pd_int) pdo_none)) (pd_l (pl_slice (pdv 3) pdo_none (pdo_some pd_int))))) pda_nil))) (pgd_tup (n := 2) rfl (pgds_cons (pgd_name (i := 6) sc__law_nearest.nd) (pgds_cons (pgd_name (i := 7) sc__law_nearest.nd) pgds_nil))) (dss_one (ds_expr (pd_append (i := 5) (pda_cons (pd_callP G__law_on_edge m__law_on_edge (hr.mono (by decide)) hgd rfl g__law_on_edge k__law_on_edge b__law_on_edge (pda_cons (pdv 0) (pda_cons (pdv 1) (pda_cons (pdv 6) (pda_cons (pdv 7) pda_nil))))) pda_nil)))) nofixP)
      (dss_cons (ds_frz (i := 5) (ds_for PassesOwn.never rfl (pdi_seq (pdv 5)) (pgd_name (i := 8) sc__law_nearest.nd) (dss_one (ds_if (pt_w (pwd_or (pt_isN (pdv 4)) (pwd_or (pt_v (pd_callP G__law_is_below m__law_is_below (hr.mono (by decide)) hgd rfl g__law_is_below k__law_is_below b__law_is_below (pda_cons (pd_ix (pdv 8) pd_int (fun _ _ => rfl)) (pda_cons (pd_ix (pdv 4) pd_int (fun _ _ => rfl)) pda_nil)))) (pwd_or1 (pt_w (pwd_and (pt_eq hr.units rfl (pd_ix (pdv 8) pd_int (fun _ _ => rfl)) (pd_ix (pdv 4) pd_int (fun _ _ => rfl))) (pwd_and1 (pt_v (pd_callP G__law_are_less m__law_are_less (hr.mono (by decide)) hgd rfl g__law_are_less k__law_are_less b__law_are_less (pda_cons (pd_sliceT (pdv 8) (pdo_some pd_int) pdo_none) (pda_cons (pd_sliceT (pdv 4) (pdo_some pd_int) pdo_none) pda_nil))))))))))) (dss_one (ds_set (i := 4) sc__law_nearest.nd (pdv 8) fixP)) dss_nil)) nofixP) fixP)
      (dss_one (ds_ret (pdv 4))))))), ?_⟩
  clear W T hr hgd G__law_inner_point g__law_inner_point k__law_inner_point b__law_inner_point f__law_inner_point fd__law_inner_point G__law_corners g__law_corners k__law_corners b__law_corners f__law_corners fd__law_corners G__law_on_edge g__law_on_edge k__law_on_edge b__law_on_edge f__law_on_edge fd__law_on_edge G__law_is_below g__law_is_below k__law_is_below b__law_is_below f__law_is_below fd__law_is_below G__law_are_less g__law_are_less k__law_are_less b__law_are_less f__law_are_less fd__law_are_less
  rintro xs Q hl ⟨⟨l, o, rho⟩, rfl, ⟨h0, h1, h2⟩, hQ⟩
  clear hl
  replace hQ : Q (pf3 (nearL l o rho)) := hQ
  have e : rhoP nm__law_nearest.length [.d, .d, .d] [eL l, eL o, fr rho] = [some (.d (eL l)), some (.d (eL o)), some (.d (fr rho)), none, none, none, none, none, none] := rfl
  rw [e]
  clear e
  refine seqI fun kk hk => ?_
  simp only [dSeq, dAsg, dCB, dCons, dNil, dVar, onVs, vals, val, slot, setR, fGcd, dIfS, dTV, dOp, dBin, onV2, fLt, fLe, fGt, fGe, fAdd, fSub, fMul, fDiv, fMod, fI0, dC, dUn, onV, fNeg, dNext, dRet, dTup, onD, dats, fDivZ, fI, fPow, Few, retP, fAbs, fInt, fMax, fMin, fLen, fSqrt, fEq, fNe, dNot, dAnd, dOr, dAndV, dOrV, dNotV, dIfE, dDrop, dRetN, dPar, noO, dSetL, dLst, dOfL, dOwnM, onOwn, onDat, kAppend, kInsert, dSetItem, dAddItem, dIx, onItems, items, onInt, dNoPart, dPart, dSlice, onL, litems, dSlL, dCat, onM, mitems, dTupOf, dSeqI, dRng1, dRng2, dCallP, dCallB, dCallF, noSelf, onArgs, dats2, dIsi, tyName, dYes, dgTup, dgCons, dgNil, retB, dBreak, dCont, ne_eq, not_false_eq_true, true_and, and_true, List.getElem?_cons_zero, List.getElem?_cons_succ, List.set_cons_zero, List.set_cons_succ, Option.map, List.length_cons, List.length_nil, dLc_eq, dFor_eq, dSortSet, dSort, dListOf, dIsN, dNotN, isNo, dAug, dCatT, dSlT, onT, titems, dEnum, dZip, seqs, dRetL, dPar3, dRevT, dLstRg, dTupRg, dRg1, dRg2, dChainLe, List.nil_append, List.cons_append, if_true, if_false, dFrz, dLcO, List.map_cons, List.map_nil, fw0, fw1, fw2, fw3, fw4, fw5, fw6, fw7, fw8, fw9, fw10, fw11, fw12, fw13, fw14, fw15]
  refine u__law_corners h2 (by decide) ?_
  rw [hk]
  refine seqI fun k2 hk2 => ?_
  simp only [dSeq, dAsg, dCB, dCons, dNil, dVar, onVs, vals, val, slot, setR, fGcd, dIfS, dTV, dOp, dBin, onV2, fLt, fLe, fGt, fGe, fAdd, fSub, fMul, fDiv, fMod, fI0, dC, dUn, onV, fNeg, dNext, dRet, dTup, onD, dats, fDivZ, fI, fPow, Few, retP, fAbs, fInt, fMax, fMin, fLen, fSqrt, fEq, fNe, dNot, dAnd, dOr, dAndV, dOrV, dNotV, dIfE, dDrop, dRetN, dPar, noO, dSetL, dLst, dOfL, dOwnM, onOwn, onDat, kAppend, kInsert, dSetItem, dAddItem, dIx, onItems, items, onInt, dNoPart, dPart, dSlice, onL, litems, dSlL, dCat, onM, mitems, dTupOf, dSeqI, dRng1, dRng2, dCallP, dCallB, dCallF, noSelf, onArgs, dats2, dIsi, tyName, dYes, dgTup, dgCons, dgNil, retB, dBreak, dCont, ne_eq, not_false_eq_true, true_and, and_true, List.getElem?_cons_zero, List.getElem?_cons_succ, List.set_cons_zero, List.set_cons_succ, Option.map, List.length_cons, List.length_nil, dLc_eq, dFor_eq, dSortSet, dSort, dListOf, dIsN, dNotN, isNo, dAug, dCatT, dSlT, onT, titems, dEnum, dZip, seqs, dRetL, dPar3, dRevT, dLstRg, dTupRg, dRg1, dRg2, dChainLe, List.nil_append, List.cons_append, if_true, if_false, dFrz, dLcO, List.map_cons, List.map_nil, fw0, fw1, fw2, fw3, fw4, fw5, fw6, fw7, fw8, fw9, fw10, fw11, fw12, fw13, fw14, fw15]
  refine u__law_inner_point h0 h1 h2 ?_
  rw [hk2]
  refine seqI fun k3 hk3 => ?_
  simp only [dSeq, dAsg, dCB, dCons, dNil, dVar, onVs, vals, val, slot, setR, fGcd, dIfS, dTV, dOp, dBin, onV2, fLt, fLe, fGt, fGe, fAdd, fSub, fMul, fDiv, fMod, fI0, dC, dUn, onV, fNeg, dNext, dRet, dTup, onD, dats, fDivZ, fI, fPow, Few, retP, fAbs, fInt, fMax, fMin, fLen, fSqrt, fEq, fNe, dNot, dAnd, dOr, dAndV, dOrV, dNotV, dIfE, dDrop, dRetN, dPar, noO, dSetL, dLst, dOfL, dOwnM, onOwn, onDat, kAppend, kInsert, dSetItem, dAddItem, dIx, onItems, items, onInt, dNoPart, dPart, dSlice, onL, litems, dSlL, dCat, onM, mitems, dTupOf, dSeqI, dRng1, dRng2, dCallP, dCallB, dCallF, noSelf, onArgs, dats2, dIsi, tyName, dYes, dgTup, dgCons, dgNil, retB, dBreak, dCont, ne_eq, not_false_eq_true, true_and, and_true, List.getElem?_cons_zero, List.getElem?_cons_succ, List.set_cons_zero, List.set_cons_succ, Option.map, List.length_cons, List.length_nil, dLc_eq, dFor_eq, dSortSet, dSort, dListOf, dIsN, dNotN, isNo, dAug, dCatT, dSlT, onT, titems, dEnum, dZip, seqs, dRetL, dPar3, dRevT, dLstRg, dTupRg, dRg1, dRg2, dChainLe, List.nil_append, List.cons_append, if_true, if_false, dFrz, dLcO, List.map_cons, List.map_nil, fw0, fw1, fw2, fw3, fw4, fw5, fw6, fw7, fw8, fw9, fw10, fw11, fw12, fw13, fw14, fw15]
  obtain ⟨hd, hc⟩ := crn_ok h2
  rw [cut_tail, cut_head, ← List.map_drop, ← List.map_take, ← List.map_append, zipD_map]
  refine ⟨few_le (by simp [crn]), for_st (S := List DV.Row3 × Option Ent × Option Ent) (List.zip (crn rho) ((crn rho).drop 1 ++ (crn rho).take 1)) _ (fun s => [some (.d (eL l)), some (.d (eL o)), some (.d (fr rho)), some (.d (.list ((crn rho).map pf))), some (.d .none), some (.own (s.1.map pf3)), s.2.1, s.2.2, none]) (fun i s => s.1 = inner l o rho ++ ((List.zip (crn rho) ((crn rho).drop 1 ++ (crn rho).take 1)).take i).map fun p => edge l o p.1 p.2) (inner l o rho, none, none) rfl (by simp) (fun i a s ha hI C hC => ?_) fun s hs => ?_⟩
  · have hm := List.mem_of_getElem? ha
    have h1m : a.1 ∈ crn rho := (List.of_mem_zip hm).1
    have h2m : a.2 ∈ crn rho := by
      have := (List.of_mem_zip hm).2
      rcases List.mem_append.mp this with z | z
      · exact List.mem_of_mem_drop z
      · exact List.mem_of_mem_take z
    simp only [dSeq, dAsg, dCB, dCons, dNil, dVar, onVs, vals, val, slot, setR, fGcd, dIfS, dTV, dOp, dBin, onV2, fLt, fLe, fGt, fGe, fAdd, fSub, fMul, fDiv, fMod, fI0, dC, dUn, onV, fNeg, dNext, dRet, dTup, onD, dats, fDivZ, fI, fPow, Few, retP, fAbs, fInt, fMax, fMin, fLen, fSqrt, fEq, fNe, dNot, dAnd, dOr, dAndV, dOrV, dNotV, dIfE, dDrop, dRetN, dPar, noO, dSetL, dLst, dOfL, dOwnM, onOwn, onDat, kAppend, kInsert, dSetItem, dAddItem, dIx, onItems, items, onInt, dNoPart, dPart, dSlice, onL, litems, dSlL, dCat, onM, mitems, dTupOf, dSeqI, dRng1, dRng2, dCallP, dCallB, dCallF, noSelf, onArgs, dats2, dIsi, tyName, dYes, dgTup, dgCons, dgNil, retB, dBreak, dCont, ne_eq, not_false_eq_true, true_and, and_true, List.getElem?_cons_zero, List.getElem?_cons_succ, List.set_cons_zero, List.set_cons_succ, Option.map, List.length_cons, List.length_nil, dLc_eq, dFor_eq, dSortSet, dSort, dListOf, dIsN, dNotN, isNo, dAug, dCatT, dSlT, onT, titems, dEnum, dZip, seqs, dRetL, dPar3, dRevT, dLstRg, dTupRg, dRg1, dRg2, dChainLe, List.nil_append, List.cons_append, if_true, if_false, dFrz, dLcO, List.map_cons, List.map_nil, fw0, fw1, fw2, fw3, fw4, fw5, fw6, fw7, fw8, fw9, fw10, fw11, fw12, fw13, fw14, fw15]
    refine u__law_on_edge h0 h1 hd (hc _ h1m) (hc _ h2m) ⟨few_le ?_, ?_⟩
    · rw [List.length_map, hI, List.length_append, List.length_map, List.length_take]
      have : (inner l o rho).length ≤ 1 := by unfold inner; split; simp; split <;> simp
      have : (List.zip (crn rho) ((crn rho).drop 1 ++ (crn rho).take 1)).length = 6 := by simp [crn]
      omega
    · have := hC (s.1 ++ [edge l o a.1 a.2], some (.d (pf a.1)), some (.d (pf a.2))) (by rw [take_succ_some ha, List.map_append, ← List.append_assoc, hI]; rfl)
      rw [List.map_append] at this
      exact this
  · have hl : (List.zip (crn rho) ((crn rho).drop 1 ++ (crn rho).take 1)).map (fun p => edge l o p.1 p.2) = edges l o rho := by
      unfold edges
      rw [List.zip, List.map_zipWith]
    rw [List.take_length, hl] at hs
    change k3 _
    have e : s.1 = rowsL l o rho := hs
    rw [e, hk3]
    clear hk3 hk2 hk
    refine seqI fun k4 hk4 => ?_
    simp only [dSeq, dAsg, dCB, dCons, dNil, dVar, onVs, vals, val, slot, setR, fGcd, dIfS, dTV, dOp, dBin, onV2, fLt, fLe, fGt, fGe, fAdd, fSub, fMul, fDiv, fMod, fI0, dC, dUn, onV, fNeg, dNext, dRet, dTup, onD, dats, fDivZ, fI, fPow, Few, retP, fAbs, fInt, fMax, fMin, fLen, fSqrt, fEq, fNe, dNot, dAnd, dOr, dAndV, dOrV, dNotV, dIfE, dDrop, dRetN, dPar, noO, dSetL, dLst, dOfL, dOwnM, onOwn, onDat, kAppend, kInsert, dSetItem, dAddItem, dIx, onItems, items, onInt, dNoPart, dPart, dSlice, onL, litems, dSlL, dCat, onM, mitems, dTupOf, dSeqI, dRng1, dRng2, dCallP, dCallB, dCallF, noSelf, onArgs, dats2, dIsi, tyName, dYes, dgTup, dgCons, dgNil, retB, dBreak, dCont, ne_eq, not_false_eq_true, true_and, and_true, List.getElem?_cons_zero, List.getElem?_cons_succ, List.set_cons_zero, List.set_cons_succ, Option.map, List.length_cons, List.length_nil, dLc_eq, dFor_eq, dSortSet, dSort, dListOf, dIsN, dNotN, isNo, dAug, dCatT, dSlT, onT, titems, dEnum, dZip, seqs, dRetL, dPar3, dRevT, dLstRg, dTupRg, dRg1, dRg2, dChainLe, List.nil_append, List.cons_append, if_true, if_false, dFrz, dLcO, List.map_cons, List.map_nil, fw0, fw1, fw2, fw3, fw4, fw5, fw6, fw7, fw8, fw9, fw10, fw11, fw12, fw13, fw14, fw15]
    refine for_st (S := Option DV.Row3 × Option Ent) (rowsL l o rho) pf3 (fun z => [some (.d (eL l)), some (.d (eL o)), some (.d (fr rho)), some (.d (.list ((crn rho).map pf))), some (.d (oR z.1)), some (.d (.list ((rowsL l o rho).map pf3))), s.2.1, s.2.2, z.2]) (fun i z => z.1 = bestOf ((rowsL l o rho).take i) ∧ ∀ b, z.1 = some b → Sz3 b) (none, none) rfl ⟨rfl, fun b h => nomatch h⟩ (fun i a z ha hI C hC => ?_) fun z hz => ?_
    · have sa := rows_sz h0 h1 h2 a (List.mem_of_getElem? ha)
      obtain ⟨hI, sb⟩ := hI
      have hn : ∀ z', z' = (match z.1 with
          | none => some a
          | some b => if rowLt a b then some a else some b) → C [some (.d (eL l)), some (.d (eL o)), some (.d (fr rho)), some (.d (.list ((crn rho).map pf))), some (.d (oR z')), some (.d (.list ((rowsL l o rho).map pf3))), s.2.1, s.2.2, some (.d (pf3 a))] := fun z' hz' => by
        refine hC (z', some (.d (pf3 a))) ⟨?_, fun b hb => ?_⟩
        · rw [take_succ_some ha, bestOf_snoc, ← hI]; exact hz'
        · rw [hz'] at hb
          cases hz1 : z.1 with
          | none => rw [hz1] at hb; cases hb; exact sa
          | some c =>
            rw [hz1] at hb
            by_cases hr : rowLt a c
            · simp only [if_pos hr] at hb; cases hb; exact sa
            · simp only [if_neg hr] at hb; rw [← Option.some.inj hb]; exact sb c hz1
      cases hz1 : z.1 with
      | none =>
        rw [hz1] at hn
        simp only [dSeq, dAsg, dCB, dCons, dNil, dVar, onVs, vals, val, slot, setR, fGcd, dIfS, dTV, dOp, dBin, onV2, fLt, fLe, fGt, fGe, fAdd, fSub, fMul, fDiv, fMod, fI0, dC, dUn, onV, fNeg, dNext, dRet, dTup, onD, dats, fDivZ, fI, fPow, Few, retP, fAbs, fInt, fMax, fMin, fLen, fSqrt, fEq, fNe, dNot, dAnd, dOr, dAndV, dOrV, dNotV, dIfE, dDrop, dRetN, dPar, noO, dSetL, dLst, dOfL, dOwnM, onOwn, onDat, kAppend, kInsert, dSetItem, dAddItem, dIx, onItems, items, onInt, dNoPart, dPart, dSlice, onL, litems, dSlL, dCat, onM, mitems, dTupOf, dSeqI, dRng1, dRng2, dCallP, dCallB, dCallF, noSelf, onArgs, dats2, dIsi, tyName, dYes, dgTup, dgCons, dgNil, retB, dBreak, dCont, ne_eq, not_false_eq_true, true_and, and_true, List.getElem?_cons_zero, List.getElem?_cons_succ, List.set_cons_zero, List.set_cons_succ, Option.map, List.length_cons, List.length_nil, dLc_eq, dFor_eq, dSortSet, dSort, dListOf, dIsN, dNotN, isNo, dAug, dCatT, dSlT, onT, titems, dEnum, dZip, seqs, dRetL, dPar3, dRevT, dLstRg, dTupRg, dRg1, dRg2, dChainLe, List.nil_append, List.cons_append, if_true, if_false, dFrz, dLcO, List.map_cons, List.map_nil, fw0, fw1, fw2, fw3, fw4, fw5, fw6, fw7, fw8, fw9, fw10, fw11, fw12, fw13, fw14, fw15, oR]
        exact hn _ rfl
      | some b =>
        have sb := sb b hz1
        rw [hz1] at hn
        have yes : rowLt a b → C [some (.d (eL l)), some (.d (eL o)), some (.d (fr rho)), some (.d (.list ((crn rho).map pf))), some (.d (pf3 a)), some (.d (.list ((rowsL l o rho).map pf3))), s.2.1, s.2.2, some (.d (pf3 a))] := fun h => hn (some a) (by simp only [if_pos h])
        have no : ¬ rowLt a b → C [some (.d (eL l)), some (.d (eL o)), some (.d (fr rho)), some (.d (.list ((crn rho).map pf))), some (.d (pf3 b)), some (.d (.list ((rowsL l o rho).map pf3))), s.2.1, s.2.2, some (.d (pf3 a))] := fun h => hn (some b) (by simp only [if_neg h])
        clear hn
        simp only [dSeq, dAsg, dCB, dCons, dNil, dVar, onVs, vals, val, slot, setR, fGcd, dIfS, dTV, dOp, dBin, onV2, fLt, fLe, fGt, fGe, fAdd, fSub, fMul, fDiv, fMod, fI0, dC, dUn, onV, fNeg, dNext, dRet, dTup, onD, dats, fDivZ, fI, fPow, Few, retP, fAbs, fInt, fMax, fMin, fLen, fSqrt, fEq, fNe, dNot, dAnd, dOr, dAndV, dOrV, dNotV, dIfE, dDrop, dRetN, dPar, noO, dSetL, dLst, dOfL, dOwnM, onOwn, onDat, kAppend, kInsert, dSetItem, dAddItem, dIx, onItems, items, onInt, dNoPart, dPart, dSlice, onL, litems, dSlL, dCat, onM, mitems, dTupOf, dSeqI, dRng1, dRng2, dCallP, dCallB, dCallF, noSelf, onArgs, dats2, dIsi, tyName, dYes, dgTup, dgCons, dgNil, retB, dBreak, dCont, ne_eq, not_false_eq_true, true_and, and_true, List.getElem?_cons_zero, List.getElem?_cons_succ, List.set_cons_zero, List.set_cons_succ, Option.map, List.length_cons, List.length_nil, dLc_eq, dFor_eq, dSortSet, dSort, dListOf, dIsN, dNotN, isNo, dAug, dCatT, dSlT, onT, titems, dEnum, dZip, seqs, dRetL, dPar3, dRevT, dLstRg, dTupRg, dRg1, dRg2, dChainLe, List.nil_append, List.cons_append, if_true, if_false, dFrz, dLcO, List.map_cons, List.map_nil, fw0, fw1, fw2, fw3, fw4, fw5, fw6, fw7, fw8, fw9, fw10, fw11, fw12, fw13, fw14, fw15, oR, pf3, on0, Bool.false_eq_true]
        refine u__law_is_below sa.q sb.q (by decide) ?_
        refine ite_b (c := a.1 < b.1) (fun h => yes (.inl h)) fun h => ?_
        refine ⟨sh_fr, sh_fr, ?_⟩
        rw [eqv_fr]
        refine ite_b (fun h2 => ?_) fun h2 => ?_
        · rw [cut_row, cut_row]
          refine u__law_are_less (a := a.2) (b := b.2) (sa.s.up (by decide : 165 ≤ 200)) (sa.t.up (by decide)) (sb.s.up (by decide)) (sb.t.up (by decide)) (by decide) ?_
          refine ite_b (c := DV.lexLt a.2 b.2) (fun h3 => yes (.inr ⟨h2, h3⟩)) fun h3 => no fun z => ?_
          rcases z with z | z
          · exact h z
          · exact h3 z.2
        · exact no fun z => by
            rcases z with z | z
            · exact h z
            · exact h2 z.1
    · rw [List.take_length] at hz
      obtain ⟨r, er, _⟩ := best_of_mem (rows_ne (l := l) (o := o) (rho := rho))
      have e2 : nearL l o rho = r := by unfold nearL; rw [er]; rfl
      rw [hk4]
      simp only [dSeq, dAsg, dCB, dCons, dNil, dVar, onVs, vals, val, slot, setR, fGcd, dIfS, dTV, dOp, dBin, onV2, fLt, fLe, fGt, fGe, fAdd, fSub, fMul, fDiv, fMod, fI0, dC, dUn, onV, fNeg, dNext, dRet, dTup, onD, dats, fDivZ, fI, fPow, Few, retP, fAbs, fInt, fMax, fMin, fLen, fSqrt, fEq, fNe, dNot, dAnd, dOr, dAndV, dOrV, dNotV, dIfE, dDrop, dRetN, dPar, noO, dSetL, dLst, dOfL, dOwnM, onOwn, onDat, kAppend, kInsert, dSetItem, dAddItem, dIx, onItems, items, onInt, dNoPart, dPart, dSlice, onL, litems, dSlL, dCat, onM, mitems, dTupOf, dSeqI, dRng1, dRng2, dCallP, dCallB, dCallF, noSelf, onArgs, dats2, dIsi, tyName, dYes, dgTup, dgCons, dgNil, retB, dBreak, dCont, ne_eq, not_false_eq_true, true_and, and_true, List.getElem?_cons_zero, List.getElem?_cons_succ, List.set_cons_zero, List.set_cons_succ, Option.map, List.length_cons, List.length_nil, dLc_eq, dFor_eq, dSortSet, dSort, dListOf, dIsN, dNotN, isNo, dAug, dCatT, dSlT, onT, titems, dEnum, dZip, seqs, dRetL, dPar3, dRevT, dLstRg, dTupRg, dRg1, dRg2, dChainLe, List.nil_append, List.cons_append, if_true, if_false, dFrz, dLcO, List.map_cons, List.map_nil, fw0, fw1, fw2, fw3, fw4, fw5, fw6, fw7, fw8, fw9, fw10, fw11, fw12, fw13, fw14, fw15]
      rw [hz.1, er]
      rw [e2] at hQ
      exact hQ
set_option maxHeartbeats 4000000 in
theorem ok__law_some_couple {f : Addr} {fd : FuncData} (W : Fun K "_law_some_couple" "_law_some_couple" s__law_some_couple f fd) (T : Bi mg)
    {f__law_some : Addr} {fd__law_some : FuncData} (G__law_some : FnG P w K mg base CX0 2 f__law_some fd__law_some ["_law_bag_here", "_law_things"] (spB K [.d] S__law_some)) (g__law_some : mg "_law_some" = some (.ref f__law_some)) (k__law_some : PySem.W.keepIn K (.ref f__law_some) = true) (b__law_some : Binds K fd__law_some ["_law_bag_here", "_law_things"] [])
    {f__law_take : Addr} {fd__law_take : FuncData} (G__law_take : FnG P w K mg base CX0 1 f__law_take fd__law_take ["_law_bag_here", "_law_many"] (spB K [.d] S__law_take)) (g__law_take : mg "_law_take" = some (.ref f__law_take)) (k__law_take : PySem.W.keepIn K (.ref f__law_take) = true) (b__law_take : Binds K fd__law_take ["_law_bag_here", "_law_many"] [])
    {f__law_nearest : Addr} {fd__law_nearest : FuncData} (G__law_nearest : FnG P w K mg base CX0 6 f__law_nearest fd__law_nearest ["_law_leg", "_law_other", "_law_rho"] (spP K [.d, .d, .d] S__law_nearest)) (g__law_nearest : mg "_law_nearest" = some (.ref f__law_nearest)) (k__law_nearest : PySem.W.keepIn K (.ref f__law_nearest) = true) (b__law_nearest : Binds K fd__law_nearest ["_law_leg", "_law_other", "_law_rho"] [])
    {f__law_couple : Addr} {fd__law_couple : FuncData} (G__law_couple : FnG P w K mg base CX0 3 f__law_couple fd__law_couple ["_law_bag_here", "_law_spacing"] (spB K [.d] S__law_couple)) (g__law_couple : mg "_law_couple" = some (.ref f__law_couple)) (k__law_couple : PySem.W.keepIn K (.ref f__law_couple) = true) (b__law_couple : Binds K fd__law_couple ["_law_bag_here", "_law_spacing"] [])
    {f__law_worst_couple : Addr} {fd__law_worst_couple : FuncData} (G__law_worst_couple : FnG P w K mg base CX0 3 f__law_worst_couple fd__law_worst_couple ["_law_bag_here", "_law_spacing"] (spB K [.d] S__law_worst_couple)) (g__law_worst_couple : mg "_law_worst_couple" = some (.ref f__law_worst_couple)) (k__law_worst_couple : PySem.W.keepIn K (.ref f__law_worst_couple) = true) (b__law_worst_couple : Binds K fd__law_worst_couple ["_law_bag_here", "_law_spacing"] [])
    {f__law_fraction : Addr} {fd__law_fraction : FuncData} (G__law_fraction : FnG P w K mg base CX0 3 f__law_fraction fd__law_fraction ["_law_bag_here"] (spB K [] S__law_fraction)) (g__law_fraction : mg "_law_fraction" = some (.ref f__law_fraction)) (k__law_fraction : PySem.W.keepIn K (.ref f__law_fraction) = true) (b__law_fraction : Binds K fd__law_fraction ["_law_bag_here"] [])
    {f__law_over : Addr} {fd__law_over : FuncData} (G__law_over : FnG P w K mg base CX0 1 f__law_over fd__law_over ["_law_n", "_law_d"] (spP K [.d, .d] S__law_over)) (g__law_over : mg "_law_over" = some (.ref f__law_over)) (k__law_over : PySem.W.keepIn K (.ref f__law_over) = true) (b__law_over : Binds K fd__law_over ["_law_n", "_law_d"] []) :
    FnG P w K mg base CX0 7 f fd ["_law_bag_here"] (spB K [] S__law_some_couple) := by
  refine fnB W sc__law_some_couple rfl fun cdv A out s H E Nn B hr hgd => ⟨_, _, (dss_cons (ds_set (i := 1) sc__law_some_couple.nd (pd_callBag G__law_some m__law_some (hr.mono (by decide)) hgd rfl g__law_some k__law_some b__law_some (pda_cons (pdv 0) (pda_cons (pd_l (pl_lst (pda_cons pd_int (pda_cons pd_int (pda_cons pd_int (pda_cons pd_int (pda_cons pd_int (pda_cons pd_int (pda_cons pd_int pda_nil))))))))) pda_nil))) (fixB (by decide)))
      (dss_cons (ds_asg (pd_callBag G__law_some m__law_some (hr.mono (by decide)) hgd rfl g__law_some k__law_some b__law_some (pda_cons (pdv 0) (pda_cons (pd_l (pl_lst (pda_cons (pd_callBag G__law_couple m__law_couple (hr.mono (by decide)) hgd rfl g__law_couple k__law_couple b__law_couple (pda_cons (pdv 0) (pda_cons (pdv 1) pda_nil))) (pda_cons (pd_callBag G__law_worst_couple m__law_worst_couple (hr.mono (by decide)) hgd rfl g__law_worst_couple k__law_worst_couple b__law_worst_couple (pda_cons (pdv 0) (pda_cons (pdv 1) pda_nil))) (pda_cons (pd_callBag G__law_couple m__law_couple (hr.mono (by decide)) hgd rfl g__law_couple k__law_couple b__law_couple (pda_cons (pdv 0) (pda_cons (pdv 1) pda_nil))) pda_nil))))) pda_nil))) (pgd_tup (n := 2) rfl (pgds_cons (pgd_name (i := 2) sc__law_some_couple.nd) (pgds_cons (pgd_name (i := 3) sc__law_some_couple.nd) pgds_nil))) (nofixB (by decide)))
      (dss_cons (ds_if (pt_eq hr.units rfl (pd_callBag G__law_take m__law_take (hr.mono (by decide)) hgd rfl g__law_take k__law_take b__law_take (pda_cons (pdv 0) (pda_cons pd_int pda_nil))) pd_int) (dss_one (ds_set (i := 3) sc__law_some_couple.nd (pd_callBag G__law_some m__law_some (hr.mono (by decide)) hgd rfl g__law_some k__law_some b__law_some (pda_cons (pdv 0) (pda_cons (pd_l (pl_lst (pda_cons (pd_revT (pdv 2)) (pda_cons (pd_tup (pda_cons (pd_ix (pdv 2) pd_int (fun _ _ => rfl)) (pda_cons (pd_ix (pdv 3) pd_int (fun _ _ => rfl)) pda_nil))) (pda_cons (pd_tup (pda_cons (pd_ix (pdv 3) pd_int (fun _ _ => rfl)) (pda_cons (pd_ix (pdv 2) pd_int (fun _ _ => rfl)) pda_nil))) (pda_cons (pdv 2) pda_nil)))))) pda_nil))) (fixB (by decide)))) dss_nil)
      (dss_cons (ds_set (i := 4) sc__law_some_couple.nd (pd_callBag G__law_some m__law_some (hr.mono (by decide)) hgd rfl g__law_some k__law_some b__law_some (pda_cons (pdv 0) (pda_cons (pd_l (pl_lst (pda_cons (pd_tup (pda_cons pd_int (pda_cons pd_int pda_nil))) (pda_cons (pd_tup (pda_cons pd_int (pda_cons pd_int pda_nil))) (pda_cons (pd_callBag G__law_fraction m__law_fraction (hr.mono (by decide)) hgd rfl g__law_fraction k__law_fraction b__law_fraction (pda_cons (pdv 0) pda_nil)) (pda_cons (pd_callBag G__law_fraction m__law_fraction (hr.mono (by decide)) hgd rfl g__law_fraction k__law_fraction b__law_fraction (pda_cons (pdv 0) pda_nil)) (pda_cons (pd_callP G__law_over m__law_over (hr.mono (by decide)) hgd rfl g__law_over k__law_over b__law_over (pda_cons pd_int (pda_cons (pd_add pd_int (pd_callBag G__law_take m__law_take (hr.mono (by decide)) hgd rfl g__law_take k__law_take b__law_take (pda_cons (pdv 0) (pda_cons pd_int pda_nil)))) pda_nil))) pda_nil))))))) pda_nil))) (fixB (by decide)))
      (dss_cons (ds_set (i := 5) sc__law_some_couple.nd (pd_ix (pd_callP G__law_nearest m__law_nearest (hr.mono (by decide)) hgd rfl g__law_nearest k__law_nearest b__law_nearest (pda_cons (pdv 2) (pda_cons (pdv 3) (pda_cons (pdv 4) pda_nil)))) pd_int (fun _ _ => rfl)) (fixB (by decide)))
      (dss_cons (ds_set (i := 6) sc__law_some_couple.nd pd_int (fixB (by decide)))
      (dss_cons (ds_for PassesOwn.never rfl (pdi_range1 rfl T.b_range (pda_cons pd_int pda_nil)) (pgd_name (i := 7) sc__law_some_couple.nd) (dss_one (ds_if (pt_lt (pd_mul (pd_mul (pdv 6) (pdv 6)) (pd_ix (pdv 5) pd_int (fun _ _ => rfl))) (pd_ix (pdv 5) pd_int (fun _ _ => rfl))) (dss_one (ds_aug (i := 6) sc__law_some_couple.nd pd_int ip_add (fixB (by decide)))) dss_nil)) (nofixB (by decide)))
      (dss_one (ds_ret (pd_tup (pda_cons (pdv 2) (pda_cons (pdv 3) (pda_cons (pdv 4) (pda_cons (pd_callB (call_max2 rfl) sc_max rfl T.b_max (by decide +kernel) (pda_cons pd_int (pda_cons (pd_callBag G__law_some m__law_some (hr.mono (by decide)) hgd rfl g__law_some k__law_some b__law_some (pda_cons (pdv 0) (pda_cons (pd_l (pl_lst (pda_cons (pdv 6) (pda_cons (pd_sub (pdv 6) pd_int) (pda_cons (pd_add (pdv 6) pd_int) (pda_cons pd_int (pda_cons (pdv 1) (pda_cons (pd_mul pd_int (pdv 6)) pda_nil)))))))) pda_nil))) pda_nil))) pda_nil)))))))))))))), ?_⟩
  clear W T hr hgd G__law_some g__law_some k__law_some b__law_some f__law_some fd__law_some G__law_take g__law_take k__law_take b__law_take f__law_take fd__law_take G__law_nearest g__law_nearest k__law_nearest b__law_nearest f__law_nearest fd__law_nearest G__law_couple g__law_couple k__law_couple b__law_couple f__law_couple fd__law_couple G__law_worst_couple g__law_worst_couple k__law_worst_couple b__law_worst_couple f__law_worst_couple fd__law_worst_couple G__law_fraction g__law_fraction k__law_fraction b__law_fraction f__law_fraction fd__law_fraction G__law_over g__law_over k__law_over b__law_over f__law_over fd__law_over
  rintro bag xs Q hl ⟨_, m, hb, hm, rfl, _, hQ⟩
  clear hl
  replace hQ : ∀ z bag', (∃ (l o : Lg) (rho : Rat) (r : Int), z = .tuple [eL l, eL o, fr rho, .int r] ∧ LB 14 l ∧ LB 14 o ∧ 0 ≤ rho ∧ rho ≤ 1 ∧ Sz 7 rho ∧ 1 ≤ r ∧ r ≤ 1000) → Bag (m + 60) bag' → Q z bag'   := hQ
  have hm : m + 60 < 2 ^ 60 := hm
  have e : (some (.own bag) :: rhoP (nm__law_some_couple.length - 1) [] [] : Rho) = [some (.own bag), none, none, none, none, none, none, none] := rfl
  rw [e]
  clear e
  refine seqI fun kk hk => ?_
  simp only [dSeq, dAsg, dCB, dCons, dNil, dVar, onVs, vals, val, slot, setR, fGcd, dIfS, dTV, dOp, dBin, onV2, fLt, fLe, fGt, fGe, fAdd, fSub, fMul, fDiv, fMod, fI0, dC, dUn, onV, fNeg, dNext, dRet, dTup, onD, dats, fDivZ, fI, fPow, Few, retP, fAbs, fInt, fMax, fMin, fLen, fSqrt, fEq, fNe, dNot, dAnd, dOr, dAndV, dOrV, dNotV, dIfE, dDrop, dRetN, dPar, noO, dSetL, dLst, dOfL, dOwnM, onOwn, onDat, kAppend, kInsert, dSetItem, dAddItem, dIx, onItems, items, onInt, dNoPart, dPart, dSlice, onL, litems, dSlL, dCat, onM, mitems, dTupOf, dSeqI, dRng1, dRng2, dCallP, dCallB, dCallF, noSelf, onArgs, dats2, dIsi, tyName, dYes, dgTup, dgCons, dgNil, retB, dBreak, dCont, ne_eq, not_false_eq_true, true_and, and_true, List.getElem?_cons_zero, List.getElem?_cons_succ, List.set_cons_zero, List.set_cons_succ, Option.map, List.length_cons, List.length_nil, dLc_eq, dFor_eq, dSortSet, dSort, dListOf, dIsN, dNotN, isNo, dAug, dCatT, dSlT, onT, titems, dEnum, dZip, seqs, dRetL, dPar3, dRevT, dLstRg, dTupRg, dRg1, dRg2, dChainLe, List.nil_append, List.cons_append, if_true, if_false, dFrz, dLcO, List.map_cons, List.map_nil, fw0, fw1, fw2, fw3, fw4, fw5, fw6, fw7, fw8, fw9, fw10, fw11, fw12, fw13, fw14, fw15]
  refine u_some hb (by omega) (by simp) (by simp) fun y hy bag1 hb1 => ?_
  obtain ⟨sp, rfl, s0, s1⟩ := of_all (lo := 1) (hi := 20) (by decide) y hy
  rw [hk]
  refine seqI fun k2 hk2 => ?_
  simp only [dSeq, dAsg, dCB, dCons, dNil, dVar, onVs, vals, val, slot, setR, fGcd, dIfS, dTV, dOp, dBin, onV2, fLt, fLe, fGt, fGe, fAdd, fSub, fMul, fDiv, fMod, fI0, dC, dUn, onV, fNeg, dNext, dRet, dTup, onD, dats, fDivZ, fI, fPow, Few, retP, fAbs, fInt, fMax, fMin, fLen, fSqrt, fEq, fNe, dNot, dAnd, dOr, dAndV, dOrV, dNotV, dIfE, dDrop, dRetN, dPar, noO, dSetL, dLst, dOfL, dOwnM, onOwn, onDat, kAppend, kInsert, dSetItem, dAddItem, dIx, onItems, items, onInt, dNoPart, dPart, dSlice, onL, litems, dSlL, dCat, onM, mitems, dTupOf, dSeqI, dRng1, dRng2, dCallP, dCallB, dCallF, noSelf, onArgs, dats2, dIsi, tyName, dYes, dgTup, dgCons, dgNil, retB, dBreak, dCont, ne_eq, not_false_eq_true, true_and, and_true, List.getElem?_cons_zero, List.getElem?_cons_succ, List.set_cons_zero, List.set_cons_succ, Option.map, List.length_cons, List.length_nil, dLc_eq, dFor_eq, dSortSet, dSort, dListOf, dIsN, dNotN, isNo, dAug, dCatT, dSlT, onT, titems, dEnum, dZip, seqs, dRetL, dPar3, dRevT, dLstRg, dTupRg, dRg1, dRg2, dChainLe, List.nil_append, List.cons_append, if_true, if_false, dFrz, dLcO, List.map_cons, List.map_nil, fw0, fw1, fw2, fw3, fw4, fw5, fw6, fw7, fw8, fw9, fw10, fw11, fw12, fw13, fw14, fw15]
  refine u__law_couple hb1 (by omega) s0 s1 fun z1 bag2 h1 hb2 => ?_
  refine u__law_worst_couple hb2 (by omega) s0 s1 fun z2 bag3 h2 hb3 => ?_
  refine u__law_couple hb3 (by omega) s0 s1 fun z3 bag4 h3 hb4 => ?_
  refine u_some hb4 (by omega) (by simp) (by simp) fun y2 hy2 bag5 hb5 => ?_
  have hc : ∃ l o : Lg, y2 = .tuple [eL l, eL o] ∧ LB 14 l ∧ LB 14 o := by
    simp only [List.mem_cons, List.not_mem_nil, or_false] at hy2
    rcases hy2 with rfl | rfl | rfl
    · exact h1
    · exact h2
    · exact h3
  obtain ⟨l, o, rfl, hl, ho⟩ := hc
  clear hy2 h1 h2 h3
  simp only [dSeq, dAsg, dCB, dCons, dNil, dVar, onVs, vals, val, slot, setR, fGcd, dIfS, dTV, dOp, dBin, onV2, fLt, fLe, fGt, fGe, fAdd, fSub, fMul, fDiv, fMod, fI0, dC, dUn, onV, fNeg, dNext, dRet, dTup, onD, dats, fDivZ, fI, fPow, Few, retP, fAbs, fInt, fMax, fMin, fLen, fSqrt, fEq, fNe, dNot, dAnd, dOr, dAndV, dOrV, dNotV, dIfE, dDrop, dRetN, dPar, noO, dSetL, dLst, dOfL, dOwnM, onOwn, onDat, kAppend, kInsert, dSetItem, dAddItem, dIx, onItems, items, onInt, dNoPart, dPart, dSlice, onL, litems, dSlL, dCat, onM, mitems, dTupOf, dSeqI, dRng1, dRng2, dCallP, dCallB, dCallF, noSelf, onArgs, dats2, dIsi, tyName, dYes, dgTup, dgCons, dgNil, retB, dBreak, dCont, ne_eq, not_false_eq_true, true_and, and_true, List.getElem?_cons_zero, List.getElem?_cons_succ, List.set_cons_zero, List.set_cons_succ, Option.map, List.length_cons, List.length_nil, dLc_eq, dFor_eq, dSortSet, dSort, dListOf, dIsN, dNotN, isNo, dAug, dCatT, dSlT, onT, titems, dEnum, dZip, seqs, dRetL, dPar3, dRevT, dLstRg, dTupRg, dRg1, dRg2, dChainLe, List.nil_append, List.cons_append, if_true, if_false, dFrz, dLcO, List.map_cons, List.map_nil, fw0, fw1, fw2, fw3, fw4, fw5, fw6, fw7, fw8, fw9, fw10, fw11, fw12, fw13, fw14, fw15]
  rw [hk2]
  refine seqI fun k3 hk3 => ?_
  have fin : ∀ (o : Lg) bag6, LB 14 o → Bag (m + 1 + 5 + 2 + 5 + 1 + 2) bag6 → k3 [some (.own bag6), some (.d (.int sp)), some (.d (eL l)), some (.d (eL o)), none, none, none, none] := fun o bag6 ho hb6 => by
    rw [hk3]
    refine seqI fun k4 hk4 => ?_
    simp only [dSeq, dAsg, dCB, dCons, dNil, dVar, onVs, vals, val, slot, setR, fGcd, dIfS, dTV, dOp, dBin, onV2, fLt, fLe, fGt, fGe, fAdd, fSub, fMul, fDiv, fMod, fI0, dC, dUn, onV, fNeg, dNext, dRet, dTup, onD, dats, fDivZ, fI, fPow, Few, retP, fAbs, fInt, fMax, fMin, fLen, fSqrt, fEq, fNe, dNot, dAnd, dOr, dAndV, dOrV, dNotV, dIfE, dDrop, dRetN, dPar, noO, dSetL, dLst, dOfL, dOwnM, onOwn, onDat, kAppend, kInsert, dSetItem, dAddItem, dIx, onItems, items, onInt, dNoPart, dPart, dSlice, onL, litems, dSlL, dCat, onM, mitems, dTupOf, dSeqI, dRng1, dRng2, dCallP, dCallB, dCallF, noSelf, onArgs, dats2, dIsi, tyName, dYes, dgTup, dgCons, dgNil, retB, dBreak, dCont, ne_eq, not_false_eq_true, true_and, and_true, List.getElem?_cons_zero, List.getElem?_cons_succ, List.set_cons_zero, List.set_cons_succ, Option.map, List.length_cons, List.length_nil, dLc_eq, dFor_eq, dSortSet, dSort, dListOf, dIsN, dNotN, isNo, dAug, dCatT, dSlT, onT, titems, dEnum, dZip, seqs, dRetL, dPar3, dRevT, dLstRg, dTupRg, dRg1, dRg2, dChainLe, List.nil_append, List.cons_append, if_true, if_false, dFrz, dLcO, List.map_cons, List.map_nil, fw0, fw1, fw2, fw3, fw4, fw5, fw6, fw7, fw8, fw9, fw10, fw11, fw12, fw13, fw14, fw15]
    refine u__law_fraction hb6 (by omega) fun z4 bag7 h4 hb7 => ?_
    refine u__law_fraction hb7 (by omega) fun z5 bag8 h5 hb8 => ?_
    refine u_take hb8 (by omega) (by omega) (by omega) fun v bag9 v0 v1 hb9 => ?_
    simp only [dSeq, dAsg, dCB, dCons, dNil, dVar, onVs, vals, val, slot, setR, fGcd, dIfS, dTV, dOp, dBin, onV2, fLt, fLe, fGt, fGe, fAdd, fSub, fMul, fDiv, fMod, fI0, dC, dUn, onV, fNeg, dNext, dRet, dTup, onD, dats, fDivZ, fI, fPow, Few, retP, fAbs, fInt, fMax, fMin, fLen, fSqrt, fEq, fNe, dNot, dAnd, dOr, dAndV, dOrV, dNotV, dIfE, dDrop, dRetN, dPar, noO, dSetL, dLst, dOfL, dOwnM, onOwn, onDat, kAppend, kInsert, dSetItem, dAddItem, dIx, onItems, items, onInt, dNoPart, dPart, dSlice, onL, litems, dSlL, dCat, onM, mitems, dTupOf, dSeqI, dRng1, dRng2, dCallP, dCallB, dCallF, noSelf, onArgs, dats2, dIsi, tyName, dYes, dgTup, dgCons, dgNil, retB, dBreak, dCont, ne_eq, not_false_eq_true, true_and, and_true, List.getElem?_cons_zero, List.getElem?_cons_succ, List.set_cons_zero, List.set_cons_succ, Option.map, List.length_cons, List.length_nil, dLc_eq, dFor_eq, dSortSet, dSort, dListOf, dIsN, dNotN, isNo, dAug, dCatT, dSlT, onT, titems, dEnum, dZip, seqs, dRetL, dPar3, dRevT, dLstRg, dTupRg, dRg1, dRg2, dChainLe, List.nil_append, List.cons_append, if_true, if_false, dFrz, dLcO, List.map_cons, List.map_nil, fw0, fw1, fw2, fw3, fw4, fw5, fw6, fw7, fw8, fw9, fw10, fw11, fw12, fw13, fw14, fw15]
    refine u__law_over (by omega) (bd_of (k := 9000) 40 (by omega) (by omega) (Nat.lt_of_lt_of_le (show 40 < 2 ^ 6 by decide) (Nat.pow_le_pow_right (by decide) (by decide)))) ?_
    refine u_some hb9 (by omega) (by simp) (by simp) fun y3 hy3 bag10 hb10 => ?_
    have hr : ∃ rho : Rat, y3 = fr rho ∧ 0 ≤ rho ∧ rho ≤ 1 ∧ Sz 7 rho := by
      simp only [List.mem_cons, List.not_mem_nil, or_false] at hy3
      rcases hy3 with rfl | rfl | rfl | rfl | rfl
      · exact ⟨0, rfl, by decide, by decide, sz_zero⟩
      · exact ⟨1, rfl, by decide, by decide, sz_one⟩
      · exact h4
      · exact h5
      · refine ⟨_, rfl, Rat.divInt_nonneg (by decide) (by omega), ?_, (sz_divInt (j := 7) (k := 7) (by unfold Bd; decide) (bd_of 40 (by omega) (by omega)) (by omega)).up (by decide)⟩
        rw [Rat.divInt_eq_div]
        have h2 : (0 : Rat) < ((2 + v : Int) : Rat) := Rat.intCast_pos.mpr (by omega)
        refine Rat.not_lt.mp fun z => ?_
        rw [Rat.lt_div_iff h2, Rat.one_mul] at z
        exact absurd (Rat.intCast_le_intCast.mpr (show (1 : Int) ≤ 2 + v by omega)) (Rat.not_le.mpr z)
    obtain ⟨rho, rfl, r0, r1, sr⟩ := hr
    clear hy3 h4 h5
    rw [hk4]
    refine seqI fun k5 hk5 => ?_
    have hl20 : LB 20 l := ⟨hl.ax.up (by decide), hl.ay.up (by decide), hl.bx.up (by decide), hl.by'.up (by decide)⟩
    have ho20 : LB 20 o := ⟨ho.ax.up (by decide), ho.ay.up (by decide), ho.bx.up (by decide), ho.by'.up (by decide)⟩
    simp only [dSeq, dAsg, dCB, dCons, dNil, dVar, onVs, vals, val, slot, setR, fGcd, dIfS, dTV, dOp, dBin, onV2, fLt, fLe, fGt, fGe, fAdd, fSub, fMul, fDiv, fMod, fI0, dC, dUn, onV, fNeg, dNext, dRet, dTup, onD, dats, fDivZ, fI, fPow, Few, retP, fAbs, fInt, fMax, fMin, fLen, fSqrt, fEq, fNe, dNot, dAnd, dOr, dAndV, dOrV, dNotV, dIfE, dDrop, dRetN, dPar, noO, dSetL, dLst, dOfL, dOwnM, onOwn, onDat, kAppend, kInsert, dSetItem, dAddItem, dIx, onItems, items, onInt, dNoPart, dPart, dSlice, onL, litems, dSlL, dCat, onM, mitems, dTupOf, dSeqI, dRng1, dRng2, dCallP, dCallB, dCallF, noSelf, onArgs, dats2, dIsi, tyName, dYes, dgTup, dgCons, dgNil, retB, dBreak, dCont, ne_eq, not_false_eq_true, true_and, and_true, List.getElem?_cons_zero, List.getElem?_cons_succ, List.set_cons_zero, List.set_cons_succ, Option.map, List.length_cons, List.length_nil, dLc_eq, dFor_eq, dSortSet, dSort, dListOf, dIsN, dNotN, isNo, dAug, dCatT, dSlT, onT, titems, dEnum, dZip, seqs, dRetL, dPar3, dRevT, dLstRg, dTupRg, dRg1, dRg2, dChainLe, List.nil_append, List.cons_append, if_true, if_false, dFrz, dLcO, List.map_cons, List.map_nil, fw0, fw1, fw2, fw3, fw4, fw5, fw6, fw7, fw8, fw9, fw10, fw11, fw12, fw13, fw14, fw15]
    refine u__law_nearest hl20 ho20 (sr.up (by decide)) ?_
    have hq := (near_sz hl20 ho20 (sr.up (by decide : 7 ≤ 20))).1.q
    generalize nearL l o rho = row at *
    simp only [dSeq, dAsg, dCB, dCons, dNil, dVar, onVs, vals, val, slot, setR, fGcd, dIfS, dTV, dOp, dBin, onV2, fLt, fLe, fGt, fGe, fAdd, fSub, fMul, fDiv, fMod, fI0, dC, dUn, onV, fNeg, dNext, dRet, dTup, onD, dats, fDivZ, fI, fPow, Few, retP, fAbs, fInt, fMax, fMin, fLen, fSqrt, fEq, fNe, dNot, dAnd, dOr, dAndV, dOrV, dNotV, dIfE, dDrop, dRetN, dPar, noO, dSetL, dLst, dOfL, dOwnM, onOwn, onDat, kAppend, kInsert, dSetItem, dAddItem, dIx, onItems, items, onInt, dNoPart, dPart, dSlice, onL, litems, dSlL, dCat, onM, mitems, dTupOf, dSeqI, dRng1, dRng2, dCallP, dCallB, dCallF, noSelf, onArgs, dats2, dIsi, tyName, dYes, dgTup, dgCons, dgNil, retB, dBreak, dCont, ne_eq, not_false_eq_true, true_and, and_true, List.getElem?_cons_zero, List.getElem?_cons_succ, List.set_cons_zero, List.set_cons_succ, Option.map, List.length_cons, List.length_nil, dLc_eq, dFor_eq, dSortSet, dSort, dListOf, dIsN, dNotN, isNo, dAug, dCatT, dSlT, onT, titems, dEnum, dZip, seqs, dRetL, dPar3, dRevT, dLstRg, dTupRg, dRg1, dRg2, dChainLe, List.nil_append, List.cons_append, if_true, if_false, dFrz, dLcO, List.map_cons, List.map_nil, fw0, fw1, fw2, fw3, fw4, fw5, fw6, fw7, fw8, fw9, fw10, fw11, fw12, fw13, fw14, fw15, pf3, on0]
    rw [hk5]
    refine seqI fun k6 hk6 => ?_
    simp only [dSeq, dAsg, dCB, dCons, dNil, dVar, onVs, vals, val, slot, setR, fGcd, dIfS, dTV, dOp, dBin, onV2, fLt, fLe, fGt, fGe, fAdd, fSub, fMul, fDiv, fMod, fI0, dC, dUn, onV, fNeg, dNext, dRet, dTup, onD, dats, fDivZ, fI, fPow, Few, retP, fAbs, fInt, fMax, fMin, fLen, fSqrt, fEq, fNe, dNot, dAnd, dOr, dAndV, dOrV, dNotV, dIfE, dDrop, dRetN, dPar, noO, dSetL, dLst, dOfL, dOwnM, onOwn, onDat, kAppend, kInsert, dSetItem, dAddItem, dIx, onItems, items, onInt, dNoPart, dPart, dSlice, onL, litems, dSlL, dCat, onM, mitems, dTupOf, dSeqI, dRng1, dRng2, dCallP, dCallB, dCallF, noSelf, onArgs, dats2, dIsi, tyName, dYes, dgTup, dgCons, dgNil, retB, dBreak, dCont, ne_eq, not_false_eq_true, true_and, and_true, List.getElem?_cons_zero, List.getElem?_cons_succ, List.set_cons_zero, List.set_cons_succ, Option.map, List.length_cons, List.length_nil, dLc_eq, dFor_eq, dSortSet, dSort, dListOf, dIsN, dNotN, isNo, dAug, dCatT, dSlT, onT, titems, dEnum, dZip, seqs, dRetL, dPar3, dRevT, dLstRg, dTupRg, dRg1, dRg2, dChainLe, List.nil_append, List.cons_append, if_true, if_false, dFrz, dLcO, List.map_cons, List.map_nil, fw0, fw1, fw2, fw3, fw4, fw5, fw6, fw7, fw8, fw9, fw10, fw11, fw12, fw13, fw14, fw15]
    rw [hk6]
    refine seqI fun k7 hk7 => ?_
    simp only [dSeq, dAsg, dCB, dCons, dNil, dVar, onVs, vals, val, slot, setR, fGcd, dIfS, dTV, dOp, dBin, onV2, fLt, fLe, fGt, fGe, fAdd, fSub, fMul, fDiv, fMod, fI0, dC, dUn, onV, fNeg, dNext, dRet, dTup, onD, dats, fDivZ, fI, fPow, Few, retP, fAbs, fInt, fMax, fMin, fLen, fSqrt, fEq, fNe, dNot, dAnd, dOr, dAndV, dOrV, dNotV, dIfE, dDrop, dRetN, dPar, noO, dSetL, dLst, dOfL, dOwnM, onOwn, onDat, kAppend, kInsert, dSetItem, dAddItem, dIx, onItems, items, onInt, dNoPart, dPart, dSlice, onL, litems, dSlL, dCat, onM, mitems, dTupOf, dSeqI, dRng1, dRng2, dCallP, dCallB, dCallF, noSelf, onArgs, dats2, dIsi, tyName, dYes, dgTup, dgCons, dgNil, retB, dBreak, dCont, ne_eq, not_false_eq_true, true_and, and_true, List.getElem?_cons_zero, List.getElem?_cons_succ, List.set_cons_zero, List.set_cons_succ, Option.map, List.length_cons, List.length_nil, dLc_eq, dFor_eq, dSortSet, dSort, dListOf, dIsN, dNotN, isNo, dAug, dCatT, dSlT, onT, titems, dEnum, dZip, seqs, dRetL, dPar3, dRevT, dLstRg, dTupRg, dRg1, dRg2, dChainLe, List.nil_append, List.cons_append, if_true, if_false, dFrz, dLcO, List.map_cons, List.map_nil, fw0, fw1, fw2, fw3, fw4, fw5, fw6, fw7, fw8, fw9, fw10, fw11, fw12, fw13, fw14, fw15]
    refine ⟨⟨by decide, by decide⟩, for_rng (S := Int × Option Ent) 0 _ (fun z => [some (.own bag10), some (.d (.int sp)), some (.d (eL l)), some (.d (eL o)), some (.d (fr rho)), some (.d (fr row.1)), some (.d (.int z.1)), z.2]) (fun i z => 1 ≤ z.1 ∧ z.1 ≤ 1 + i) (1, none) rfl ⟨by decide, by decide⟩ (fun i z hi hI C hC => ?_) fun z hz => ?_⟩
    · obtain ⟨a0, a1⟩ := hI
      have hz : Bd 8 z.1 := bd_of 201 (by omega) (by omega)
      simp only [dSeq, dAsg, dCB, dCons, dNil, dVar, onVs, vals, val, slot, setR, fGcd, dIfS, dTV, dOp, dBin, onV2, fLt, fLe, fGt, fGe, fAdd, fSub, fMul, fDiv, fMod, fI0, dC, dUn, onV, fNeg, dNext, dRet, dTup, onD, dats, fDivZ, fI, fPow, Few, retP, fAbs, fInt, fMax, fMin, fLen, fSqrt, fEq, fNe, dNot, dAnd, dOr, dAndV, dOrV, dNotV, dIfE, dDrop, dRetN, dPar, noO, dSetL, dLst, dOfL, dOwnM, onOwn, onDat, kAppend, kInsert, dSetItem, dAddItem, dIx, onItems, items, onInt, dNoPart, dPart, dSlice, onL, litems, dSlL, dCat, onM, mitems, dTupOf, dSeqI, dRng1, dRng2, dCallP, dCallB, dCallF, noSelf, onArgs, dats2, dIsi, tyName, dYes, dgTup, dgCons, dgNil, retB, dBreak, dCont, ne_eq, not_false_eq_true, true_and, and_true, List.getElem?_cons_zero, List.getElem?_cons_succ, List.set_cons_zero, List.set_cons_succ, Option.map, List.length_cons, List.length_nil, dLc_eq, dFor_eq, dSortSet, dSort, dListOf, dIsN, dNotN, isNo, dAug, dCatT, dSlT, onT, titems, dEnum, dZip, seqs, dRetL, dPar3, dRevT, dLstRg, dTupRg, dRg1, dRg2, dChainLe, List.nil_append, List.cons_append, if_true, if_false, dFrz, dLcO, List.map_cons, List.map_nil, fw0, fw1, fw2, fw3, fw4, fw5, fw6, fw7, fw8, fw9, fw10, fw11, fw12, fw13, fw14, fw15, fr, on0, on1]
      refine ⟨cmb hz hz, cmb (hz.mul hz) hq.d, ite_b (fun h => hC (z.1 + 1, some (.d (.int (0 + (i : Int))))) ⟨by show 1 ≤ z.1 + 1; omega, by show z.1 + 1 ≤ 1 + ((i + 1 : Nat) : Int); omega⟩) fun h => hC (z.1, some (.d (.int (0 + (i : Int))))) ⟨a0, by show z.1 ≤ 1 + ((i + 1 : Nat) : Int); omega⟩⟩
    · obtain ⟨a0, a1⟩ := hz
      have hz : Bd 8 z.1 := bd_of 201 (by omega) (by omega)
      have b2 : Bd 2 2 := by unfold Bd; decide
      rw [hk7]
      clear hk7 hk6 hk5 hk4 hk3 hk2 hk
      simp only [dSeq, dAsg, dCB, dCons, dNil, dVar, onVs, vals, val, slot, setR, fGcd, dIfS, dTV, dOp, dBin, onV2, fLt, fLe, fGt, fGe, fAdd, fSub, fMul, fDiv, fMod, fI0, dC, dUn, onV, fNeg, dNext, dRet, dTup, onD, dats, fDivZ, fI, fPow, Few, retP, fAbs, fInt, fMax, fMin, fLen, fSqrt, fEq, fNe, dNot, dAnd, dOr, dAndV, dOrV, dNotV, dIfE, dDrop, dRetN, dPar, noO, dSetL, dLst, dOfL, dOwnM, onOwn, onDat, kAppend, kInsert, dSetItem, dAddItem, dIx, onItems, items, onInt, dNoPart, dPart, dSlice, onL, litems, dSlL, dCat, onM, mitems, dTupOf, dSeqI, dRng1, dRng2, dCallP, dCallB, dCallF, noSelf, onArgs, dats2, dIsi, tyName, dYes, dgTup, dgCons, dgNil, retB, dBreak, dCont, ne_eq, not_false_eq_true, true_and, and_true, List.getElem?_cons_zero, List.getElem?_cons_succ, List.set_cons_zero, List.set_cons_succ, Option.map, List.length_cons, List.length_nil, dLc_eq, dFor_eq, dSortSet, dSort, dListOf, dIsN, dNotN, isNo, dAug, dCatT, dSlT, onT, titems, dEnum, dZip, seqs, dRetL, dPar3, dRevT, dLstRg, dTupRg, dRg1, dRg2, dChainLe, List.nil_append, List.cons_append, if_true, if_false, dFrz, dLcO, List.map_cons, List.map_nil, fw0, fw1, fw2, fw3, fw4, fw5, fw6, fw7, fw8, fw9, fw10, fw11, fw12, fw13, fw14, fw15]
      refine ⟨cmb b2 hz, u_some hb10 (by omega) (by simp) (by simp) fun y4 hy4 bag11 hb11 => ?_⟩
      obtain ⟨q, rfl, q0, q1⟩ : ∃ q : Int, y4 = .int q ∧ -1 ≤ q ∧ q ≤ 500 := by
        simp only [List.mem_cons, List.not_mem_nil, or_false] at hy4
        rcases hy4 with rfl | rfl | rfl | rfl | rfl | rfl
        all_goals exact ⟨_, rfl, by omega, by omega⟩
      simp only [dSeq, dAsg, dCB, dCons, dNil, dVar, onVs, vals, val, slot, setR, fGcd, dIfS, dTV, dOp, dBin, onV2, fLt, fLe, fGt, fGe, fAdd, fSub, fMul, fDiv, fMod, fI0, dC, dUn, onV, fNeg, dNext, dRet, dTup, onD, dats, fDivZ, fI, fPow, Few, retP, fAbs, fInt, fMax, fMin, fLen, fSqrt, fEq, fNe, dNot, dAnd, dOr, dAndV, dOrV, dNotV, dIfE, dDrop, dRetN, dPar, noO, dSetL, dLst, dOfL, dOwnM, onOwn, onDat, kAppend, kInsert, dSetItem, dAddItem, dIx, onItems, items, onInt, dNoPart, dPart, dSlice, onL, litems, dSlL, dCat, onM, mitems, dTupOf, dSeqI, dRng1, dRng2, dCallP, dCallB, dCallF, noSelf, onArgs, dats2, dIsi, tyName, dYes, dgTup, dgCons, dgNil, retB, dBreak, dCont, ne_eq, not_false_eq_true, true_and, and_true, List.getElem?_cons_zero, List.getElem?_cons_succ, List.set_cons_zero, List.set_cons_succ, Option.map, List.length_cons, List.length_nil, dLc_eq, dFor_eq, dSortSet, dSort, dListOf, dIsN, dNotN, isNo, dAug, dCatT, dSlT, onT, titems, dEnum, dZip, seqs, dRetL, dPar3, dRevT, dLstRg, dTupRg, dRg1, dRg2, dChainLe, List.nil_append, List.cons_append, if_true, if_false, dFrz, dLcO, List.map_cons, List.map_nil, fw0, fw1, fw2, fw3, fw4, fw5, fw6, fw7, fw8, fw9, fw10, fw11, fw12, fw13, fw14, fw15]
      refine hQ _ _ ⟨l, o, rho, _, rfl, hl, ho, r0, r1, sr, ?_, ?_⟩ (hb11.up (by omega))
      · split <;> omega
      · split <;> omega
  simp only [dSeq, dAsg, dCB, dCons, dNil, dVar, onVs, vals, val, slot, setR, fGcd, dIfS, dTV, dOp, dBin, onV2, fLt, fLe, fGt, fGe, fAdd, fSub, fMul, fDiv, fMod, fI0, dC, dUn, onV, fNeg, dNext, dRet, dTup, onD, dats, fDivZ, fI, fPow, Few, retP, fAbs, fInt, fMax, fMin, fLen, fSqrt, fEq, fNe, dNot, dAnd, dOr, dAndV, dOrV, dNotV, dIfE, dDrop, dRetN, dPar, noO, dSetL, dLst, dOfL, dOwnM, onOwn, onDat, kAppend, kInsert, dSetItem, dAddItem, dIx, onItems, items, onInt, dNoPart, dPart, dSlice, onL, litems, dSlL, dCat, onM, mitems, dTupOf, dSeqI, dRng1, dRng2, dCallP, dCallB, dCallF, noSelf, onArgs, dats2, dIsi, tyName, dYes, dgTup, dgCons, dgNil, retB, dBreak, dCont, ne_eq, not_false_eq_true, true_and, and_true, List.getElem?_cons_zero, List.getElem?_cons_succ, List.set_cons_zero, List.set_cons_succ, Option.map, List.length_cons, List.length_nil, dLc_eq, dFor_eq, dSortSet, dSort, dListOf, dIsN, dNotN, isNo, dAug, dCatT, dSlT, onT, titems, dEnum, dZip, seqs, dRetL, dPar3, dRevT, dLstRg, dTupRg, dRg1, dRg2, dChainLe, List.nil_append, List.cons_append, if_true, if_false, dFrz, dLcO, List.map_cons, List.map_nil, fw0, fw1, fw2, fw3, fw4, fw5, fw6, fw7, fw8, fw9, fw10, fw11, fw12, fw13, fw14, fw15]
  refine u_take hb5 (by omega) (by omega) (by omega) fun w bag6 w0 w1 hb6 => ?_
  simp only [dSeq, dAsg, dCB, dCons, dNil, dVar, onVs, vals, val, slot, setR, fGcd, dIfS, dTV, dOp, dBin, onV2, fLt, fLe, fGt, fGe, fAdd, fSub, fMul, fDiv, fMod, fI0, dC, dUn, onV, fNeg, dNext, dRet, dTup, onD, dats, fDivZ, fI, fPow, Few, retP, fAbs, fInt, fMax, fMin, fLen, fSqrt, fEq, fNe, dNot, dAnd, dOr, dAndV, dOrV, dNotV, dIfE, dDrop, dRetN, dPar, noO, dSetL, dLst, dOfL, dOwnM, onOwn, onDat, kAppend, kInsert, dSetItem, dAddItem, dIx, onItems, items, onInt, dNoPart, dPart, dSlice, onL, litems, dSlL, dCat, onM, mitems, dTupOf, dSeqI, dRng1, dRng2, dCallP, dCallB, dCallF, noSelf, onArgs, dats2, dIsi, tyName, dYes, dgTup, dgCons, dgNil, retB, dBreak, dCont, ne_eq, not_false_eq_true, true_and, and_true, List.getElem?_cons_zero, List.getElem?_cons_succ, List.set_cons_zero, List.set_cons_succ, Option.map, List.length_cons, List.length_nil, dLc_eq, dFor_eq, dSortSet, dSort, dListOf, dIsN, dNotN, isNo, dAug, dCatT, dSlT, onT, titems, dEnum, dZip, seqs, dRetL, dPar3, dRevT, dLstRg, dTupRg, dRg1, dRg2, dChainLe, List.nil_append, List.cons_append, if_true, if_false, dFrz, dLcO, List.map_cons, List.map_nil, fw0, fw1, fw2, fw3, fw4, fw5, fw6, fw7, fw8, fw9, fw10, fw11, fw12, fw13, fw14, fw15, sh_int, eqv_int, on0, on1, eL]
  refine ite_b (fun _ => ?_) fun _ => fin o bag6 ho (hb6.up (by omega))
  refine u_some hb6 (by omega) (by simp) (by simp) fun y3 hy3 bag7 hb7 => ?_
  obtain ⟨o', rfl, ho'⟩ : ∃ o' : Lg, y3 = eL o' ∧ LB 14 o' := by
    simp only [List.mem_cons, List.not_mem_nil, or_false] at hy3
    rcases hy3 with rfl | rfl | rfl | rfl
    · exact ⟨⟨l.bx, l.by', l.ax, l.ay⟩, rfl, ⟨hl.bx, hl.by', hl.ax, hl.ay⟩⟩
    · exact ⟨⟨l.ax, l.ay, o.bx, o.by'⟩, rfl, ⟨hl.ax, hl.ay, ho.bx, ho.by'⟩⟩
    · exact ⟨⟨o.ax, o.ay, l.bx, l.by'⟩, rfl, ⟨ho.ax, ho.ay, hl.bx, hl.by'⟩⟩
    · exact ⟨l, rfl, hl⟩
  exact fin o' bag7 ho' (hb7.up (by omega))
set_option maxHeartbeats 4000000 in
theorem ok_law {f : Addr} {fd : FuncData} (W : Fun K "law" "law" s_law f fd) (T : Bi mg)
    {f__law_bag : Addr} {fd__law_bag : FuncData} (G__law_bag : FnG P w K mg base CX0 1 f__law_bag fd__law_bag ["_law_script"] (spF K [.ro] S__law_bag)) (g__law_bag : mg "_law_bag" = some (.ref f__law_bag)) (k__law_bag : PySem.W.keepIn K (.ref f__law_bag) = true) (b__law_bag : Binds K fd__law_bag ["_law_script"] [])
    {f__law_some_couple : Addr} {fd__law_some_couple : FuncData} (G__law_some_couple : FnG P w K mg base CX0 7 f__law_some_couple fd__law_some_couple ["_law_bag_here"] (spB K [] S__law_some_couple)) (g__law_some_couple : mg "_law_some_couple" = some (.ref f__law_some_couple)) (k__law_some_couple : PySem.W.keepIn K (.ref f__law_some_couple) = true) (b__law_some_couple : Binds K fd__law_some_couple ["_law_bag_here"] [])
    {f__law_fraction : Addr} {fd__law_fraction : FuncData} (G__law_fraction : FnG P w K mg base CX0 3 f__law_fraction fd__law_fraction ["_law_bag_here"] (spB K [] S__law_fraction)) (g__law_fraction : mg "_law_fraction" = some (.ref f__law_fraction)) (k__law_fraction : PySem.W.keepIn K (.ref f__law_fraction) = true) (b__law_fraction : Binds K fd__law_fraction ["_law_bag_here"] [])
    {f__law_place : Addr} {fd__law_place : FuncData} (G__law_place : FnG P w K mg base CX0 3 f__law_place fd__law_place ["_law_leg", "_law_s"] (spP K [.d, .d] S__law_place)) (g__law_place : mg "_law_place" = some (.ref f__law_place)) (k__law_place : PySem.W.keepIn K (.ref f__law_place) = true) (b__law_place : Binds K fd__law_place ["_law_leg", "_law_s"] [])
    {f__law_gap_squared : Addr} {fd__law_gap_squared : FuncData} (G__law_gap_squared : FnG P w K mg base CX0 4 f__law_gap_squared fd__law_gap_squared ["_law_leg", "_law_other", "_law_s", "_law_t"] (spP K [.d, .d, .d, .d] S__law_gap_squared)) (g__law_gap_squared : mg "_law_gap_squared" = some (.ref f__law_gap_squared)) (k__law_gap_squared : PySem.W.keepIn K (.ref f__law_gap_squared) = true) (b__law_gap_squared : Binds K fd__law_gap_squared ["_law_leg", "_law_other", "_law_s", "_law_t"] [])
    {f__law_alike : Addr} {fd__law_alike : FuncData} (G__law_alike : FnG P w K mg base CX0 1 f__law_alike fd__law_alike ["_law_found", "_law_due"] (spP K [.ro, .ro] S__law_alike)) (g__law_alike : mg "_law_alike" = some (.ref f__law_alike)) (k__law_alike : PySem.W.keepIn K (.ref f__law_alike) = true) (b__law_alike : Binds K fd__law_alike ["_law_found", "_law_due"] [])
    {f__law_lessened : Addr} {fd__law_lessened : FuncData} (G__law_lessened : FnG P w K mg base CX0 2 f__law_lessened fd__law_lessened ["_law_x", "_law_y"] (spP K [.d, .d] S__law_lessened)) (g__law_lessened : mg "_law_lessened" = some (.ref f__law_lessened)) (k__law_lessened : PySem.W.keepIn K (.ref f__law_lessened) = true) (b__law_lessened : Binds K fd__law_lessened ["_law_x", "_law_y"] [])
    {f__law_added : Addr} {fd__law_added : FuncData} (G__law_added : FnG P w K mg base CX0 2 f__law_added fd__law_added ["_law_x", "_law_y"] (spP K [.d, .d] S__law_added)) (g__law_added : mg "_law_added" = some (.ref f__law_added)) (k__law_added : PySem.W.keepIn K (.ref f__law_added) = true) (b__law_added : Binds K fd__law_added ["_law_x", "_law_y"] [])
    {f__law_worth_order : Addr} {fd__law_worth_order : FuncData} (G__law_worth_order : FnG P w K mg base CX0 3 f__law_worth_order fd__law_worth_order ["_law_some_here"] (spP K [.d] S__law_worth_order)) (g__law_worth_order : mg "_law_worth_order" = some (.ref f__law_worth_order)) (k__law_worth_order : PySem.W.keepIn K (.ref f__law_worth_order) = true) (b__law_worth_order : Binds K fd__law_worth_order ["_law_some_here"] [])
    {f__law_some : Addr} {fd__law_some : FuncData} (G__law_some : FnG P w K mg base CX0 2 f__law_some fd__law_some ["_law_bag_here", "_law_things"] (spB K [.d] S__law_some)) (g__law_some : mg "_law_some" = some (.ref f__law_some)) (k__law_some : PySem.W.keepIn K (.ref f__law_some) = true) (b__law_some : Binds K fd__law_some ["_law_bag_here", "_law_things"] [])
    {f__law_corners : Addr} {fd__law_corners : FuncData} (G__law_corners : FnG P w K mg base CX0 3 f__law_corners fd__law_corners ["_law_rho"] (spP K [.d] S__law_corners)) (g__law_corners : mg "_law_corners" = some (.ref f__law_corners)) (k__law_corners : PySem.W.keepIn K (.ref f__law_corners) = true) (b__law_corners : Binds K fd__law_corners ["_law_rho"] [])
    {f_place_on : Addr} {fd_place_on : FuncData} (G_place_on : FnG P w K mg base CX0 2 f_place_on fd_place_on ["leg", "s"] (spP K [.d, .d] S_place_on)) (g_place_on : mg "place_on" = some (.ref f_place_on)) (k_place_on : PySem.W.keepIn K (.ref f_place_on) = true) (b_place_on : Binds K fd_place_on ["leg", "s"] [])
    {f_squared_at : Addr} {fd_squared_at : FuncData} (G_squared_at : FnG P w K mg base CX0 4 f_squared_at fd_squared_at ["leg", "other", "s", "t"] (spP K [.d, .d, .d, .d] S_squared_at)) (g_squared_at : mg "squared_at" = some (.ref f_squared_at)) (k_squared_at : PySem.W.keepIn K (.ref f_squared_at) = true) (b_squared_at : Binds K fd_squared_at ["leg", "other", "s", "t"] [])
    {f_corners_of : Addr} {fd_corners_of : FuncData} (G_corners_of : FnG P w K mg base CX0 2 f_corners_of fd_corners_of ["rho"] (spP K [.d] S_corners_of)) (g_corners_of : mg "corners_of" = some (.ref f_corners_of)) (k_corners_of : PySem.W.keepIn K (.ref f_corners_of) = true) (b_corners_of : Binds K fd_corners_of ["rho"] [])
    {f_is_within : Addr} {fd_is_within : FuncData} (G_is_within : FnG P w K mg base CX0 3 f_is_within fd_is_within ["s", "t", "rho"] (spP K [.d, .d, .d] S_is_within)) (g_is_within : mg "is_within" = some (.ref f_is_within)) (k_is_within : PySem.W.keepIn K (.ref f_is_within) = true) (b_is_within : Binds K fd_is_within ["s", "t", "rho"] [])
    {f__law_are_allowed : Addr} {fd__law_are_allowed : FuncData} (G__law_are_allowed : FnG P w K mg base CX0 3 f__law_are_allowed fd__law_are_allowed ["_law_s", "_law_t", "_law_rho"] (spP K [.d, .d, .d] S__law_are_allowed)) (g__law_are_allowed : mg "_law_are_allowed" = some (.ref f__law_are_allowed)) (k__law_are_allowed : PySem.W.keepIn K (.ref f__law_are_allowed) = true) (b__law_are_allowed : Binds K fd__law_are_allowed ["_law_s", "_law_t", "_law_rho"] []) :
    FnG P w K mg base CX0 8 f fd ["_law_script"] (spP K [.ro] S_law) := by
  refine fnP W sc_law rfl fun cdv A out s H E Nn hr hgd => ⟨_, _, (dss_cons (ds_setL (i := 1) sc_law.nd (pl_callF G__law_bag m__law_bag (hr.mono (by decide)) hgd rfl g__law_bag k__law_bag b__law_bag (pda_cons (pdv 0) pda_nil)) fixP)
      (dss_cons (ds_for PassesOwn.never rfl (pdi_range1 rfl T.b_range (pda_cons pd_int pda_nil)) (pgd_name (i := 2) sc_law.nd) (dss_cons (ds_asg (pd_callBag G__law_some_couple m__law_some_couple (hr.mono (by decide)) hgd rfl g__law_some_couple k__law_some_couple b__law_some_couple (pda_cons (pdv 1) pda_nil)) (pgd_tup (n := 4) rfl (pgds_cons (pgd_name (i := 3) sc_law.nd) (pgds_cons (pgd_name (i := 4) sc_law.nd) (pgds_cons (pgd_name (i := 5) sc_law.nd) (pgds_cons (pgd_name (i := 6) sc_law.nd) pgds_nil))))) nofixP)
      (dss_cons (ds_par (i := 7) (j := 8) rfl sc_law.nd (pda_cons (pd_callBag G__law_fraction m__law_fraction (hr.mono (by decide)) hgd rfl g__law_fraction k__law_fraction b__law_fraction (pda_cons (pdv 1) pda_nil)) (pda_cons (pd_callBag G__law_fraction m__law_fraction (hr.mono (by decide)) hgd rfl g__law_fraction k__law_fraction b__law_fraction (pda_cons (pdv 1) pda_nil)) pda_nil)) fixP fixP)
      (dss_cons (ds_set (i := 9) sc_law.nd (pd_l (pl_lst (pda_cons (pd_callP G__law_place m__law_place (hr.mono (by decide)) hgd rfl g__law_place k__law_place b__law_place (pda_cons (pdv 3) (pda_cons (pdv 7) pda_nil))) (pda_cons (pd_callP G__law_gap_squared m__law_gap_squared (hr.mono (by decide)) hgd rfl g__law_gap_squared k__law_gap_squared b__law_gap_squared (pda_cons (pdv 3) (pda_cons (pdv 4) (pda_cons (pdv 7) (pda_cons (pdv 8) pda_nil))))) (pda_cons (pd_tupleOf rfl T.b_tuple (pda_cons (pd_callP G__law_worth_order m__law_worth_order (hr.mono (by decide)) hgd rfl g__law_worth_order k__law_worth_order b__law_worth_order (pda_cons (pd_callP G__law_corners m__law_corners (hr.mono (by decide)) hgd rfl g__law_corners k__law_corners b__law_corners (pda_cons (pdv 5) pda_nil)) pda_nil)) pda_nil)) pda_nil))))) fixP)
      (dss_cons (ds_if (pt_no (pt_v (pd_callP G__law_alike m__law_alike (hr.mono (by decide)) hgd rfl g__law_alike k__law_alike b__law_alike (pda_cons (pd_l (pl_lst (pda_cons (pd_callP G_place_on m_place_on (hr.mono (by decide)) hgd rfl g_place_on k_place_on b_place_on (pda_cons (pdv 3) (pda_cons (pdv 7) pda_nil))) (pda_cons (pd_callP G_squared_at m_squared_at (hr.mono (by decide)) hgd rfl g_squared_at k_squared_at b_squared_at (pda_cons (pdv 3) (pda_cons (pdv 4) (pda_cons (pdv 7) (pda_cons (pdv 8) pda_nil))))) (pda_cons (pd_callP G_corners_of m_corners_of (hr.mono (by decide)) hgd rfl g_corners_of k_corners_of b_corners_of (pda_cons (pdv 5) pda_nil)) pda_nil))))) (pda_cons (pdv 9) pda_nil))))) (dss_one (ds_ret pd_bl)) dss_nil)
      (dss_cons (ds_set (i := 10) sc_law.nd (pd_l (pl_lst (pda_cons (pdv 7) (pda_cons (pdv 8) (pda_cons (pd_tup (pda_cons (pd_neg pd_int) (pda_cons pd_int pda_nil))) (pda_cons (pd_tup (pda_cons pd_int (pda_cons pd_int pda_nil))) (pda_cons (pd_callP G__law_lessened m__law_lessened (hr.mono (by decide)) hgd rfl g__law_lessened k__law_lessened b__law_lessened (pda_cons (pdv 7) (pda_cons (pdv 5) pda_nil))) (pda_cons (pd_callP G__law_added m__law_added (hr.mono (by decide)) hgd rfl g__law_added k__law_added b__law_added (pda_cons (pdv 8) (pda_cons (pdv 5) pda_nil))) (pda_cons (pd_tup (pda_cons pd_int (pda_cons pd_int pda_nil))) (pda_cons (pd_tup (pda_cons pd_int (pda_cons pd_int pda_nil))) (pda_cons (pd_tup (pda_cons pd_int (pda_cons pd_int pda_nil))) pda_nil))))))))))) fixP)
      (dss_one (ds_for PassesOwn.never rfl (pdi_range1 rfl T.b_range (pda_cons pd_int pda_nil)) (pgd_name (i := 11) sc_law.nd) (dss_cons (ds_par (i := 12) (j := 13) rfl sc_law.nd (pda_cons (pd_callBag G__law_some m__law_some (hr.mono (by decide)) hgd rfl g__law_some k__law_some b__law_some (pda_cons (pdv 1) (pda_cons (pdv 10) pda_nil))) (pda_cons (pd_callBag G__law_some m__law_some (hr.mono (by decide)) hgd rfl g__law_some k__law_some b__law_some (pda_cons (pdv 1) (pda_cons (pdv 10) pda_nil))) pda_nil)) fixP fixP)
      (dss_one (ds_if (pt_no (pt_v (pd_callP G__law_alike m__law_alike (hr.mono (by decide)) hgd rfl g__law_alike k__law_alike b__law_alike (pda_cons (pd_callP G_is_within m_is_within (hr.mono (by decide)) hgd rfl g_is_within k_is_within b_is_within (pda_cons (pdv 12) (pda_cons (pdv 13) (pda_cons (pdv 5) pda_nil)))) (pda_cons (pd_callP G__law_are_allowed m__law_are_allowed (hr.mono (by decide)) hgd rfl g__law_are_allowed k__law_are_allowed b__law_are_allowed (pda_cons (pdv 12) (pda_cons (pdv 13) (pda_cons (pdv 5) pda_nil)))) pda_nil))))) (dss_one (ds_ret pd_bl)) dss_nil))) nofixP))))))) nofixP)
      (dss_one (ds_ret pd_bl)))), ?_⟩
  clear W T hr hgd
  rintro xs Q hl ⟨ns, rfl, hQ⟩
  clear hl
  have e : rhoP nm_law.length [.ro] [.list (ns.map .int)] = [some (.ro (.list (ns.map .int))), none, none, none, none, none, none, none, none, none, none, none, none, none] := rfl
  rw [e]
  clear e
  refine seqI fun kk hk => ?_
  simp only [dSeq, dAsg, dCB, dCons, dNil, dVar, onVs, vals, val, slot, setR, fGcd, dIfS, dTV, dOp, dBin, onV2, fLt, fLe, fGt, fGe, fAdd, fSub, fMul, fDiv, fMod, fI0, dC, dUn, onV, fNeg, dNext, dRet, dTup, onD, dats, fDivZ, fI, fPow, Few, retP, fAbs, fInt, fMax, fMin, fLen, fSqrt, fEq, fNe, dNot, dAnd, dOr, dAndV, dOrV, dNotV, dIfE, dDrop, dRetN, dPar, noO, dSetL, dLst, dOfL, dOwnM, onOwn, onDat, kAppend, kInsert, dSetItem, dAddItem, dIx, onItems, items, onInt, dNoPart, dPart, dSlice, onL, litems, dSlL, dCat, onM, mitems, dTupOf, dSeqI, dRng1, dRng2, dCallP, dCallB, dCallF, noSelf, onArgs, dats2, dIsi, tyName, dYes, dgTup, dgCons, dgNil, retB, dBreak, dCont, ne_eq, not_false_eq_true, true_and, and_true, List.getElem?_cons_zero, List.getElem?_cons_succ, List.set_cons_zero, List.set_cons_succ, Option.map, List.length_cons, List.length_nil, dLc_eq, dFor_eq, dSortSet, dSort, dListOf, dIsN, dNotN, isNo, dAug, dCatT, dSlT, onT, titems, dEnum, dZip, seqs, dRetL, dPar3, dRevT, dLstRg, dTupRg, dRg1, dRg2, dChainLe, List.nil_append, List.cons_append, if_true, if_false, dFrz, dLcO, List.map_cons, List.map_nil, fw0, fw1, fw2, fw3, fw4, fw5, fw6, fw7, fw8, fw9, fw10, fw11, fw12, fw13, fw14, fw15]
  refine ⟨ns, rfl, fun bag hb => ?_⟩
  rw [hk]
  refine seqI fun k2 hk2 => ?_
  simp only [dSeq, dAsg, dCB, dCons, dNil, dVar, onVs, vals, val, slot, setR, fGcd, dIfS, dTV, dOp, dBin, onV2, fLt, fLe, fGt, fGe, fAdd, fSub, fMul, fDiv, fMod, fI0, dC, dUn, onV, fNeg, dNext, dRet, dTup, onD, dats, fDivZ, fI, fPow, Few, retP, fAbs, fInt, fMax, fMin, fLen, fSqrt, fEq, fNe, dNot, dAnd, dOr, dAndV, dOrV, dNotV, dIfE, dDrop, dRetN, dPar, noO, dSetL, dLst, dOfL, dOwnM, onOwn, onDat, kAppend, kInsert, dSetItem, dAddItem, dIx, onItems, items, onInt, dNoPart, dPart, dSlice, onL, litems, dSlL, dCat, onM, mitems, dTupOf, dSeqI, dRng1, dRng2, dCallP, dCallB, dCallF, noSelf, onArgs, dats2, dIsi, tyName, dYes, dgTup, dgCons, dgNil, retB, dBreak, dCont, ne_eq, not_false_eq_true, true_and, and_true, List.getElem?_cons_zero, List.getElem?_cons_succ, List.set_cons_zero, List.set_cons_succ, Option.map, List.length_cons, List.length_nil, dLc_eq, dFor_eq, dSortSet, dSort, dListOf, dIsN, dNotN, isNo, dAug, dCatT, dSlT, onT, titems, dEnum, dZip, seqs, dRetL, dPar3, dRevT, dLstRg, dTupRg, dRg1, dRg2, dChainLe, List.nil_append, List.cons_append, if_true, if_false, dFrz, dLcO, List.map_cons, List.map_nil, fw0, fw1, fw2, fw3, fw4, fw5, fw6, fw7, fw8, fw9, fw10, fw11, fw12, fw13, fw14, fw15]
  refine ⟨⟨by decide, by decide⟩, for_rng (S := List PyData × (Nat → Option Ent)) 0 _ (fun z => [some (.ro (.list (ns.map .int))), some (.own z.1), z.2 0, z.2 1, z.2 2, z.2 3, z.2 4, z.2 5, z.2 6, z.2 7, z.2 8, z.2 9, z.2 10, z.2 11]) (fun i z => Bag (1000 * i) z.1) (bag, fun _ => none) rfl hb (fun i z hi hI C hC => ?_) fun z hz => ?_⟩
  · have hC' : ∀ (b : List PyData) (a0 a1 a2 a3 a4 a5 a6 a7 a8 a9 a10 a11 : Option Ent), Bag (1000 * i + 1000) b → C [some (.ro (.list (ns.map .int))), some (.own b), a0, a1, a2, a3, a4, a5, a6, a7, a8, a9, a10, a11] := fun b a0 a1 a2 a3 a4 a5 a6 a7 a8 a9 a10 a11 h => hC (b, fun n => ([a0, a1, a2, a3, a4, a5, a6, a7, a8, a9, a10, a11] : List (Option Ent)).getD n none) (by rw [Nat.mul_succ]; exact h)
    clear hC
    have hi2 : 1000 * i + 1000 ≤ 6000 := by omega
    simp only [setR, List.set_cons_succ, List.set_cons_zero]
    refine seqI fun k3 hk3 => ?_
    simp only [dSeq, dAsg, dCB, dCons, dNil, dVar, onVs, vals, val, slot, setR, fGcd, dIfS, dTV, dOp, dBin, onV2, fLt, fLe, fGt, fGe, fAdd, fSub, fMul, fDiv, fMod, fI0, dC, dUn, onV, fNeg, dNext, dRet, dTup, onD, dats, fDivZ, fI, fPow, Few, retP, fAbs, fInt, fMax, fMin, fLen, fSqrt, fEq, fNe, dNot, dAnd, dOr, dAndV, dOrV, dNotV, dIfE, dDrop, dRetN, dPar, noO, dSetL, dLst, dOfL, dOwnM, onOwn, onDat, kAppend, kInsert, dSetItem, dAddItem, dIx, onItems, items, onInt, dNoPart, dPart, dSlice, onL, litems, dSlL, dCat, onM, mitems, dTupOf, dSeqI, dRng1, dRng2, dCallP, dCallB, dCallF, noSelf, onArgs, dats2, dIsi, tyName, dYes, dgTup, dgCons, dgNil, retB, dBreak, dCont, ne_eq, not_false_eq_true, true_and, and_true, List.getElem?_cons_zero, List.getElem?_cons_succ, List.set_cons_zero, List.set_cons_succ, Option.map, List.length_cons, List.length_nil, dLc_eq, dFor_eq, dSortSet, dSort, dListOf, dIsN, dNotN, isNo, dAug, dCatT, dSlT, onT, titems, dEnum, dZip, seqs, dRetL, dPar3, dRevT, dLstRg, dTupRg, dRg1, dRg2, dChainLe, List.nil_append, List.cons_append, if_true, if_false, dFrz, dLcO, List.map_cons, List.map_nil, fw0, fw1, fw2, fw3, fw4, fw5, fw6, fw7, fw8, fw9, fw10, fw11, fw12, fw13, fw14, fw15]
    refine u__law_some_couple hI (by omega) fun y bag1 hy hb1 => ?_
    obtain ⟨l, o, rho, r, rfl, hl, ho, r0, r1, sr, ra, rb⟩ := hy
    simp only [dSeq, dAsg, dCB, dCons, dNil, dVar, onVs, vals, val, slot, setR, fGcd, dIfS, dTV, dOp, dBin, onV2, fLt, fLe, fGt, fGe, fAdd, fSub, fMul, fDiv, fMod, fI0, dC, dUn, onV, fNeg, dNext, dRet, dTup, onD, dats, fDivZ, fI, fPow, Few, retP, fAbs, fInt, fMax, fMin, fLen, fSqrt, fEq, fNe, dNot, dAnd, dOr, dAndV, dOrV, dNotV, dIfE, dDrop, dRetN, dPar, noO, dSetL, dLst, dOfL, dOwnM, onOwn, onDat, kAppend, kInsert, dSetItem, dAddItem, dIx, onItems, items, onInt, dNoPart, dPart, dSlice, onL, litems, dSlL, dCat, onM, mitems, dTupOf, dSeqI, dRng1, dRng2, dCallP, dCallB, dCallF, noSelf, onArgs, dats2, dIsi, tyName, dYes, dgTup, dgCons, dgNil, retB, dBreak, dCont, ne_eq, not_false_eq_true, true_and, and_true, List.getElem?_cons_zero, List.getElem?_cons_succ, List.set_cons_zero, List.set_cons_succ, Option.map, List.length_cons, List.length_nil, dLc_eq, dFor_eq, dSortSet, dSort, dListOf, dIsN, dNotN, isNo, dAug, dCatT, dSlT, onT, titems, dEnum, dZip, seqs, dRetL, dPar3, dRevT, dLstRg, dTupRg, dRg1, dRg2, dChainLe, List.nil_append, List.cons_append, if_true, if_false, dFrz, dLcO, List.map_cons, List.map_nil, fw0, fw1, fw2, fw3, fw4, fw5, fw6, fw7, fw8, fw9, fw10, fw11, fw12, fw13, fw14, fw15]
    rw [hk3]
    refine seqI fun k4 hk4 => ?_
    simp only [dSeq, dAsg, dCB, dCons, dNil, dVar, onVs, vals, val, slot, setR, fGcd, dIfS, dTV, dOp, dBin, onV2, fLt, fLe, fGt, fGe, fAdd, fSub, fMul, fDiv, fMod, fI0, dC, dUn, onV, fNeg, dNext, dRet, dTup, onD, dats, fDivZ, fI, fPow, Few, retP, fAbs, fInt, fMax, fMin, fLen, fSqrt, fEq, fNe, dNot, dAnd, dOr, dAndV, dOrV, dNotV, dIfE, dDrop, dRetN, dPar, noO, dSetL, dLst, dOfL, dOwnM, onOwn, onDat, kAppend, kInsert, dSetItem, dAddItem, dIx, onItems, items, onInt, dNoPart, dPart, dSlice, onL, litems, dSlL, dCat, onM, mitems, dTupOf, dSeqI, dRng1, dRng2, dCallP, dCallB, dCallF, noSelf, onArgs, dats2, dIsi, tyName, dYes, dgTup, dgCons, dgNil, retB, dBreak, dCont, ne_eq, not_false_eq_true, true_and, and_true, List.getElem?_cons_zero, List.getElem?_cons_succ, List.set_cons_zero, List.set_cons_succ, Option.map, List.length_cons, List.length_nil, dLc_eq, dFor_eq, dSortSet, dSort, dListOf, dIsN, dNotN, isNo, dAug, dCatT, dSlT, onT, titems, dEnum, dZip, seqs, dRetL, dPar3, dRevT, dLstRg, dTupRg, dRg1, dRg2, dChainLe, List.nil_append, List.cons_append, if_true, if_false, dFrz, dLcO, List.map_cons, List.map_nil, fw0, fw1, fw2, fw3, fw4, fw5, fw6, fw7, fw8, fw9, fw10, fw11, fw12, fw13, fw14, fw15]
    refine u__law_fraction hb1 (by omega) fun y bag2 hy hb2 => ?_
    refine u__law_fraction hb2 (by omega) fun y2 bag3 hy2 hb3 => ?_
    obtain ⟨s, rfl, s0, s1, ss⟩ := hy
    obtain ⟨t, rfl, t0, t1, st⟩ := hy2
    rw [hk4]
    refine seqI fun k5 hk5 => ?_
    have hcr : ∀ c ∈ crn rho, Sz 21 c.1 ∧ Sz 21 c.2 := fun c hc => by
      obtain ⟨hd, hc2⟩ := crn_ok (sr.up (by decide : 7 ≤ 20))
      exact ⟨(hc2 c hc).s hd, (hc2 c hc).t hd⟩
    simp only [dSeq, dAsg, dCB, dCons, dNil, dVar, onVs, vals, val, slot, setR, fGcd, dIfS, dTV, dOp, dBin, onV2, fLt, fLe, fGt, fGe, fAdd, fSub, fMul, fDiv, fMod, fI0, dC, dUn, onV, fNeg, dNext, dRet, dTup, onD, dats, fDivZ, fI, fPow, Few, retP, fAbs, fInt, fMax, fMin, fLen, fSqrt, fEq, fNe, dNot, dAnd, dOr, dAndV, dOrV, dNotV, dIfE, dDrop, dRetN, dPar, noO, dSetL, dLst, dOfL, dOwnM, onOwn, onDat, kAppend, kInsert, dSetItem, dAddItem, dIx, onItems, items, onInt, dNoPart, dPart, dSlice, onL, litems, dSlL, dCat, onM, mitems, dTupOf, dSeqI, dRng1, dRng2, dCallP, dCallB, dCallF, noSelf, onArgs, dats2, dIsi, tyName, dYes, dgTup, dgCons, dgNil, retB, dBreak, dCont, ne_eq, not_false_eq_true, true_and, and_true, List.getElem?_cons_zero, List.getElem?_cons_succ, List.set_cons_zero, List.set_cons_succ, Option.map, List.length_cons, List.length_nil, dLc_eq, dFor_eq, dSortSet, dSort, dListOf, dIsN, dNotN, isNo, dAug, dCatT, dSlT, onT, titems, dEnum, dZip, seqs, dRetL, dPar3, dRevT, dLstRg, dTupRg, dRg1, dRg2, dChainLe, List.nil_append, List.cons_append, if_true, if_false, dFrz, dLcO, List.map_cons, List.map_nil, fw0, fw1, fw2, fw3, fw4, fw5, fw6, fw7, fw8, fw9, fw10, fw11, fw12, fw13, fw14, fw15]
    refine u__law_place hl ss (by decide) (by decide) (u__law_gap_squared hl ho ss st (by decide) (by decide) (u__law_corners sr (by decide) ?_))
    refine u__law_worth_order (cs := crn rho) (k := 21) (by simp [crn]) hcr (by decide) ?_
    simp only [dSeq, dAsg, dCB, dCons, dNil, dVar, onVs, vals, val, slot, setR, fGcd, dIfS, dTV, dOp, dBin, onV2, fLt, fLe, fGt, fGe, fAdd, fSub, fMul, fDiv, fMod, fI0, dC, dUn, onV, fNeg, dNext, dRet, dTup, onD, dats, fDivZ, fI, fPow, Few, retP, fAbs, fInt, fMax, fMin, fLen, fSqrt, fEq, fNe, dNot, dAnd, dOr, dAndV, dOrV, dNotV, dIfE, dDrop, dRetN, dPar, noO, dSetL, dLst, dOfL, dOwnM, onOwn, onDat, kAppend, kInsert, dSetItem, dAddItem, dIx, onItems, items, onInt, dNoPart, dPart, dSlice, onL, litems, dSlL, dCat, onM, mitems, dTupOf, dSeqI, dRng1, dRng2, dCallP, dCallB, dCallF, noSelf, onArgs, dats2, dIsi, tyName, dYes, dgTup, dgCons, dgNil, retB, dBreak, dCont, ne_eq, not_false_eq_true, true_and, and_true, List.getElem?_cons_zero, List.getElem?_cons_succ, List.set_cons_zero, List.set_cons_succ, Option.map, List.length_cons, List.length_nil, dLc_eq, dFor_eq, dSortSet, dSort, dListOf, dIsN, dNotN, isNo, dAug, dCatT, dSlT, onT, titems, dEnum, dZip, seqs, dRetL, dPar3, dRevT, dLstRg, dTupRg, dRg1, dRg2, dChainLe, List.nil_append, List.cons_append, if_true, if_false, dFrz, dLcO, List.map_cons, List.map_nil, fw0, fw1, fw2, fw3, fw4, fw5, fw6, fw7, fw8, fw9, fw10, fw11, fw12, fw13, fw14, fw15]
    rw [hk5]
    refine seqI fun k6 hk6 => ?_
    simp only [dSeq, dAsg, dCB, dCons, dNil, dVar, onVs, vals, val, slot, setR, fGcd, dIfS, dTV, dOp, dBin, onV2, fLt, fLe, fGt, fGe, fAdd, fSub, fMul, fDiv, fMod, fI0, dC, dUn, onV, fNeg, dNext, dRet, dTup, onD, dats, fDivZ, fI, fPow, Few, retP, fAbs, fInt, fMax, fMin, fLen, fSqrt, fEq, fNe, dNot, dAnd, dOr, dAndV, dOrV, dNotV, dIfE, dDrop, dRetN, dPar, noO, dSetL, dLst, dOfL, dOwnM, onOwn, onDat, kAppend, kInsert, dSetItem, dAddItem, dIx, onItems, items, onInt, dNoPart, dPart, dSlice, onL, litems, dSlL, dCat, onM, mitems, dTupOf, dSeqI, dRng1, dRng2, dCallP, dCallB, dCallF, noSelf, onArgs, dats2, dIsi, tyName, dYes, dgTup, dgCons, dgNil, retB, dBreak, dCont, ne_eq, not_false_eq_true, true_and, and_true, List.getElem?_cons_zero, List.getElem?_cons_succ, List.set_cons_zero, List.set_cons_succ, Option.map, List.length_cons, List.length_nil, dLc_eq, dFor_eq, dSortSet, dSort, dListOf, dIsN, dNotN, isNo, dAug, dCatT, dSlT, onT, titems, dEnum, dZip, seqs, dRetL, dPar3, dRevT, dLstRg, dTupRg, dRg1, dRg2, dChainLe, List.nil_append, List.cons_append, if_true, if_false, dFrz, dLcO, List.map_cons, List.map_nil, fw0, fw1, fw2, fw3, fw4, fw5, fw6, fw7, fw8, fw9, fw10, fw11, fw12, fw13, fw14, fw15]
    refine u_place_on hl ss (by decide) (by decide) (u_squared_at hl ho ss st (by decide) (by decide) (u_corners_of sr (by decide) fun y hy => ?_))
    obtain ⟨qs, hqs, rfl⟩ := hy
    rw [corners_same hqs]
    have hsz := px_sz hl ss (by decide)
    have hsz' := py_sz hl ss (by decide)
    have gz := (((px_sz ho st (by decide)).sub hsz).mul ((px_sz ho st (by decide)).sub hsz)).add (((py_sz ho st (by decide)).sub hsz').mul ((py_sz ho st (by decide)).sub hsz'))
    have wl : ((worthOf (crn rho)).map pf).length ≤ 6 := by
      have a1 := worth_asc (crn rho) [] .nil
      have a2 := nodup_le (xs := worthOf (crn rho)) (ys := crn rho) (List.Pairwise.imp (R := DV.lexLt) (fun {a b} h (e : a = b) => lexLt_irr (e ▸ h)) a1.1) fun x hx => by
        rcases (a1.2 x).mp hx with h | h
        · exact h
        · cases h
      rw [List.length_map]
      exact a2
    have wz : ∀ c ∈ worthOf (crn rho), Fn 2 4025 (pf c) := fun c hc => by
      rcases ((worth_asc (crn rho) [] .nil).2 c).mp hc with h | h
      · exact fa_pf (hcr c h).1 (hcr c h).2
      · cases h
    refine u_alike (Fn.fine (Fn.list (n := 3) (all3 ((Fn.tuple (n := 2) (all2 (fa_fr hsz) (fa_fr hsz')) (by simp)).up (by decide : 2 ≤ 3) (by decide : _ ≤ 30000)) ((fa_fr gz).up (by decide) (by decide)) ((Fn.tuple (n := 6) (Fn.map wz) wl).up (by decide) (by decide))) (by simp))) ?_
    simp only [dSeq, dAsg, dCB, dCons, dNil, dVar, onVs, vals, val, slot, setR, fGcd, dIfS, dTV, dOp, dBin, onV2, fLt, fLe, fGt, fGe, fAdd, fSub, fMul, fDiv, fMod, fI0, dC, dUn, onV, fNeg, dNext, dRet, dTup, onD, dats, fDivZ, fI, fPow, Few, retP, fAbs, fInt, fMax, fMin, fLen, fSqrt, fEq, fNe, dNot, dAnd, dOr, dAndV, dOrV, dNotV, dIfE, dDrop, dRetN, dPar, noO, dSetL, dLst, dOfL, dOwnM, onOwn, onDat, kAppend, kInsert, dSetItem, dAddItem, dIx, onItems, items, onInt, dNoPart, dPart, dSlice, onL, litems, dSlL, dCat, onM, mitems, dTupOf, dSeqI, dRng1, dRng2, dCallP, dCallB, dCallF, noSelf, onArgs, dats2, dIsi, tyName, dYes, dgTup, dgCons, dgNil, retB, dBreak, dCont, ne_eq, not_false_eq_true, true_and, and_true, List.getElem?_cons_zero, List.getElem?_cons_succ, List.set_cons_zero, List.set_cons_succ, Option.map, List.length_cons, List.length_nil, dLc_eq, dFor_eq, dSortSet, dSort, dListOf, dIsN, dNotN, isNo, dAug, dCatT, dSlT, onT, titems, dEnum, dZip, seqs, dRetL, dPar3, dRevT, dLstRg, dTupRg, dRg1, dRg2, dChainLe, List.nil_append, List.cons_append, if_true, if_false, dFrz, dLcO, List.map_cons, List.map_nil, fw0, fw1, fw2, fw3, fw4, fw5, fw6, fw7, fw8, fw9, fw10, fw11, fw12, fw13, fw14, fw15, Bool.not_true, Bool.false_eq_true]
    rw [hk6]
    refine seqI fun k7 hk7 => ?_
    simp only [dSeq, dAsg, dCB, dCons, dNil, dVar, onVs, vals, val, slot, setR, fGcd, dIfS, dTV, dOp, dBin, onV2, fLt, fLe, fGt, fGe, fAdd, fSub, fMul, fDiv, fMod, fI0, dC, dUn, onV, fNeg, dNext, dRet, dTup, onD, dats, fDivZ, fI, fPow, Few, retP, fAbs, fInt, fMax, fMin, fLen, fSqrt, fEq, fNe, dNot, dAnd, dOr, dAndV, dOrV, dNotV, dIfE, dDrop, dRetN, dPar, noO, dSetL, dLst, dOfL, dOwnM, onOwn, onDat, kAppend, kInsert, dSetItem, dAddItem, dIx, onItems, items, onInt, dNoPart, dPart, dSlice, onL, litems, dSlL, dCat, onM, mitems, dTupOf, dSeqI, dRng1, dRng2, dCallP, dCallB, dCallF, noSelf, onArgs, dats2, dIsi, tyName, dYes, dgTup, dgCons, dgNil, retB, dBreak, dCont, ne_eq, not_false_eq_true, true_and, and_true, List.getElem?_cons_zero, List.getElem?_cons_succ, List.set_cons_zero, List.set_cons_succ, Option.map, List.length_cons, List.length_nil, dLc_eq, dFor_eq, dSortSet, dSort, dListOf, dIsN, dNotN, isNo, dAug, dCatT, dSlT, onT, titems, dEnum, dZip, seqs, dRetL, dPar3, dRevT, dLstRg, dTupRg, dRg1, dRg2, dChainLe, List.nil_append, List.cons_append, if_true, if_false, dFrz, dLcO, List.map_cons, List.map_nil, fw0, fw1, fw2, fw3, fw4, fw5, fw6, fw7, fw8, fw9, fw10, fw11, fw12, fw13, fw14, fw15]
    refine u__law_lessened ss sr (by decide) (u__law_added st sr (by decide) ?_)
    rw [hk7]
    clear hk7 hk6 hk5 hk4 hk3
    simp only [dSeq, dAsg, dCB, dCons, dNil, dVar, onVs, vals, val, slot, setR, fGcd, dIfS, dTV, dOp, dBin, onV2, fLt, fLe, fGt, fGe, fAdd, fSub, fMul, fDiv, fMod, fI0, dC, dUn, onV, fNeg, dNext, dRet, dTup, onD, dats, fDivZ, fI, fPow, Few, retP, fAbs, fInt, fMax, fMin, fLen, fSqrt, fEq, fNe, dNot, dAnd, dOr, dAndV, dOrV, dNotV, dIfE, dDrop, dRetN, dPar, noO, dSetL, dLst, dOfL, dOwnM, onOwn, onDat, kAppend, kInsert, dSetItem, dAddItem, dIx, onItems, items, onInt, dNoPart, dPart, dSlice, onL, litems, dSlL, dCat, onM, mitems, dTupOf, dSeqI, dRng1, dRng2, dCallP, dCallB, dCallF, noSelf, onArgs, dats2, dIsi, tyName, dYes, dgTup, dgCons, dgNil, retB, dBreak, dCont, ne_eq, not_false_eq_true, true_and, and_true, List.getElem?_cons_zero, List.getElem?_cons_succ, List.set_cons_zero, List.set_cons_succ, Option.map, List.length_cons, List.length_nil, dLc_eq, dFor_eq, dSortSet, dSort, dListOf, dIsN, dNotN, isNo, dAug, dCatT, dSlT, onT, titems, dEnum, dZip, seqs, dRetL, dPar3, dRevT, dLstRg, dTupRg, dRg1, dRg2, dChainLe, List.nil_append, List.cons_append, if_true, if_false, dFrz, dLcO, List.map_cons, List.map_nil, fw0, fw1, fw2, fw3, fw4, fw5, fw6, fw7, fw8, fw9, fw10, fw11, fw12, fw13, fw14, fw15]
    refine ⟨⟨by decide, by decide⟩, for_rng (S := List PyData × Option Ent × Option Ent × Option Ent) 0 _ (fun z' => [some (.ro (.list (ns.map .int))), some (.own z'.1), some (.d (.int (0 + (i : Int)))), some (.d (eL l)), some (.d (eL o)), some (.d (fr rho)), some (.d (.int r)), some (.d (fr s)), some (.d (fr t)), some (.d (.list [.tuple [fr (px l s), fr (py l s)], fr (gsq l o s t), .tuple ((worthOf (crn rho)).map pf)])), some (.d (.list [fr s, fr t, .tuple [.int (-1), .int 9], .tuple [.int 10, .int 9], fr (s - rho), fr (t + rho), .tuple [.int 2, .int 1], .tuple [.int 0, .int 1], .tuple [.int 1, .int 1]])), z'.2.1, z'.2.2.1, z'.2.2.2]) (fun j z' => Bag (1000 * i + 64 + 2 * j) z'.1) (bag3, z.2 9, z.2 10, z.2 11) rfl hb3 (fun j z' hj hJ C2 hC2 => ?_) fun z' hz' => hC' _ _ _ _ _ _ _ _ _ _ _ _ _ (hz'.up (by omega))⟩
    have hw : ∀ y ∈ [fr s, fr t, .tuple [.int (-1), .int 9], .tuple [.int 10, .int 9], fr (s - rho), fr (t + rho), .tuple [.int 2, .int 1], .tuple [.int 0, .int 1], .tuple [.int 1, .int 1]], ∃ q : Rat, y = fr q ∧ Sz 20 q := fun y hy => by
      simp only [List.mem_cons, List.not_mem_nil, or_false] at hy
      rcases hy with rfl | rfl | rfl | rfl | rfl | rfl | rfl | rfl | rfl
      · exact ⟨s, rfl, ss.up (by decide)⟩
      · exact ⟨t, rfl, st.up (by decide)⟩
      · exact ⟨(-1) /. 9, fr_eq (by decide +kernel) (by decide +kernel), (sz_divInt (j := 4) (k := 4) (by unfold Bd; decide) (by unfold Bd; decide) (by decide)).up (by decide)⟩
      · exact ⟨10 /. 9, fr_eq (by decide +kernel) (by decide +kernel), (sz_divInt (j := 4) (k := 4) (by unfold Bd; decide) (by unfold Bd; decide) (by decide)).up (by decide)⟩
      · exact ⟨s - rho, rfl, (ss.sub sr).up (by decide)⟩
      · exact ⟨t + rho, rfl, (st.add sr).up (by decide)⟩
      · exact ⟨((2 : Int) : Rat), rfl, Sz.int1 (by unfold Bd; decide)⟩
      · exact ⟨0, rfl, sz_zero⟩
      · exact ⟨1, rfl, sz_one⟩
    simp only [dSeq, dAsg, dCB, dCons, dNil, dVar, onVs, vals, val, slot, setR, fGcd, dIfS, dTV, dOp, dBin, onV2, fLt, fLe, fGt, fGe, fAdd, fSub, fMul, fDiv, fMod, fI0, dC, dUn, onV, fNeg, dNext, dRet, dTup, onD, dats, fDivZ, fI, fPow, Few, retP, fAbs, fInt, fMax, fMin, fLen, fSqrt, fEq, fNe, dNot, dAnd, dOr, dAndV, dOrV, dNotV, dIfE, dDrop, dRetN, dPar, noO, dSetL, dLst, dOfL, dOwnM, onOwn, onDat, kAppend, kInsert, dSetItem, dAddItem, dIx, onItems, items, onInt, dNoPart, dPart, dSlice, onL, litems, dSlL, dCat, onM, mitems, dTupOf, dSeqI, dRng1, dRng2, dCallP, dCallB, dCallF, noSelf, onArgs, dats2, dIsi, tyName, dYes, dgTup, dgCons, dgNil, retB, dBreak, dCont, ne_eq, not_false_eq_true, true_and, and_true, List.getElem?_cons_zero, List.getElem?_cons_succ, List.set_cons_zero, List.set_cons_succ, Option.map, List.length_cons, List.length_nil, dLc_eq, dFor_eq, dSortSet, dSort, dListOf, dIsN, dNotN, isNo, dAug, dCatT, dSlT, onT, titems, dEnum, dZip, seqs, dRetL, dPar3, dRevT, dLstRg, dTupRg, dRg1, dRg2, dChainLe, List.nil_append, List.cons_append, if_true, if_false, dFrz, dLcO, List.map_cons, List.map_nil, fw0, fw1, fw2, fw3, fw4, fw5, fw6, fw7, fw8, fw9, fw10, fw11, fw12, fw13, fw14, fw15]
    refine u_some hJ (by omega) (by simp) (by simp) fun y hy bag4 hb4 => ?_
    refine u_some hb4 (by omega) (by simp) (by simp) fun y2 hy2 bag5 hb5 => ?_
    obtain ⟨p, rfl, sp⟩ := hw y hy
    obtain ⟨q, rfl, sq⟩ := hw y2 hy2
    refine u_is_within sp sq (sr.up (by decide)) (by decide) (u__law_are_allowed sp sq (sr.up (by decide)) (by decide) (u_alike Fn.bool.fine ?_))
    exact hC2 (bag5, some (.d (.int (0 + (j : Int)))), some (.d (fr p)), some (.d (fr q))) (hb5.up (by omega))
  · rw [hk2]
    simp only [dSeq, dAsg, dCB, dCons, dNil, dVar, onVs, vals, val, slot, setR, fGcd, dIfS, dTV, dOp, dBin, onV2, fLt, fLe, fGt, fGe, fAdd, fSub, fMul, fDiv, fMod, fI0, dC, dUn, onV, fNeg, dNext, dRet, dTup, onD, dats, fDivZ, fI, fPow, Few, retP, fAbs, fInt, fMax, fMin, fLen, fSqrt, fEq, fNe, dNot, dAnd, dOr, dAndV, dOrV, dNotV, dIfE, dDrop, dRetN, dPar, noO, dSetL, dLst, dOfL, dOwnM, onOwn, onDat, kAppend, kInsert, dSetItem, dAddItem, dIx, onItems, items, onInt, dNoPart, dPart, dSlice, onL, litems, dSlL, dCat, onM, mitems, dTupOf, dSeqI, dRng1, dRng2, dCallP, dCallB, dCallF, noSelf, onArgs, dats2, dIsi, tyName, dYes, dgTup, dgCons, dgNil, retB, dBreak, dCont, ne_eq, not_false_eq_true, true_and, and_true, List.getElem?_cons_zero, List.getElem?_cons_succ, List.set_cons_zero, List.set_cons_succ, Option.map, List.length_cons, List.length_nil, dLc_eq, dFor_eq, dSortSet, dSort, dListOf, dIsN, dNotN, isNo, dAug, dCatT, dSlT, onT, titems, dEnum, dZip, seqs, dRetL, dPar3, dRevT, dLstRg, dTupRg, dRg1, dRg2, dChainLe, List.nil_append, List.cons_append, if_true, if_false, dFrz, dLcO, List.map_cons, List.map_nil, fw0, fw1, fw2, fw3, fw4, fw5, fw6, fw7, fw8, fw9, fw10, fw11, fw12, fw13, fw14, fw15]
    exact hQ
end
set_option maxHeartbeats 8000000 in
theorem all_mk {l : PySem.W.OpenLaw} {w : World} {K : PySem.W.Frag} {h : Heap} {mg : Str → Option Value} {fa : Addr} (X : K.In h) (G : h.Ns mainGlobals mg) (hfa : mg "law" = some (.ref fa))
    {od1 an1 : Option Addr} {sl1 : Array (Option Value)} {oc1 kV1 dc1 pm1 cd1 ct1 : Value} {f1 : Addr}
    (a1 : PySem.W.nsIn K mainGlobals "reduced" = some (some (.ref f1))) (l1 : K.lookup f1 = some ⟨oc1, od1, .func (PySem.W.fnOf "reduced" "reduced" (defArgs s_reduced) (defBody s_reduced) (defScope s_reduced) .none kV1 dc1 pm1 an1 cd1 ct1), sl1⟩) (c1 : PySem.W.codeIn K cd1 "reduced" = true) (k1 : PySem.W.keepIn K (.ref f1) = true)
    {od2 an2 : Option Addr} {sl2 : Array (Option Value)} {oc2 kV2 dc2 pm2 cd2 ct2 : Value} {f2 : Addr}
    (a2 : PySem.W.nsIn K mainGlobals "added" = some (some (.ref f2))) (l2 : K.lookup f2 = some ⟨oc2, od2, .func (PySem.W.fnOf "added" "added" (defArgs s_added) (defBody s_added) (defScope s_added) .none kV2 dc2 pm2 an2 cd2 ct2), sl2⟩) (c2 : PySem.W.codeIn K cd2 "added" = true) (k2 : PySem.W.keepIn K (.ref f2) = true)
    {od3 an3 : Option Addr} {sl3 : Array (Option Value)} {oc3 kV3 dc3 pm3 cd3 ct3 : Value} {f3 : Addr}
    (a3 : PySem.W.nsIn K mainGlobals "lessened" = some (some (.ref f3))) (l3 : K.lookup f3 = some ⟨oc3, od3, .func (PySem.W.fnOf "lessened" "lessened" (defArgs s_lessened) (defBody s_lessened) (defScope s_lessened) .none kV3 dc3 pm3 an3 cd3 ct3), sl3⟩) (c3 : PySem.W.codeIn K cd3 "lessened" = true) (k3 : PySem.W.keepIn K (.ref f3) = true)
    {od4 an4 : Option Addr} {sl4 : Array (Option Value)} {oc4 kV4 dc4 pm4 cd4 ct4 : Value} {f4 : Addr}
    (a4 : PySem.W.nsIn K mainGlobals "times" = some (some (.ref f4))) (l4 : K.lookup f4 = some ⟨oc4, od4, .func (PySem.W.fnOf "times" "times" (defArgs s_times) (defBody s_times) (defScope s_times) .none kV4 dc4 pm4 an4 cd4 ct4), sl4⟩) (c4 : PySem.W.codeIn K cd4 "times" = true) (k4 : PySem.W.keepIn K (.ref f4) = true)
    {od5 an5 : Option Addr} {sl5 : Array (Option Value)} {oc5 kV5 dc5 pm5 cd5 ct5 : Value} {f5 : Addr}
    (a5 : PySem.W.nsIn K mainGlobals "compared" = some (some (.ref f5))) (l5 : K.lookup f5 = some ⟨oc5, od5, .func (PySem.W.fnOf "compared" "compared" (defArgs s_compared) (defBody s_compared) (defScope s_compared) .none kV5 dc5 pm5 an5 cd5 ct5), sl5⟩) (c5 : PySem.W.codeIn K cd5 "compared" = true) (k5 : PySem.W.keepIn K (.ref f5) = true)
    {od6 an6 : Option Addr} {sl6 : Array (Option Value)} {oc6 kV6 dc6 pm6 cd6 ct6 : Value} {f6 : Addr}
    (a6 : PySem.W.nsIn K mainGlobals "clipped" = some (some (.ref f6))) (l6 : K.lookup f6 = some ⟨oc6, od6, .func (PySem.W.fnOf "clipped" "clipped" (defArgs s_clipped) (defBody s_clipped) (defScope s_clipped) .none kV6 dc6 pm6 an6 cd6 ct6), sl6⟩) (c6 : PySem.W.codeIn K cd6 "clipped" = true) (k6 : PySem.W.keepIn K (.ref f6) = true)
    {od7 an7 : Option Addr} {sl7 : Array (Option Value)} {oc7 kV7 dc7 pm7 cd7 ct7 : Value} {f7 : Addr}
    (a7 : PySem.W.nsIn K mainGlobals "place_on" = some (some (.ref f7))) (l7 : K.lookup f7 = some ⟨oc7, od7, .func (PySem.W.fnOf "place_on" "place_on" (defArgs s_place_on) (defBody s_place_on) (defScope s_place_on) .none kV7 dc7 pm7 an7 cd7 ct7), sl7⟩) (c7 : PySem.W.codeIn K cd7 "place_on" = true) (k7 : PySem.W.keepIn K (.ref f7) = true)
    {od8 an8 : Option Addr} {sl8 : Array (Option Value)} {oc8 kV8 dc8 pm8 cd8 ct8 : Value} {f8 : Addr}
    (a8 : PySem.W.nsIn K mainGlobals "gap_at" = some (some (.ref f8))) (l8 : K.lookup f8 = some ⟨oc8, od8, .func (PySem.W.fnOf "gap_at" "gap_at" (defArgs s_gap_at) (defBody s_gap_at) (defScope s_gap_at) .none kV8 dc8 pm8 an8 cd8 ct8), sl8⟩) (c8 : PySem.W.codeIn K cd8 "gap_at" = true) (k8 : PySem.W.keepIn K (.ref f8) = true)
    {od9 an9 : Option Addr} {sl9 : Array (Option Value)} {oc9 kV9 dc9 pm9 cd9 ct9 : Value} {f9 : Addr}
    (a9 : PySem.W.nsIn K mainGlobals "squared_at" = some (some (.ref f9))) (l9 : K.lookup f9 = some ⟨oc9, od9, .func (PySem.W.fnOf "squared_at" "squared_at" (defArgs s_squared_at) (defBody s_squared_at) (defScope s_squared_at) .none kV9 dc9 pm9 an9 cd9 ct9), sl9⟩) (c9 : PySem.W.codeIn K cd9 "squared_at" = true) (k9 : PySem.W.keepIn K (.ref f9) = true)
    {od10 an10 : Option Addr} {sl10 : Array (Option Value)} {oc10 kV10 dc10 pm10 cd10 ct10 : Value} {f10 : Addr}
    (a10 : PySem.W.nsIn K mainGlobals "_corners_around" = some (some (.ref f10))) (l10 : K.lookup f10 = some ⟨oc10, od10, .func (PySem.W.fnOf "_corners_around" "_corners_around" (defArgs s__corners_around) (defBody s__corners_around) (defScope s__corners_around) .none kV10 dc10 pm10 an10 cd10 ct10), sl10⟩) (c10 : PySem.W.codeIn K cd10 "_corners_around" = true) (k10 : PySem.W.keepIn K (.ref f10) = true)
    {od11 an11 : Option Addr} {sl11 : Array (Option Value)} {oc11 kV11 dc11 pm11 cd11 ct11 : Value} {f11 : Addr}
    (a11 : PySem.W.nsIn K mainGlobals "corners_of" = some (some (.ref f11))) (l11 : K.lookup f11 = some ⟨oc11, od11, .func (PySem.W.fnOf "corners_of" "corners_of" (defArgs s_corners_of) (defBody s_corners_of) (defScope s_corners_of) .none kV11 dc11 pm11 an11 cd11 ct11), sl11⟩) (c11 : PySem.W.codeIn K cd11 "corners_of" = true) (k11 : PySem.W.keepIn K (.ref f11) = true)
    {od12 an12 : Option Addr} {sl12 : Array (Option Value)} {oc12 kV12 dc12 pm12 cd12 ct12 : Value} {f12 : Addr}
    (a12 : PySem.W.nsIn K mainGlobals "is_within" = some (some (.ref f12))) (l12 : K.lookup f12 = some ⟨oc12, od12, .func (PySem.W.fnOf "is_within" "is_within" (defArgs s_is_within) (defBody s_is_within) (defScope s_is_within) .none kV12 dc12 pm12 an12 cd12 ct12), sl12⟩) (c12 : PySem.W.codeIn K cd12 "is_within" = true) (k12 : PySem.W.keepIn K (.ref f12) = true)
    {od13 an13 : Option Addr} {sl13 : Array (Option Value)} {oc13 kV13 dc13 pm13 cd13 ct13 : Value} {f13 : Addr}
    (a13 : PySem.W.nsIn K mainGlobals "_law_bag" = some (some (.ref f13))) (l13 : K.lookup f13 = some ⟨oc13, od13, .func (PySem.W.fnOf "_law_bag" "_law_bag" (defArgs s__law_bag) (defBody s__law_bag) (defScope s__law_bag) .none kV13 dc13 pm13 an13 cd13 ct13), sl13⟩) (c13 : PySem.W.codeIn K cd13 "_law_bag" = true) (k13 : PySem.W.keepIn K (.ref f13) = true)
    {od14 an14 : Option Addr} {sl14 : Array (Option Value)} {oc14 kV14 dc14 pm14 cd14 ct14 : Value} {f14 : Addr}
    (a14 : PySem.W.nsIn K mainGlobals "_law_take" = some (some (.ref f14))) (l14 : K.lookup f14 = some ⟨oc14, od14, .func (PySem.W.fnOf "_law_take" "_law_take" (defArgs s__law_take) (defBody s__law_take) (defScope s__law_take) .none kV14 dc14 pm14 an14 cd14 ct14), sl14⟩) (c14 : PySem.W.codeIn K cd14 "_law_take" = true) (k14 : PySem.W.keepIn K (.ref f14) = true)
    {od15 an15 : Option Addr} {sl15 : Array (Option Value)} {oc15 kV15 dc15 pm15 cd15 ct15 : Value} {f15 : Addr}
    (a15 : PySem.W.nsIn K mainGlobals "_law_some" = some (some (.ref f15))) (l15 : K.lookup f15 = some ⟨oc15, od15, .func (PySem.W.fnOf "_law_some" "_law_some" (defArgs s__law_some) (defBody s__law_some) (defScope s__law_some) .none kV15 dc15 pm15 an15 cd15 ct15), sl15⟩) (c15 : PySem.W.codeIn K cd15 "_law_some" = true) (k15 : PySem.W.keepIn K (.ref f15) = true)
    {od16 an16 : Option Addr} {sl16 : Array (Option Value)} {oc16 kV16 dc16 pm16 cd16 ct16 : Value} {f16 : Addr}
    (a16 : PySem.W.nsIn K mainGlobals "_law_alike" = some (some (.ref f16))) (l16 : K.lookup f16 = some ⟨oc16, od16, .func (PySem.W.fnOf "_law_alike" "_law_alike" (defArgs s__law_alike) (defBody s__law_alike) (defScope s__law_alike) .none kV16 dc16 pm16 an16 cd16 ct16), sl16⟩) (c16 : PySem.W.codeIn K cd16 "_law_alike" = true) (k16 : PySem.W.keepIn K (.ref f16) = true)
    {od17 an17 : Option Addr} {sl17 : Array (Option Value)} {oc17 kV17 dc17 pm17 cd17 ct17 : Value} {f17 : Addr}
    (a17 : PySem.W.nsIn K mainGlobals "_law_over" = some (some (.ref f17))) (l17 : K.lookup f17 = some ⟨oc17, od17, .func (PySem.W.fnOf "_law_over" "_law_over" (defArgs s__law_over) (defBody s__law_over) (defScope s__law_over) .none kV17 dc17 pm17 an17 cd17 ct17), sl17⟩) (c17 : PySem.W.codeIn K cd17 "_law_over" = true) (k17 : PySem.W.keepIn K (.ref f17) = true)
    {od18 an18 : Option Addr} {sl18 : Array (Option Value)} {oc18 kV18 dc18 pm18 cd18 ct18 : Value} {f18 : Addr}
    (a18 : PySem.W.nsIn K mainGlobals "_law_added" = some (some (.ref f18))) (l18 : K.lookup f18 = some ⟨oc18, od18, .func (PySem.W.fnOf "_law_added" "_law_added" (defArgs s__law_added) (defBody s__law_added) (defScope s__law_added) .none kV18 dc18 pm18 an18 cd18 ct18), sl18⟩) (c18 : PySem.W.codeIn K cd18 "_law_added" = true) (k18 : PySem.W.keepIn K (.ref f18) = true)
    {od19 an19 : Option Addr} {sl19 : Array (Option Value)} {oc19 kV19 dc19 pm19 cd19 ct19 : Value} {f19 : Addr}
    (a19 : PySem.W.nsIn K mainGlobals "_law_lessened" = some (some (.ref f19))) (l19 : K.lookup f19 = some ⟨oc19, od19, .func (PySem.W.fnOf "_law_lessened" "_law_lessened" (defArgs s__law_lessened) (defBody s__law_lessened) (defScope s__law_lessened) .none kV19 dc19 pm19 an19 cd19 ct19), sl19⟩) (c19 : PySem.W.codeIn K cd19 "_law_lessened" = true) (k19 : PySem.W.keepIn K (.ref f19) = true)
    {od20 an20 : Option Addr} {sl20 : Array (Option Value)} {oc20 kV20 dc20 pm20 cd20 ct20 : Value} {f20 : Addr}
    (a20 : PySem.W.nsIn K mainGlobals "_law_multiplied" = some (some (.ref f20))) (l20 : K.lookup f20 = some ⟨oc20, od20, .func (PySem.W.fnOf "_law_multiplied" "_law_multiplied" (defArgs s__law_multiplied) (defBody s__law_multiplied) (defScope s__law_multiplied) .none kV20 dc20 pm20 an20 cd20 ct20), sl20⟩) (c20 : PySem.W.codeIn K cd20 "_law_multiplied" = true) (k20 : PySem.W.keepIn K (.ref f20) = true)
    {od21 an21 : Option Addr} {sl21 : Array (Option Value)} {oc21 kV21 dc21 pm21 cd21 ct21 : Value} {f21 : Addr}
    (a21 : PySem.W.nsIn K mainGlobals "_law_divided" = some (some (.ref f21))) (l21 : K.lookup f21 = some ⟨oc21, od21, .func (PySem.W.fnOf "_law_divided" "_law_divided" (defArgs s__law_divided) (defBody s__law_divided) (defScope s__law_divided) .none kV21 dc21 pm21 an21 cd21 ct21), sl21⟩) (c21 : PySem.W.codeIn K cd21 "_law_divided" = true) (k21 : PySem.W.keepIn K (.ref f21) = true)
    {od22 an22 : Option Addr} {sl22 : Array (Option Value)} {oc22 kV22 dc22 pm22 cd22 ct22 : Value} {f22 : Addr}
    (a22 : PySem.W.nsIn K mainGlobals "_law_is_below" = some (some (.ref f22))) (l22 : K.lookup f22 = some ⟨oc22, od22, .func (PySem.W.fnOf "_law_is_below" "_law_is_below" (defArgs s__law_is_below) (defBody s__law_is_below) (defScope s__law_is_below) .none kV22 dc22 pm22 an22 cd22 ct22), sl22⟩) (c22 : PySem.W.codeIn K cd22 "_law_is_below" = true) (k22 : PySem.W.keepIn K (.ref f22) = true)
    {od23 an23 : Option Addr} {sl23 : Array (Option Value)} {oc23 kV23 dc23 pm23 cd23 ct23 : Value} {f23 : Addr}
    (a23 : PySem.W.nsIn K mainGlobals "_law_least_diagonal" = some (some (.ref f23))) (l23 : K.lookup f23 = some ⟨oc23, od23, .func (PySem.W.fnOf "_law_least_diagonal" "_law_least_diagonal" (defArgs s__law_least_diagonal) (defBody s__law_least_diagonal) (defScope s__law_least_diagonal) .none kV23 dc23 pm23 an23 cd23 ct23), sl23⟩) (c23 : PySem.W.codeIn K cd23 "_law_least_diagonal" = true) (k23 : PySem.W.keepIn K (.ref f23) = true)
    {od24 an24 : Option Addr} {sl24 : Array (Option Value)} {oc24 kV24 dc24 pm24 cd24 ct24 : Value} {f24 : Addr}
    (a24 : PySem.W.nsIn K mainGlobals "_law_offsets" = some (some (.ref f24))) (l24 : K.lookup f24 = some ⟨oc24, od24, .func (PySem.W.fnOf "_law_offsets" "_law_offsets" (defArgs s__law_offsets) (defBody s__law_offsets) (defScope s__law_offsets) .none kV24 dc24 pm24 an24 cd24 ct24), sl24⟩) (c24 : PySem.W.codeIn K cd24 "_law_offsets" = true) (k24 : PySem.W.keepIn K (.ref f24) = true)
    {od25 an25 : Option Addr} {sl25 : Array (Option Value)} {oc25 kV25 dc25 pm25 cd25 ct25 : Value} {f25 : Addr}
    (a25 : PySem.W.nsIn K mainGlobals "_law_couple" = some (some (.ref f25))) (l25 : K.lookup f25 = some ⟨oc25, od25, .func (PySem.W.fnOf "_law_couple" "_law_couple" (defArgs s__law_couple) (defBody s__law_couple) (defScope s__law_couple) .none kV25 dc25 pm25 an25 cd25 ct25), sl25⟩) (c25 : PySem.W.codeIn K cd25 "_law_couple" = true) (k25 : PySem.W.keepIn K (.ref f25) = true)
    {od26 an26 : Option Addr} {sl26 : Array (Option Value)} {oc26 kV26 dc26 pm26 cd26 ct26 : Value} {f26 : Addr}
    (a26 : PySem.W.nsIn K mainGlobals "_law_corners" = some (some (.ref f26))) (l26 : K.lookup f26 = some ⟨oc26, od26, .func (PySem.W.fnOf "_law_corners" "_law_corners" (defArgs s__law_corners) (defBody s__law_corners) (defScope s__law_corners) .none kV26 dc26 pm26 an26 cd26 ct26), sl26⟩) (c26 : PySem.W.codeIn K cd26 "_law_corners" = true) (k26 : PySem.W.keepIn K (.ref f26) = true)
    {od27 an27 : Option Addr} {sl27 : Array (Option Value)} {oc27 kV27 dc27 pm27 cd27 ct27 : Value} {f27 : Addr}
    (a27 : PySem.W.nsIn K mainGlobals "_law_gap" = some (some (.ref f27))) (l27 : K.lookup f27 = some ⟨oc27, od27, .func (PySem.W.fnOf "_law_gap" "_law_gap" (defArgs s__law_gap) (defBody s__law_gap) (defScope s__law_gap) .none kV27 dc27 pm27 an27 cd27 ct27), sl27⟩) (c27 : PySem.W.codeIn K cd27 "_law_gap" = true) (k27 : PySem.W.keepIn K (.ref f27) = true)
    {od28 an28 : Option Addr} {sl28 : Array (Option Value)} {oc28 kV28 dc28 pm28 cd28 ct28 : Value} {f28 : Addr}
    (a28 : PySem.W.nsIn K mainGlobals "_law_dot" = some (some (.ref f28))) (l28 : K.lookup f28 = some ⟨oc28, od28, .func (PySem.W.fnOf "_law_dot" "_law_dot" (defArgs s__law_dot) (defBody s__law_dot) (defScope s__law_dot) .none kV28 dc28 pm28 an28 cd28 ct28), sl28⟩) (c28 : PySem.W.codeIn K cd28 "_law_dot" = true) (k28 : PySem.W.keepIn K (.ref f28) = true)
    {od29 an29 : Option Addr} {sl29 : Array (Option Value)} {oc29 kV29 dc29 pm29 cd29 ct29 : Value} {f29 : Addr}
    (a29 : PySem.W.nsIn K mainGlobals "_law_gap_squared" = some (some (.ref f29))) (l29 : K.lookup f29 = some ⟨oc29, od29, .func (PySem.W.fnOf "_law_gap_squared" "_law_gap_squared" (defArgs s__law_gap_squared) (defBody s__law_gap_squared) (defScope s__law_gap_squared) .none kV29 dc29 pm29 an29 cd29 ct29), sl29⟩) (c29 : PySem.W.codeIn K cd29 "_law_gap_squared" = true) (k29 : PySem.W.keepIn K (.ref f29) = true)
    {od30 an30 : Option Addr} {sl30 : Array (Option Value)} {oc30 kV30 dc30 pm30 cd30 ct30 : Value} {f30 : Addr}
    (a30 : PySem.W.nsIn K mainGlobals "_law_on_edge" = some (some (.ref f30))) (l30 : K.lookup f30 = some ⟨oc30, od30, .func (PySem.W.fnOf "_law_on_edge" "_law_on_edge" (defArgs s__law_on_edge) (defBody s__law_on_edge) (defScope s__law_on_edge) .none kV30 dc30 pm30 an30 cd30 ct30), sl30⟩) (c30 : PySem.W.codeIn K cd30 "_law_on_edge" = true) (k30 : PySem.W.keepIn K (.ref f30) = true)
    {od31 an31 : Option Addr} {sl31 : Array (Option Value)} {oc31 kV31 dc31 pm31 cd31 ct31 : Value} {f31 : Addr}
    (a31 : PySem.W.nsIn K mainGlobals "_law_are_less" = some (some (.ref f31))) (l31 : K.lookup f31 = some ⟨oc31, od31, .func (PySem.W.fnOf "_law_are_less" "_law_are_less" (defArgs s__law_are_less) (defBody s__law_are_less) (defScope s__law_are_less) .none kV31 dc31 pm31 an31 cd31 ct31), sl31⟩) (c31 : PySem.W.codeIn K cd31 "_law_are_less" = true) (k31 : PySem.W.keepIn K (.ref f31) = true)
    {od32 an32 : Option Addr} {sl32 : Array (Option Value)} {oc32 kV32 dc32 pm32 cd32 ct32 : Value} {f32 : Addr}
    (a32 : PySem.W.nsIn K mainGlobals "_law_inner_point" = some (some (.ref f32))) (l32 : K.lookup f32 = some ⟨oc32, od32, .func (PySem.W.fnOf "_law_inner_point" "_law_inner_point" (defArgs s__law_inner_point) (defBody s__law_inner_point) (defScope s__law_inner_point) .none kV32 dc32 pm32 an32 cd32 ct32), sl32⟩) (c32 : PySem.W.codeIn K cd32 "_law_inner_point" = true) (k32 : PySem.W.keepIn K (.ref f32) = true)
    {od33 an33 : Option Addr} {sl33 : Array (Option Value)} {oc33 kV33 dc33 pm33 cd33 ct33 : Value} {f33 : Addr}
    (a33 : PySem.W.nsIn K mainGlobals "_law_nearest" = some (some (.ref f33))) (l33 : K.lookup f33 = some ⟨oc33, od33, .func (PySem.W.fnOf "_law_nearest" "_law_nearest" (defArgs s__law_nearest) (defBody s__law_nearest) (defScope s__law_nearest) .none kV33 dc33 pm33 an33 cd33 ct33), sl33⟩) (c33 : PySem.W.codeIn K cd33 "_law_nearest" = true) (k33 : PySem.W.keepIn K (.ref f33) = true)
    {od34 an34 : Option Addr} {sl34 : Array (Option Value)} {oc34 kV34 dc34 pm34 cd34 ct34 : Value} {f34 : Addr}
    (a34 : PySem.W.nsIn K mainGlobals "_law_worst_couple" = some (some (.ref f34))) (l34 : K.lookup f34 = some ⟨oc34, od34, .func (PySem.W.fnOf "_law_worst_couple" "_law_worst_couple" (defArgs s__law_worst_couple) (defBody s__law_worst_couple) (defScope s__law_worst_couple) .none kV34 dc34 pm34 an34 cd34 ct34), sl34⟩) (c34 : PySem.W.codeIn K cd34 "_law_worst_couple" = true) (k34 : PySem.W.keepIn K (.ref f34) = true)
    {od35 an35 : Option Addr} {sl35 : Array (Option Value)} {oc35 kV35 dc35 pm35 cd35 ct35 : Value} {f35 : Addr}
    (a35 : PySem.W.nsIn K mainGlobals "_law_place" = some (some (.ref f35))) (l35 : K.lookup f35 = some ⟨oc35, od35, .func (PySem.W.fnOf "_law_place" "_law_place" (defArgs s__law_place) (defBody s__law_place) (defScope s__law_place) .none kV35 dc35 pm35 an35 cd35 ct35), sl35⟩) (c35 : PySem.W.codeIn K cd35 "_law_place" = true) (k35 : PySem.W.keepIn K (.ref f35) = true)
    {od36 an36 : Option Addr} {sl36 : Array (Option Value)} {oc36 kV36 dc36 pm36 cd36 ct36 : Value} {f36 : Addr}
    (a36 : PySem.W.nsIn K mainGlobals "_law_worth_order" = some (some (.ref f36))) (l36 : K.lookup f36 = some ⟨oc36, od36, .func (PySem.W.fnOf "_law_worth_order" "_law_worth_order" (defArgs s__law_worth_order) (defBody s__law_worth_order) (defScope s__law_worth_order) .none kV36 dc36 pm36 an36 cd36 ct36), sl36⟩) (c36 : PySem.W.codeIn K cd36 "_law_worth_order" = true) (k36 : PySem.W.keepIn K (.ref f36) = true)
    {od37 an37 : Option Addr} {sl37 : Array (Option Value)} {oc37 kV37 dc37 pm37 cd37 ct37 : Value} {f37 : Addr}
    (a37 : PySem.W.nsIn K mainGlobals "_law_fraction" = some (some (.ref f37))) (l37 : K.lookup f37 = some ⟨oc37, od37, .func (PySem.W.fnOf "_law_fraction" "_law_fraction" (defArgs s__law_fraction) (defBody s__law_fraction) (defScope s__law_fraction) .none kV37 dc37 pm37 an37 cd37 ct37), sl37⟩) (c37 : PySem.W.codeIn K cd37 "_law_fraction" = true) (k37 : PySem.W.keepIn K (.ref f37) = true)
    {od38 an38 : Option Addr} {sl38 : Array (Option Value)} {oc38 kV38 dc38 pm38 cd38 ct38 : Value} {f38 : Addr}
    (a38 : PySem.W.nsIn K mainGlobals "_law_are_allowed" = some (some (.ref f38))) (l38 : K.lookup f38 = some ⟨oc38, od38, .func (PySem.W.fnOf "_law_are_allowed" "_law_are_allowed" (defArgs s__law_are_allowed) (defBody s__law_are_allowed) (defScope s__law_are_allowed) .none kV38 dc38 pm38 an38 cd38 ct38), sl38⟩) (c38 : PySem.W.codeIn K cd38 "_law_are_allowed" = true) (k38 : PySem.W.keepIn K (.ref f38) = true)
    {od39 an39 : Option Addr} {sl39 : Array (Option Value)} {oc39 kV39 dc39 pm39 cd39 ct39 : Value} {f39 : Addr}
    (a39 : PySem.W.nsIn K mainGlobals "_law_some_couple" = some (some (.ref f39))) (l39 : K.lookup f39 = some ⟨oc39, od39, .func (PySem.W.fnOf "_law_some_couple" "_law_some_couple" (defArgs s__law_some_couple) (defBody s__law_some_couple) (defScope s__law_some_couple) .none kV39 dc39 pm39 an39 cd39 ct39), sl39⟩) (c39 : PySem.W.codeIn K cd39 "_law_some_couple" = true) (k39 : PySem.W.keepIn K (.ref f39) = true)
    {od40 an40 : Option Addr} {sl40 : Array (Option Value)} {oc40 kV40 dc40 pm40 cd40 ct40 : Value} {f40 : Addr}
    (a40 : PySem.W.nsIn K mainGlobals "law" = some (some (.ref f40))) (l40 : K.lookup f40 = some ⟨oc40, od40, .func (PySem.W.fnOf "law" "law" (defArgs s_law) (defBody s_law) (defScope s_law) .none kV40 dc40 pm40 an40 cd40 ct40), sl40⟩) (c40 : PySem.W.codeIn K cd40 "law" = true) (k40 : PySem.W.keepIn K (.ref f40) = true)
    (z_tuple : PySem.W.nsIn K mainGlobals "tuple" = some none)
    (z_sorted : PySem.W.nsIn K mainGlobals "sorted" = some none)
    (z_set : PySem.W.nsIn K mainGlobals "set" = some none)
    (z_abs : PySem.W.nsIn K mainGlobals "abs" = some none)
    (z_int : PySem.W.nsIn K mainGlobals "int" = some none)
    (z_len : PySem.W.nsIn K mainGlobals "len" = some none)
    (z_repr : PySem.W.nsIn K mainGlobals "repr" = some none)
    (z_range : PySem.W.nsIn K mainGlobals "range" = some none)
    (z_zip : PySem.W.nsIn K mainGlobals "zip" = some none)
    (z_max : PySem.W.nsIn K mainGlobals "max" = some none)
    (y_gcd : PySem.W.nsIn K mainGlobals "gcd" = some (some (.builtin "math.gcd"))) :
    ∃ fd : FuncData, (∀ (s : Shared) (v : Value), BindsTo s fd ⟨[v], []⟩ [("_law_script", v)]) ∧ ∀ base : Heap, K.In base → base.Ns mainGlobals mg → FnG l.prog w K mg base CX0 8 fa fd ["_law_script"] (spP K [.ro] S_law) := by
  have e := hfa.symm.trans (PySem.W.mg_of X G a40)
  cases e
  have T : Bi mg := ⟨PySem.W.mg_none_of X G z_tuple, PySem.W.mg_none_of X G z_sorted, PySem.W.mg_none_of X G z_set, PySem.W.mg_none_of X G z_abs, PySem.W.mg_none_of X G z_int, PySem.W.mg_none_of X G z_len, PySem.W.mg_none_of X G z_repr, PySem.W.mg_none_of X G z_range, PySem.W.mg_none_of X G z_zip, PySem.W.mg_none_of X G z_max, PySem.W.mg_of X G y_gcd⟩
  have F1 := fun_mk (st := s_reduced) l1 c1 k1
  have b1 := F1.binds (ps := ["n", "d"]) fun _ _ _ _ _ _ us hl => match us, hl with | [_, _], _ => rfl
  have F2 := fun_mk (st := s_added) l2 c2 k2
  have b2 := F2.binds (ps := ["one", "other"]) fun _ _ _ _ _ _ us hl => match us, hl with | [_, _], _ => rfl
  have F3 := fun_mk (st := s_lessened) l3 c3 k3
  have b3 := F3.binds (ps := ["one", "other"]) fun _ _ _ _ _ _ us hl => match us, hl with | [_, _], _ => rfl
  have F4 := fun_mk (st := s_times) l4 c4 k4
  have b4 := F4.binds (ps := ["one", "other"]) fun _ _ _ _ _ _ us hl => match us, hl with | [_, _], _ => rfl
  have F5 := fun_mk (st := s_compared) l5 c5 k5
  have b5 := F5.binds (ps := ["one", "other"]) fun _ _ _ _ _ _ us hl => match us, hl with | [_, _], _ => rfl
  have F6 := fun_mk (st := s_clipped) l6 c6 k6
  have b6 := F6.binds (ps := ["one"]) fun _ _ _ _ _ _ us hl => match us, hl with | [_], _ => rfl
  have F7 := fun_mk (st := s_place_on) l7 c7 k7
  have b7 := F7.binds (ps := ["leg", "s"]) fun _ _ _ _ _ _ us hl => match us, hl with | [_, _], _ => rfl
  have F8 := fun_mk (st := s_gap_at) l8 c8 k8
  have b8 := F8.binds (ps := ["leg", "other", "s", "t"]) fun _ _ _ _ _ _ us hl => match us, hl with | [_, _, _, _], _ => rfl
  have F9 := fun_mk (st := s_squared_at) l9 c9 k9
  have b9 := F9.binds (ps := ["leg", "other", "s", "t"]) fun _ _ _ _ _ _ us hl => match us, hl with | [_, _, _, _], _ => rfl
  have F10 := fun_mk (st := s__corners_around) l10 c10 k10
  have b10 := F10.binds (ps := ["rho"]) fun _ _ _ _ _ _ us hl => match us, hl with | [_], _ => rfl
  have F11 := fun_mk (st := s_corners_of) l11 c11 k11
  have b11 := F11.binds (ps := ["rho"]) fun _ _ _ _ _ _ us hl => match us, hl with | [_], _ => rfl
  have F12 := fun_mk (st := s_is_within) l12 c12 k12
  have b12 := F12.binds (ps := ["s", "t", "rho"]) fun _ _ _ _ _ _ us hl => match us, hl with | [_, _, _], _ => rfl
  have F13 := fun_mk (st := s__law_bag) l13 c13 k13
  have b13 := F13.binds (ps := ["_law_script"]) fun _ _ _ _ _ _ us hl => match us, hl with | [_], _ => rfl
  have F14 := fun_mk (st := s__law_take) l14 c14 k14
  have b14 := F14.binds (ps := ["_law_bag_here", "_law_many"]) fun _ _ _ _ _ _ us hl => match us, hl with | [_, _], _ => rfl
  have F15 := fun_mk (st := s__law_some) l15 c15 k15
  have b15 := F15.binds (ps := ["_law_bag_here", "_law_things"]) fun _ _ _ _ _ _ us hl => match us, hl with | [_, _], _ => rfl
  have F16 := fun_mk (st := s__law_alike) l16 c16 k16
  have b16 := F16.binds (ps := ["_law_found", "_law_due"]) fun _ _ _ _ _ _ us hl => match us, hl with | [_, _], _ => rfl
  have F17 := fun_mk (st := s__law_over) l17 c17 k17
  have b17 := F17.binds (ps := ["_law_n", "_law_d"]) fun _ _ _ _ _ _ us hl => match us, hl with | [_, _], _ => rfl
  have F18 := fun_mk (st := s__law_added) l18 c18 k18
  have b18 := F18.binds (ps := ["_law_x", "_law_y"]) fun _ _ _ _ _ _ us hl => match us, hl with | [_, _], _ => rfl
  have F19 := fun_mk (st := s__law_lessened) l19 c19 k19
  have b19 := F19.binds (ps := ["_law_x", "_law_y"]) fun _ _ _ _ _ _ us hl => match us, hl with | [_, _], _ => rfl
  have F20 := fun_mk (st := s__law_multiplied) l20 c20 k20
  have b20 := F20.binds (ps := ["_law_x", "_law_y"]) fun _ _ _ _ _ _ us hl => match us, hl with | [_, _], _ => rfl
  have F21 := fun_mk (st := s__law_divided) l21 c21 k21
  have b21 := F21.binds (ps := ["_law_x", "_law_y"]) fun _ _ _ _ _ _ us hl => match us, hl with | [_, _], _ => rfl
  have F22 := fun_mk (st := s__law_is_below) l22 c22 k22
  have b22 := F22.binds (ps := ["_law_x", "_law_y"]) fun _ _ _ _ _ _ us hl => match us, hl with | [_, _], _ => rfl
  have F23 := fun_mk (st := s__law_least_diagonal) l23 c23 k23
  have b23 := F23.binds (ps := ["_law_spacing"]) fun _ _ _ _ _ _ us hl => match us, hl with | [_], _ => rfl
  have F24 := fun_mk (st := s__law_offsets) l24 c24 k24
  have b24 := F24.binds (ps := ["_law_spacing"]) fun _ _ _ _ _ _ us hl => match us, hl with | [_], _ => rfl
  have F25 := fun_mk (st := s__law_couple) l25 c25 k25
  have b25 := F25.binds (ps := ["_law_bag_here", "_law_spacing"]) fun _ _ _ _ _ _ us hl => match us, hl with | [_, _], _ => rfl
  have F26 := fun_mk (st := s__law_corners) l26 c26 k26
  have b26 := F26.binds (ps := ["_law_rho"]) fun _ _ _ _ _ _ us hl => match us, hl with | [_], _ => rfl
  have F27 := fun_mk (st := s__law_gap) l27 c27 k27
  have b27 := F27.binds (ps := ["_law_leg", "_law_other", "_law_s", "_law_t"]) fun _ _ _ _ _ _ us hl => match us, hl with | [_, _, _, _], _ => rfl
  have F28 := fun_mk (st := s__law_dot) l28 c28 k28
  have b28 := F28.binds (ps := ["_law_one", "_law_other"]) fun _ _ _ _ _ _ us hl => match us, hl with | [_, _], _ => rfl
  have F29 := fun_mk (st := s__law_gap_squared) l29 c29 k29
  have b29 := F29.binds (ps := ["_law_leg", "_law_other", "_law_s", "_law_t"]) fun _ _ _ _ _ _ us hl => match us, hl with | [_, _, _, _], _ => rfl
  have F30 := fun_mk (st := s__law_on_edge) l30 c30 k30
  have b30 := F30.binds (ps := ["_law_leg", "_law_other", "_law_one", "_law_two"]) fun _ _ _ _ _ _ us hl => match us, hl with | [_, _, _, _], _ => rfl
  have F31 := fun_mk (st := s__law_are_less) l31 c31 k31
  have b31 := F31.binds (ps := ["_law_one", "_law_other"]) fun _ _ _ _ _ _ us hl => match us, hl with | [_, _], _ => rfl
  have F32 := fun_mk (st := s__law_inner_point) l32 c32 k32
  have b32 := F32.binds (ps := ["_law_leg", "_law_other", "_law_rho"]) fun _ _ _ _ _ _ us hl => match us, hl with | [_, _, _], _ => rfl
  have F33 := fun_mk (st := s__law_nearest) l33 c33 k33
  have b33 := F33.binds (ps := ["_law_leg", "_law_other", "_law_rho"]) fun _ _ _ _ _ _ us hl => match us, hl with | [_, _, _], _ => rfl
  have F34 := fun_mk (st := s__law_worst_couple) l34 c34 k34
  have b34 := F34.binds (ps := ["_law_bag_here", "_law_spacing"]) fun _ _ _ _ _ _ us hl => match us, hl with | [_, _], _ => rfl
  have F35 := fun_mk (st := s__law_place) l35 c35 k35
  have b35 := F35.binds (ps := ["_law_leg", "_law_s"]) fun _ _ _ _ _ _ us hl => match us, hl with | [_, _], _ => rfl
  have F36 := fun_mk (st := s__law_worth_order) l36 c36 k36
  have b36 := F36.binds (ps := ["_law_some_here"]) fun _ _ _ _ _ _ us hl => match us, hl with | [_], _ => rfl
  have F37 := fun_mk (st := s__law_fraction) l37 c37 k37
  have b37 := F37.binds (ps := ["_law_bag_here"]) fun _ _ _ _ _ _ us hl => match us, hl with | [_], _ => rfl
  have F38 := fun_mk (st := s__law_are_allowed) l38 c38 k38
  have b38 := F38.binds (ps := ["_law_s", "_law_t", "_law_rho"]) fun _ _ _ _ _ _ us hl => match us, hl with | [_, _, _], _ => rfl
  have F39 := fun_mk (st := s__law_some_couple) l39 c39 k39
  have b39 := F39.binds (ps := ["_law_bag_here"]) fun _ _ _ _ _ _ us hl => match us, hl with | [_], _ => rfl
  have F40 := fun_mk (st := s_law) l40 c40 k40
  have b40 := F40.binds (ps := ["_law_script"]) fun _ _ _ _ _ _ us hl => match us, hl with | [_], _ => rfl
  refine ⟨PySem.W.fnOf "law" "law" (defArgs s_law) (defBody s_law) (defScope s_law) .none kV40 dc40 pm40 an40 cd40 ct40, fun s v => .of_eq rfl, fun base _ _ => ?_⟩
  have G1 := ok_reduced (P := l.prog) (w := w) (base := base) F1 T 
  have G5 := ok_compared (P := l.prog) (w := w) (base := base) F5 T 
  have G6 := ok_clipped (P := l.prog) (w := w) (base := base) F6 T 
  have G10 := ok__corners_around (P := l.prog) (w := w) (base := base) F10 T 
  have G13 := ok__law_bag (P := l.prog) (w := w) (base := base) F13 T 
  have G14 := ok__law_take (P := l.prog) (w := w) (base := base) F14 T 
  have G16 := ok__law_alike (P := l.prog) (w := w) (base := base) F16 T 
  have G17 := ok__law_over (P := l.prog) (w := w) (base := base) F17 T 
  have G22 := ok__law_is_below (P := l.prog) (w := w) (base := base) F22 T 
  have G23 := ok__law_least_diagonal (P := l.prog) (w := w) (base := base) F23 T 
  have G2 := ok_added (P := l.prog) (w := w) (base := base) F2 T G1 (PySem.W.mg_of X G a1) k1 b1
  have G3 := ok_lessened (P := l.prog) (w := w) (base := base) F3 T G1 (PySem.W.mg_of X G a1) k1 b1
  have G4 := ok_times (P := l.prog) (w := w) (base := base) F4 T G1 (PySem.W.mg_of X G a1) k1 b1
  have G7 := ok_place_on (P := l.prog) (w := w) (base := base) F7 T G1 (PySem.W.mg_of X G a1) k1 b1
  have G11 := ok_corners_of (P := l.prog) (w := w) (base := base) F11 T G1 (PySem.W.mg_of X G a1) k1 b1 G10 (PySem.W.mg_of X G a10) k10 b10
  have G15 := ok__law_some (P := l.prog) (w := w) (base := base) F15 T G14 (PySem.W.mg_of X G a14) k14 b14
  have G18 := ok__law_added (P := l.prog) (w := w) (base := base) F18 T G17 (PySem.W.mg_of X G a17) k17 b17
  have G19 := ok__law_lessened (P := l.prog) (w := w) (base := base) F19 T G17 (PySem.W.mg_of X G a17) k17 b17
  have G20 := ok__law_multiplied (P := l.prog) (w := w) (base := base) F20 T G17 (PySem.W.mg_of X G a17) k17 b17
  have G21 := ok__law_divided (P := l.prog) (w := w) (base := base) F21 T G17 (PySem.W.mg_of X G a17) k17 b17
  have G24 := ok__law_offsets (P := l.prog) (w := w) (base := base) F24 T G23 (PySem.W.mg_of X G a23) k23 b23
  have G31 := ok__law_are_less (P := l.prog) (w := w) (base := base) F31 T G22 (PySem.W.mg_of X G a22) k22 b22
  have G8 := ok_gap_at (P := l.prog) (w := w) (base := base) F8 T G7 (PySem.W.mg_of X G a7) k7 b7 G3 (PySem.W.mg_of X G a3) k3 b3
  have G12 := ok_is_within (P := l.prog) (w := w) (base := base) F12 T G3 (PySem.W.mg_of X G a3) k3 b3 G5 (PySem.W.mg_of X G a5) k5 b5 G6 (PySem.W.mg_of X G a6) k6 b6
  have G25 := ok__law_couple (P := l.prog) (w := w) (base := base) F25 T G15 (PySem.W.mg_of X G a15) k15 b15 G24 (PySem.W.mg_of X G a24) k24 b24 G14 (PySem.W.mg_of X G a14) k14 b14
  have G26 := ok__law_corners (P := l.prog) (w := w) (base := base) F26 T G19 (PySem.W.mg_of X G a19) k19 b19
  have G27 := ok__law_gap (P := l.prog) (w := w) (base := base) F27 T G18 (PySem.W.mg_of X G a18) k18 b18 G20 (PySem.W.mg_of X G a20) k20 b20 G19 (PySem.W.mg_of X G a19) k19 b19
  have G28 := ok__law_dot (P := l.prog) (w := w) (base := base) F28 T G18 (PySem.W.mg_of X G a18) k18 b18 G20 (PySem.W.mg_of X G a20) k20 b20
  have G32 := ok__law_inner_point (P := l.prog) (w := w) (base := base) F32 T G19 (PySem.W.mg_of X G a19) k19 b19 G17 (PySem.W.mg_of X G a17) k17 b17 G22 (PySem.W.mg_of X G a22) k22 b22
  have G34 := ok__law_worst_couple (P := l.prog) (w := w) (base := base) F34 T G15 (PySem.W.mg_of X G a15) k15 b15 G14 (PySem.W.mg_of X G a14) k14 b14
  have G35 := ok__law_place (P := l.prog) (w := w) (base := base) F35 T G18 (PySem.W.mg_of X G a18) k18 b18 G20 (PySem.W.mg_of X G a20) k20 b20
  have G36 := ok__law_worth_order (P := l.prog) (w := w) (base := base) F36 T G31 (PySem.W.mg_of X G a31) k31 b31
  have G37 := ok__law_fraction (P := l.prog) (w := w) (base := base) F37 T G15 (PySem.W.mg_of X G a15) k15 b15 G17 (PySem.W.mg_of X G a17) k17 b17 G14 (PySem.W.mg_of X G a14) k14 b14
  have G38 := ok__law_are_allowed (P := l.prog) (w := w) (base := base) F38 T G19 (PySem.W.mg_of X G a19) k19 b19 G22 (PySem.W.mg_of X G a22) k22 b22
  have G9 := ok_squared_at (P := l.prog) (w := w) (base := base) F9 T G8 (PySem.W.mg_of X G a8) k8 b8 G2 (PySem.W.mg_of X G a2) k2 b2 G4 (PySem.W.mg_of X G a4) k4 b4
  have G29 := ok__law_gap_squared (P := l.prog) (w := w) (base := base) F29 T G27 (PySem.W.mg_of X G a27) k27 b27 G28 (PySem.W.mg_of X G a28) k28 b28
  have G30 := ok__law_on_edge (P := l.prog) (w := w) (base := base) F30 T G18 (PySem.W.mg_of X G a18) k18 b18 G27 (PySem.W.mg_of X G a27) k27 b27 G19 (PySem.W.mg_of X G a19) k19 b19 G28 (PySem.W.mg_of X G a28) k28 b28 G21 (PySem.W.mg_of X G a21) k21 b21 G31 (PySem.W.mg_of X G a31) k31 b31 G20 (PySem.W.mg_of X G a20) k20 b20 G29 (PySem.W.mg_of X G a29) k29 b29 G22 (PySem.W.mg_of X G a22) k22 b22
  have G33 := ok__law_nearest (P := l.prog) (w := w) (base := base) F33 T G32 (PySem.W.mg_of X G a32) k32 b32 G26 (PySem.W.mg_of X G a26) k26 b26 G30 (PySem.W.mg_of X G a30) k30 b30 G22 (PySem.W.mg_of X G a22) k22 b22 G31 (PySem.W.mg_of X G a31) k31 b31
  have G39 := ok__law_some_couple (P := l.prog) (w := w) (base := base) F39 T G15 (PySem.W.mg_of X G a15) k15 b15 G14 (PySem.W.mg_of X G a14) k14 b14 G33 (PySem.W.mg_of X G a33) k33 b33 G25 (PySem.W.mg_of X G a25) k25 b25 G34 (PySem.W.mg_of X G a34) k34 b34 G37 (PySem.W.mg_of X G a37) k37 b37 G17 (PySem.W.mg_of X G a17) k17 b17
  exact ok_law F40 T G13 (PySem.W.mg_of X G a13) k13 b13 G39 (PySem.W.mg_of X G a39) k39 b39 G37 (PySem.W.mg_of X G a37) k37 b37 G35 (PySem.W.mg_of X G a35) k35 b35 G29 (PySem.W.mg_of X G a29) k29 b29 G16 (PySem.W.mg_of X G a16) k16 b16 G19 (PySem.W.mg_of X G a19) k19 b19 G18 (PySem.W.mg_of X G a18) k18 b18 G36 (PySem.W.mg_of X G a36) k36 b36 G15 (PySem.W.mg_of X G a15) k15 b15 G26 (PySem.W.mg_of X G a26) k26 b26 G7 (PySem.W.mg_of X G a7) k7 b7 G9 (PySem.W.mg_of X G a9) k9 b9 G11 (PySem.W.mg_of X G a11) k11 b11 G12 (PySem.W.mg_of X G a12) k12 b12 G38 (PySem.W.mg_of X G a38) k38 b38
theorem walk {l : PySem.W.OpenLaw} {q : Program} {loose : List Str} {XP : (Str → Option Value) → Heap → Prop} {YP : World → Heap → Prop} {d : DefRec} {K : Params → PySem.W.Frag} (hn : l.most = some 63) (hdf : d.params.defaults = [])
    (hY : ∀ (w : World) (h : Heap), YP w h → (K w.params).In h)
    (F : ∀ (w : World) (mg : Str → Option Value) (fa : Addr) (h : Heap), (K w.params).In h → h.Ns mainGlobals mg → mg d.name = some (.ref fa) →
      ∃ fd : FuncData, (∀ (s : Shared) (u : Value), BindsTo s fd ⟨[u], []⟩ [("_law_script", u)]) ∧ ∀ base : Heap, (K w.params).In base → base.Ns mainGlobals mg → FnG l.prog w (K w.params) mg base CX0 8 fa fd ["_law_script"] (spP (K w.params) [.ro] S_law)) :
    PySem.W.WalkO q loose XP YP l.row.toRowW d [] (fun f vs => PySem.call f vs) :=
  walk_goes (n := 63) (k := 8) (x := "_law_script") (sp := fun K => spP K [.ro] S_law) hn (by decide) hdf ⟨rfl, by decide, by decide⟩ hY F fun K H a ns hl hS => law_args hl hS m_law law_spec
end K28
open PySem PySem.W PyProof.Rows
set_option maxRecDepth 100000 in
set_option maxHeartbeats 0 in
theorem PySem.Challenge.cw_lampsaloft_k28_places_and_corners_holds : PySem.Challenge.rw_lampsaloft_k28_places_and_corners.Holds := by
  w_on; o_law; k_head; (case hw => w_witness2)
  k_fill
  refine K28.walk (l := PySem.Challenge.rw_lampsaloft_k28_places_and_corners) rfl rfl (fun w h Y => PySem.W.kIn_of Y) ?F
  case F =>
    intro w mg fa h KX G hmg
    refine' K28.all_mk KX G hmg ?a1 ?l1 ?c1 ?k1 ?a2 ?l2 ?c2 ?k2 ?a3 ?l3 ?c3 ?k3 ?a4 ?l4 ?c4 ?k4 ?a5 ?l5 ?c5 ?k5 ?a6 ?l6 ?c6 ?k6 ?a7 ?l7 ?c7 ?k7 ?a8 ?l8 ?c8 ?k8 ?a9 ?l9 ?c9 ?k9 ?a10 ?l10 ?c10 ?k10 ?a11 ?l11 ?c11 ?k11 ?a12 ?l12 ?c12 ?k12 ?a13 ?l13 ?c13 ?k13 ?a14 ?l14 ?c14 ?k14 ?a15 ?l15 ?c15 ?k15 ?a16 ?l16 ?c16 ?k16 ?a17 ?l17 ?c17 ?k17 ?a18 ?l18 ?c18 ?k18 ?a19 ?l19 ?c19 ?k19 ?a20 ?l20 ?c20 ?k20 ?a21 ?l21 ?c21 ?k21 ?a22 ?l22 ?c22 ?k22 ?a23 ?l23 ?c23 ?k23 ?a24 ?l24 ?c24 ?k24 ?a25 ?l25 ?c25 ?k25 ?a26 ?l26 ?c26 ?k26 ?a27 ?l27 ?c27 ?k27 ?a28 ?l28 ?c28 ?k28 ?a29 ?l29 ?c29 ?k29 ?a30 ?l30 ?c30 ?k30 ?a31 ?l31 ?c31 ?k31 ?a32 ?l32 ?c32 ?k32 ?a33 ?l33 ?c33 ?k33 ?a34 ?l34 ?c34 ?k34 ?a35 ?l35 ?c35 ?k35 ?a36 ?l36 ?c36 ?k36 ?a37 ?l37 ?c37 ?k37 ?a38 ?l38 ?c38 ?k38 ?a39 ?l39 ?c39 ?k39 ?a40 ?l40 ?c40 ?k40 ?z_tuple ?z_sorted ?z_set ?z_abs ?z_int ?z_len ?z_repr ?z_range ?z_zip ?z_max ?y_gcd
    (case a1 => k_is)
    (case l1 => k_is)
    (case c1 => k_is)
    (case k1 => k_is)
    (case a2 => k_is)
    (case l2 => k_is)
    (case c2 => k_is)
    (case k2 => k_is)
    (case a3 => k_is)
    (case l3 => k_is)
    (case c3 => k_is)
    (case k3 => k_is)
    (case a4 => k_is)
    (case l4 => k_is)
    (case c4 => k_is)
    (case k4 => k_is)
    (case a5 => k_is)
    (case l5 => k_is)
    (case c5 => k_is)
    (case k5 => k_is)
    (case a6 => k_is)
    (case l6 => k_is)
    (case c6 => k_is)
    (case k6 => k_is)
    (case a7 => k_is)
    (case l7 => k_is)
    (case c7 => k_is)
    (case k7 => k_is)
    (case a8 => k_is)
    (case l8 => k_is)
    (case c8 => k_is)
    (case k8 => k_is)
    (case a9 => k_is)
    (case l9 => k_is)
    (case c9 => k_is)
    (case k9 => k_is)
    (case a10 => k_is)
    (case l10 => k_is)
    (case c10 => k_is)
    (case k10 => k_is)
    (case a11 => k_is)
    (case l11 => k_is)
    (case c11 => k_is)
    (case k11 => k_is)
    (case a12 => k_is)
    (case l12 => k_is)
    (case c12 => k_is)
    (case k12 => k_is)
    (case a13 => k_is)
    (case l13 => k_is)
    (case c13 => k_is)
    (case k13 => k_is)
    (case a14 => k_is)
    (case l14 => k_is)
    (case c14 => k_is)
    (case k14 => k_is)
    (case a15 => k_is)
    (case l15 => k_is)
    (case c15 => k_is)
    (case k15 => k_is)
    (case a16 => k_is)
    (case l16 => k_is)
    (case c16 => k_is)
    (case k16 => k_is)
    (case a17 => k_is)
    (case l17 => k_is)
    (case c17 => k_is)
    (case k17 => k_is)
    (case a18 => k_is)
    (case l18 => k_is)
    (case c18 => k_is)
    (case k18 => k_is)
    (case a19 => k_is)
    (case l19 => k_is)
    (case c19 => k_is)
    (case k19 => k_is)
    (case a20 => k_is)
    (case l20 => k_is)
    (case c20 => k_is)
    (case k20 => k_is)
    (case a21 => k_is)
    (case l21 => k_is)
    (case c21 => k_is)
    (case k21 => k_is)
    (case a22 => k_is)
    (case l22 => k_is)
    (case c22 => k_is)
    (case k22 => k_is)
    (case a23 => k_is)
    (case l23 => k_is)
    (case c23 => k_is)
    (case k23 => k_is)
    (case a24 => k_is)
    (case l24 => k_is)
    (case c24 => k_is)
    (case k24 => k_is)
    (case a25 => k_is)
    (case l25 => k_is)
    (case c25 => k_is)
    (case k25 => k_is)
    (case a26 => k_is)
    (case l26 => k_is)
    (case c26 => k_is)
    (case k26 => k_is)
    (case a27 => k_is)
    (case l27 => k_is)
    (case c27 => k_is)
    (case k27 => k_is)
    (case a28 => k_is)
    (case l28 => k_is)
    (case c28 => k_is)
    (case k28 => k_is)
    (case a29 => k_is)
    (case l29 => k_is)
    (case c29 => k_is)
    (case k29 => k_is)
    (case a30 => k_is)
    (case l30 => k_is)
    (case c30 => k_is)
    (case k30 => k_is)
    (case a31 => k_is)
    (case l31 => k_is)
    (case c31 => k_is)
    (case k31 => k_is)
    (case a32 => k_is)
    (case l32 => k_is)
    (case c32 => k_is)
    (case k32 => k_is)
    (case a33 => k_is)
    (case l33 => k_is)
    (case c33 => k_is)
    (case k33 => k_is)
    (case a34 => k_is)
    (case l34 => k_is)
    (case c34 => k_is)
    (case k34 => k_is)
    (case a35 => k_is)
    (case l35 => k_is)
    (case c35 => k_is)
    (case k35 => k_is)
    (case a36 => k_is)
    (case l36 => k_is)
    (case c36 => k_is)
    (case k36 => k_is)
    (case a37 => k_is)
    (case l37 => k_is)
    (case c37 => k_is)
    (case k37 => k_is)
    (case a38 => k_is)
    (case l38 => k_is)
    (case c38 => k_is)
    (case k38 => k_is)
    (case a39 => k_is)
    (case l39 => k_is)
    (case c39 => k_is)
    (case k39 => k_is)
    (case a40 => k_is)
    (case l40 => k_is)
    (case c40 => k_is)
    (case k40 => k_is)
    (case z_tuple => k_is)
    (case z_sorted => k_is)
    (case z_set => k_is)
    (case z_abs => k_is)
    (case z_int => k_is)
    (case z_len => k_is)
    (case z_repr => k_is)
    (case z_range => k_is)
    (case z_zip => k_is)
    (case z_max => k_is)
    (case y_gcd => k_is)
