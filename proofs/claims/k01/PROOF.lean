import PyProof.Rows.All
import Wide.All
import OpenK.AllK
import Wide.FinOn
import HandS.ForMost
import HandS.Wide
import HandS.Gcd
import HandS.Walk
import HandS.TupAny
import HandS.TupMul
import HandS.IsInst
import HandS.More
import KE.KMathG
import Flt.RightSqrt
import PyProof.StrLawsRepr
import PySem.Challenge.RW_lampsaloft_k01_fractions
set_option Elab.async false
set_option linter.all false
set_option maxRecDepth 100000
namespace DV
open PySem PySem.Spec PyProof.Rows L2
/-! ## values as data, away from what may be changed -/
def LkL (K : PySem.W.Frag) (N : Addr → Prop) (H : Hp) (a : Addr) (xs : List V) : Prop := H a = some (.lst xs) ∧ ¬ N a
def LkT (K : PySem.W.Frag) (N : Addr → Prop) (H : Hp) (a : Addr) (xs : List V) : Prop := (Rd H a (.tup xs) ∧ ¬ N a) ∨ SqT K (fun _ => none) a xs
theorem sql_none {K : PySem.W.Frag} {H : Hp} {a : Addr} {xs : List V} (h : SqL K (fun _ => none) a xs) : SqL K H a xs := by
  rcases h with (h | ⟨o, h⟩) | h
  · cases h
  · cases h
  · exact .inr h
theorem sqt_none {K : PySem.W.Frag} {H : Hp} {a : Addr} {xs : List V} (h : SqT K (fun _ => none) a xs) : SqT K H a xs := by
  rcases h with (h | ⟨o, h⟩) | h
  · cases h
  · cases h
  · exact .inr h
theorem LkL.sq {K : PySem.W.Frag} {N : Addr → Prop} {H : Hp} {a : Addr} {xs : List V} (h : LkL K N H a xs) : SqL K H a xs := .of h.1
theorem LkT.sq {K : PySem.W.Frag} {N : Addr → Prop} {H : Hp} {a : Addr} {xs : List V} (h : LkT K N H a xs) : SqT K H a xs := by
  rcases h with ⟨h, _⟩ | h
  · exact .inl h
  · exact sqt_none h
/-- from one heap to the next: all but N stands; N grows by new ones alone -/
structure Go (N N' : Addr → Prop) (H H' : Hp) : Prop where
  st : ∀ a o, ¬ N a → H a = some o → H' a = some o
  nw : ∀ a, N' a → N a ∨ H a = none
theorem Rd.go {N N' : Addr → Prop} {H H' : Hp} (g : Go N N' H H') {a : Addr} {u : HO} (h : Rd H a u) (n : ¬ N a) : Rd H' a u ∧ ¬ N' a := by
  refine ⟨?_, fun z => ?_⟩
  · rcases h with h | ⟨o, h⟩
    · exact .inl (g.st _ _ n h)
    · exact .inr ⟨o, g.st _ _ n h⟩
  · rcases g.nw a z with z | z
    · exact n z
    · rcases h with h | ⟨o, h⟩
      · rw [z] at h; cases h
      · rw [z] at h; cases h
theorem LkL.go {K : PySem.W.Frag} {N N' : Addr → Prop} {H H' : Hp} (g : Go N N' H H') {a : Addr} {xs : List V} (h : LkL K N H a xs) : LkL K N' H' a xs := by
  refine ⟨g.st _ _ h.2 h.1, fun z => ?_⟩
  rcases g.nw a z with z | z
  · exact h.2 z
  · have := h.1; rw [z] at this; cases this
theorem LkT.go {K : PySem.W.Frag} {N N' : Addr → Prop} {H H' : Hp} (g : Go N N' H H') {a : Addr} {xs : List V} (h : LkT K N H a xs) : LkT K N' H' a xs := by
  rcases h with ⟨h, n⟩ | h
  · exact .inl (Rd.go g h n)
  · exact .inr h
mutual
def Im (K : PySem.W.Frag) (N : Addr → Prop) (H : Hp) : PyData → V → Prop
  | .none, v => v = .non
  | .bool b, v => v = .bl b
  | .int i, v => v = .int i
  | .str x, v => v = .str x
  | .list ds, v => ∃ a xs, v = .ref a ∧ LkL K N H a xs ∧ ImAll K N H ds xs
  | .tuple ds, v => ∃ a xs, v = .ref a ∧ LkT K N H a xs ∧ ImAll K N H ds xs
  | .dict _, _ => False
def ImAll (K : PySem.W.Frag) (N : Addr → Prop) (H : Hp) : List PyData → List V → Prop
  | [], vs => vs = []
  | d :: ds, vs => ∃ x xs, vs = x :: xs ∧ Im K N H d x ∧ ImAll K N H ds xs
end
section
variable {K : PySem.W.Frag} {N N' : Addr → Prop} {H H' : Hp}
mutual
theorem Im.go (g : Go N N' H H') : ∀ {d : PyData} {v : V}, Im K N H d v → Im K N' H' d v
  | .none, _, h => by simpa only [Im] using h
  | .bool _, _, h => by simpa only [Im] using h
  | .int _, _, h => by simpa only [Im] using h
  | .str _, _, h => by simpa only [Im] using h
  | .list _, _, h => by
    simp only [Im] at h ⊢
    obtain ⟨a, xs, e, l, t⟩ := h
    exact ⟨a, xs, e, l.go g, ImAll.go g t⟩
  | .tuple _, _, h => by
    simp only [Im] at h ⊢
    obtain ⟨a, xs, e, l, t⟩ := h
    exact ⟨a, xs, e, l.go g, ImAll.go g t⟩
  | .dict _, _, h => by simp only [Im] at h
theorem ImAll.go (g : Go N N' H H') : ∀ {ds : List PyData} {vs : List V}, ImAll K N H ds vs → ImAll K N' H' ds vs
  | [], _, h => by simpa only [ImAll] using h
  | _ :: _, _, h => by
    simp only [ImAll] at h ⊢
    obtain ⟨x, xs, e, l, t⟩ := h
    exact ⟨x, xs, e, Im.go g l, ImAll.go g t⟩
end
mutual
theorem Im.dp : ∀ {d : PyData} {v : V}, Im K N H d v → Dp K H v d
  | .none, _, h => by simp only [Im] at h; subst h; exact .non
  | .bool _, _, h => by simp only [Im] at h; subst h; exact .bl _
  | .int _, _, h => by simp only [Im] at h; subst h; exact .int _
  | .str _, _, h => by simp only [Im] at h; subst h; exact .str _
  | .list _, _, h => by
    simp only [Im] at h
    obtain ⟨a, xs, rfl, l, t⟩ := h
    exact .lst l.sq (ImAll.dp t)
  | .tuple _, _, h => by
    simp only [Im] at h
    obtain ⟨a, xs, rfl, l, t⟩ := h
    exact .tup l.sq (ImAll.dp t)
  | .dict _, _, h => by simp only [Im] at h
theorem ImAll.dp : ∀ {ds : List PyData} {vs : List V}, ImAll K N H ds vs → DpAll K H vs ds
  | [], _, h => by simp only [ImAll] at h; subst h; exact .nil
  | _ :: _, _, h => by
    simp only [ImAll] at h
    obtain ⟨x, xs, rfl, l, t⟩ := h
    exact .cons (Im.dp l) (ImAll.dp t)
end
theorem ImAll.length : ∀ {ds : List PyData} {vs : List V}, ImAll K N H ds vs → vs.length = ds.length
  | [], _, h => by simp only [ImAll] at h; subst h; rfl
  | _ :: _, _, h => by
    simp only [ImAll] at h
    obtain ⟨x, xs, rfl, l, t⟩ := h
    simp [ImAll.length t]
theorem ImAll.get : ∀ {ds : List PyData} {vs : List V} {i : Nat} {d : PyData}, ImAll K N H ds vs → ds[i]? = some d → ∃ v, vs[i]? = some v ∧ Im K N H d v
  | [], _, _, _, _, e => by simp at e
  | d :: ds, _, 0, _, h, e => by
    simp only [ImAll] at h
    obtain ⟨x, xs, rfl, l, t⟩ := h
    simp at e; subst e
    exact ⟨x, rfl, l⟩
  | d :: ds, _, i + 1, _, h, e => by
    simp only [ImAll] at h
    obtain ⟨x, xs, rfl, l, t⟩ := h
    obtain ⟨v, e1, l1⟩ := ImAll.get (i := i) t (by simpa using e)
    exact ⟨v, by simpa using e1, l1⟩
theorem ImAll.getV : ∀ {ds : List PyData} {vs : List V} {i : Nat} {v : V}, ImAll K N H ds vs → vs[i]? = some v → ∃ d, ds[i]? = some d ∧ Im K N H d v
  | [], _, _, _, h, e => by simp only [ImAll] at h; subst h; simp at e
  | d :: ds, _, 0, _, h, e => by
    simp only [ImAll] at h
    obtain ⟨x, xs, rfl, l, t⟩ := h
    simp at e; subst e
    exact ⟨d, rfl, l⟩
  | d :: ds, _, i + 1, _, h, e => by
    simp only [ImAll] at h
    obtain ⟨x, xs, rfl, l, t⟩ := h
    obtain ⟨v, e1, l1⟩ := ImAll.getV (i := i) t (by simpa using e)
    exact ⟨v, by simpa using e1, l1⟩
theorem ImAll.append : ∀ {ds es : List PyData} {vs us : List V}, ImAll K N H ds vs → ImAll K N H es us → ImAll K N H (ds ++ es) (vs ++ us)
  | [], _, _, _, h, k => by simp only [ImAll] at h; subst h; exact k
  | d :: ds, es, _, us, h, k => by
    simp only [ImAll] at h
    obtain ⟨x, xs, rfl, l, t⟩ := h
    show ImAll K N H (d :: (ds ++ es)) (x :: (xs ++ us))
    simp only [ImAll]
    exact ⟨x, _, rfl, l, ImAll.append t k⟩
theorem ImAll.cons {d : PyData} {ds : List PyData} {v : V} {vs : List V} (h : Im K N H d v) (k : ImAll K N H ds vs) : ImAll K N H (d :: ds) (v :: vs) := by
  simp only [ImAll]; exact ⟨v, vs, rfl, h, k⟩
theorem ImAll.nil : ImAll K N H [] [] := by simp only [ImAll]
theorem ImAll.take : ∀ {ds : List PyData} {vs : List V} (n : Nat), ImAll K N H ds vs → ImAll K N H (ds.take n) (vs.take n)
  | _, _, 0, _ => by simp only [List.take_zero]; exact .nil
  | [], _, n + 1, h => by simp only [ImAll] at h; subst h; exact .nil
  | d :: ds, _, n + 1, h => by
    simp only [ImAll] at h
    obtain ⟨x, xs, rfl, l, t⟩ := h
    exact ImAll.cons l (ImAll.take n t)
theorem ImAll.drop : ∀ {ds : List PyData} {vs : List V} (n : Nat), ImAll K N H ds vs → ImAll K N H (ds.drop n) (vs.drop n)
  | _, _, 0, h => h
  | [], _, n + 1, h => by simp only [ImAll] at h; subst h; exact .nil
  | d :: ds, _, n + 1, h => by
    simp only [ImAll] at h
    obtain ⟨x, xs, rfl, l, t⟩ := h
    exact ImAll.drop n t
theorem ImAll.set : ∀ {ds : List PyData} {vs : List V} {d : PyData} {v : V} (i : Nat), ImAll K N H ds vs → Im K N H d v → ImAll K N H (ds.set i d) (vs.set i v)
  | [], _, _, _, _, h, _ => by simp only [ImAll] at h; subst h; exact .nil
  | d :: ds, _, _, _, 0, h, k => by
    simp only [ImAll] at h
    obtain ⟨x, xs, rfl, l, t⟩ := h
    exact ImAll.cons k t
  | d :: ds, _, _, _, i + 1, h, k => by
    simp only [ImAll] at h
    obtain ⟨x, xs, rfl, l, t⟩ := h
    exact ImAll.cons l (ImAll.set i t k)
theorem Im.int {i : Int} : Im K N H (.int i) (.int i) := by simp only [Im]
theorem Im.bool {b : Bool} : Im K N H (.bool b) (.bl b) := by simp only [Im]
theorem Im.none : Im K N H .none .non := by simp only [Im]
theorem Im.str {x : Str} : Im K N H (.str x) (.str x) := by simp only [Im]
theorem Im.int_iff {i : Int} {v : V} : Im K N H (.int i) v ↔ v = .int i := by simp only [Im]
theorem Im.bool_iff {b : Bool} {v : V} : Im K N H (.bool b) v ↔ v = .bl b := by simp only [Im]
theorem ImAll.ints : ∀ ns : List Int, ImAll K N H (ns.map .int) (ns.map .int)
  | [] => .nil
  | n :: ns => .cons .int (ImAll.ints ns)
end
/-! ## the state of a def's body -/
/-- K the written part; H0 the heap at its start; N what callers may change; L what is lent to this body -/
structure Fm where
  K : PySem.W.Frag
  H0 : Hp
  N : Addr → Prop
  L : Addr → Prop
  fix : Nat → Prop
inductive Ent
  | d (x : PyData)
  | own (xs : List PyData)
  | ro (x : PyData)
  | raw (v : V)
abbrev Rho := List (Option Ent)
inductive R
  | d (x : PyData)
  | o (i : Nat)
  | raw (v : V)
inductive Pin
  | val (v : V) (r : R)
  | acc (a : Addr) (xs : List PyData)
def accs : List Pin → List Addr
  | [] => []
  | .acc a _ :: ps => a :: accs ps
  | .val _ _ :: ps => accs ps
theorem mem_accs {a : Addr} : ∀ {ps : List Pin}, a ∈ accs ps ↔ ∃ xs, Pin.acc a xs ∈ ps
  | [] => by simp [accs]
  | .acc b ys :: ps => by
    simp only [accs, List.mem_cons, mem_accs (ps := ps)]
    constructor
    · rintro (rfl | ⟨xs, h⟩)
      · exact ⟨ys, .inl rfl⟩
      · exact ⟨xs, .inr h⟩
    · rintro ⟨xs, h | h⟩
      · cases h; exact .inl rfl
      · exact .inr ⟨xs, h⟩
  | .val v r :: ps => by
    simp only [accs, mem_accs (ps := ps), List.mem_cons]
    constructor
    · rintro ⟨xs, h⟩; exact ⟨xs, .inr h⟩
    · rintro ⟨xs, h | h⟩
      · cases h
      · exact ⟨xs, h⟩
def OwnAt (ρ : Rho) (σ : L2.St) (i : Nat) (a : Addr) : Prop := (∃ xs, ρ[i]? = some (some (.own xs))) ∧ σ[i]? = some (some (.ref a))
/-- what may be changed while this body runs -/
def Av (F : Fm) (pins : List Pin) (ρ : Rho) (σ : L2.St) : Addr → Prop := fun a => F.N a ∨ (∃ i, OwnAt ρ σ i a) ∨ a ∈ accs pins
/-- a list that callers may change, but nobody while this body runs -/
def LkR (F : Fm) (a : Addr) (us : List V) : Prop := (Rd F.H0 a (.lst us) ∧ ¬ F.L a) ∨ SqL F.K (fun _ => none) a us
def RoOk (F : Fm) (A : Addr → Prop) (H : Hp) (x : PyData) (v : V) : Prop := Im F.K A H x v ∨ ∃ a us xs, v = .ref a ∧ x = .list xs ∧ LkR F a us ∧ ImAll F.K A H xs us
def EntOk (F : Fm) (A : Addr → Prop) (H : Hp) : Ent → V → Prop
  | .d x, v => Im F.K A H x v
  | .own xs, v => ∃ a vs, v = .ref a ∧ H a = some (.lst vs) ∧ ImAll F.K A H xs vs ∧ (F.L a ∨ F.H0 a = none)
  | .ro x, v => RoOk F A H x v
  | .raw u, v => v = u
/-- a slot's data -/
def slot (ρ : Rho) (i : Nat) : Option PyData :=
  match ρ[i]? with
  | some (some (.d x)) => some x
  | some (some (.own xs)) => some (.list xs)
  | some (some (.ro x)) => some x
  | _ => none
def val (ρ : Rho) : R → Option PyData
  | .d x => some x
  | .o i => slot ρ i
  | .raw _ => none
def ROk (F : Fm) (A : Addr → Prop) (ρ : Rho) (σ : L2.St) (H : Hp) : R → V → Prop
  | .d x, v => Im F.K A H x v
  | .o i, v => σ[i]? = some (some v) ∧ ∃ x, slot ρ i = some x
  | .raw u, v => v = u
def PinOk (F : Fm) (A : Addr → Prop) (ρ : Rho) (σ : L2.St) (H : Hp) : Pin → Prop
  | .val v r => ROk F A ρ σ H r v
  | .acc a xs => ∃ vs, H a = some (.lst vs) ∧ ImAll F.K A H xs vs ∧ F.H0 a = none ∧ (¬ ∃ i, OwnAt ρ σ i a)
structure Ok (F : Fm) (pins : List Pin) (ρ : Rho) (σ : L2.St) (H : Hp) : Prop where
  len : σ.length = ρ.length
  ent : ∀ (i : Nat) (e : Ent), ρ[i]? = some (some e) → ∃ v, σ[i]? = some (some v) ∧ EntOk F (Av F pins ρ σ) H e v
  own : ∀ (i j : Nat) (a : Addr), OwnAt ρ σ i a → OwnAt ρ σ j a → i = j
  pin : ∀ p ∈ pins, PinOk F (Av F pins ρ σ) ρ σ H p
  acs : (accs pins).Nodup
  fr : ∀ a o, ¬ F.L a → F.H0 a = some o → H a = some o
  nh : ∀ a, F.N a → ∃ o, H a = some o
  ln : ∀ a, F.L a → F.N a
  h0 : ∀ a, F.N a → ∃ o, F.H0 a = some o
  lf : ∀ (i : Nat) (a : Addr), OwnAt ρ σ i a → F.L a → F.fix i
section
variable {F : Fm} {pins : List Pin} {ρ : Rho} {σ : L2.St} {H H' : Hp}
theorem Ok.ownL (O : Ok F pins ρ σ H) {i : Nat} {a : Addr} (h : OwnAt ρ σ i a) : ∃ vs, H a = some (.lst vs) ∧ (F.L a ∨ F.H0 a = none) := by
  obtain ⟨⟨xs, h1⟩, h2⟩ := h
  obtain ⟨v, h3, h4⟩ := O.ent i _ h1
  rw [h2] at h3
  cases h3
  obtain ⟨b, vs, e, h5, _, h6⟩ := h4
  cases e
  exact ⟨vs, h5, h6⟩
theorem Ok.avH (O : Ok F pins ρ σ H) {a : Addr} (h : Av F pins ρ σ a) : ∃ o, H a = some o := by
  rcases h with h | ⟨i, h⟩ | h
  · exact O.nh a h
  · obtain ⟨vs, h, _⟩ := O.ownL h; exact ⟨_, h⟩
  · obtain ⟨xs, h⟩ := mem_accs.mp h
    obtain ⟨vs, h, _⟩ := O.pin _ h
    exact ⟨_, h⟩
theorem RoOk.go {A A' : Addr → Prop} (g : Go A A' H H') {x : PyData} {v : V} (h : RoOk F A H x v) : RoOk F A' H' x v := by
  rcases h with h | ⟨a, us, xs, e, e2, l, t⟩
  · exact .inl (h.go g)
  · exact .inr ⟨a, us, xs, e, e2, l, t.go g⟩
/-- a change of the heap that Av does not feel -/
theorem Ok.heap (O : Ok F pins ρ σ H) (g : ∀ a o, H a = some o → H' a = some o) : Ok F pins ρ σ H' := by
  have G : Go (Av F pins ρ σ) (Av F pins ρ σ) H H' := ⟨fun a o _ h => g a o h, fun a h => .inl h⟩
  refine ⟨O.len, fun i e h => ?_, O.own, fun p hp => ?_, O.acs, fun a o n h => g _ _ (O.fr a o n h), fun a h => ?_, O.ln, O.h0, O.lf⟩
  · obtain ⟨v, h1, h2⟩ := O.ent i e h
    refine ⟨v, h1, ?_⟩
    cases e with
    | d x => exact Im.go G h2
    | own xs =>
      obtain ⟨a, vs, e, h5, h6, h7⟩ := h2
      exact ⟨a, vs, e, g _ _ h5, h6.go G, h7⟩
    | ro x => exact RoOk.go G h2
    | raw u => exact h2
  · have h := O.pin p hp
    cases p with
    | val v r =>
      cases r with
      | d x => exact Im.go G h
      | o i => exact h
      | raw u => exact h
    | acc a xs =>
      obtain ⟨vs, h1, h2, h3⟩ := h
      exact ⟨vs, g _ _ h1, h2.go G, h3⟩
  · obtain ⟨o, h⟩ := O.nh a h
    exact ⟨o, g _ _ h⟩
theorem grow_new {p : Addr} {o : HO} (h : H p = none) : ∀ a u, H a = some u → upd H p o a = some u := fun a u e => by
  rw [upd_ne (ne_of_none e h)]; exact e
theorem Ok.new (O : Ok F pins ρ σ H) {p : Addr} {o : HO} (h : H p = none) : Ok F pins ρ σ (upd H p o) := O.heap (grow_new h)
/-- a value is kept in mind -/
theorem Ok.push (O : Ok F pins ρ σ H) {v : V} {r : R} (h : ROk F (Av F pins ρ σ) ρ σ H r v) : Ok F (.val v r :: pins) ρ σ H := by
  have e : Av F (.val v r :: pins) ρ σ = Av F pins ρ σ := rfl
  refine ⟨O.len, by rw [e]; exact O.ent, O.own, fun p hp => ?_, O.acs, O.fr, O.nh, O.ln, O.h0, O.lf⟩
  rw [e]
  rcases List.mem_cons.mp hp with rfl | hp
  · exact h
  · exact O.pin p hp
theorem Ok.popV {v : V} {r : R} (O : Ok F (.val v r :: pins) ρ σ H) : Ok F pins ρ σ H ∧ ROk F (Av F pins ρ σ) ρ σ H r v := by
  have e : Av F (.val v r :: pins) ρ σ = Av F pins ρ σ := rfl
  refine ⟨⟨O.len, by have := O.ent; rw [e] at this; exact this, O.own, fun p hp => ?_, O.acs, O.fr, O.nh, O.ln, O.h0, O.lf⟩, ?_⟩
  · have := O.pin p (List.mem_cons_of_mem _ hp)
    rw [e] at this; exact this
  · have := O.pin _ (List.mem_cons_self ..)
    rw [e] at this; exact this
theorem ROk.go {A A' : Addr → Prop} (g : Go A A' H H') {r : R} {v : V} (h : ROk F A ρ σ H r v) : ROk F A' ρ σ H' r v := by
  cases r with
  | d x => exact Im.go g h
  | o i => exact h
  | raw u => exact h
/-- a new list, kept in mind: nobody else knows it -/
theorem Ok.pushL (O : Ok F pins ρ σ H) {p : Addr} {xs : List PyData} {vs : List V} (hp : H p = none) (h : ImAll F.K (Av F pins ρ σ) H xs vs) : Ok F (.acc p xs :: pins) ρ σ (upd H p (.lst vs)) := by
  have G : Go (Av F pins ρ σ) (Av F (.acc p xs :: pins) ρ σ) H (upd H p (.lst vs)) := by
    refine ⟨fun a o _ h => grow_new hp a o h, fun a h => ?_⟩
    rcases h with h | h | h
    · exact .inl (.inl h)
    · exact .inl (.inr (.inl h))
    · rcases List.mem_cons.mp (show a ∈ p :: accs pins from h) with rfl | h
      · exact .inr hp
      · exact .inl (.inr (.inr h))
  have nAv : ¬ Av F pins ρ σ p := fun h => by obtain ⟨o, h⟩ := O.avH h; rw [hp] at h; cases h
  have g := grow_new (o := .lst vs) hp
  refine ⟨O.len, fun i e h => ?_, O.own, fun q hq => ?_, ?_, fun a o n h => g _ _ (O.fr a o n h), fun a h => ?_, O.ln, O.h0, O.lf⟩
  · obtain ⟨v, h1, h2⟩ := O.ent i e h
    refine ⟨v, h1, ?_⟩
    cases e with
    | d x => exact Im.go G h2
    | own ys =>
      obtain ⟨a, us, e, h5, h6, h7⟩ := h2
      exact ⟨a, us, e, g _ _ h5, h6.go G, h7⟩
    | ro x => exact RoOk.go G h2
    | raw u => exact h2
  · rcases List.mem_cons.mp hq with rfl | hq
    · refine ⟨vs, upd_same, h.go G, ?_, fun ⟨i, z⟩ => nAv (.inr (.inl ⟨i, z⟩))⟩
      cases e : F.H0 p with
      | none => rfl
      | some o =>
        by_cases hl : F.L p
        · exact absurd (.inl (O.ln p hl)) nAv
        · rw [O.fr p o hl e] at hp; cases hp
    · have h := O.pin q hq
      cases q with
      | val v r => exact ROk.go G h
      | acc a ys =>
        obtain ⟨us, h1, h2, h3⟩ := h
        exact ⟨us, g _ _ h1, h2.go G, h3⟩
  · show (p :: accs pins).Nodup
    refine List.nodup_cons.mpr ⟨fun h => nAv (.inr (.inr h)), O.acs⟩
  · obtain ⟨o, h⟩ := O.nh a h
    exact ⟨o, g _ _ h⟩
/-- it is data from now on -/
theorem Ok.popL {p : Addr} {xs : List PyData} (O : Ok F (.acc p xs :: pins) ρ σ H) : Ok F pins ρ σ H ∧ Im F.K (Av F pins ρ σ) H (.list xs) (.ref p) := by
  have G : Go (Av F (.acc p xs :: pins) ρ σ) (Av F pins ρ σ) H H := by
    refine ⟨fun a o _ h => h, fun a h => .inl ?_⟩
    rcases h with h | h | h
    · exact .inl h
    · exact .inr (.inl h)
    · exact .inr (.inr (List.mem_cons_of_mem _ h))
  obtain ⟨vs, h1, h2, h3, h4⟩ := O.pin _ (List.mem_cons_self ..)
  have hnd := List.nodup_cons.mp (show (p :: accs pins).Nodup from O.acs)
  refine ⟨⟨O.len, fun i e h => ?_, O.own, fun q hq => ?_, hnd.2, O.fr, O.nh, O.ln, O.h0, O.lf⟩, ?_⟩
  · obtain ⟨v, h1, h2⟩ := O.ent i e h
    refine ⟨v, h1, ?_⟩
    cases e with
    | d x => exact Im.go G h2
    | own ys =>
      obtain ⟨a, us, e, h5, h6, h7⟩ := h2
      exact ⟨a, us, e, h5, h6.go G, h7⟩
    | ro x => exact RoOk.go G h2
    | raw u => exact h2
  · have h := O.pin q (List.mem_cons_of_mem _ hq)
    cases q with
    | val v r => exact ROk.go G h
    | acc a ys =>
      obtain ⟨us, h1, h2, h3⟩ := h
      exact ⟨us, h1, h2.go G, h3⟩
  · simp only [Im]
    refine ⟨p, vs, rfl, ⟨h1, ?_⟩, h2.go G⟩
    rintro (h | h | h)
    · obtain ⟨o, h⟩ := O.h0 p h
      rw [h3] at h; cases h
    · exact h4 h
    · exact hnd.1 h
end
end DV
namespace DV
open PySem PySem.Spec PyProof.Rows L2
section
variable {F : Fm} {pins : List Pin} {ρ : Rho} {σ : L2.St} {H H' : Hp}
theorem EntOk.go {A A' : Addr → Prop} (g : Go A A' H H') {e : Ent} {v : V} (h : EntOk F A H e v) (hown : ∀ a vs, v = .ref a → H a = some (.lst vs) → (∃ xs, e = .own xs) → H' a = some (.lst vs)) : EntOk F A' H' e v := by
  cases e with
  | d x => exact Im.go g h
  | own ys =>
    obtain ⟨a, us, e, h5, h6, h7⟩ := h
    exact ⟨a, us, e, hown a us e h5 ⟨_, rfl⟩, h6.go g, h7⟩
  | ro x => exact RoOk.go g h
  | raw u => exact h
theorem setOwn_iff {i : Nat} {a : Addr} {xs : List PyData} (h : OwnAt ρ σ i a) (j : Nat) (b : Addr) : OwnAt (ρ.set i (some (.own xs))) σ j b ↔ OwnAt ρ σ j b := by
  obtain ⟨⟨ys, h1⟩, h2⟩ := h
  have hi : i < ρ.length := by
    rcases Nat.lt_or_ge i ρ.length with z | z
    · exact z
    · rw [List.getElem?_eq_none z] at h1; cases h1
  by_cases e : i = j
  · subst e
    constructor
    · rintro ⟨_, h3⟩; exact ⟨⟨ys, h1⟩, h3⟩
    · rintro ⟨_, h3⟩; exact ⟨⟨xs, by simp [hi]⟩, h3⟩
  · unfold OwnAt
    rw [List.getElem?_set_ne e]
theorem Ok.setOwn (O : Ok F pins ρ σ H) {i : Nat} {a : Addr} {xs : List PyData} {vs : List V} (h : OwnAt ρ σ i a) (hx : ImAll F.K (Av F pins ρ σ) H xs vs) :
    Ok F pins (ρ.set i (some (.own xs))) σ (upd H a (.lst vs)) := by
  have oe := setOwn_iff (xs := xs) h
  have ae : Av F pins (ρ.set i (some (.own xs))) σ = Av F pins ρ σ := by
    funext b
    unfold Av
    simp only [oe]
  have aa : Av F pins ρ σ a := .inr (.inl ⟨i, h⟩)
  have G : Go (Av F pins ρ σ) (Av F pins ρ σ) H (upd H a (.lst vs)) := ⟨fun b o n e => by
    have hb : b ≠ a := fun z => n (by rw [z]; exact aa)
    rw [upd_ne hb]; exact e, fun b z => .inl z⟩
  obtain ⟨vs0, hH, hl⟩ := O.ownL h
  obtain ⟨⟨ys, h1⟩, h2⟩ := id h
  have hi : i < ρ.length := by
    rcases Nat.lt_or_ge i ρ.length with z | z
    · exact z
    · rw [List.getElem?_eq_none z] at h1; cases h1
  refine ⟨by rw [List.length_set]; exact O.len, fun j e hj => ?_, fun j k b z1 z2 => O.own j k b ((oe j b).mp z1) ((oe k b).mp z2), fun p hp => ?_, O.acs, fun b o n e => ?_, fun b z => ?_, O.ln, O.h0, fun j b z => O.lf j b ((oe j b).mp z)⟩
  · rw [ae]
    by_cases e2 : i = j
    · subst e2
      rw [List.getElem?_set_self hi] at hj
      cases hj
      exact ⟨.ref a, h2, a, vs, rfl, upd_same, hx.go G, hl⟩
    · rw [List.getElem?_set_ne e2] at hj
      obtain ⟨v, h3, h4⟩ := O.ent j e hj
      refine ⟨v, h3, EntOk.go G h4 fun b us ev hb ⟨zs, ex⟩ => ?_⟩
      subst ev ex
      rw [upd_ne (fun z => e2 (O.own i j a h (by subst z; exact ⟨⟨zs, hj⟩, h3⟩)))]
      exact hb
  · rw [ae]
    have hq := O.pin p hp
    cases p with
    | val v r =>
      cases r with
      | d x => exact Im.go G hq
      | o j =>
        refine ⟨hq.1, ?_⟩
        by_cases e2 : i = j
        · subst e2
          exact ⟨.list xs, by unfold slot; rw [List.getElem?_set_self hi]⟩
        · obtain ⟨x, hx2⟩ := hq.2
          refine ⟨x, ?_⟩
          unfold slot at hx2 ⊢
          rw [List.getElem?_set_ne e2]
          exact hx2
      | raw u => exact hq
    | acc b ys =>
      obtain ⟨us, h3, h4, h5, h6⟩ := hq
      refine ⟨us, ?_, h4.go G, h5, fun ⟨j, z⟩ => h6 ⟨j, (oe j b).mp z⟩⟩
      rw [upd_ne (fun z => h6 (by subst z; exact ⟨i, h⟩))]
      exact h3
  · rw [upd_ne (fun z => ?_)]
    · exact O.fr b o n e
    · subst z
      rcases hl with hl | hl
      · exact n hl
      · rw [hl] at e; cases e
  · by_cases e : b = a
    · subst e; exact ⟨_, upd_same⟩
    · rw [upd_ne e]; exact O.nh b z
theorem Ok.setAcc {a : Addr} {xs ys : List PyData} {vs : List V} (O : Ok F (.acc a xs :: pins) ρ σ H) (hx : ImAll F.K (Av F (.acc a xs :: pins) ρ σ) H ys vs) :
    Ok F (.acc a ys :: pins) ρ σ (upd H a (.lst vs)) := by
  have ae : Av F (.acc a ys :: pins) ρ σ = Av F (.acc a xs :: pins) ρ σ := rfl
  have aa : Av F (.acc a xs :: pins) ρ σ a := .inr (.inr (List.mem_cons_self ..))
  have G : Go (Av F (.acc a xs :: pins) ρ σ) (Av F (.acc a xs :: pins) ρ σ) H (upd H a (.lst vs)) := ⟨fun b o n e => by
    have hb : b ≠ a := fun z => n (by rw [z]; exact aa)
    rw [upd_ne hb]; exact e, fun b z => .inl z⟩
  obtain ⟨vs0, hH, hi0, h00, hno⟩ := O.pin _ (List.mem_cons_self ..)
  have hnd := List.nodup_cons.mp (show (a :: accs pins).Nodup from O.acs)
  refine ⟨O.len, fun j e hj => ?_, O.own, fun p hp => ?_, O.acs, fun b o n e => ?_, fun b z => ?_, O.ln, O.h0, O.lf⟩
  · rw [ae]
    obtain ⟨v, h3, h4⟩ := O.ent j e hj
    refine ⟨v, h3, EntOk.go G h4 fun b us ev hb ⟨zs, ex⟩ => ?_⟩
    subst ev ex
    rw [upd_ne (fun z => hno (by subst z; exact ⟨j, ⟨zs, hj⟩, h3⟩))]
    exact hb
  · rw [ae]
    rcases List.mem_cons.mp hp with rfl | hp1
    · exact ⟨vs, upd_same, hx.go G, h00, hno⟩
    · have hq := O.pin p (List.mem_cons_of_mem _ hp1)
      cases p with
      | val v r => exact ROk.go G hq
      | acc b zs =>
        obtain ⟨us, h3, h4, h5⟩ := hq
        refine ⟨us, ?_, h4.go G, h5⟩
        rw [upd_ne (fun z => hnd.1 (by subst z; exact mem_accs.mpr ⟨zs, hp1⟩))]
        exact h3
  · rw [upd_ne (fun z => ?_)]
    · exact O.fr b o n e
    · subst z; rw [h00] at e; cases e
  · by_cases e : b = a
    · subst e; exact ⟨_, upd_same⟩
    · rw [upd_ne e]; exact O.nh b z
/-- no value in mind stands for the i-th slot -/
def Fr (pins : List Pin) (i : Nat) : Prop := ∀ v j, Pin.val v (.o j) ∈ pins → j ≠ i
def SPn (F : Fm) (pins : List Pin) : Prop := ∀ v j, Pin.val v (.o j) ∈ pins → F.fix j
theorem SPn.fr (h : SPn F pins) {i : Nat} (hi : ¬ F.fix i) : Fr pins i := fun v j hp e => hi (e ▸ h v j hp)
theorem SPn.cons (h : SPn F pins) {v : V} {x : PyData} : SPn F (.val v (.d x) :: pins) := fun u j hp => by
  rcases List.mem_cons.mp hp with z | z
  · cases z
  · exact h u j z
theorem slot_ne {i j : Nat} {e : Option Ent} (h : j ≠ i) : slot (ρ.set i e) j = slot ρ j := by
  unfold slot; rw [List.getElem?_set_ne (fun z => h z.symm)]
theorem getset {α : Type} {l : List α} {i j : Nat} {x y : α} (h : (l.set i x)[j]? = some y) : (j = i ∧ y = x ∧ i < l.length) ∨ (j ≠ i ∧ l[j]? = some y) := by
  by_cases e : i = j
  · subst e
    by_cases hl : i < l.length
    · rw [List.getElem?_set_self hl] at h; cases h; exact .inl ⟨rfl, rfl, hl⟩
    · rw [List.getElem?_eq_none (by rw [List.length_set]; omega)] at h; cases h
  · rw [List.getElem?_set_ne e] at h
    exact .inr ⟨fun z => e z.symm, h⟩
theorem own_put {i j : Nat} {b : Addr} {e : Option Ent} {u : Option V} (he : ∀ xs, e ≠ some (.own xs)) (h : OwnAt (ρ.set i e) (σ.set i u) j b) : j ≠ i ∧ OwnAt ρ σ j b := by
  obtain ⟨⟨xs, h1⟩, h2⟩ := h
  rcases getset h1 with ⟨_, q, _⟩ | ⟨ne, q⟩
  · exact absurd q.symm (he xs)
  · rw [List.getElem?_set_ne (fun z => ne z.symm)] at h2
    exact ⟨ne, ⟨xs, q⟩, h2⟩
/-- a name takes a value that is no list of its own -/
theorem Ok.put (O : Ok F pins ρ σ H) {i : Nat} {e : Option Ent} {u : Option V} (hi : Fr pins i) (he : ∀ xs, e ≠ some (.own xs)) (hv : ∀ f, e = some f → ∃ v, u = some v ∧ EntOk F (Av F pins ρ σ) H f v) :
    Ok F pins (ρ.set i e) (σ.set i u) H := by
  have G : Go (Av F pins ρ σ) (Av F pins (ρ.set i e) (σ.set i u)) H H := by
    refine ⟨fun _ _ _ h => h, fun a h => .inl ?_⟩
    rcases h with h | ⟨j, h⟩ | h
    · exact .inl h
    · exact .inr (.inl ⟨j, (own_put he h).2⟩)
    · exact .inr (.inr h)
  refine ⟨by rw [List.length_set, List.length_set]; exact O.len, fun j f hj => ?_, fun j k b z1 z2 => O.own j k b (own_put he z1).2 (own_put he z2).2, fun p hp => ?_, O.acs, O.fr, O.nh, O.ln, O.h0, fun j b z => O.lf j b (own_put he z).2⟩
  · rcases getset hj with ⟨rfl, q, hl⟩ | ⟨ne, q⟩
    · obtain ⟨v, hu, ho⟩ := hv f q.symm
      subst hu
      exact ⟨v, by rw [List.getElem?_set_self (by rw [O.len]; exact hl)], EntOk.go G ho fun _ _ _ z _ => z⟩
    · obtain ⟨v, h3, h4⟩ := O.ent j f q
      exact ⟨v, by rw [List.getElem?_set_ne (fun z => ne z.symm)]; exact h3, EntOk.go G h4 fun _ _ _ z _ => z⟩
  · have hq := O.pin p hp
    cases p with
    | val v r =>
      cases r with
      | d x => exact Im.go G hq
      | o j =>
        have ne := hi v j hp
        obtain ⟨h1, x, h2⟩ := hq
        exact ⟨by rw [List.getElem?_set_ne (fun z => ne z.symm)]; exact h1, x, by rw [slot_ne ne]; exact h2⟩
      | raw u => exact hq
    | acc b ys =>
      obtain ⟨us, h3, h4, h5, h6⟩ := hq
      exact ⟨us, h3, h4.go G, h5, fun ⟨j, z⟩ => h6 ⟨j, (own_put he z).2⟩⟩
/-- a name takes a new list of its own -/
theorem Ok.putL {p : Addr} {xs : List PyData} (O : Ok F (.acc p xs :: pins) ρ σ H) {i : Nat} (hi : Fr pins i) :
    Ok F pins (ρ.set i (some (.own xs))) (σ.set i (some (.ref p))) H := by
  obtain ⟨vs, hH, hx, h00, hno⟩ := O.pin _ (List.mem_cons_self ..)
  have hnd := List.nodup_cons.mp (show (p :: accs pins).Nodup from O.acs)
  have ow : ∀ j b, OwnAt (ρ.set i (some (.own xs))) (σ.set i (some (.ref p))) j b → (j = i ∧ b = p) ∨ (j ≠ i ∧ OwnAt ρ σ j b) := fun j b h => by
    obtain ⟨⟨ys, h1⟩, h2⟩ := h
    rcases getset h1 with ⟨rfl, q, hl⟩ | ⟨ne, q⟩
    · rw [List.getElem?_set_self (by rw [O.len]; exact hl)] at h2
      cases h2; exact .inl ⟨rfl, rfl⟩
    · rw [List.getElem?_set_ne (fun z => ne z.symm)] at h2
      exact .inr ⟨ne, ⟨ys, q⟩, h2⟩
  have G : Go (Av F (.acc p xs :: pins) ρ σ) (Av F pins (ρ.set i (some (.own xs))) (σ.set i (some (.ref p)))) H H := by
    refine ⟨fun _ _ _ h => h, fun a h => .inl ?_⟩
    rcases h with h | ⟨j, h⟩ | h
    · exact .inl h
    · rcases ow j a h with ⟨_, rfl⟩ | ⟨_, h⟩
      · exact .inr (.inr (List.mem_cons_self ..))
      · exact .inr (.inl ⟨j, h⟩)
    · exact .inr (.inr (List.mem_cons_of_mem _ h))
  refine ⟨by rw [List.length_set, List.length_set]; exact O.len, fun j f hj => ?_, fun j k b z1 z2 => ?_, fun q hq => ?_, hnd.2, O.fr, O.nh, O.ln, O.h0, fun j b z hL => ?_⟩
  · rcases getset hj with ⟨rfl, q, hl⟩ | ⟨ne, q⟩
    · cases q
      exact ⟨.ref p, by rw [List.getElem?_set_self (by rw [O.len]; exact hl)], p, vs, rfl, hH, hx.go G, .inr h00⟩
    · obtain ⟨v, h3, h4⟩ := O.ent j f q
      exact ⟨v, by rw [List.getElem?_set_ne (fun z => ne z.symm)]; exact h3, EntOk.go G h4 fun _ _ _ z _ => z⟩
  · rcases ow j b z1 with ⟨e1, e2⟩ | ⟨n1, y1⟩
    · rcases ow k b z2 with ⟨e3, _⟩ | ⟨n2, y2⟩
      · rw [e1, e3]
      · rw [e2] at y2; exact absurd ⟨k, y2⟩ hno
    · rcases ow k b z2 with ⟨e3, e4⟩ | ⟨n2, y2⟩
      · rw [e4] at y1; exact absurd ⟨j, y1⟩ hno
      · exact O.own j k b y1 y2
  · have h := O.pin q (List.mem_cons_of_mem _ hq)
    cases q with
    | val v r =>
      cases r with
      | d x => exact Im.go G h
      | o j =>
        have ne := hi v j hq
        obtain ⟨h1, x, h2⟩ := h
        exact ⟨by rw [List.getElem?_set_ne (fun z => ne z.symm)]; exact h1, x, by rw [slot_ne ne]; exact h2⟩
      | raw u => exact h
    | acc b ys =>
      obtain ⟨us, h3, h4, h5, h6⟩ := h
      refine ⟨us, h3, h4.go G, h5, fun ⟨j, z⟩ => ?_⟩
      rcases ow j b z with ⟨_, rfl⟩ | ⟨_, z⟩
      · exact hnd.1 (mem_accs.mpr ⟨ys, hq⟩)
      · exact h6 ⟨j, z⟩
  · rcases ow j b z with ⟨_, rfl⟩ | ⟨_, z⟩
    · obtain ⟨o, h⟩ := O.h0 b (O.ln b hL)
      rw [h00] at h; cases h
    · exact O.lf j b z hL
/-- a list of one's own is data from now on -/
theorem Ok.frz (O : Ok F pins ρ σ H) {i : Nat} {xs : List PyData} (h : ρ[i]? = some (some (.own xs))) (hf : ¬ F.fix i) : Ok F pins (ρ.set i (some (.d (.list xs)))) σ H := by
  obtain ⟨v, hσ, a, vs, rfl, hH, hx, hl⟩ := O.ent i _ h
  have hil : i < ρ.length := by
    rcases Nat.lt_or_ge i ρ.length with z | z
    · exact z
    · rw [List.getElem?_eq_none z] at h; cases h
  have hown : OwnAt ρ σ i a := ⟨⟨xs, h⟩, hσ⟩
  have ow : ∀ j b, OwnAt (ρ.set i (some (.d (.list xs)))) σ j b → j ≠ i ∧ OwnAt ρ σ j b := fun j b h => by
    obtain ⟨⟨ys, h1⟩, h2⟩ := h
    rcases getset h1 with ⟨_, q, _⟩ | ⟨ne, q⟩
    · cases q
    · exact ⟨ne, ⟨ys, q⟩, h2⟩
  have G : Go (Av F pins ρ σ) (Av F pins (ρ.set i (some (.d (.list xs)))) σ) H H := by
    refine ⟨fun _ _ _ h => h, fun a h => .inl ?_⟩
    rcases h with h | ⟨j, h⟩ | h
    · exact .inl h
    · exact .inr (.inl ⟨j, (ow j a h).2⟩)
    · exact .inr (.inr h)
  have h0a : F.H0 a = none := by
    rcases hl with hl | hl
    · exact absurd (O.lf i a hown hl) hf
    · exact hl
  have nav : ¬ Av F pins (ρ.set i (some (.d (.list xs)))) σ a := by
    rintro (z | ⟨j, z⟩ | z)
    · obtain ⟨o, e⟩ := O.h0 a z
      rw [h0a] at e; cases e
    · exact (ow j a z).1 (O.own j i a (ow j a z).2 hown)
    · obtain ⟨ys, hp⟩ := mem_accs.mp z
      obtain ⟨_, _, _, _, hno⟩ := O.pin _ hp
      exact hno ⟨i, hown⟩
  have im : Im F.K (Av F pins (ρ.set i (some (.d (.list xs)))) σ) H (.list xs) (.ref a) := by
    simp only [Im]
    exact ⟨a, vs, rfl, ⟨hH, nav⟩, hx.go G⟩
  refine ⟨by rw [List.length_set]; exact O.len, fun j f hj => ?_, fun j k b z1 z2 => O.own j k b (ow j b z1).2 (ow k b z2).2, fun p hp => ?_, O.acs, O.fr, O.nh, O.ln, O.h0, fun j b z => O.lf j b (ow j b z).2⟩
  · rcases getset hj with ⟨rfl, q, hl⟩ | ⟨ne, q⟩
    · cases q
      exact ⟨.ref a, hσ, im⟩
    · obtain ⟨v, h3, h4⟩ := O.ent j f q
      exact ⟨v, h3, EntOk.go G h4 fun _ _ _ z _ => z⟩
  · have hq := O.pin p hp
    cases p with
    | val v r =>
      cases r with
      | d x => exact Im.go G hq
      | o j =>
        obtain ⟨h1, x, h2⟩ := hq
        refine ⟨h1, ?_⟩
        by_cases e : j = i
        · subst e
          exact ⟨.list xs, by unfold slot; rw [List.getElem?_set_self hil]⟩
        · exact ⟨x, by rw [slot_ne e]; exact h2⟩
      | raw u => exact hq
    | acc b ys =>
      obtain ⟨us, h3, h4, h5, h6⟩ := hq
      exact ⟨us, h3, h4.go G, h5, fun ⟨j, z⟩ => h6 ⟨j, (ow j b z).2⟩⟩
/-- slots forgotten -/
theorem Ok.clr (O : Ok F pins ρ σ H) {i : Nat} (hi : Fr pins i) : Ok F pins (ρ.set i none) (σ.set i none) H := O.put hi (fun _ z => nomatch z) fun _ z => nomatch z
theorem Ok.unclr {i : Nat} (O : Ok F pins ρ (σ.set i none) H) (hi : ρ[i]? = some none) : Ok F pins ρ σ H := by
  have hs : ∀ j v, (σ.set i none)[j]? = some (some v) → σ[j]? = some (some v) := fun j v h => by
    rcases getset h with ⟨_, q, _⟩ | ⟨_, q⟩
    · cases q
    · exact q
  have hs' : ∀ j v, j ≠ i → σ[j]? = some (some v) → (σ.set i none)[j]? = some (some v) := fun j v ne h => by rw [List.getElem?_set_ne (fun z => ne z.symm)]; exact h
  have ne : ∀ j e, ρ[j]? = some (some e) → j ≠ i := fun j e h z => by subst z; rw [hi] at h; cases h
  have ow : ∀ j b, OwnAt ρ σ j b ↔ OwnAt ρ (σ.set i none) j b := fun j b =>
    ⟨fun ⟨⟨xs, h1⟩, h2⟩ => ⟨⟨xs, h1⟩, hs' j _ (ne j _ h1) h2⟩, fun ⟨h1, h2⟩ => ⟨h1, hs j _ h2⟩⟩
  have ae : Av F pins ρ σ = Av F pins ρ (σ.set i none) := by
    funext b; unfold Av; simp only [ow]
  refine ⟨by have := O.len; rw [List.length_set] at this; exact this, fun j e h => ?_, fun j k b z1 z2 => O.own j k b ((ow j b).mp z1) ((ow k b).mp z2), fun p hp => ?_, O.acs, O.fr, O.nh, O.ln, O.h0, fun j b z => O.lf j b ((ow j b).mp z)⟩
  · obtain ⟨v, h1, h2⟩ := O.ent j e h
    exact ⟨v, hs j v h1, by rw [ae]; exact h2⟩
  · have hq := O.pin p hp
    cases p with
    | val v r =>
      cases r with
      | d x => rw [ae]; exact hq
      | o j => exact ⟨hs j v hq.1, hq.2⟩
      | raw u => exact hq
    | acc b ys =>
      obtain ⟨us, h3, h4, h5, h6⟩ := hq
      exact ⟨us, h3, by rw [ae]; exact h4, h5, fun ⟨j, z⟩ => h6 ⟨j, (ow j b).mp z⟩⟩
def wipeR (ρ : Rho) : List Nat → Rho
  | [] => ρ
  | i :: r => (wipeR ρ r).set i none
theorem Ok.wipe (O : Ok F pins ρ σ H) : ∀ {vs : List Nat}, (∀ i ∈ vs, Fr pins i) → Ok F pins (wipeR ρ vs) (wipe σ vs) H
  | [], _ => O
  | i :: r, h => by
    have := Ok.wipe O (vs := r) fun j hj => h j (List.mem_cons_of_mem _ hj)
    exact this.clr (h i (List.mem_cons_self ..))
theorem wipeR_len : ∀ vs : List Nat, (wipeR ρ vs).length = ρ.length
  | [] => rfl
  | i :: r => by show ((wipeR ρ r).set i none).length = _; rw [List.length_set]; exact wipeR_len r
theorem wipeR_none : ∀ {vs : List Nat} {i : Nat}, i ∈ vs → i < ρ.length → (wipeR ρ vs)[i]? = some none
  | j :: r, i, h, hl => by
    show ((wipeR ρ r).set j none)[i]? = some none
    by_cases e : j = i
    · subst e
      rw [List.getElem?_set_self (by rw [wipeR_len]; exact hl)]
    · rw [List.getElem?_set_ne e]
      rcases List.mem_cons.mp h with z | z
      · exact absurd z.symm e
      · exact wipeR_none z hl
theorem Ok.unwipe : ∀ {vs : List Nat} {σ : L2.St}, Ok F pins ρ (L2.wipe σ vs) H → (∀ i ∈ vs, ρ[i]? = some none ∨ ρ[i]? = none) → Ok F pins ρ σ H
  | [], _, O, _ => O
  | i :: r, σ, O, h => by
    have O' : Ok F pins ρ ((L2.wipe σ r).set i none) H := O
    rcases h i (List.mem_cons_self ..) with z | z
    · exact Ok.unwipe (O'.unclr z) fun j hj => h j (List.mem_cons_of_mem _ hj)
    · have hl : ρ.length ≤ i := List.getElem?_eq_none_iff.mp z
      have hw : (L2.wipe σ r).length = ρ.length := by have := O'.len; rw [List.length_set] at this; exact this
      rw [List.set_eq_of_length_le (by omega)] at O'
      exact Ok.unwipe O' fun j hj => h j (List.mem_cons_of_mem _ hj)
end
end DV
namespace DV
open PySem PySem.Spec PyProof.Rows L2
abbrev TDE := Rho → (R → Rho → Prop) → Prop
abbrev TDL := Rho → (List PyData → Rho → Prop) → Prop
abbrev TDA := Rho → (List R → Rho → Prop) → Prop
abbrev TDT := Rho → (Bool → Rho → Prop) → Prop
abbrev TDG := V → R → Rho → (Rho → Prop) → Prop
structure DEnds where
  nx : Rho → Prop
  rt : R → Rho → Prop
  bk : Rho → Prop := fun _ => False
  ct : Rho → Prop := fun _ => False
abbrev TDS := DEnds → Rho → Prop
/-- what a reading tells of data -/
structure DE (F : Fm) (te : TE) (td : TDE) : Prop where
  run : ∀ (pins : List Pin) (ρ : Rho) (σ : L2.St) (H : Hp) (Q : VK), Ok F pins ρ σ H →
    td ρ (fun r ρ' => ∀ v H', Ok F pins ρ' σ H' → ROk F (Av F pins ρ' σ) ρ' σ H' r v → Q v H') → te σ H Q
  mono : ∀ ρ Q Q', (∀ r ρ', Q r ρ' → Q' r ρ') → td ρ Q → td ρ Q'
structure DL (F : Fm) (te : TE) (td : TDL) : Prop where
  run : ∀ (pins : List Pin) (ρ : Rho) (σ : L2.St) (H : Hp) (Q : VK), Ok F pins ρ σ H →
    td ρ (fun xs ρ' => ∀ p H', Ok F (.acc p xs :: pins) ρ' σ H' → Q (.ref p) H') → te σ H Q
  mono : ∀ ρ Q Q', (∀ r ρ', Q r ρ' → Q' r ρ') → td ρ Q → td ρ Q'
structure DT (F : Fm) (tt : TT) (td : TDT) : Prop where
  run : ∀ (pins : List Pin) (ρ : Rho) (σ : L2.St) (H : Hp) (Q : Bool → Hp → Prop), Ok F pins ρ σ H →
    td ρ (fun b ρ' => ∀ H', Ok F pins ρ' σ H' → Q b H') → tt σ H Q
  mono : ∀ ρ Q Q', (∀ r ρ', Q r ρ' → Q' r ρ') → td ρ Q → td ρ Q'
def ROks (F : Fm) (A : Addr → Prop) (ρ : Rho) (σ : L2.St) (H : Hp) : List R → List V → Prop
  | [], vs => vs = []
  | r :: rs, vs => ∃ v us, vs = v :: us ∧ ROk F A ρ σ H r v ∧ ROks F A ρ σ H rs us
structure DA (F : Fm) (ta : TA) (td : TDA) : Prop where
  run : ∀ (pins : List Pin) (ρ : Rho) (σ : L2.St) (H : Hp) (Q : List V → Hp → Prop), Ok F pins ρ σ H →
    td ρ (fun rs ρ' => ∀ vs H', Ok F pins ρ' σ H' → ROks F (Av F pins ρ' σ) ρ' σ H' rs vs → Q vs H') → ta σ H Q
  mono : ∀ ρ Q Q', (∀ r ρ', Q r ρ' → Q' r ρ') → td ρ Q → td ρ Q'
structure PD (X : Cx) (F : Fm) (e : Expr) (te : TE) (td : TDE) : Prop where
  pe : PE X e te
  de : DE F te td
structure PDL (X : Cx) (F : Fm) (e : Expr) (te : TE) (td : TDL) : Prop where
  pe : PE X e te
  dl : DL F te td
structure PDT (X : Cx) (F : Fm) (e : Expr) (tt : TT) (td : TDT) : Prop where
  pt : PT X e tt
  dt : DT F tt td
structure PDW (X : Cx) (F : Fm) (e : Expr) (tt : TT) (td : TDT) : Prop where
  pw : PW X e tt
  dt : DT F tt td
structure PDA (X : Cx) (F : Fm) (es : List Expr) (ta : TA) (td : TDA) : Prop where
  pa : PA X es ta
  da : DA F ta td
section
variable {F : Fm} {pins : List Pin} {ρ : Rho} {σ : L2.St} {H H' : Hp}
theorem LkR.sq (O : Ok F pins ρ σ H) {a : Addr} {us : List V} (h : LkR F a us) : SqL F.K H a us := by
  rcases h with ⟨h | ⟨o, h⟩, n⟩ | h
  · exact .inl (.inl (O.fr _ _ n h))
  · exact .inl (.inr ⟨o, O.fr _ _ n h⟩)
  · exact sql_none h
theorem slot_dp (O : Ok F pins ρ σ H) {i : Nat} {v : V} {x : PyData} (h1 : σ[i]? = some (some v)) (h2 : slot ρ i = some x) : Dp F.K H v x := by
  unfold slot at h2
  cases e : ρ[i]? with
  | none => rw [e] at h2; cases h2
  | some f =>
    rw [e] at h2
    cases f with
    | none => cases h2
    | some f =>
      obtain ⟨u, h3, h4⟩ := O.ent i f e
      rw [h1] at h3; cases h3
      cases f with
      | d y => cases h2; exact Im.dp h4
      | own ys =>
        cases h2
        obtain ⟨a, vs, rfl, h5, h6, _⟩ := h4
        exact .lst (.of h5) h6.dp
      | ro y =>
        cases h2
        rcases h4 with h4 | ⟨a, us, xs, rfl, rfl, l, t⟩
        · exact Im.dp h4
        · exact .lst (l.sq O) t.dp
      | raw u => cases h2
theorem val_dp (O : Ok F pins ρ σ H) {A : Addr → Prop} {r : R} {v : V} {x : PyData} (h : ROk F A ρ σ H r v) (h2 : val ρ r = some x) : Dp F.K H v x := by
  cases r with
  | d y => cases h2; exact Im.dp h
  | o i => exact slot_dp O h.1 h2
  | raw u => cases h2
def vals (ρ : Rho) : List R → Option (List PyData)
  | [] => some []
  | r :: rs => match val ρ r, vals ρ rs with
    | some x, some xs => some (x :: xs)
    | _, _ => none
theorem vals_dp (O : Ok F pins ρ σ H) {A : Addr → Prop} : ∀ {rs : List R} {vs : List V} {xs : List PyData}, ROks F A ρ σ H rs vs → vals ρ rs = some xs → DpAll F.K H vs xs
  | [], _, _, h, e => by
    simp only [ROks] at h; simp only [vals] at e; subst h; cases e; exact .nil
  | r :: rs, _, _, h, e => by
    simp only [ROks] at h
    obtain ⟨v, us, rfl, h1, h2⟩ := h
    simp only [vals] at e
    cases e1 : val ρ r with
    | none => rw [e1] at e; cases e
    | some x =>
      cases e2 : vals ρ rs with
      | none => rw [e1, e2] at e; cases e
      | some xs =>
        rw [e1, e2] at e; cases e
        exact .cons (val_dp O h1 e1) (vals_dp O h2 e2)
end
/-- a value without a heap -/
def Sc (z : PyData) (v : V) : Prop := ∀ K N H, Im K N H z v
theorem Sc.int {i : Int} : Sc (.int i) (.int i) := fun _ _ _ => Im.int
theorem Sc.bool {b : Bool} : Sc (.bool b) (.bl b) := fun _ _ _ => Im.bool
theorem Sc.str {x : Str} : Sc (.str x) (.str x) := fun _ _ _ => Im.str
theorem Sc.none : Sc .none .non := fun _ _ _ => Im.none
theorem ROk.sc {F : Fm} {A : Addr → Prop} {ρ : Rho} {σ : L2.St} {H : Hp} {z : PyData} {v : V} (h : Sc z v) : ROk F A ρ σ H (.d z) v := h _ _ _
section
variable {X : Cx} {F : Fm} {a b c e : Expr} {es : List Expr} {ta tb tc te : TE} {da db dc de : TDE} {pos : Pos}
/-! ### names and constants -/
def dVar (i : Nat) : TDE := fun ρ Q => match ρ[i]? with
  | some (some (.d x)) => Q (.d x) ρ
  | some (some (.own _)) => Q (.o i) ρ
  | some (some (.ro _)) => Q (.o i) ρ
  | some (some (.raw v)) => Q (.raw v) ρ
  | _ => False
theorem de_var (i : Nat) : DE F (tVar i) (dVar i) := by
  constructor
  · intro pins ρ σ H Q O h
    unfold dVar at h
    cases e : ρ[i]? with
    | none => rw [e] at h; exact h.elim
    | some f =>
      rw [e] at h
      cases f with
      | none => exact h.elim
      | some f =>
        obtain ⟨v, h1, h2⟩ := O.ent i f e
        refine ⟨v, h1, ?_⟩
        cases f with
        | d x => exact h v H O h2
        | own xs => exact h v H O ⟨h1, .list xs, by unfold slot; rw [e]⟩
        | ro x => exact h v H O ⟨h1, x, by unfold slot; rw [e]⟩
        | raw u => exact h v H O h2
  · intro ρ Q Q' hq h
    unfold dVar at h ⊢
    split at h <;> first | exact hq _ _ h | exact h
theorem pdv (i : Nat) {x : Str} (hN : X.N[i]? = some x := by rfl) (hv : Vis X.env.scope x := by first | exact Or.inl rfl | exact Or.inr (Or.inl rfl) | exact Or.inr (Or.inr rfl)) (hd : (x == ("__debug__" : Str)) = false := by decide)
    (hcd : (x == ("__classdict__" : Str)) = false := by decide) : PD X F (.Name x pos) (tVar i) (dVar i) := ⟨pe_var hN hv hd hcd, de_var i⟩
def dC (z : PyData) : TDE := fun ρ Q => Q (.d z) ρ
theorem de_c {v : V} {z : PyData} (h : Sc z v) : DE F (tC v) (dC z) := ⟨fun pins ρ σ H Q O h2 => h2 v H O (h _ _ _), fun _ _ _ hq h => hq _ _ h⟩
theorem pd_int {i : Int} {j} : PD X F (.Constant (.int i) j pos) (tC (.int i)) (dC (.int i)) := ⟨pe_int, de_c .int⟩
theorem pd_bl {i : Bool} {j} : PD X F (.Constant (.bool i) j pos) (tC (.bl i)) (dC (.bool i)) := ⟨pe_bl, de_c .bool⟩
theorem pd_str {i : Str} {j} : PD X F (.Constant (.str i) j pos) (tC (.str i)) (dC (.str i)) := ⟨pe_str, de_c .str⟩
theorem pd_non {j} : PD X F (.Constant .none j pos) (tC .non) (dC .none) := ⟨pe_non, de_c .none⟩
/-! ### operators on values -/
abbrev F2 := PyData → PyData → (PyData → Prop) → Prop
/-- the operator's reading from data, the answer without a heap -/
structure SO (K : PySem.W.Frag) (r : R2) (f : F2) : Prop where
  run : ∀ (H : Hp) (x y : V) (dx dy : PyData) (Q : VK), Dp K H x dx → Dp K H y dy → f dx dy (fun z => ∀ v, Sc z v → Q v H) → r x y H Q
  mono : ∀ x y Q Q', (∀ z, Q z → Q' z) → f x y Q → f x y Q'
def onV2 (ρ : Rho) (r s : R) (f : PyData → PyData → Prop) : Prop := match val ρ r, val ρ s with
  | some x, some y => f x y
  | _, _ => False
theorem onV2_of {ρ : Rho} {r s : R} {f : PyData → PyData → Prop} (h : onV2 ρ r s f) : ∃ x y, val ρ r = some x ∧ val ρ s = some y ∧ f x y := by
  unfold onV2 at h
  split at h
  · exact ⟨_, _, by assumption, by assumption, h⟩
  · exact h.elim
theorem onV2_mono {ρ : Rho} {r s : R} {f g : PyData → PyData → Prop} (h : onV2 ρ r s f) (k : ∀ x y, f x y → g x y) : onV2 ρ r s g := by
  unfold onV2 at h ⊢
  split at h
  · exact k _ _ h
  · exact h.elim
def onV (ρ : Rho) (r : R) (f : PyData → Prop) : Prop := match val ρ r with
  | some x => f x
  | _ => False
theorem onV_of {ρ : Rho} {r : R} {f : PyData → Prop} (h : onV ρ r f) : ∃ x, val ρ r = some x ∧ f x := by
  unfold onV at h
  split at h
  · exact ⟨_, by assumption, h⟩
  · exact h.elim
theorem onV_mono {ρ : Rho} {r : R} {f g : PyData → Prop} (h : onV ρ r f) (k : ∀ x, f x → g x) : onV ρ r g := by
  unfold onV at h ⊢
  split at h
  · exact k _ h
  · exact h.elim
def onVs (ρ : Rho) (rs : List R) (f : List PyData → Prop) : Prop := match vals ρ rs with
  | some xs => f xs
  | _ => False
theorem onVs_of {ρ : Rho} {rs : List R} {f : List PyData → Prop} (h : onVs ρ rs f) : ∃ xs, vals ρ rs = some xs ∧ f xs := by
  unfold onVs at h
  split at h
  · exact ⟨_, by assumption, h⟩
  · exact h.elim
theorem onVs_mono {ρ : Rho} {rs : List R} {f g : List PyData → Prop} (h : onVs ρ rs f) (k : ∀ xs, f xs → g xs) : onVs ρ rs g := by
  unfold onVs at h ⊢
  split at h
  · exact k _ h
  · exact h.elim
def dBin (ta tb : TDE) (k : R → R → Rho → (R → Rho → Prop) → Prop) : TDE := fun ρ Q => ta ρ fun r ρ1 => tb ρ1 fun s ρ2 => k r s ρ2 Q
/-- two operands, one behind the other -/
theorem de_bin {t : V → V → Hp → VK → Prop} {k : R → R → Rho → (R → Rho → Prop) → Prop} (ha : DE F ta da) (hb : DE F tb db)
    (hk : ∀ pins ρ σ H x y r s (Q : VK), Ok F pins ρ σ H → ROk F (Av F pins ρ σ) ρ σ H r x → ROk F (Av F pins ρ σ) ρ σ H s y → k r s ρ (fun z ρ' => ∀ v H', Ok F pins ρ' σ H' → ROk F (Av F pins ρ' σ) ρ' σ H' z v → Q v H') → t x y H Q)
    (hm : ∀ r s ρ Q Q', (∀ r ρ', Q r ρ' → Q' r ρ') → k r s ρ Q → k r s ρ Q') :
    DE F (fun σ H Q => ta σ H fun x H1 => tb σ H1 fun y H2 => t x y H2 Q) (dBin da db k) := by
  constructor
  · intro pins ρ σ H Q O h
    refine ha.run pins ρ σ H _ O (ha.mono _ _ _ (fun r ρ1 h1 x H1 O1 R1 => ?_) h)
    refine hb.run (.val x r :: pins) ρ1 σ H1 _ (O1.push R1) (hb.mono _ _ _ (fun s ρ2 h2 y H2 O2 R2 => ?_) h1)
    obtain ⟨O3, R3⟩ := O2.popV
    exact hk pins ρ2 σ H2 x y r s Q O3 R3 R2 h2
  · intro ρ Q Q' hq h
    exact ha.mono _ _ _ (fun r ρ1 h1 => hb.mono _ _ _ (fun s ρ2 h2 => hm r s ρ2 Q Q' hq h2) h1) h
def dOp (f : F2) (ta tb : TDE) : TDE := dBin ta tb fun r s ρ Q => onV2 ρ r s fun x y => f x y fun z => Q (.d z) ρ
theorem de_op {r : R2} {f : F2} (hf : SO F.K r f) (ha : DE F ta da) (hb : DE F tb db) : DE F (tOp r ta tb) (dOp f da db) := by
  refine de_bin ha hb (fun pins ρ σ H x y r s Q O R1 R2 h => ?_) fun r s ρ Q Q' hq h => onV2_mono h fun x y h => hf.mono _ _ _ _ (fun z => hq _ _) h
  obtain ⟨dx, dy, e1, e2, h⟩ := onV2_of h
  exact hf.run H x y dx dy Q (val_dp O R1 e1) (val_dp O R2 e2) (hf.mono _ _ _ _ (fun z q v hv => q v H O (hv _ _ _)) h)
theorem pd_op {op : Operator} {r : R2} {f : F2} (ho : OpR X (binaryOp op) r) (hf : SO F.K r f) (ha : PD X F a ta da) (hb : PD X F b tb db) : PD X F (.BinOp a op b pos) (tOp r ta tb) (dOp f da db) := ⟨pe_op ho ha.pe hb.pe, de_op hf ha.de hb.de⟩
theorem pd_cmp {op : CmpOp} {r : R2} {f : F2} (ho : OpR X (compareOp op) r) (hm : behindInMarks op b = false) (hf : SO F.K r f) (ha : PD X F a ta da) (hb : PD X F b tb db) : PD X F (.Compare a [op] [b] pos) (tOp r ta tb) (dOp f da db) := ⟨pe_cmpR ho ha.pe hb.pe hm, de_op hf ha.de hb.de⟩
/-- of two whole numbers -/
def fI (C : Int → Int → Prop) (g : Int → Int → PyData) : F2
  | .int i, .int j, Q => C i j ∧ Q (g i j)
  | _, _, _ => False
theorem so_I {K : PySem.W.Frag} {C : Int → Int → Prop} {g : Int → Int → PyData} {g' : Int → Int → V} (h : ∀ i j, Sc (g i j) (g' i j)) : SO K (rI C g') (fI C g) := by
  constructor
  · intro H x y dx dy Q h1 h2 q
    cases dx <;> cases dy <;> first | exact q.elim | skip
    cases h1; cases h2
    exact ⟨_, _, rfl, rfl, q.1, q.2 _ (h _ _)⟩
  · intro x y Q Q' hq q
    cases x <;> cases y <;> first | exact q.elim | skip
    exact ⟨q.1, hq _ q.2⟩
def fI0 (g : Int → Int → PyData) : F2
  | .int i, .int j, Q => Q (g i j)
  | _, _, _ => False
theorem so_I0 {K : PySem.W.Frag} {g : Int → Int → PyData} {g' : Int → Int → V} (h : ∀ i j, Sc (g i j) (g' i j)) : SO K (rI0 g') (fI0 g) := by
  constructor
  · intro H x y dx dy Q h1 h2 q
    cases dx <;> cases dy <;> first | exact q.elim | skip
    cases h1; cases h2
    exact ⟨_, _, rfl, rfl, q _ (h _ _)⟩
  · intro x y Q Q' hq q
    cases x <;> cases y <;> first | exact q.elim | skip
    exact hq _ q
abbrev fAdd : F2 := fI0 fun i j => .int (i + j)
abbrev fSub : F2 := fI0 fun i j => .int (i - j)
abbrev fMul : F2 := fI CMulW fun i j => .int (i * j)
abbrev fDiv : F2 := fI CDivW fun i j => .int (i / j)
abbrev fMod : F2 := fI (fun _ j => 0 < j) fun i j => .int (i % j)
abbrev fLt : F2 := fI0 fun i j => .bool (decide (i < j))
abbrev fLe : F2 := fI0 fun i j => .bool (decide (i ≤ j))
abbrev fGt : F2 := fI0 fun i j => .bool (decide (j < i))
abbrev fGe : F2 := fI0 fun i j => .bool (decide (j ≤ i))
theorem pd_add (ha : PD X F a ta da) (hb : PD X F b tb db) : PD X F (.BinOp a .Add b pos) (tOp (rI0 fun i j => .int (i + j)) ta tb) (dOp fAdd da db) := pd_op op_add (so_I0 fun _ _ => .int) ha hb
theorem pd_sub (ha : PD X F a ta da) (hb : PD X F b tb db) : PD X F (.BinOp a .Sub b pos) (tOp (rI0 fun i j => .int (i - j)) ta tb) (dOp fSub da db) := pd_op op_sub (so_I0 fun _ _ => .int) ha hb
theorem pd_mul (ha : PD X F a ta da) (hb : PD X F b tb db) : PD X F (.BinOp a .Mult b pos) (tOp (rI CMulW fun i j => .int (i * j)) ta tb) (dOp fMul da db) := pd_op op_mulW (so_I fun _ _ => .int) ha hb
theorem pd_div (ha : PD X F a ta da) (hb : PD X F b tb db) : PD X F (.BinOp a .FloorDiv b pos) (tOp (rI CDivW fun i j => .int (i / j)) ta tb) (dOp fDiv da db) := pd_op op_fdivW (so_I fun _ _ => .int) ha hb
/-- by any divisor but 0 -/
def CDivZ (_ j : Int) : Prop := j ≠ 0 ∧ j.natAbs.log2 < 9000
theorem op_fdivZ : OpR X (binaryOp .FloorDiv) (rI CDivZ fun i j => .int (i.fdiv j)) := opI fun i j _ _ _ _ _ hc q => floordiv_int hc.1 q (.inl (PyProof.noPylong_of_log2 hc.2))
abbrev fDivZ : F2 := fI CDivZ fun i j => .int (i.fdiv j)
theorem pd_divZ (ha : PD X F a ta da) (hb : PD X F b tb db) : PD X F (.BinOp a .FloorDiv b pos) (tOp (rI CDivZ fun i j => .int (i.fdiv j)) ta tb) (dOp fDivZ da db) := pd_op op_fdivZ (so_I fun _ _ => .int) ha hb
theorem pd_mod (ha : PD X F a ta da) (hb : PD X F b tb db) : PD X F (.BinOp a .Mod b pos) (tOp (rI (fun _ j => 0 < j) fun i j => .int (i % j)) ta tb) (dOp fMod da db) := pd_op op_mod (so_I fun _ _ => .int) ha hb
theorem pd_lt (ha : PD X F a ta da) (hb : PD X F b tb db) : PD X F (.Compare a [.Lt] [b] pos) (tOp (rI0 fun i j => .bl (decide (i < j))) ta tb) (dOp fLt da db) := pd_cmp op_lt (nomark _) (so_I0 fun _ _ => .bool) ha hb
theorem pd_le (ha : PD X F a ta da) (hb : PD X F b tb db) : PD X F (.Compare a [.LtE] [b] pos) (tOp (rI0 fun i j => .bl (decide (i ≤ j))) ta tb) (dOp fLe da db) := pd_cmp op_le (nomark _) (so_I0 fun _ _ => .bool) ha hb
theorem pd_gt (ha : PD X F a ta da) (hb : PD X F b tb db) : PD X F (.Compare a [.Gt] [b] pos) (tOp (rI0 fun i j => .bl (decide (j < i))) ta tb) (dOp fGt da db) := pd_cmp op_gt (nomark _) (so_I0 fun _ _ => .bool) ha hb
theorem pd_ge (ha : PD X F a ta da) (hb : PD X F b tb db) : PD X F (.Compare a [.GtE] [b] pos) (tOp (rI0 fun i j => .bl (decide (j ≤ i))) ta tb) (dOp fGe da db) := pd_cmp op_ge (nomark _) (so_I0 fun _ _ => .bool) ha hb
/-- == of any data -/
def fEq : F2 := fun x y Q => SeqAt.shaped x = true ∧ SeqAt.shaped y = true ∧ Q (.bool (PyData.eqv x y))
def fNe : F2 := fun x y Q => SeqAt.shaped x = true ∧ SeqAt.shaped y = true ∧ Q (.bool (!PyData.eqv x y))
theorem so_Eq {K : PySem.W.Frag} : SO K (rEqD K) fEq := ⟨fun H x y dx dy Q h1 h2 q => ⟨dx, dy, h1, h2, q.1, q.2.1, q.2.2 _ .bool⟩, fun _ _ _ _ hq q => ⟨q.1, q.2.1, hq _ q.2.2⟩⟩
theorem so_Ne {K : PySem.W.Frag} : SO K (rNeD K) fNe := ⟨fun H x y dx dy Q h1 h2 q => ⟨dx, dy, h1, h2, q.1, q.2.1, q.2.2 _ .bool⟩, fun _ _ _ _ hq q => ⟨q.1, q.2.1, hq _ q.2.2⟩⟩
theorem pd_eq (hu : X.A.units + 64 < cLine) (hK : X.K = F.K := by rfl) (ha : PD X F a ta da) (hb : PD X F b tb db) : PD X F (.Compare a [.Eq] [b] pos) (tOp (rEqD F.K) ta tb) (dOp fEq da db) := by
  have h := pd_cmp (X := X) (F := F) (pos := pos) (op_eqD hu) (nomark _) (by rw [hK]; exact so_Eq) ha hb
  rw [hK] at h; exact h
theorem pd_ne (hu : X.A.units + 64 < cLine) (hK : X.K = F.K := by rfl) (ha : PD X F a ta da) (hb : PD X F b tb db) : PD X F (.Compare a [.NotEq] [b] pos) (tOp (rNeD F.K) ta tb) (dOp fNe da db) := by
  have h := pd_cmp (X := X) (F := F) (pos := pos) (op_neD hu) (nomark _) (by rw [hK]; exact so_Ne) ha hb
  rw [hK] at h; exact h
/-- == of two texts -/
def fEqS : F2
  | .str x, .str y, Q => Q (.bool (decide (x = y)))
  | _, _, _ => False
theorem so_EqS {K : PySem.W.Frag} : SO K rEq fEqS := by
  constructor
  · intro H x y dx dy Q h1 h2 q
    cases dx <;> cases dy <;> first | exact q.elim | skip
    cases h1; cases h2
    refine ⟨rfl, q _ ?_⟩
    rw [dec_str, ← Bool.beq_eq_decide_eq]
    exact .bool
  · intro x y Q Q' hq q
    cases x <;> cases y <;> first | exact q.elim | skip
    exact hq _ q
theorem pd_eqS (ha : PD X F a ta da) (hb : PD X F b tb db) : PD X F (.Compare a [.Eq] [b] pos) (tOp rEq ta tb) (dOp fEqS da db) := pd_cmp op_eq (nomark _) so_EqS ha hb
def dUn (f : PyData → (PyData → Prop) → Prop) (ta : TDE) : TDE := fun ρ Q => ta ρ fun r ρ1 => onV ρ1 r fun x => f x fun z => Q (.d z) ρ1
def fNeg : PyData → (PyData → Prop) → Prop
  | .int i, Q => Q (.int (-i))
  | _, _ => False
theorem pd_neg (ha : PD X F a ta da) : PD X F (.UnaryOp .USub a pos) (tUn (rU fun i => .int (-i)) ta) (dUn fNeg da) := by
  refine ⟨pe_un un_neg ha.pe, ?_, ?_⟩
  · intro pins ρ σ H Q O h
    refine ha.de.run pins ρ σ H _ O (ha.de.mono _ _ _ (fun r ρ1 h1 x H1 O1 R1 => ?_) h)
    obtain ⟨dx, e, h2⟩ := onV_of h1
    have d := val_dp O1 R1 e
    cases dx <;> first | exact h2.elim | skip
    cases d
    exact ⟨_, rfl, h2 _ _ O1 (.sc .int)⟩
  · intro ρ Q Q' hq h
    refine ha.de.mono _ _ _ (fun r ρ1 h1 => onV_mono h1 fun x h2 => ?_) h
    cases x <;> first | exact h2.elim | skip
    exact hq _ _ h2
end
end DV
namespace DV
open PySem PySem.Spec PyProof.Rows L2
section
variable {X : Cx} {F : Fm} {a b c e : Expr} {es : List Expr} {ta tb tc te : TE} {da db dc de : TDE} {pos : Pos} {t : TA} {d : TDA}
/-! ### arguments -/
def dNil : TDA := fun ρ Q => Q [] ρ
def dCons (te : TDE) (t : TDA) : TDA := fun ρ Q => te ρ fun r ρ1 => t ρ1 fun rs ρ2 => Q (r :: rs) ρ2
theorem da_nil : DA F tNil dNil := ⟨fun pins ρ σ H Q O h => h [] H O (by simp only [ROks]), fun _ _ _ hq h => hq _ _ h⟩
theorem da_cons (h1 : DE F te de) (h2 : DA F t d) : DA F (tCons te t) (dCons de d) := by
  constructor
  · intro pins ρ σ H Q O h
    refine h1.run pins ρ σ H _ O (h1.mono _ _ _ (fun r ρ1 h3 x H1 O1 R1 => ?_) h)
    refine h2.run (.val x r :: pins) ρ1 σ H1 _ (O1.push R1) (h2.mono _ _ _ (fun rs ρ2 h4 vs H2 O2 R2 => ?_) h3)
    obtain ⟨O3, R3⟩ := O2.popV
    refine h4 _ H2 O3 ?_
    simp only [ROks]
    exact ⟨x, vs, rfl, R3, R2⟩
  · intro ρ Q Q' hq h
    exact h1.mono _ _ _ (fun r ρ1 h3 => h2.mono _ _ _ (fun rs ρ2 h4 => hq _ _ h4) h3) h
theorem pda_nil : PDA X F [] tNil dNil := ⟨pa_nil, da_nil⟩
theorem pda_cons (h1 : PD X F e te de) (h2 : PDA X F es t d) (hs : starEach (e :: es) X.env = (false, eval e X.env) :: starEach es X.env := by rfl) : PDA X F (e :: es) (tCons te t) (dCons de d) := ⟨pa_cons h1.pe h2.pa hs, da_cons h1.de h2.da⟩
/-- all of them data that nobody changes -/
def dats : List R → Option (List PyData)
  | [] => some []
  | .d x :: rs => (dats rs).map (x :: ·)
  | _ :: _ => none
theorem dats_im {A : Addr → Prop} {ρ : Rho} {σ : L2.St} {H : Hp} : ∀ {rs : List R} {vs : List V} {xs : List PyData}, ROks F A ρ σ H rs vs → dats rs = some xs → ImAll F.K A H xs vs
  | [], _, _, h, e => by simp only [ROks] at h; simp only [dats] at e; subst h; cases e; exact .nil
  | .d x :: rs, _, _, h, e => by
    simp only [ROks] at h
    obtain ⟨v, us, rfl, h1, h2⟩ := h
    simp only [dats] at e
    cases e1 : dats rs with
    | none => rw [e1] at e; cases e
    | some xs => rw [e1] at e; cases e; exact .cons h1 (dats_im h2 e1)
  | .o _ :: _, _, _, _, e => by cases e
  | .raw _ :: _, _, _, _, e => by cases e
def onD (rs : List R) (f : List PyData → Prop) : Prop := match dats rs with
  | some xs => f xs
  | _ => False
theorem onD_of {rs : List R} {f : List PyData → Prop} (h : onD rs f) : ∃ xs, dats rs = some xs ∧ f xs := by
  unfold onD at h
  split at h
  · exact ⟨_, by assumption, h⟩
  · exact h.elim
theorem onD_mono {rs : List R} {f g : List PyData → Prop} (h : onD rs f) (k : ∀ xs, f xs → g xs) : onD rs g := by
  unfold onD at h ⊢
  split at h
  · exact k _ h
  · exact h.elim
/-! ### displays -/
def Few (n : Nat) : Prop := n ≤ sizeLine
def dTup (t : TDA) : TDE := fun ρ Q => t ρ fun rs ρ1 => onD rs fun xs => Few xs.length ∧ Q (.d (.tuple xs)) ρ1
theorem newTup {pins : List Pin} {ρ : Rho} {σ : L2.St} {H : Hp} (O : Ok F pins ρ σ H) {p : Addr} {xs : List PyData} {vs : List V} (hp : H p = none) (h : ImAll F.K (Av F pins ρ σ) H xs vs) :
    Ok F pins ρ σ (upd H p (.tup vs)) ∧ Im F.K (Av F pins ρ σ) (upd H p (.tup vs)) (.tuple xs) (.ref p) := by
  have g := grow_new (o := .tup vs) hp
  refine ⟨O.new hp, ?_⟩
  simp only [Im]
  refine ⟨p, vs, rfl, .inl ⟨.inl upd_same, fun z => ?_⟩, h.go ⟨fun a o _ e => g a o e, fun a z => .inl z⟩⟩
  obtain ⟨o, e⟩ := O.avH z
  rw [hp] at e; cases e
theorem pd_tup {x1} (h : PDA X F es t d) : PD X F (.Tuple es x1 pos) (tTup t) (dTup d) := by
  refine ⟨pe_tup h.pa, ?_, ?_⟩
  · intro pins ρ σ H Q O hq
    refine h.da.run pins ρ σ H _ O (h.da.mono _ _ _ (fun rs ρ1 h1 vs H1 O1 R1 => ?_) hq)
    obtain ⟨xs, e, hl, h2⟩ := onD_of h1
    have im := dats_im R1 e
    refine ⟨by rw [im.length]; exact hl, fun p hp => ?_⟩
    obtain ⟨O2, i2⟩ := newTup O1 hp im
    exact h2 _ _ O2 i2
  · intro ρ Q Q' hq hh
    exact h.da.mono _ _ _ (fun rs ρ1 h1 => onD_mono h1 fun xs h2 => ⟨h2.1, hq _ _ h2.2⟩) hh
def dLst (t : TDA) : TDL := fun ρ Q => t ρ fun rs ρ1 => onD rs fun xs => Few xs.length ∧ Q xs ρ1
theorem pl_lst (h : PDA X F es t d) : PDL X F (.List es pos) (tLst t) (dLst d) := by
  refine ⟨pe_lst h.pa, ?_, ?_⟩
  · intro pins ρ σ H Q O hq
    refine h.da.run pins ρ σ H _ O (h.da.mono _ _ _ (fun rs ρ1 h1 vs H1 O1 R1 => ?_) hq)
    obtain ⟨xs, e, hl, h2⟩ := onD_of h1
    have im := dats_im R1 e
    refine ⟨by rw [im.length]; exact hl, fun p hp => ?_⟩
    exact h2 _ _ (O1.pushL hp im)
  · intro ρ Q Q' hq hh
    exact h.da.mono _ _ _ (fun rs ρ1 h1 => onD_mono h1 fun xs h2 => ⟨h2.1, hq _ _ h2.2⟩) hh
/-- a new list as data -/
def dOfL (t : TDL) : TDE := fun ρ Q => t ρ fun xs ρ1 => Q (.d (.list xs)) ρ1
theorem pd_l {dl : TDL} (h : PDL X F e te dl) : PD X F e te (dOfL dl) := by
  refine ⟨h.pe, ?_, ?_⟩
  · intro pins ρ σ H Q O hq
    refine h.dl.run pins ρ σ H _ O (h.dl.mono _ _ _ (fun xs ρ1 h1 p H1 O1 => ?_) hq)
    obtain ⟨O2, i2⟩ := O1.popL
    exact h1 _ _ O2 i2
  · intro ρ Q Q' hq hh
    exact h.dl.mono _ _ _ (fun xs ρ1 h1 => hq _ _ h1) hh
/-! ### built-ins, by values -/
abbrev FA := List PyData → (PyData → Prop) → Prop
structure SC (K : PySem.W.Frag) (r : List V → Hp → VK → Prop) (f : FA) : Prop where
  run : ∀ (H : Hp) (vs : List V) (ds : List PyData) (Q : VK), DpAll K H vs ds → f ds (fun z => ∀ v, Sc z v → Q v H) → r vs H Q
  mono : ∀ ds Q Q', (∀ z, Q z → Q' z) → f ds Q → f ds Q'
def dCB (f : FA) (t : TDA) : TDE := fun ρ Q => t ρ fun rs ρ1 => onVs ρ1 rs fun xs => f xs fun z => Q (.d z) ρ1
theorem de_cb {r : List V → Hp → VK → Prop} {f : FA} (hf : SC F.K r f) (h : DA F t d) : DE F (tCB r t) (dCB f d) := by
  constructor
  · intro pins ρ σ H Q O hq
    refine h.run pins ρ σ H _ O (h.mono _ _ _ (fun rs ρ1 h1 vs H1 O1 R1 => ?_) hq)
    obtain ⟨xs, e, h2⟩ := onVs_of h1
    exact hf.run H1 vs xs Q (vals_dp O1 R1 e) (hf.mono _ _ _ (fun z q v hv => q v H1 O1 (.sc hv)) h2)
  · intro ρ Q Q' hq hh
    exact h.mono _ _ _ (fun rs ρ1 h1 => onVs_mono h1 fun xs h2 => hf.mono _ _ _ (fun z => hq _ _) h2) hh
theorem pd_callB {r : List V → Hp → VK → Prop} {f : FA} {x : Str} {p : Pos} {id : String} (hc : CallR X (.builtin id) r) (hf : SC F.K r f) (hg : Gl X x) (hm : X.mg x = none) (hv : bootBuiltins x = some (.builtin id)) (ha : PDA X F (e :: es) t d) (hn : x ≠ "__name__" := by decide) (hdb : (x == ("__debug__" : Str)) = false := by decide)
    (he : starEach (e :: es) X.env = (false, eval e X.env) :: starEach es X.env := by rfl) (hpl : (backTo pos (starEach es X.env)).any (·.1) = false := by rfl) : PD X F (.Call (.Name x p) (e :: es) [] pos) (tCB r t) (dCB f d) :=
  ⟨pe_callB hc hg hm hv ha.pa hn hdb he hpl, de_cb hf ha.da⟩
theorem pd_callTy {r : List V → Hp → VK → Prop} {f : FA} {x : Str} {p : Pos} {T : String} (hc : CallR X (.type T) r) (hf : SC F.K r f) (hg : Gl X x) (hm : X.mg x = none) (hv : bootBuiltins x = some (.type T)) (ha : PDA X F (e :: es) t d) (hn : x ≠ "__name__" := by decide) (hdb : (x == ("__debug__" : Str)) = false := by decide)
    (he : starEach (e :: es) X.env = (false, eval e X.env) :: starEach es X.env := by rfl) (hpl : (backTo pos (starEach es X.env)).any (·.1) = false := by rfl) : PD X F (.Call (.Name x p) (e :: es) [] pos) (tCB r t) (dCB f d) :=
  ⟨pe_callTy hc hg hm hv ha.pa hn hdb he hpl, de_cb hf ha.da⟩
/-- f, a function of a module that the program imports by name -/
theorem pd_callM {r : List V → Hp → VK → Prop} {f : FA} {x : Str} {p : Pos} {id : String} (hc : CallR X (.builtin id) r) (hf : SC F.K r f) (hg : Gl X x) (hm : X.mg x = some (.builtin id)) (ha : PDA X F (e :: es) t d) (hdb : (x == ("__debug__" : Str)) = false := by decide)
    (he : starEach (e :: es) X.env = (false, eval e X.env) :: starEach es X.env := by rfl) (hpl : (backTo pos (starEach es X.env)).any (·.1) = false := by rfl) : PD X F (.Call (.Name x p) (e :: es) [] pos) (tCB r t) (dCB f d) :=
  ⟨pe_callBfun hc hg hm ha.pa hdb he hpl, de_cb hf ha.da⟩
def fAbs : FA
  | [.int i], Q => Q (.int (if i < 0 then -i else i))
  | _, _ => False
theorem dpall1 {K : PySem.W.Frag} {H : Hp} {vs : List V} {d : PyData} (h : DpAll K H vs [d]) : ∃ v, vs = [v] ∧ Dp K H v d := by
  cases h with
  | cons h1 h2 => cases h2; exact ⟨_, rfl, h1⟩
theorem dpall2 {K : PySem.W.Frag} {H : Hp} {vs : List V} {d e : PyData} (h : DpAll K H vs [d, e]) : ∃ v u, vs = [v, u] ∧ Dp K H v d ∧ Dp K H u e := by
  cases h with
  | cons h1 h2 =>
    obtain ⟨u, rfl, h3⟩ := dpall1 h2
    exact ⟨_, u, rfl, h1, h3⟩
theorem dp_int {K : PySem.W.Frag} {H : Hp} {v : V} {i : Int} (h : Dp K H v (.int i)) : v = .int i := by cases h; rfl
theorem dp_bool {K : PySem.W.Frag} {H : Hp} {v : V} {i : Bool} (h : Dp K H v (.bool i)) : v = .bl i := by cases h; rfl
theorem dp_str {K : PySem.W.Frag} {H : Hp} {v : V} {i : Str} (h : Dp K H v (.str i)) : v = .str i := by cases h; rfl
theorem sc_abs {K : PySem.W.Frag} : SC K (fun xs H Q => ∃ i, xs = [.int i] ∧ Q (.int (if i < 0 then -i else i)) H) fAbs := by
  constructor
  · intro H vs ds Q h q
    unfold fAbs at q
    split at q
    · obtain ⟨v, rfl, h1⟩ := dpall1 h
      cases dp_int h1
      exact ⟨_, rfl, q _ .int⟩
    · exact q.elim
  · intro ds Q Q' hq q
    unfold fAbs at q ⊢
    split at q
    · exact hq _ q
    · exact q.elim
def fInt : FA
  | [.int i], Q => Q (.int i)
  | [.bool k], Q => Q (.int (if k then 1 else 0))
  | _, _ => False
theorem sc_int {K : PySem.W.Frag} : SC K (fun xs H Q => (∃ i, xs = [.int i] ∧ Q (.int i) H) ∨ ∃ k, xs = [.bl k] ∧ Q (.int (if k then 1 else 0)) H) fInt := by
  constructor
  · intro H vs ds Q h q
    unfold fInt at q
    split at q
    · obtain ⟨v, rfl, h1⟩ := dpall1 h
      cases dp_int h1
      exact .inl ⟨_, rfl, q _ .int⟩
    · obtain ⟨v, rfl, h1⟩ := dpall1 h
      cases dp_bool h1
      exact .inr ⟨_, rfl, q _ .int⟩
    · exact q.elim
  · intro ds Q Q' hq q
    unfold fInt at q ⊢
    split at q <;> first | exact hq _ q | exact q.elim
def fMax : FA
  | [.int i, .int j], Q => Q (.int (if j > i then j else i))
  | _, _ => False
theorem sc_max {K : PySem.W.Frag} : SC K (fun xs H Q => ∃ i j, xs = [.int i, .int j] ∧ Q (.int (if j > i then j else i)) H) fMax := by
  constructor
  · intro H vs ds Q h q
    unfold fMax at q
    split at q
    · obtain ⟨v, u, rfl, h1, h2⟩ := dpall2 h
      cases dp_int h1; cases dp_int h2
      exact ⟨_, _, rfl, q _ .int⟩
    · exact q.elim
  · intro ds Q Q' hq q
    unfold fMax at q ⊢
    split at q <;> first | exact hq _ q | exact q.elim
def fMin : FA
  | [.int i, .int j], Q => Q (.int (if j < i then j else i))
  | _, _ => False
theorem sc_min {K : PySem.W.Frag} : SC K (fun xs H Q => ∃ i j, xs = [.int i, .int j] ∧ Q (.int (if j < i then j else i)) H) fMin := by
  constructor
  · intro H vs ds Q h q
    unfold fMin at q
    split at q
    · obtain ⟨v, u, rfl, h1, h2⟩ := dpall2 h
      cases dp_int h1; cases dp_int h2
      exact ⟨_, _, rfl, q _ .int⟩
    · exact q.elim
  · intro ds Q Q' hq q
    unfold fMin at q ⊢
    split at q <;> first | exact hq _ q | exact q.elim
def fGcd : FA
  | [.int i, .int j], Q => Q (.int ((Nat.gcd i.natAbs j.natAbs : Nat) : Int))
  | _, _ => False
theorem sc_gcd {K : PySem.W.Frag} : SC K rGcd fGcd := by
  constructor
  · intro H vs ds Q h q
    unfold fGcd at q
    split at q
    · obtain ⟨v, u, rfl, h1, h2⟩ := dpall2 h
      cases dp_int h1; cases dp_int h2
      exact ⟨_, _, rfl, q _ .int⟩
    · exact q.elim
  · intro ds Q Q' hq q
    unfold fGcd at q ⊢
    split at q <;> first | exact hq _ q | exact q.elim
/-- len of a list or a tuple -/
def fLen : FA
  | [.list xs], Q => Q (.int (xs.length : Nat))
  | [.tuple xs], Q => Q (.int (xs.length : Nat))
  | _, _ => False
theorem DpAll.length {K : PySem.W.Frag} {H : Hp} : ∀ {vs : List V} {ds : List PyData}, DpAll K H vs ds → vs.length = ds.length
  | _, [], h => by cases h; rfl
  | _, _ :: _, h => by cases h with | cons h1 h2 => simp [DpAll.length h2]
theorem sc_len {K : PySem.W.Frag} : SC K (fun xs H Q => ∃ p ys, xs = [.ref p] ∧ (SqL K H p ys ∨ SqT K H p ys) ∧ Q (.int ys.length) H) fLen := by
  constructor
  · intro H vs ds Q h q
    unfold fLen at q
    split at q
    · obtain ⟨v, rfl, h1⟩ := dpall1 h
      cases h1 with
      | lst h2 h3 => exact ⟨_, _, rfl, .inl h2, by rw [DpAll.length h3]; exact q _ .int⟩
    · obtain ⟨v, rfl, h1⟩ := dpall1 h
      cases h1 with
      | tup h2 h3 => exact ⟨_, _, rfl, .inr h2, by rw [DpAll.length h3]; exact q _ .int⟩
    · exact q.elim
  · intro ds Q Q' hq q
    unfold fLen at q ⊢
    split at q <;> first | exact hq _ q | exact q.elim
/-- repr of data -/
def rRepr (K : PySem.W.Frag) : List V → Hp → VK → Prop := fun vs H Q => ∃ v d, vs = [v] ∧ Dp K H v d ∧ d.showable = true ∧ d.hasDict = false ∧ d.depth ≤ 60 ∧ d.shown.length ≤ sizeLine ∧ Q (.str d.shown) H
theorem call_repr (hr : X.A.guards = some []) (hu : X.A.units + 64 < cLine) : CallR X (.builtin "repr") (rRepr X.K) := by
  intro pins s σ H vs us Q I r h
  obtain ⟨v, d, rfl, hd, hs, hn, hdp, hsz, q⟩ := h
  obtain ⟨u, rfl, ru⟩ := vals1 r
  obtain ⟨as, rd⟩ := Dp.reads I d v u hd ru
  have fin : ∀ (h' : Heap) (u' : Tok) (tk : Nat), (∀ b o, s.heap.get? b = some o → h'.get? b = some o) → EP X pins σ Q (.str d.shown u') { s with heap := h', toks := tk } := fun h' u' tk hk =>
    ⟨.str d.shown, H, I.kept hk, ⟨u', rfl⟩, q⟩
  cases d with
  | none =>
    cases hd; cases (show u = Value.none from ru)
    rw [PyData.shown_none] at q
    exact PySem.P.repr_of_none ⟨.str _, H, I.tok _, ⟨_, rfl⟩, q⟩
  | bool b =>
    cases hd; cases (show u = Value.bool b from ru)
    rw [PyData.shown_bool] at q
    exact PySem.P.repr_of_bool ⟨.str _, H, I.tok _, ⟨_, rfl⟩, q⟩
  | int i =>
    cases hd; obtain ⟨tk, rfl⟩ := (show ∃ t, u = Value.int i t from ru)
    have hz : i.natAbs.log2 < 1920 := by simpa [PyData.showable] using hs
    rw [PyData.shown_int] at q
    exact PySem.P.repr_of_int hz ⟨.str _, H, I.tok _, ⟨_, rfl⟩, q⟩
  | str x =>
    cases hd; obtain ⟨tk, rfl⟩ := (show ∃ t, u = Value.str x t from ru)
    rw [PyData.shown_str] at q hsz
    exact PySem.P.repr_of_str ⟨.str _, H, I.tok _, ⟨_, rfl⟩, q⟩ hsz
  | list xs =>
    cases hd; rename_i a vs h1 h2; cases (show u = Value.ref a from ru)
    exact repr_of_reads' rd hs (PyData.noDict_hsm hn) hr (by omega) (fun _ _ e => e) fin hsz
  | tuple xs =>
    cases hd; rename_i a vs h1 h2; cases (show u = Value.ref a from ru)
    exact repr_of_reads' rd hs (PyData.noDict_hsm hn) hr (by omega) (fun _ _ e => e) fin hsz
  | dict _ => cases hd
def Plain (d : PyData) : Prop := d.showable = true ∧ d.hasDict = false ∧ d.depth ≤ 60 ∧ d.shown.length ≤ sizeLine
def fRepr : FA
  | [d], Q => Plain d ∧ Q (.str d.shown)
  | _, _ => False
theorem sc_repr {K : PySem.W.Frag} : SC K (rRepr K) fRepr := by
  constructor
  · intro H vs ds Q h q
    unfold fRepr at q
    split at q
    · obtain ⟨v, rfl, h1⟩ := dpall1 h
      exact ⟨v, _, rfl, h1, q.1.1, q.1.2.1, q.1.2.2.1, q.1.2.2.2, q.2 _ .str⟩
    · exact q.elim
  · intro ds Q Q' hq q
    unfold fRepr at q ⊢
    split at q
    · exact ⟨q.1, hq _ q.2⟩
    · exact q.elim
end
end DV
namespace DV
open PySem PySem.Spec PyProof.Rows L2
/-! ## defs, where nothing is being shown by repr around them -/
structure FnG (P : Program) (w : World) (K : PySem.W.Frag) (mg : Str → Option Value) (base : Heap) (CX : CXT) (k : Nat) (f : Addr) (fd : FuncData) (ps : List Str) (sp : Sp) : Prop where
  size : ∀ vs H Q E, sp vs H Q E → vs.length = ps.length
  goes : ∀ (A : Around) (out : List Env) (s : Shared) (H : Hp) (ar : Args) (us : List Value) (vs : List V) (Q : VK) (E : XK),
    Room k A → A.guards = some [] → Env0 P w K mg base A out s H → BindsTo s fd ar (ps.zip us) → Vals vs us → sp vs H Q E → codeAny (model P w) A (.call (.ref f) ar) (CR CX out P w H s Q E) s
theorem FnG.up {P : Program} {w : World} {K : PySem.W.Frag} {mg : Str → Option Value} {base : Heap} {CX : CXT} {j k : Nat} {f : Addr} {fd : FuncData} {ps : List Str} {sp : Sp} (G : FnG P w K mg base CX j f fd ps sp) (h : j ≤ k) : FnG P w K mg base CX k f fd ps sp :=
  ⟨G.size, fun A out s H ar us vs Q E hr => G.goes A out s H ar us vs Q E (hr.mono h)⟩
section
variable {P : Program} {w : World} {K : PySem.W.Frag} {mg : Str → Option Value} {base : Heap}
theorem fg_of {x qual : Str} {st : Stmt} {f : Addr} {fd : FuncData} {N ps : List Str} {k : Nat} {sp : Sp} (W : Fun K x qual st f fd) (S : FnScope N ps (defScope st)) (hlen : ∀ vs H Q E, sp vs H Q E → vs.length = ps.length)
    (body : ∀ (cdv : Value) (A : Around) (out : List Env) (s : Shared) (H : Hp) (vs : List V) (Q : VK) (E : XK), Room k (A.deeper (envOfC qual (defScope st) s.heap.objs.size f cdv)) → A.guards = some [] → sp vs H Q E →
      ∃ t, PSs (cxOf CX0 P w K mg base N qual (defScope st) f cdv A out s H E).nox (defBody st) t ∧ t { nx := fun _ H' => Q .non H', rt := Q } (start N vs) H) : FnG P w K mg base CX0 (k + 1) f fd ps sp := by
  obtain ⟨oc, od, kV, doc, pm, an, cdv, ct, osl, rfl, lk, cd⟩ := W.ex
  constructor
  · exact hlen
  intro A out s H ar us vs Q E room hgd env0 hbind rel hs
  have inK : K.In s.heap := env0.mod.kin.keeps fun b o e => (env0.bs b o e).1
  have names : ∀ y ∈ ps.zip us, (defScope st).names.lookup y.1 = some .local ∨ ((defScope st).names.lookup y.1 = some .cell ∧ ((cellsFrom (s.heap.objs.size + 1) (defScope st).names []).lookup y.1).isSome = true) := by
    rintro ⟨n, v⟩ hy
    cases S.par n (List.of_mem_zip hy).1 with
    | inl q => exact .inl q
    | inr q => exact .inr ⟨q, PySem.W.cellsFrom_some _ _ _ (.inl q)⟩
  apply codeAny_call_function room.depth (inK _ _ lk) rfl S.co S.gen rfl (PySem.W.codeRec_of inK cd)
  apply hbind
  apply wpAny_newFunctionEnv_cells S.kind names
  rintro env rfl s1 ic
  constructor
  · exact (env0.mod.nolimit.keeps fun b o e => (env0.bs b o e).1).keeps ic.toInCall.keep
  apply codeAny_func
  obtain ⟨t, ht0, hq⟩ := body cdv A out s H vs Q E (room.deeper _) hgd hs
  have ht := ht0.nox
  have I0 := inv_start (CX := CX0) (E := E) S room.hd env0 (hlen _ _ _ _ hs) rel ic
  refine wpAny_mono (ht.run [] s1 (start N vs) H _ I0 hq) ?_ fun _ _ z => z
  intro fl s' z
  cases fl with
  | ret u =>
    obtain ⟨v, σ', H', J, rv, q⟩ := z
    exact ⟨v, H', J.os, J.bare, J.base, J.hok, rv, q⟩
  | next =>
    obtain ⟨σ', H', J, q⟩ := z
    exact ⟨V.non, H', J.os, J.bare, J.base, J.hok, rfl, q⟩
  | brk => exact z.elim fun _ z => z.elim fun _ z => z.2.elim
  | cont => exact z.elim fun _ z => z.elim fun _ z => z.2.elim
end
section
variable {X : Cx} {k : Nat} {f : Addr} {fd : FuncData} {ps : List Str} {sp : Sp} {E : XK} {x : Str} {p pos : Pos} {e : Expr} {es : List Expr} {t : TA}
theorem goes_fn {pins : List (Addr × Obj)} {σ : L2.St} {H : Hp} {s : Shared} {Q : VK} {us : List Value} {vs : List V} (G : FnG X.prog X.w X.K X.mg X.base CX0 k f fd ps sp) (hr : Room k X.A) (hgd : X.A.guards = some []) (hb : Binds X.K fd ps [])
    (I : Inv X pins σ H s) (r : Vals vs us) (h : sp vs H Q E) : wpAny (model X.prog X.w) X.A (call (.ref f) us) (EP X pins σ Q) X.xe s := by
  have bl : (us ++ []).length = ps.length := by rw [List.append_nil, ← r.length]; exact G.size _ _ _ _ h
  have bd := hb s us I.kIn bl
  rw [List.append_nil] at bd
  apply wpAny_call
  refine codeAny_mono (G.goes X.A X.stack s H ⟨us, []⟩ us vs Q E hr hgd I.env0 bd r h) ?_
  rintro (e | (u | _ | _ | _)) s' z
  all_goals first | exact I.after z | exact False.elim z
/-- f(e, ..) -/
theorem pe_callG (G : FnG X.prog X.w X.K X.mg X.base CX0 k f fd ps sp) (hr : Room k X.A) (hgd : X.A.guards = some []) (hg : Gl X x) (hm : X.mg x = some (.ref f)) (hk : PySem.W.keepIn X.K (.ref f) = true) (hb : Binds X.K fd ps [])
    (ha : PA X (e :: es) t) (hdb : (x == ("__debug__" : Str)) = false := by decide) (he : starEach (e :: es) X.env = (false, eval e X.env) :: starEach es X.env := by rfl) (hpl : (backTo pos (starEach es X.env)).any (·.1) = false := by rfl) :
    PE X (.Call (.Name x p) (e :: es) [] pos) (fun σ H Q => t σ H fun vs H1 => sp vs H1 Q E) := by
  constructor
  intro pins s σ H Q I h
  apply wpAny_Call_Name_kw
  apply ld_glob I hg hm _ hdb
  refine PySem.W.callWith_K (h₀ := X.base) I.ok.mod.kin hk (thn (ha.run pos pins s σ H _ I h) ?_) he hpl
  rintro us s1 ⟨vs, H1, I1, r, q⟩
  exact ⟨I1.kIn, goes_fn G hr hgd hb I1 r q⟩
end
/-! ## the end -/
theorem law_goes {P : Program} {w : World} {K : PySem.W.Frag} {mg mb : Str → Option Value} {k : Nat} {fa a : Addr} {fd : FuncData} {x : Str} {sp : Sp} {s₁ : Shared} {vs : List Value} {ns : List Int}
    (inK : K.In s₁.heap) (nm : s₁.heap.Ns mainGlobals mg) (nb : s₁.heap.Ns builtinsNs mb) (bb : ∀ x : Str, x ≠ "__name__" → mb x = bootBuiltins x) (nl : s₁.heap.NoLimit) (ng : s₁.gens = #[])
    (at_a : s₁.heap.get? a = some { cls := .type "list", data := .seq vs.toArray }) (hin : IntsAre vs ns) (short : ns.length ≤ sizeLine) (room : Room k callerA)
    (G : ∀ base : Heap, K.In base → base.Ns mainGlobals mg → FnG P w K mg base CX0 k fa fd [x] sp) (bind : ∀ (s : Shared) (u : Value), BindsTo s fd ⟨[u], []⟩ [(x, u)])
    (hs : ∀ H : Hp, SqL K H a (ns.map V.int) → sp [.ref a] H (fun v _ => v = .bl true) fun _ _ _ => False) :
    codeAny (model P w) callerA (.call (.ref fa) ⟨[.ref a], []⟩) (fun r s' => r = .ok (.ret (.bool true)) ∧ OldK s₁.heap s'.heap ∧ s'.os = s₁.os ∧ AllBare s'.gens) s₁ := by
  let ob : Obj := { cls := .type "list", data := .seq vs.toArray }
  let Hs : Hp := fun b => if b = a ∧ K.lookup a = none then some (.frz ob (.lst (ns.map V.int))) else none
  have Hs_some : ∀ {b u}, Hs b = some u → b = a ∧ K.lookup a = none ∧ u = .frz ob (.lst (ns.map V.int)) := by
    intro b u q
    have q : (if b = a ∧ K.lookup a = none then some (HO.frz ob (.lst (ns.map V.int))) else none) = some u := q
    split at q
    · rename_i c; cases q; exact ⟨c.1, c.2, rfl⟩
    · cases q
  have rel := vals_ints hin
  have sq : SqL K Hs a (ns.map V.int) := by
    cases hk : K.lookup a with
    | none => exact .inl (.inr ⟨ob, if_pos ⟨rfl, hk⟩⟩)
    | some o =>
      have e := inK a o hk
      rw [at_a] at e; cases e
      exact .inr ⟨_, vs.toArray, _, hk, rfl, rfl, rfl, by rw [List.size_toArray, hin.length]; exact short, by simpa using rel⟩
  have hok : HOk P w Hs s₁.heap := by
    intro b u q
    obtain ⟨rfl, _, rfl⟩ := Hs_some q
    exact ⟨at_a, by rw [List.length_map]; exact short, vs, _, rel, at_a⟩
  have keepK : ∀ {b : Addr} {o : Obj}, K.lookup b = some o → Hs b = none := by
    intro b o e
    cases q : Hs b with
    | none => rfl
    | some u => obtain ⟨rfl, z, _⟩ := Hs_some q; rw [z] at e; cases e
  have keepD : ∀ {b : Addr} {o : Obj} {es : Array DictEntry} {ep : Nat}, s₁.heap.get? b = some o → o.data = .dict es ep → Hs b = none := by
    intro b o es ep e d
    cases q : Hs b with
    | none => rfl
    | some u =>
      obtain ⟨rfl, _, _⟩ := Hs_some q
      rw [at_a] at e; cases e
      exact absurd d (by intro z; cases z)
  have ns_of : ∀ {b : Addr} {m : Str → Option Value}, s₁.heap.Ns b m → (hidT s₁.heap Hs).Ns b m := by
    rintro b m ⟨o, es, ep, e, d, r⟩
    exact ⟨o, es, ep, hidT_get e (keepD e d), d, r⟩
  have kb : K.In (hidT s₁.heap Hs) := fun b o e => hidT_get (inK b o e) (keepK e)
  have md : Mod K mg (hidT s₁.heap Hs) := by
    obtain ⟨mc, l1, l2⟩ := nl
    exact ⟨kb, ns_of nm, ⟨mb, ns_of nb, bb⟩, ⟨mc, ns_of l1, l2⟩⟩
  have env0 : Env0 P w K mg (hidT s₁.heap Hs) callerA [] s₁ Hs :=
    ⟨rfl, md, fun b o => of_hidT, Nat.le_of_eq (hidT_size _ _), trivial, (fun b hb => nomatch hb), hok, .of_eq ng⟩
  refine codeAny_mono ((G _ kb (ns_of nm)).goes callerA [] s₁ Hs ⟨[.ref a], []⟩ [.ref a] [.ref a] _ _ room rfl env0 (bind s₁ (.ref a)) (.cons rfl .nil) (hs Hs sq)) ?_
  rintro (e | fl) s' z
  · exact False.elim z
  cases fl with
  | next => exact False.elim z
  | brk => exact False.elim z
  | cont => exact False.elim z
  | ret u =>
    obtain ⟨v, H', os, bare, un, hok', rv, q⟩ := z
    have q : v = .bl true := q
    subst q
    obtain rfl : u = Value.bool true := rv
    refine ⟨rfl, .of_keep ?_, os, bare⟩
    intro b o e
    cases q : Hs b with
    | none => exact un.keep b o e q (fun z => nomatch z) (fun z => nomatch z)
    | some u =>
      obtain ⟨rfl, _, rfl⟩ := Hs_some q
      obtain ⟨e2, _⟩ := hok' _ _ (un.frzs _ _ _ q)
      rw [at_a] at e; cases e
      exact e2
theorem walk_goes {l : PySem.W.OpenLaw} {n k : Nat} {q : Program} {loose : List Str} {XP : (Str → Option Value) → Heap → Prop} {YP : World → Heap → Prop} {d : DefRec} {K : Params → PySem.W.Frag} {sp : PySem.W.Frag → Sp} {x : Str}
    (hn : l.most = some n) (hn2 : n ≤ sizeLine) (hdf : d.params.defaults = []) (hr : Room k callerA) (hY : ∀ (w : World) (h : Heap), YP w h → (K w.params).In h)
    (G : ∀ (w : World) (mg : Str → Option Value) (fa : Addr) (h : Heap), (K w.params).In h → h.Ns mainGlobals mg → mg d.name = some (.ref fa) →
      ∃ fd : FuncData, (∀ (s : Shared) (u : Value), BindsTo s fd ⟨[u], []⟩ [(x, u)]) ∧ ∀ base : Heap, (K w.params).In base → base.Ns mainGlobals mg → FnG l.prog w (K w.params) mg base CX0 k fa fd [x] (sp (K w.params)))
    (hsp : ∀ (K : PySem.W.Frag) (H : Hp) (a : Addr) (ns : List Int), ns.length ≤ n → SqL K H a (ns.map V.int) → sp K [.ref a] H (fun v _ => v = .bl true) fun _ _ _ => False) :
    PySem.W.WalkO q loose XP YP l.row.toRowW d [] (fun f vs => PySem.call f vs) := by
  apply Att.attach_call hn hdf
  intro w s₀ s₁ mg mb fa o pm cd doc a vs ns Gr Y ho hd hcd hmg hobj hints hlen hg
  have inK := hY w _ Y
  obtain ⟨fd, hb, hF⟩ := G w mg fa _ inK Gr.T.g hmg
  exact law_goes inK Gr.T.g Gr.T.b Gr.T.builtins Gr.T.nolimit hg hobj hints (Nat.le_trans hlen hn2) hr hF hb fun H => hsp _ H a ns hlen
end DV
namespace DV
open PySem PySem.Spec PyProof.Rows L2
section
variable {X : Cx} {F : Fm} {a b c e : Expr} {es : List Expr} {ta tb tc te : TE} {da db dc de : TDE} {pos : Pos} {t : TA} {d : TDA} {tt tu : TT} {dt du : TDT}
/-! ### tests -/
def dTV (te : TDE) : TDT := fun ρ Q => te ρ fun r ρ1 => match val ρ1 r with
  | some (.bool k) => Q k ρ1
  | _ => False
theorem dt_tv {k : TE → TT} (hk : ∀ te, k te = fun σ H Q => te σ H fun x H1 => ∃ c, x = .bl c ∧ Q c H1) (h : DE F te de) : DT F (k te) (dTV de) := by
  rw [hk]
  constructor
  · intro pins ρ σ H Q O hq
    refine h.run pins ρ σ H _ O (h.mono _ _ _ (fun r ρ1 h1 v H1 O1 R1 => ?_) hq)
    split at h1
    · rename_i k e
      cases dp_bool (val_dp O1 R1 e)
      exact ⟨k, rfl, h1 H1 O1⟩
    · exact h1.elim
  · intro ρ Q Q' hq hh
    refine h.mono _ _ _ (fun r ρ1 h1 => ?_) hh
    show match val ρ1 r with
      | some (.bool k) => Q' k ρ1
      | _ => False
    split at h1
    · rename_i k e
      exact hq _ _ h1
    · exact h1.elim
theorem pt_v (h : PD X F e te de) (he : ∀ whole, isTrue e X.env whole = (do let v ← whole; standAt e.pos; holding [v] (truthy v)) := by intro _; rfl) : PDT X F e (tB te) (dTV de) := ⟨pt_val h.pe he, dt_tv (k := tB) (fun _ => rfl) h.de⟩
def dNot (t : TDT) : TDT := fun ρ Q => t ρ fun k ρ1 => Q (!k) ρ1
theorem pt_no (h : PDT X F a tt dt) : PDT X F (.UnaryOp .Not a pos) (tNot tt) (dNot dt) :=
  ⟨pt_not h.pt, fun pins ρ σ H Q O hq => h.dt.run pins ρ σ H _ O (h.dt.mono _ _ _ (fun k ρ1 h1 H1 O1 => h1 H1 O1) hq), fun ρ Q Q' hq hh => h.dt.mono _ _ _ (fun k ρ1 h1 => hq _ _ h1) hh⟩
def dAnd (t u : TDT) : TDT := fun ρ Q => t ρ fun k ρ1 => if k = true then u ρ1 Q else Q false ρ1
def dOr (t u : TDT) : TDT := fun ρ Q => t ρ fun k ρ1 => if k = true then Q true ρ1 else u ρ1 Q
theorem dt_and (h1 : DT F tt dt) (h2 : DT F tu du) : DT F (tAnd tt tu) (dAnd dt du) := by
  constructor
  · intro pins ρ σ H Q O hq
    refine h1.run pins ρ σ H _ O (h1.mono _ _ _ (fun k ρ1 h3 H1 O1 => ?_) hq)
    cases k with
    | true => exact h2.run pins ρ1 σ H1 Q O1 h3
    | false => exact h3 H1 O1
  · intro ρ Q Q' hq hh
    refine h1.mono _ _ _ (fun k ρ1 h3 => ?_) hh
    cases k with
    | true => exact h2.mono _ _ _ hq h3
    | false => exact hq _ _ h3
theorem dt_or (h1 : DT F tt dt) (h2 : DT F tu du) : DT F (tOr tt tu) (dOr dt du) := by
  constructor
  · intro pins ρ σ H Q O hq
    refine h1.run pins ρ σ H _ O (h1.mono _ _ _ (fun k ρ1 h3 H1 O1 => ?_) hq)
    cases k with
    | false => exact h2.run pins ρ1 σ H1 Q O1 h3
    | true => exact h3 H1 O1
  · intro ρ Q Q' hq hh
    refine h1.mono _ _ _ (fun k ρ1 h3 => ?_) hh
    cases k with
    | false => exact h2.mono _ _ _ hq h3
    | true => exact hq _ _ h3
theorem pwd_and1 (h : PDT X F a tt dt) : PDW X F (.BoolOp .And [a] pos) tt dt := ⟨pw_and1 h.pt, h.dt⟩
theorem pwd_or1 (h : PDT X F a tt dt) : PDW X F (.BoolOp .Or [a] pos) tt dt := ⟨pw_or1 h.pt, h.dt⟩
theorem pwd_and {rest : List Expr} (h : PDT X F a tt dt) (k : PDW X F (.BoolOp .And (b :: rest) pos) tu du) : PDW X F (.BoolOp .And (a :: b :: rest) pos) (tAnd tt tu) (dAnd dt du) := ⟨pw_and h.pt k.pw, dt_and h.dt k.dt⟩
theorem pwd_or {rest : List Expr} (h : PDT X F a tt dt) (k : PDW X F (.BoolOp .Or (b :: rest) pos) tu du) : PDW X F (.BoolOp .Or (a :: b :: rest) pos) (tOr tt tu) (dOr dt du) := ⟨pw_or h.pt k.pw, dt_or h.dt k.dt⟩
theorem pt_w (h : PDW X F e tt dt) : PDT X F e tt dt := ⟨h.pw.pt, h.dt⟩
/-- and, or, not as values: truths -/
def dAndV (ta tb : TDE) : TDE := fun ρ Q => ta ρ fun r ρ1 => match val ρ1 r with
  | some (.bool k) => if k = true then tb ρ1 Q else Q (.d (.bool false)) ρ1
  | _ => False
def dOrV (ta tb : TDE) : TDE := fun ρ Q => ta ρ fun r ρ1 => match val ρ1 r with
  | some (.bool k) => if k = true then Q (.d (.bool true)) ρ1 else tb ρ1 Q
  | _ => False
def dNotV (ta : TDE) : TDE := fun ρ Q => ta ρ fun r ρ1 => match val ρ1 r with
  | some (.bool k) => Q (.d (.bool !k)) ρ1
  | _ => False
theorem pdn_one {op : BoolOp} (h : PD X F a ta da) : PD X F (.BoolOp op [a] pos) ta da := ⟨pe_one h.pe, h.de⟩
theorem pd_and {rest : List Expr} (ha : PD X F a ta da) (hb : PD X F (.BoolOp .And (b :: rest) pos) tb db) : PD X F (.BoolOp .And (a :: b :: rest) pos) (L2.tAndV ta tb) (dAndV da db) := by
  refine ⟨pe_and ha.pe hb.pe, ?_, ?_⟩
  · intro pins ρ σ H Q O hq
    refine ha.de.run pins ρ σ H _ O (ha.de.mono _ _ _ (fun r ρ1 h1 v H1 O1 R1 => ?_) hq)
    split at h1
    · rename_i k e
      cases dp_bool (val_dp O1 R1 e)
      refine ⟨k, rfl, ?_⟩
      cases k with
      | true => exact hb.de.run pins ρ1 σ H1 Q O1 h1
      | false => exact h1 _ H1 O1 (.sc .bool)
    · exact h1.elim
  · intro ρ Q Q' hq hh
    refine ha.de.mono _ _ _ (fun r ρ1 h1 => ?_) hh
    revert h1
    split
    · rename_i k e
      cases k with
      | true => exact fun h1 => hb.de.mono _ _ _ hq h1
      | false => exact fun h1 => hq _ _ h1
    · exact fun h1 => h1
theorem pd_or {rest : List Expr} (ha : PD X F a ta da) (hb : PD X F (.BoolOp .Or (b :: rest) pos) tb db) : PD X F (.BoolOp .Or (a :: b :: rest) pos) (L2.tOrV ta tb) (dOrV da db) := by
  refine ⟨pe_or ha.pe hb.pe, ?_, ?_⟩
  · intro pins ρ σ H Q O hq
    refine ha.de.run pins ρ σ H _ O (ha.de.mono _ _ _ (fun r ρ1 h1 v H1 O1 R1 => ?_) hq)
    split at h1
    · rename_i k e
      cases dp_bool (val_dp O1 R1 e)
      refine ⟨k, rfl, ?_⟩
      cases k with
      | false => exact hb.de.run pins ρ1 σ H1 Q O1 h1
      | true => exact h1 _ H1 O1 (.sc .bool)
    · exact h1.elim
  · intro ρ Q Q' hq hh
    refine ha.de.mono _ _ _ (fun r ρ1 h1 => ?_) hh
    revert h1
    split
    · rename_i k e
      cases k with
      | false => exact fun h1 => hb.de.mono _ _ _ hq h1
      | true => exact fun h1 => hq _ _ h1
    · exact fun h1 => h1
theorem pd_not (ha : PD X F a ta da) : PD X F (.UnaryOp .Not a pos) (L2.tNotV ta) (dNotV da) := by
  refine ⟨pe_not ha.pe, ?_, ?_⟩
  · intro pins ρ σ H Q O hq
    refine ha.de.run pins ρ σ H _ O (ha.de.mono _ _ _ (fun r ρ1 h1 v H1 O1 R1 => ?_) hq)
    split at h1
    · rename_i k e
      cases dp_bool (val_dp O1 R1 e)
      exact ⟨k, rfl, h1 _ H1 O1 (.sc .bool)⟩
    · exact h1.elim
  · intro ρ Q Q' hq hh
    refine ha.de.mono _ _ _ (fun r ρ1 h1 => ?_) hh
    revert h1
    split
    · exact fun h1 => hq _ _ h1
    · exact fun h1 => h1
def dIfE (t : TDT) (ta tb : TDE) : TDE := fun ρ Q => t ρ fun k ρ1 => if k = true then ta ρ1 Q else tb ρ1 Q
theorem pd_ifExp (hc : PDT X F c tt dt) (ha : PD X F a ta da) (hb : PD X F b tb db) : PD X F (.IfExp c a b pos) (tIf tt ta tb) (dIfE dt da db) := by
  refine ⟨pe_ifExp hc.pt ha.pe hb.pe, ?_, ?_⟩
  · intro pins ρ σ H Q O hq
    refine hc.dt.run pins ρ σ H _ O (hc.dt.mono _ _ _ (fun k ρ1 h1 H1 O1 => ?_) hq)
    cases k with
    | true => exact ha.de.run pins ρ1 σ H1 Q O1 h1
    | false => exact hb.de.run pins ρ1 σ H1 Q O1 h1
  · intro ρ Q Q' hq hh
    refine hc.dt.mono _ _ _ (fun k ρ1 h1 => ?_) hh
    cases k with
    | true => exact ha.de.mono _ _ _ hq h1
    | false => exact hb.de.mono _ _ _ hq h1
/-- a < b < c -/
def dChain (f g : F2) (ta tb tc : TDE) : TDE := fun ρ Q => ta ρ fun r ρ1 => tb ρ1 fun s ρ2 => onV2 ρ2 r s fun x y => f x y fun z => match z with
  | .bool k => if k = true then tc ρ2 fun u ρ3 => onV2 ρ3 s u fun y z => g y z fun o => Q (.d o) ρ3 else Q (.d (.bool false)) ρ2
  | _ => False
end
/-! ## statements -/
structure Rel (F : Fm) (pins : List Pin) (D : Ends) (DD : DEnds) : Prop where
  nx : ∀ ρ σ H, Ok F pins ρ σ H → DD.nx ρ → D.nx σ H
  rt : ∀ ρ σ H v r, Ok F pins ρ σ H → ROk F (Av F pins ρ σ) ρ σ H r v → DD.rt r ρ → D.rt v H
  bk : ∀ ρ σ H, Ok F pins ρ σ H → DD.bk ρ → D.bk σ H
  ct : ∀ ρ σ H, Ok F pins ρ σ H → DD.ct ρ → D.ct σ H
def DS (F : Fm) (ts : TS) (tds : TDS) : Prop := ∀ (pins : List Pin) (ρ : Rho) (σ : L2.St) (H : Hp) (D : Ends) (DD : DEnds), Ok F pins ρ σ H → SPn F pins → Rel F pins D DD → tds DD ρ → ts D σ H
structure PDS (X : Cx) (F : Fm) (st : Stmt) (ts : TS) (tds : TDS) : Prop where
  ps : PS X st ts
  ds : DS F ts tds
structure PDSs (X : Cx) (F : Fm) (st : List Stmt) (ts : TS) (tds : TDS) : Prop where
  pss : PSs X st ts
  ds : DS F ts tds
section
variable {X : Cx} {F : Fm} {a b c e : Expr} {es : List Expr} {ta tb tc te : TE} {da db dc de : TDE} {pos : Pos} {t : TA} {d : TDA} {tt tu : TT} {dt du : TDT} {st : Stmt} {rest sts : List Stmt} {ts us : TS} {ds dus : TDS}
def dNext : TDS := fun DD ρ => DD.nx ρ
def dSeq (t u : TDS) : TDS := fun DD ρ => t { DD with nx := u DD } ρ
theorem dss_nil : PDSs X F [] tNext dNext := ⟨pss_nil, fun pins ρ σ H D DD O S R h => R.nx ρ σ H O h⟩
theorem dss_cons (h1 : PDS X F st ts ds) (h2 : PDSs X F rest us dus) : PDSs X F (st :: rest) (tSeq ts us) (dSeq ds dus) :=
  ⟨pss_cons h1.ps h2.pss, fun pins ρ σ H D DD O S R h => h1.ds pins ρ σ H { D with nx := us D } { DD with nx := dus DD } O S
    ⟨fun ρ1 σ1 H1 O1 q => h2.ds pins ρ1 σ1 H1 D DD O1 S R q, R.rt, R.bk, R.ct⟩ h⟩
theorem dss_one (h1 : PDS X F st ts ds) : PDSs X F [st] ts ds := ⟨pss_one h1.ps, h1.ds⟩
def dBreak : TDS := fun DD ρ => DD.bk ρ
def dCont : TDS := fun DD ρ => DD.ct ρ
theorem ds_pass : PDS X F (.Pass pos) tNext dNext := ⟨ps_pass, fun pins ρ σ H D DD O S R h => R.nx ρ σ H O h⟩
theorem ds_break : PDS X F (.Break pos) tBreak dBreak := ⟨ps_break, fun pins ρ σ H D DD O S R h => R.bk ρ σ H O h⟩
theorem ds_continue : PDS X F (.Continue pos) tCont dCont := ⟨ps_continue, fun pins ρ σ H D DD O S R h => R.ct ρ σ H O h⟩
def dDrop (te : TDE) : TDS := fun DD ρ => te ρ fun _ ρ1 => DD.nx ρ1
theorem ds_expr (he : PD X F e te de) (hs : swapsWith e none pos.line X.env = pure false := by rfl) : PDS X F (.Expr e pos) (tDrop te) (dDrop de) :=
  ⟨ps_expr he.pe hs, fun pins ρ σ H D DD O S R h => he.de.run pins ρ σ H _ O (he.de.mono _ _ _ (fun r ρ1 h1 v H1 O1 _ => R.nx ρ1 σ H1 O1 h1) h)⟩
def dRet (te : TDE) : TDS := fun DD ρ => te ρ DD.rt
theorem ds_ret (he : PD X F e te de) : PDS X F (.Return (some e) pos) (tRet te) (dRet de) :=
  ⟨ps_ret he.pe, fun pins ρ σ H D DD O S R h => he.de.run pins ρ σ H _ O (he.de.mono _ _ _ (fun r ρ1 h1 v H1 O1 R1 => R.rt ρ1 σ H1 v r O1 R1 h1) h)⟩
def dRetN : TDS := fun DD ρ => DD.rt (.d .none) ρ
theorem ds_retN : PDS X F (.Return none pos) tRetN dRetN := ⟨ps_retN, fun pins ρ σ H D DD O S R h => R.rt ρ σ H .non _ O (.sc .none) h⟩
def dIfS (c : TDT) (t u : TDS) : TDS := fun DD ρ => c ρ fun k ρ1 => if k = true then t DD ρ1 else u DD ρ1
theorem ds_if {c : Expr} {x y : List Stmt} (hc : PDT X F c tt dt) (h1 : PDSs X F x ts ds) (h2 : PDSs X F y us dus) : PDS X F (.If c x y pos) (tIfS tt ts us) (dIfS dt ds dus) := by
  refine ⟨ps_if hc.pt h1.pss h2.pss, fun pins ρ σ H D DD O S R h => ?_⟩
  refine hc.dt.run pins ρ σ H _ O (hc.dt.mono _ _ _ (fun k ρ1 h3 H1 O1 => ?_) h)
  cases k with
  | true => exact h1.ds pins ρ1 σ H1 D DD O1 S R h3
  | false => exact h2.ds pins ρ1 σ H1 D DD O1 S R h3
/-! ### targets -/
def setR (i : Nat) (r : R) (ρ : Rho) (k : Rho → Prop) : Prop := match r with
  | .d x => k (ρ.set i (some (.d x)))
  | .raw v => k (ρ.set i (some (.raw v)))
  | .o j => match ρ[j]? with
    | some (some (.ro x)) => k (ρ.set i (some (.ro x)))
    | _ => False
def SameOut (σ σ' : L2.St) (sl : List Nat) : Prop := ∀ vs : List Nat, (∀ i ∈ sl, i ∈ vs) → wipe σ' vs = wipe σ vs
abbrev TDGt := R → Rho → (Rho → Prop) → Prop
structure DG (F : Fm) (g : TG) (dg : TDGt) (sl : List Nat) : Prop where
  run : ∀ (pins : List Pin) (ρ : Rho) (σ : L2.St) (H : Hp) (v : V) (r : R) (Q : L2.St → Hp → Prop) (P : Rho → Prop), Ok F pins ρ σ H → (∀ i ∈ sl, Fr pins i) → ROk F (Av F pins ρ σ) ρ σ H r v → dg r ρ P →
    (∀ ρ' σ' H', Ok F pins ρ' σ' H' → SameOut σ σ' sl → P ρ' → Q σ' H') → g v σ H Q
  mono : ∀ r ρ P P', (∀ ρ', P ρ' → P' ρ') → dg r ρ P → dg r ρ P'
theorem wipe_out1 {σ : L2.St} {i : Nat} {u : Option V} : ∀ {vs : List Nat}, i ∈ vs → wipe (σ.set i u) vs = wipe σ vs
  | j :: r, h => by
    show (wipe (σ.set i u) r).set j none = (wipe σ r).set j none
    by_cases hr : i ∈ r
    · rw [wipe_out1 hr]
    · have e : i = j := by
        rcases List.mem_cons.mp h with z | z
        · exact z
        · exact absurd z hr
      subst e
      have : ∀ (vs : List Nat) (σ : L2.St), i ∉ vs → wipe (σ.set i u) vs = (wipe σ vs).set i u := fun vs => by
        induction vs with
        | nil => intro σ _; rfl
        | cons k ks ih =>
          intro σ hn
          show (wipe (σ.set i u) ks).set k none = ((wipe σ ks).set k none).set i u
          rw [ih σ (fun z => hn (List.mem_cons_of_mem _ z)), List.set_comm _ _ (fun z => hn (by rw [z]; exact List.mem_cons_self ..))]
      rw [this r σ hr, List.set_set]
theorem dg_name (i : Nat) : DG F (gName i) (setR i) [i] := by
  constructor
  · intro pins ρ σ H v r Q P O hf Rv h k
    have so : SameOut σ (σ.set i (some v)) [i] := fun vs hv => wipe_out1 (hv i (List.mem_singleton.mpr rfl))
    have hi := hf i (List.mem_singleton.mpr rfl)
    cases r with
    | d x => exact k _ _ _ (O.put hi (fun _ z => by cases z) fun f e => by cases e; exact ⟨v, rfl, Rv⟩) so h
    | raw u => exact k _ _ _ (O.put hi (fun _ z => by cases z) fun f e => by cases e; exact ⟨v, rfl, Rv⟩) so h
    | o j =>
      unfold setR at h
      dsimp only at h
      split at h
      · rename_i x e
        obtain ⟨u, h1, h2⟩ := O.ent j _ e
        have h3 := Rv.1
        rw [h1] at h3; cases h3
        exact k _ _ _ (O.put hi (fun _ z => by cases z) fun f e => by cases e; exact ⟨_, rfl, h2⟩) so h
      · exact h.elim
  · intro r ρ P P' hp h
    cases r with
    | d x => exact hp _ h
    | raw v => exact hp _ h
    | o j =>
      unfold setR at h ⊢
      dsimp only at h ⊢
      split at h
      · exact hp _ h
      · exact h.elim
structure DGs (F : Fm) (g : TGs) (dg : List PyData → Rho → (Rho → Prop) → Prop) (sl : List Nat) : Prop where
  run : ∀ (pins : List Pin) (ρ : Rho) (σ : L2.St) (H : Hp) (vs : List V) (xs : List PyData) (Q : L2.St → Hp → Prop) (P : Rho → Prop), Ok F pins ρ σ H → (∀ i ∈ sl, Fr pins i) → ImAll F.K (Av F pins ρ σ) H xs vs → dg xs ρ P →
    (∀ ρ' σ' H', Ok F pins ρ' σ' H' → SameOut σ σ' sl → P ρ' → Q σ' H') → g vs σ H Q
  mono : ∀ xs ρ P P', (∀ ρ', P ρ' → P' ρ') → dg xs ρ P → dg xs ρ P'
def dgNil : List PyData → Rho → (Rho → Prop) → Prop
  | [], ρ, P => P ρ
  | _, _, _ => False
def dgCons (g : TDGt) (gs : List PyData → Rho → (Rho → Prop) → Prop) : List PyData → Rho → (Rho → Prop) → Prop
  | x :: xs, ρ, P => g (.d x) ρ fun ρ' => gs xs ρ' P
  | _, _, _ => False
theorem dgs_nil : DGs F gNil dgNil [] := by
  constructor
  · intro pins ρ σ H vs xs Q P O hf hv h k
    cases xs with
    | nil => simp only [ImAll] at hv; exact ⟨hv, k ρ σ H O (fun _ _ => rfl) h⟩
    | cons x xs => exact h.elim
  · intro xs ρ P P' hp h
    cases xs with
    | nil => exact hp _ h
    | cons x xs => exact h.elim
def pinsOf : List V → List PyData → List Pin
  | v :: vs, x :: xs => .val v (.d x) :: pinsOf vs xs
  | _, _ => []
theorem Ok.pushAll {pins : List Pin} {ρ : Rho} {σ : L2.St} {H : Hp} (O : Ok F pins ρ σ H) : ∀ {xs : List PyData} {vs : List V}, ImAll F.K (Av F pins ρ σ) H xs vs → Ok F (pinsOf vs xs ++ pins) ρ σ H ∧ Av F (pinsOf vs xs ++ pins) ρ σ = Av F pins ρ σ
  | [], vs, h => by simp only [ImAll] at h; subst h; exact ⟨O, rfl⟩
  | x :: xs, vs, h => by
    simp only [ImAll] at h
    obtain ⟨v, us, rfl, h1, h2⟩ := h
    obtain ⟨O1, e⟩ := O.pushAll h2
    exact ⟨O1.push (v := v) (r := .d x) (by rw [e]; exact h1), e⟩
theorem Ok.popAll {pins : List Pin} {ρ : Rho} {σ : L2.St} {H : Hp} : ∀ {xs : List PyData} {vs : List V}, vs.length = xs.length → Ok F (pinsOf vs xs ++ pins) ρ σ H → Ok F pins ρ σ H ∧ Av F (pinsOf vs xs ++ pins) ρ σ = Av F pins ρ σ ∧ ImAll F.K (Av F pins ρ σ) H xs vs
  | [], [], _, O => ⟨O, rfl, .nil⟩
  | x :: xs, [], h, _ => by cases h
  | [], v :: vs, h, _ => by cases h
  | x :: xs, v :: vs, h, O => by
    obtain ⟨O1, r1⟩ := Ok.popV (show Ok F (.val v (.d x) :: (pinsOf vs xs ++ pins)) ρ σ H from O)
    obtain ⟨O2, e, r2⟩ := Ok.popAll (by simpa using h) O1
    have r1 : Im F.K (Av F (pinsOf vs xs ++ pins) ρ σ) H x v := r1
    rw [e] at r1
    exact ⟨O2, e, .cons r1 r2⟩
theorem fr_pinsOf {pins : List Pin} {i : Nat} (h : Fr pins i) : ∀ (vs : List V) (xs : List PyData), Fr (pinsOf vs xs ++ pins) i
  | [], _ => h
  | v :: vs, [] => h
  | v :: vs, x :: xs => fun u j hp => by
    rcases List.mem_cons.mp (show Pin.val u (.o j) ∈ Pin.val v (.d x) :: (pinsOf vs xs ++ pins) from hp) with z | z
    · cases z
    · exact fr_pinsOf h vs xs u j z
theorem SameOut.trans {σ σ1 σ2 : L2.St} {s t : List Nat} (h : SameOut σ σ1 s) (k : SameOut σ1 σ2 t) : SameOut σ σ2 (s ++ t) := fun vs hv =>
  (k vs fun i hi => hv i (List.mem_append_right _ hi)).trans (h vs fun i hi => hv i (List.mem_append_left _ hi))
theorem dgs_cons {g : TG} {dg : TDGt} {s t : List Nat} {gs : TGs} {dgs : List PyData → Rho → (Rho → Prop) → Prop} (h1 : DG F g dg s) (h2 : DGs F gs dgs t) : DGs F (gCons g gs) (dgCons dg dgs) (s ++ t) := by
  constructor
  · intro pins ρ σ H vs xs Q P O hf hv h k
    cases xs with
    | nil => exact h.elim
    | cons x xs =>
      simp only [ImAll] at hv
      obtain ⟨v, us, rfl, h3, h4⟩ := hv
      obtain ⟨O1, e1⟩ := O.pushAll h4
      refine ⟨v, us, rfl, h1.run (pinsOf us xs ++ pins) ρ σ H v (.d x) _ _ O1 (fun i hi => fr_pinsOf (hf i (List.mem_append_left _ hi)) us xs) (by rw [e1]; exact h3) h fun ρ' σ' H' O2 so q => ?_⟩
      obtain ⟨O3, _, r3⟩ := Ok.popAll h4.length O2
      exact h2.run pins ρ' σ' H' us xs Q P O3 (fun i hi => hf i (List.mem_append_right _ hi)) r3 q fun ρ2 σ2 H2 O4 so2 q2 => k ρ2 σ2 H2 O4 (so.trans so2) q2
  · intro xs ρ P P' hp h
    cases xs with
    | nil => exact h.elim
    | cons x xs => exact h1.mono _ _ _ _ (fun ρ' q => h2.mono _ _ _ _ hp q) h
def dgTup (n : Nat) (gs : List PyData → Rho → (Rho → Prop) → Prop) : TDGt := fun r ρ P => match r with
  | .d (.tuple xs) => xs.length = n ∧ gs xs ρ P
  | _ => False
theorem dg_tup {n : Nat} {gs : TGs} {dgs : List PyData → Rho → (Rho → Prop) → Prop} {s : List Nat} (h : DGs F gs dgs s) : DG F (gTup F.K n gs) (dgTup n dgs) s := by
  constructor
  · intro pins ρ σ H v r Q P O hf Rv hd k
    unfold dgTup at hd
    split at hd
    · rename_i xs
      have Rv : Im F.K (Av F pins ρ σ) H (.tuple xs) v := Rv
      simp only [Im] at Rv
      obtain ⟨a, vs, rfl, l, im⟩ := Rv
      exact ⟨a, vs, rfl, l.sq, by rw [im.length]; exact hd.1, h.run pins ρ σ H vs xs Q P O hf im hd.2 k⟩
    · exact hd.elim
  · intro r ρ P P' hp hd
    unfold dgTup at hd ⊢
    split at hd
    · exact ⟨hd.1, h.mono _ _ _ _ hp hd.2⟩
    · exact hd.elim
structure PDG (X : Cx) (F : Fm) (tg : Expr) (g : TG) (dg : TDGt) (sl : List Nat) : Prop where
  pg : PG X tg g
  dg : DG F g dg sl
structure PDGs (X : Cx) (F : Fm) (tgs : List Expr) (g : TGs) (dg : List PyData → Rho → (Rho → Prop) → Prop) (sl : List Nat) : Prop where
  pgs : PGs X tgs g
  dgs : DGs F g dg sl
theorem pgd_name {i : Nat} {x : Str} (hN : X.N.Nodup) (hi : X.N[i]? = some x := by rfl) (hx : Loc X.env.scope x := by first | exact Or.inl rfl | exact Or.inr rfl) (hf : X.fn x = true ∨ X.env.scope.names.lookup x = some .local := by first | exact .inl rfl | exact .inr rfl) : PDG X F (.Name x pos) (gName i) (setR i) [i] := ⟨pg_name hN hi hx hf, dg_name i⟩
theorem pgds_nil : PDGs X F [] gNil dgNil [] := ⟨pgs_nil, dgs_nil⟩
end
end DV
namespace DV
open PySem PySem.Spec PyProof.Rows L2
section
variable {X : Cx} {F : Fm} {a b c e : Expr} {es : List Expr} {ta tb tc te : TE} {da db dc de : TDE} {dl : TDL} {pos : Pos} {t : TA} {d : TDA} {tt tu : TT} {dt du : TDT} {st : Stmt} {rest sts : List Stmt} {ts us : TS} {ds dus : TDS}
theorem pgds_cons {tg : Expr} {tgs : List Expr} {g : TG} {dg : TDGt} {s u : List Nat} {gs : TGs} {dgs : List PyData → Rho → (Rho → Prop) → Prop} (h1 : PDG X F tg g dg s) (h2 : PDGs X F tgs gs dgs u)
    (hs : (assignEach (tg :: tgs) X.env).map (·.2) = assign tg X.env :: (assignEach tgs X.env).map (·.2) := by rfl) : PDGs X F (tg :: tgs) (gCons g gs) (dgCons dg dgs) (s ++ u) := ⟨pgs_cons h1.pg h2.pgs hs, dgs_cons h1.dg h2.dgs⟩
theorem pgd_tup {tgs : List Expr} {k n : Nat} {gs : TGs} {dgs : List PyData → Rho → (Rho → Prop) → Prop} {s : List Nat} (hc : X.calm = true) (h : PDGs X F tgs gs dgs s) (hK : X.K = F.K := by rfl)
    (hn : (assignEach tgs X.env).length = n := by rfl) (hst : (assignEach tgs X.env).findIdx? (·.1) = none := by rfl) : PDG X F (.Tuple tgs k pos) (gTup F.K n gs) (dgTup n dgs) s := by
  refine ⟨?_, dg_tup h.dgs⟩
  have := pg_tup (pos := pos) (k := k) hc h.pgs hn hst
  rw [hK] at this
  exact this
def dAsg (te : TDE) (dg : TDGt) : TDS := fun DD ρ => te ρ fun r ρ1 => dg r ρ1 DD.nx
theorem dsa {g : TG} {dg : TDGt} {s : List Nat} (he : DE F te de) (hg : DG F g dg s) (hf : ∀ i ∈ s, ¬ F.fix i) : DS F (tAsg te g) (dAsg de dg) := fun pins ρ σ H D DD O S R h =>
  he.run pins ρ σ H _ O (he.mono _ _ _ (fun r ρ1 h1 v H1 O1 R1 => hg.run pins ρ1 σ H1 v r _ _ O1 (fun i hi => S.fr (hf i hi)) R1 h1 fun ρ2 σ2 H2 O2 _ q => R.nx ρ2 σ2 H2 O2 q) h)
theorem ds_asg {tg : Expr} {g : TG} {dg : TDGt} {s : List Nat} (he : PD X F e te de) (hg : PDG X F tg g dg s) (hf : ∀ i ∈ s, ¬ F.fix i) (hs : swapsWithSole [tg] e pos.line X.env = pure false := by rfl) (hw : swappedStores [tg] e X.env = pure none := by rfl)
    (h1 : (assignEach [tg] X.env).map (·.2) = [assign tg X.env] := by rfl) : PDS X F (.Assign [tg] e pos) (tAsg te g) (dAsg de dg) := ⟨ps_asg he.pe hg.pg hs hw h1, dsa he.de hg.dg hf⟩
theorem ds_set {i : Nat} {x : Str} {pos' : Pos} (hN : X.N.Nodup) (he : PD X F e te de) (hf : ¬ F.fix i) (hi : X.N[i]? = some x := by rfl) (hx : Loc X.env.scope x := by first | exact Or.inl rfl | exact Or.inr rfl) (hs : swapsWith e (some (.Name x pos')) pos.line X.env = pure false := by rfl) (hfn : X.fn x = true ∨ X.env.scope.names.lookup x = some .local := by first | exact .inl rfl | exact .inr rfl) :
    PDS X F (.Assign [.Name x pos'] e pos) (tAsg te (gName i)) (dAsg de (setR i)) := ⟨ps_set hN hi hx he.pe hs hfn, dsa he.de (dg_name i) fun j hj => by rw [List.mem_singleton.mp hj]; exact hf⟩
/-- x = a new list that is changed later -/
def dSetL (i : Nat) (tl : TDL) : TDS := fun DD ρ => tl ρ fun xs ρ1 => DD.nx (ρ1.set i (some (.own xs)))
theorem dsl {i : Nat} (he : DL F te dl) (hf : ¬ F.fix i) : DS F (tAsg te (gName i)) (dSetL i dl) := fun pins ρ σ H D DD O S R h =>
  he.run pins ρ σ H _ O (he.mono _ _ _ (fun xs ρ1 h1 p H1 O1 => R.nx _ _ H1 (O1.putL (S.fr hf)) h1) h)
theorem ds_setL {i : Nat} {x : Str} {pos' : Pos} (hN : X.N.Nodup) (he : PDL X F e te dl) (hf : ¬ F.fix i) (hi : X.N[i]? = some x := by rfl) (hx : Loc X.env.scope x := by first | exact Or.inl rfl | exact Or.inr rfl) (hs : swapsWith e (some (.Name x pos')) pos.line X.env = pure false := by rfl) (hfn : X.fn x = true ∨ X.env.scope.names.lookup x = some .local := by first | exact .inl rfl | exact .inr rfl) :
    PDS X F (.Assign [.Name x pos'] e pos) (tAsg te (gName i)) (dSetL i dl) := ⟨ps_set hN hi hx he.pe hs hfn, dsl he.dl hf⟩
def noO : R → Prop
  | .o _ => False
  | _ => True
/-- x, y = e, e' with plain locals -/
def dPar (i j : Nat) (t : TDA) : TDS := fun DD ρ => t ρ fun rs ρ1 => match rs with
  | [r, s] => noO s ∧ setR i r ρ1 fun ρ2 => setR j s ρ2 DD.nx
  | _ => False
theorem ds_par {i j : Nat} {x y : Str} {px py pt : Pos} {pt2 : Pos} {kt' k2'} (hc : X.calm = true) (hN : X.N.Nodup) (ha : PDA X F [a, b] t d) (hfi : ¬ F.fix i) (hfj : ¬ F.fix j) (hij : i ≠ j := by decide) (hi : X.N[i]? = some x := by rfl) (hj : X.N[j]? = some y := by rfl)
    (hx : X.env.scope.names.lookup x = some .local := by rfl) (hy : X.env.scope.names.lookup y = some .local := by rfl)
    (hw : swappedStores [.Tuple [.Name x px, .Name y py] kt' pt] (.Tuple [a, b] k2' pt2) X.env = pure (some [x, y]) := by rfl)
    (hs : swapsWithSole [.Tuple [.Name x px, .Name y py] kt' pt] (.Tuple [a, b] k2' pt2) pos.line X.env = pure false := by rfl) :
    PDS X F (.Assign [.Tuple [.Name x px, .Name y py] kt' pt] (.Tuple [a, b] k2' pt2) pos) (tPar i j t) (dPar i j d) := by
  refine ⟨ps_par hc hN hi hj hij hx hy ha.pa hw hs, fun pins ρ σ H D DD O S R h => ?_⟩
  refine ha.da.run pins ρ σ H _ O (ha.da.mono _ _ _ (fun rs ρ1 h1 vs H1 O1 R1 => ?_) h)
  split at h1
  · rename_i r s
    simp only [ROks] at R1
    obtain ⟨v, us, rfl, r1, w, us2, rfl, r2, rfl⟩ := R1
    refine ⟨v, w, rfl, ?_⟩
    have O2 := O1.push r2
    have g1 : gName i v σ H1 fun σ2 H2 => gName j w σ2 H2 fun σ3 H3 => D.nx σ3 H3 := by
      refine (dg_name (F := F) i).run (.val w s :: pins) ρ1 σ H1 v r _ _ O2 (fun k hk => ?_) (by exact r1) h1.2 fun ρ2 σ2 H2 O3 _ q => ?_
      · rw [List.mem_singleton.mp hk]
        intro u l hp
        rcases List.mem_cons.mp hp with z | z
        · cases z
          exact h1.1.elim
        · exact S.fr hfi u l z
      · obtain ⟨O4, r3⟩ := O3.popV
        exact (dg_name (F := F) j).run pins ρ2 σ2 H2 w s _ _ O4 (fun k hk => by rw [List.mem_singleton.mp hk]; exact S.fr hfj) r3 q fun ρ4 σ4 H4 O5 _ q2 => R.nx _ _ _ O5 q2
    exact g1
  · exact h1.elim
/-! ### lists of one's own: append, insert, x[k] = e, x[k] += e -/
/-- the own list that stands in slot i -/
def onOwn (ρ : Rho) (i : Nat) (f : List PyData → Prop) : Prop := match ρ[i]? with
  | some (some (.own xs)) => f xs
  | _ => False
theorem onOwn_of {ρ : Rho} {i : Nat} {f : List PyData → Prop} (h : onOwn ρ i f) : ∃ xs, ρ[i]? = some (some (.own xs)) ∧ f xs := by
  unfold onOwn at h
  split at h
  · exact ⟨_, by assumption, h⟩
  · exact h.elim
theorem onOwn_mono {ρ : Rho} {i : Nat} {f g : List PyData → Prop} (h : onOwn ρ i f) (k : ∀ x, f x → g x) : onOwn ρ i g := by
  unfold onOwn at h ⊢
  split at h
  · exact k _ h
  · exact h.elim
/-- a datum -/
def onDat (r : R) (f : PyData → Prop) : Prop := match r with
  | .d x => f x
  | _ => False
theorem Ok.ownGet {pins : List Pin} {ρ : Rho} {σ : L2.St} {H : Hp} (O : Ok F pins ρ σ H) {i : Nat} {xs : List PyData} (h : ρ[i]? = some (some (.own xs))) :
    ∃ p vs, σ[i]? = some (some (.ref p)) ∧ H p = some (.lst vs) ∧ ImAll F.K (Av F pins ρ σ) H xs vs ∧ OwnAt ρ σ i p := by
  obtain ⟨v, h1, p, vs, rfl, h2, h3, _⟩ := O.ent i _ h
  exact ⟨p, vs, h1, h2, h3, ⟨xs, h⟩, h1⟩
/-- a method of the own list at slot i -/
def dOwnM (i : Nat) (t : TDA) (k : List PyData → List R → (PyData → List PyData → Prop) → Prop) : TDE := fun ρ Q => onOwn ρ i fun _ => t ρ fun rs ρ1 => onOwn ρ1 i fun xs => k xs rs fun z ys => Q (.d z) (ρ1.set i (some (.own ys)))
/-- its reading r by values, from data; the answer is without a heap -/
structure SM (F : Fm) (r : V → List V → Hp → VK → Prop) (k : List PyData → List R → (PyData → List PyData → Prop) → Prop) : Prop where
  run : ∀ (pins : List Pin) (ρ : Rho) (σ : L2.St) (H : Hp) (p : Addr) (vs us : List V) (xs : List PyData) (rs : List R) (Q : VK), Ok F pins ρ σ H → H p = some (.lst vs) → ImAll F.K (Av F pins ρ σ) H xs vs → ROks F (Av F pins ρ σ) ρ σ H rs us →
    k xs rs (fun z ys => ∀ v ws, Sc z v → ImAll F.K (Av F pins ρ σ) H ys ws → Q v (upd H p (.lst ws))) → r (.ref p) us H Q
  mono : ∀ xs rs Q Q', (∀ z ys, Q z ys → Q' z ys) → k xs rs Q → k xs rs Q'
theorem de_ownM {i : Nat} {r : V → List V → Hp → VK → Prop} {k : List PyData → List R → (PyData → List PyData → Prop) → Prop} (hr : SM F r k) (ha : DA F t d) : DE F (tBM F.K "list" r (tVar i) t) (dOwnM i d k) := by
  constructor
  · intro pins ρ σ H Q O h
    obtain ⟨xs0, e0, h⟩ := onOwn_of h
    obtain ⟨p, vs0, h1, h2, h3, _⟩ := O.ownGet e0
    refine ⟨.ref p, h1, .inl ⟨rfl, vs0, .of h2⟩, ?_⟩
    refine ha.run pins ρ σ H _ O (ha.mono _ _ _ (fun rs ρ1 h4 us H1 O1 R1 => ?_) h)
    obtain ⟨xs, e1, h5⟩ := onOwn_of h4
    obtain ⟨q, vs, g1, g2, g3, g4⟩ := O1.ownGet e1
    rw [h1] at g1; cases g1
    refine hr.run pins ρ1 σ H1 p vs us xs rs Q O1 g2 g3 R1 (hr.mono _ _ _ _ (fun z ys q v ws hv hw => ?_) h5)
    exact q v _ (O1.setOwn g4 hw) (.sc hv)
  · intro ρ Q Q' hq h
    exact onOwn_mono h fun xs0 h => ha.mono _ _ _ (fun rs ρ1 h4 => onOwn_mono h4 fun xs h5 => hr.mono _ _ _ _ (fun z ys q => hq _ _ q) h5) h
def kAppend : List PyData → List R → (PyData → List PyData → Prop) → Prop
  | xs, [.d y], Q => Few (xs.length + 1) ∧ Q .none (xs ++ [y])
  | _, _, _ => False
theorem sm_append : SM F rAppend kAppend := by
  constructor
  · intro pins ρ σ H p vs us xs rs Q O h1 h2 h3 h
    unfold kAppend at h
    split at h
    · rename_i xs y
      simp only [ROks] at h3
      obtain ⟨v, _, rfl, h4, rfl⟩ := h3
      refine ⟨p, vs, v, rfl, rfl, h1, ?_, h.2 _ _ .none (h2.append (.cons h4 .nil))⟩
      have := h.1
      unfold Few at this
      rw [h2.length]; omega
    · exact h.elim
  · intro xs rs Q Q' hq h
    unfold kAppend at h ⊢
    split at h
    · exact ⟨h.1, hq _ _ h.2⟩
    · exact h.elim
def rInsert : V → List V → Hp → VK → Prop := fun x vs H Q => ∃ (l : Addr) (xs : List V) (i : Int) (y : V), x = .ref l ∧ vs = [.int i, y] ∧ H l = some (.lst xs) ∧ xs.length < sizeLine ∧ 0 ≤ i ∧ i < 2 ^ 63 ∧
    Q .non (upd H l (.lst (xs.take i.toNat ++ [y] ++ xs.drop i.toNat)))
def kInsert : List PyData → List R → (PyData → List PyData → Prop) → Prop
  | xs, [.d (.int i), .d y], Q => (Few (xs.length + 1) ∧ 0 ≤ i ∧ i < 2 ^ 63) ∧ Q .none (xs.take i.toNat ++ [y] ++ xs.drop i.toNat)
  | _, _, _ => False
theorem sm_insert : SM F rInsert kInsert := by
  constructor
  · intro pins ρ σ H p vs us xs rs Q O h1 h2 h3 h
    unfold kInsert at h
    split at h
    · rename_i i y
      simp only [ROks] at h3
      obtain ⟨v1, _, rfl, h5, v, _, rfl, h4, rfl⟩ := h3
      have h5 : Im F.K (Av F pins ρ σ) H (.int i) v1 := h5
      cases (Im.int_iff.mp h5)
      refine ⟨p, vs, i, v, rfl, rfl, h1, ?_, h.1.2.1, h.1.2.2, h.2 _ _ .none (((h2.take _).append (.cons h4 .nil)).append (h2.drop _))⟩
      have := h.1.1
      unfold Few at this
      rw [h2.length]; omega
    · exact h.elim
  · intro xs rs Q Q' hq h
    unfold kInsert at h ⊢
    split at h
    · exact ⟨h.1, hq _ _ h.2⟩
    · exact h.elim
section
variable {name : Str} {apos cpos : Pos} {x : Str} {vpos : Pos} {i : Nat}
theorem pd_append (ha : PDA X F [e] t d) (hK : X.K = F.K := by rfl) (hN : X.N[i]? = some x := by rfl) (hv : Vis X.env.scope x := by first | exact Or.inl rfl | exact Or.inr (Or.inl rfl) | exact Or.inr (Or.inr rfl)) (hd : (x == ("__debug__" : Str)) = false := by decide)
    (hcd : (x == ("__classdict__" : Str)) = false := by decide)
    (hbase : attributeBase (.Name x vpos) "append" X.env (eval (.Name x vpos) X.env) = eval (.Name x vpos) X.env := by rfl)
    (hfew : ((backTo cpos (starEach [e] X.env)).all (fun x => !x.1) && (backToKw cpos (keywordEach [] X.env)).all (fun x => x.1.isSome)
      && decide (([e] : List Expr).length + ([] : List Keyword).length + (if ([] : List Keyword).isEmpty then 0 else 1) < 30)) = true := by rfl)
    (hline : (apos.endLine == cpos.line) = true := by rfl) (hs : starEach [e] X.env = (false, eval e X.env) :: starEach [] X.env := by rfl) (hplain : (backTo cpos (starEach [] X.env)).any (·.1) = false := by rfl) :
    PD X F (.Call (.Attribute (.Name x vpos) "append" apos) [e] [] cpos) (tBM F.K "list" rAppend (tVar i) t) (dOwnM i d kAppend) := by
  refine ⟨?_, de_ownM sm_append ha.da⟩
  have := pe_bm (cpos := cpos) (apos := apos) PySem.F.plainAttrs_list PySem.F.slot_list_append PySem.F.type_list_append mt_append (pe_var (pos := vpos) hN hv hd hcd) ha.pa hbase hfew hline hs hplain
  rw [hK] at this
  exact this
theorem pd_insert {e2 : Expr} (ha : PDA X F [e, e2] t d) (hK : X.K = F.K := by rfl) (hN : X.N[i]? = some x := by rfl) (hv : Vis X.env.scope x := by first | exact Or.inl rfl | exact Or.inr (Or.inl rfl) | exact Or.inr (Or.inr rfl)) (hd : (x == ("__debug__" : Str)) = false := by decide)
    (hcd : (x == ("__classdict__" : Str)) = false := by decide)
    (hbase : attributeBase (.Name x vpos) "insert" X.env (eval (.Name x vpos) X.env) = eval (.Name x vpos) X.env := by rfl)
    (hfew : ((backTo cpos (starEach [e, e2] X.env)).all (fun x => !x.1) && (backToKw cpos (keywordEach [] X.env)).all (fun x => x.1.isSome)
      && decide (([e, e2] : List Expr).length + ([] : List Keyword).length + (if ([] : List Keyword).isEmpty then 0 else 1) < 30)) = true := by rfl)
    (hline : (apos.endLine == cpos.line) = true := by rfl) (hs : starEach [e, e2] X.env = (false, eval e X.env) :: starEach [e2] X.env := by rfl) (hplain : (backTo cpos (starEach [e2] X.env)).any (·.1) = false := by rfl) :
    PD X F (.Call (.Attribute (.Name x vpos) "insert" apos) [e, e2] [] cpos) (tBM F.K "list" rInsert (tVar i) t) (dOwnM i d kInsert) := by
  refine ⟨?_, de_ownM sm_insert ha.da⟩
  have := pe_bm (cpos := cpos) (apos := apos) PySem.F.plainAttrs_list PySem.F.slot_list_insert PySem.F.type_list_insert mt_insert (pe_var (pos := vpos) hN hv hd hcd) ha.pa hbase hfew hline hs hplain
  rw [hK] at this
  exact this
end
/-- x[k] = e -/
def dSetItem (i : Nat) (te tk : TDE) : TDS := fun DD ρ => te ρ fun r ρ1 => onDat r fun y => onOwn ρ1 i fun _ => tk ρ1 fun s ρ2 => onV ρ2 s fun k => onOwn ρ2 i fun xs => match k with
  | .int k => (0 ≤ k ∧ k < xs.length) ∧ DD.nx (ρ2.set i (some (.own (xs.set k.toNat y))))
  | _ => False
theorem ixN_nat {n : Nat} {k : Int} (h0 : 0 ≤ k) (h1 : k < n) : ixN n k = some k.toNat := by
  unfold ixN; rw [if_pos h0, if_pos h1]
theorem ds_setItem {i : Nat} {k : Expr} {tk : TE} {dk : TDE} {x : Str} {vpos spos : Pos} (he : PD X F e te de) (hk : PD X F k tk dk) (hg : PG X (.Subscript (.Name x vpos) k spos) (gSub (tVar i) tk rSetL)) (hs : swapsWithSole [.Subscript (.Name x vpos) k spos] e pos.line X.env = pure false := by rfl) (hw : swappedStores [.Subscript (.Name x vpos) k spos] e X.env = pure none := by rfl)
    (h1 : (assignEach [.Subscript (.Name x vpos) k spos] X.env).map (·.2) = [assign (.Subscript (.Name x vpos) k spos) X.env] := by rfl) :
    PDS X F (.Assign [.Subscript (.Name x vpos) k spos] e pos) (tAsg te (gSub (tVar i) tk rSetL)) (dSetItem i de dk) := by
  refine ⟨ps_asg he.pe hg hs hw h1, fun pins ρ σ H D DD O S R h => ?_⟩
  refine he.de.run pins ρ σ H _ O (he.de.mono _ _ _ (fun r ρ1 h2 v H1 O1 R1 => ?_) h)
  cases r with
  | o j => exact h2.elim
  | raw u => exact h2.elim
  | d y =>
    obtain ⟨xs0, e0, h2⟩ := onOwn_of h2
    obtain ⟨p, vs0, g1, g2, g3, _⟩ := O1.ownGet e0
    refine ⟨.ref p, g1, ?_⟩
    refine hk.de.run (.val v (.d y) :: pins) ρ1 σ H1 _ (O1.push R1) (hk.de.mono _ _ _ (fun s ρ2 h3 u H2 O2 R2 => ?_) h2)
    obtain ⟨O3, R3⟩ := O2.popV
    obtain ⟨kk, e1, h4⟩ := onV_of h3
    obtain ⟨xs, e2, h5⟩ := onOwn_of h4
    obtain ⟨q, vs, f1, f2, f3, f4⟩ := O3.ownGet e2
    rw [g1] at f1; cases f1
    cases kk <;> first | exact h5.elim | skip
    rename_i k0
    cases dp_int (val_dp O2 R2 e1)
    refine ⟨p, vs, k0, k0.toNat, rfl, rfl, f2, ?_, R.nx _ _ _ (O3.setOwn f4 (f3.set _ R3)) h5.2⟩
    rw [f3.length]
    exact ixN_nat h5.1.1 h5.1.2
/-- x[k] += e, whole numbers -/
def dAddItem (i : Nat) (tk te : TDE) : TDS := fun DD ρ => onOwn ρ i fun _ => tk ρ fun s ρ1 => onV ρ1 s fun k => onOwn ρ1 i fun xs => match k with
  | .int k => (0 ≤ k ∧ k < xs.length) ∧ match xs[k.toNat]? with
    | some (.int n) => te ρ1 fun r ρ2 => onV ρ2 r fun y => onOwn ρ2 i fun ys => match y with
      | .int m => ys.length = xs.length ∧ DD.nx (ρ2.set i (some (.own (ys.set k.toNat (.int (n + m))))))
      | _ => False
    | _ => False
  | _ => False
theorem ds_addItem {i : Nat} {k : Expr} {tk : TE} {dk : TDE} {x : Str} {vpos spos : Pos} (hk : PD X F k tk dk) (he : PD X F e te de) (hp : PS X (.AugAssign (.Subscript (.Name x vpos) k spos) .Add e pos) (tAugS (tVar i) tk te (rIxL F.K) (ipI fun i j => i + j) rSetL)) :
    PDS X F (.AugAssign (.Subscript (.Name x vpos) k spos) .Add e pos) (tAugS (tVar i) tk te (rIxL F.K) (ipI fun i j => i + j) rSetL) (dAddItem i dk de) := by
  refine ⟨hp, fun pins ρ σ H D DD O S R h => ?_⟩
  obtain ⟨xs0, e0, h⟩ := onOwn_of h
  obtain ⟨p, vs0, g1, g2, g3, _⟩ := O.ownGet e0
  refine ⟨.ref p, g1, ?_⟩
  refine hk.de.run pins ρ σ H _ O (hk.de.mono _ _ _ (fun s ρ1 h3 u H1 O1 R1 => ?_) h)
  obtain ⟨kk, e1, h4⟩ := onV_of h3
  obtain ⟨xs, e2, h5⟩ := onOwn_of h4
  obtain ⟨q, vs, f1, f2, f3, f4⟩ := O1.ownGet e2
  rw [g1] at f1; cases f1
  cases kk <;> first | exact h5.elim | skip
  rename_i k0
  cases dp_int (val_dp O1 R1 e1)
  obtain ⟨hb, h6⟩ := h5
  split at h6
  · rename_i n en
    obtain ⟨v0, ev, iv⟩ := f3.get en
    cases (Im.int_iff.mp iv)
    refine ⟨p, vs, k0, .int n, rfl, rfl, .of f2, ?_, ?_⟩
    · unfold atI
      rw [f3.length, ixN_nat hb.1 hb.2]
      exact ev
    refine he.de.run pins ρ1 σ H1 _ O1 (he.de.mono _ _ _ (fun r ρ2 h7 w H2 O2 R2 => ?_) h6)
    obtain ⟨y, e3, h8⟩ := onV_of h7
    obtain ⟨ys, e4, h9⟩ := onOwn_of h8
    obtain ⟨q2, us, j1, j2, j3, j4⟩ := O2.ownGet e4
    rw [g1] at j1; cases j1
    cases y <;> first | exact h9.elim | skip
    rename_i m
    cases dp_int (val_dp O2 R2 e3)
    refine ⟨n, m, rfl, rfl, p, us, k0, k0.toNat, rfl, rfl, j2, ?_, R.nx _ _ _ (O2.setOwn j4 (j3.set _ .int)) h9.2⟩
    rw [j3.length, h9.1]
    exact ixN_nat hb.1 hb.2
  · exact h6.elim
end
end DV
namespace DV
open PySem PySem.Spec PyProof.Rows L2
/-! ## loops -/
section
variable {X : Cx} {F : Fm} {a b c e : Expr} {es : List Expr} {ta tb tc te : TE} {da db dc de : TDE} {dl : TDL} {pos : Pos} {t : TA} {d : TDA} {tt tu : TT} {dt du : TDT} {st : Stmt} {rest sts : List Stmt} {ts us : TS} {ds dus : TDS}
def dWhile (c : TDT) (tb : TDS) : TDS := fun DD ρ => ∃ (I : Rho → Prop) (μ : Rho → Nat), I ρ ∧ ∀ ρ, I ρ → c ρ fun k ρ1 => if k = true then tb { DD with nx := fun ρ' => I ρ' ∧ μ ρ' < μ ρ, ct := fun ρ' => I ρ' ∧ μ ρ' < μ ρ, bk := DD.nx } ρ1 else DD.nx ρ1
theorem ds_while {c : Expr} {body : List Stmt} (hp : PassesOwn (model X.prog X.w) X.A X.env X.xe) (hc : PDT X F c tt dt) (hb : PDSs X F body ts ds) : PDS X F (.While c body [] pos) (tWhile tt ts) (dWhile dt ds) := by
  refine ⟨ps_while hp hc.pt hb.pss, fun pins ρ σ H D DD O S R h => ?_⟩
  obtain ⟨I, μ, h0, h⟩ := h
  refine ⟨fun m σ H => ∃ ρ, Ok F pins ρ σ H ∧ I ρ ∧ m = μ ρ, ⟨_, ρ, O, h0, rfl⟩, ?_⟩
  rintro m σ1 H1 ⟨ρ1, O1, i1, rfl⟩
  refine hc.dt.run pins ρ1 σ1 H1 _ O1 (hc.dt.mono _ _ _ (fun k ρ2 h2 H2 O2 => ?_) (h ρ1 i1))
  cases k with
  | false => exact R.nx _ _ _ O2 h2
  | true =>
    refine ⟨fun σ' H' => ∃ ρ', Ok F pins ρ' σ' H' ∧ I ρ' ∧ μ ρ' < μ ρ1, fun σ' H' ⟨ρ', O', i', lt⟩ => ⟨μ ρ', lt, ρ', O', i', rfl⟩, ?_⟩
    exact hb.ds pins ρ2 σ1 H2 _ { DD with nx := fun ρ' => I ρ' ∧ μ ρ' < μ ρ1, ct := fun ρ' => I ρ' ∧ μ ρ' < μ ρ1, bk := DD.nx } O2 S ⟨fun ρ3 σ3 H3 O3 q => ⟨ρ3, O3, q⟩, R.rt, R.nx, fun ρ3 σ3 H3 O3 q => ⟨ρ3, O3, q⟩⟩ h2
/-- what is walked: J gives the items, while the values pl are in mind -/
structure WOk (F : Fm) (J : It) (items : List PyData) (pl : List Pin) : Prop where
  goes : ∀ (i : Nat) (pins : List Pin) (ρ : Rho) (σ : L2.St) (H : Hp), (∀ p ∈ pl, p ∈ pins) → i < items.length → Ok F pins ρ σ H → J.go i H
  stops : ∀ (pins : List Pin) (ρ : Rho) (σ : L2.St) (H : Hp), (∀ p ∈ pl, p ∈ pins) → Ok F pins ρ σ H → J.stop items.length H
  yld : ∀ (i : Nat) (pins : List Pin) (ρ : Rho) (σ : L2.St) (H : Hp) (x : V) (H' : Hp), (∀ p ∈ pl, p ∈ pins) → i < items.length → Ok F pins ρ σ H → J.yld i H x H' → ∃ y, items[i]? = some y ∧ Ok F pins ρ σ H' ∧ Im F.K (Av F pins ρ σ) H' y x
abbrev TDI := Rho → (List PyData → Rho → Prop) → Prop
def Vp (pl : List Pin) : Prop := ∀ p ∈ pl, ∃ v r, p = .val v r
structure DI (F : Fm) (wi : TI) (dw : TDI) : Prop where
  run : ∀ (pins : List Pin) (ρ : Rho) (σ : L2.St) (H : Hp) (R : It → Hp → Prop), Ok F pins ρ σ H →
    dw ρ (fun items ρ' => ∀ J H' pl, WOk F J items pl → (∀ p ∈ pl, ∃ v x, p = .val v (.d x)) → Ok F (pl ++ pins) ρ' σ H' → R J H') → wi σ H R
  mono : ∀ ρ Q Q', (∀ r ρ', Q r ρ' → Q' r ρ') → dw ρ Q → dw ρ Q'
structure PDI (X : Cx) (F : Fm) (tg iter : Expr) (wi : TI) (dw : TDI) : Prop where
  pi : PI X tg iter wi
  di : DI F wi dw
theorem Ok.popVs {pins : List Pin} {ρ : Rho} {σ : L2.St} {H : Hp} : ∀ {pl : List Pin}, (∀ p ∈ pl, ∃ v x, p = .val v (.d x)) → Ok F (pl ++ pins) ρ σ H → Ok F pins ρ σ H ∧ Av F (pl ++ pins) ρ σ = Av F pins ρ σ
  | [], _, O => ⟨O, rfl⟩
  | p :: pl, h, O => by
    obtain ⟨v, x, rfl⟩ := h p (List.mem_cons_self ..)
    obtain ⟨O1, _⟩ := Ok.popV (show Ok F (.val v (.d x) :: (pl ++ pins)) ρ σ H from O)
    obtain ⟨O2, e⟩ := O1.popVs fun q hq => h q (List.mem_cons_of_mem _ hq)
    exact ⟨O2, e⟩
theorem SPn.app {pins : List Pin} (S : SPn F pins) {pl : List Pin} (h : ∀ p ∈ pl, ∃ v x, p = .val v (.d x)) : SPn F (pl ++ pins) := fun v j hp => by
  rcases List.mem_append.mp hp with z | z
  · obtain ⟨u, x, e⟩ := h _ z
    cases e
  · exact S v j z
theorem Rel.app {pins : List Pin} {D : Ends} {DD : DEnds} (R : Rel F pins D DD) {pl : List Pin} (h : ∀ p ∈ pl, ∃ v x, p = .val v (.d x)) : Rel F (pl ++ pins) D DD :=
  ⟨fun ρ σ H O q => R.nx ρ σ H (O.popVs h).1 q, fun ρ σ H v r O r1 q => R.rt ρ σ H v r (O.popVs h).1 (by rw [(O.popVs h).2] at r1; exact r1) q, fun ρ σ H O q => R.bk ρ σ H (O.popVs h).1 q, fun ρ σ H O q => R.ct ρ σ H (O.popVs h).1 q⟩
theorem accs_app {pins : List Pin} : ∀ {pl : List Pin}, (∀ p ∈ pl, ∃ v x, p = .val v (.d x)) → accs (pl ++ pins) = accs pins
  | [], _ => rfl
  | p :: pl, h => by
    obtain ⟨v, x, rfl⟩ := h p (List.mem_cons_self ..)
    exact accs_app (pl := pl) fun q hq => h q (List.mem_cons_of_mem _ hq)
/-- fewer things in mind -/
theorem Ok.sub {pins qs : List Pin} {ρ : Rho} {σ : L2.St} {H : Hp} (O : Ok F pins ρ σ H) (h : ∀ p ∈ qs, p ∈ pins) (e : accs qs = accs pins) : Ok F qs ρ σ H := by
  have ae : Av F qs ρ σ = Av F pins ρ σ := by unfold Av; rw [e]
  exact ⟨O.len, by rw [ae]; exact O.ent, O.own, fun p hp => by rw [ae]; exact O.pin p (h p hp), by rw [e]; exact O.acs, O.fr, O.nh, O.ln, O.h0, O.lf⟩
def dFor (wi : TDI) (g : TDGt) (tb : TDS) : TDS := fun DD ρ => wi ρ fun xs ρ1 => ∃ I : Nat → Rho → Prop, I 0 ρ1 ∧
  (∀ i x ρ, xs[i]? = some x → I i ρ → g (.d x) ρ fun ρ2 => tb { DD with nx := I (i + 1), ct := I (i + 1), bk := DD.nx } ρ2) ∧ ∀ ρ, I xs.length ρ → DD.nx ρ
theorem ds_for {tg iter : Expr} {body : List Stmt} {wi : TI} {dw : TDI} {g : TG} {dg : TDGt} {sl : List Nat} (hp : PassesOwn (model X.prog X.w) X.A X.env X.xe) (hc : X.calm = true) (hi : PDI X F tg iter wi dw) (hg : PDG X F tg g dg sl) (hb : PDSs X F body ts ds) (hf : ∀ i ∈ sl, ¬ F.fix i)
    (hs : ∀ x, foldedSetIterable iter X.env x = pure x := by intro _; rfl) : PDS X F (.For tg iter body [] pos) (tFor wi g ts) (dFor dw dg ds) := by
  refine ⟨?_, fun pins ρ σ H D DD O S R h => ?_⟩
  · first | exact ps_for hp hc hi.pi hg.pg hb.pss | exact ps_for hp hc hi.pi hg.pg hb.pss hs
  refine hi.di.run pins ρ σ H _ O (hi.di.mono _ _ _ (fun xs ρ1 h1 J H1 pl W hpl O1 => ?_) h)
  obtain ⟨I, h0, hturn, hend⟩ := h1
  have hin : ∀ p ∈ pl, p ∈ pl ++ pins := fun p hp => List.mem_append_left _ hp
  have R2 := R.app hpl
  refine ⟨fun i m σ H => ∃ ρ, Ok F (pl ++ pins) ρ σ H ∧ I i ρ ∧ i ≤ xs.length ∧ m = xs.length - i, ⟨_, ρ1, O1, h0, Nat.zero_le _, rfl⟩, ?_⟩
  rintro i m σ2 H2 ⟨ρ2, O2, i2, hle, rfl⟩
  by_cases hlt : i < xs.length
  · refine .inr ⟨W.goes i _ ρ2 σ2 H2 hin hlt O2, fun σ' H' => ∃ ρ', Ok F (pl ++ pins) ρ' σ' H' ∧ I (i + 1) ρ', fun σ' H' ⟨ρ', O', i'⟩ => ⟨xs.length - (i + 1), by omega, ρ', O', i', by omega, rfl⟩, fun x H3 hy => ?_⟩
    obtain ⟨y, ey, O3, im⟩ := W.yld i _ ρ2 σ2 H2 x H3 hin hlt O2 hy
    refine hg.dg.run _ ρ2 σ2 H3 x (.d y) _ _ O3 (fun j hj => (S.app hpl).fr (hf j hj)) im (hturn i y ρ2 ey i2) fun ρ4 σ4 H4 O4 _ q => ?_
    exact hb.ds _ ρ4 σ4 H4 _ { DD with nx := I (i + 1), ct := I (i + 1), bk := DD.nx } O4 (S.app hpl) ⟨fun ρ5 σ5 H5 O5 q => ⟨ρ5, O5, q⟩, R2.rt, R2.nx, fun ρ5 σ5 H5 O5 q => ⟨ρ5, O5, q⟩⟩ q
  · have e : i = xs.length := by omega
    subst e
    exact .inl ⟨W.stops _ ρ2 σ2 H2 hin O2, R2.nx _ _ _ O2 (hend ρ2 i2)⟩
/-! ### comprehensions -/
def dLc (wi : TDI) (g : TDGt) (tt : TDT) (te : TDE) (vs : List Nat) : TDL := fun ρ Q => wi ρ fun xs ρ1 => (∀ i ∈ vs, ρ1[i]? = some none) ∧ ∃ I : Nat → List PyData → Rho → Prop, I 0 [] ρ1 ∧
  (∀ i x acc ρ, xs[i]? = some x → I i acc ρ → g (.d x) ρ fun ρ2 => tt ρ2 fun k ρ3 => if k = true then te ρ3 fun r ρ4 => onDat r fun y => Few (acc.length + 1) ∧ I (i + 1) (acc ++ [y]) (wipeR ρ4 vs) else I (i + 1) acc (wipeR ρ3 vs)) ∧
  ∀ acc ρ, I xs.length acc ρ → Q acc (wipeR ρ vs)
def dYes : TDT := fun ρ Q => Q true ρ
structure PDTs (X : Cx) (F : Fm) (ifs : List Expr) (tt : TT) (td : TDT) : Prop where
  pts : PTs X ifs tt
  dt : DT F tt td
theorem dts_nil : PDTs X F [] tYes dYes := ⟨pts_nil, fun pins ρ σ H Q O h => h H O, fun ρ Q Q' hq h => hq _ _ h⟩
theorem dts_one (h : PDT X F c tt dt) : PDTs X F [c] tt dt := ⟨pts_one h.pt, h.dt⟩
theorem dl_lc {wi : TI} {dw : TDI} {g : TG} {dg : TDGt} {vs : List Nat} (hi : DI F wi dw) (hg : DG F g dg vs) (ht : DT F tt dt) (he : DE F te de) : DL F (tLc wi g tt te vs) (dLc dw dg dt de vs) := by
  constructor
  · intro pins ρ σ H Q O h
    refine hi.run pins ρ σ H _ O (hi.mono _ _ _ (fun xs ρ1 h1 J H1 pl W hpl O1 D hD => ?_) h)
    obtain ⟨hno, I, h0, hturn, hend⟩ := h1
    have hfr : ∀ {p : List Pin}, (∀ q ∈ p, q ∈ pl ++ pins ∨ ∃ a ys, q = .acc a ys) → ∀ i ∈ vs, Fr p i := fun {p} hp i hi v j hm e => by
      subst e
      rcases hp _ hm with z | ⟨a, ys, z⟩
      · obtain ⟨_, x, hx⟩ := O1.pin _ z
        unfold slot at hx
        rw [hno j hi] at hx
        cases hx
      · cases z
    -- the state of a turn: the values pl, the new list, at the wiped slots
    have hin : ∀ acc, ∀ p ∈ pl, p ∈ (Pin.acc D acc :: (pl ++ pins)) := fun acc p hp => List.mem_cons_of_mem _ (List.mem_append_left _ hp)
    have hfr2 : ∀ acc, ∀ i ∈ vs, Fr (Pin.acc D acc :: (pl ++ pins)) i := fun acc => hfr fun q hq => by
      rcases List.mem_cons.mp hq with z | z
      · exact .inr ⟨_, _, z⟩
      · exact .inl z
    have start : Ok F (.acc D [] :: (pl ++ pins)) ρ1 σ (upd H1 D (.lst [])) := O1.pushL hD .nil
    have hw1 : wipeR ρ1 vs = ρ1 := by
      have : ∀ (us : List Nat), (∀ i ∈ us, ρ1[i]? = some none) → wipeR ρ1 us = ρ1 := fun us => by
        induction us with
        | nil => intro _; rfl
        | cons k ks ih =>
          intro hk
          show (wipeR ρ1 ks).set k none = ρ1
          rw [ih fun i hi => hk i (List.mem_cons_of_mem _ hi)]
          apply List.ext_getElem?
          intro n
          by_cases e : k = n
          · subst e
            have := hk k (List.mem_cons_self ..)
            have hl : k < ρ1.length := by
              rcases Nat.lt_or_ge k ρ1.length with z | z
              · exact z
              · rw [List.getElem?_eq_none z] at this; cases this
            rw [List.getElem?_set_self hl, this]
          · rw [List.getElem?_set_ne e]
      exact this vs hno
    have start2 : Ok F (.acc D [] :: (pl ++ pins)) ρ1 (wipe σ vs) (upd H1 D (.lst [])) := by
      have := start.wipe (hfr2 [])
      rw [hw1] at this
      exact this
    refine ⟨fun i m H => ∃ acc ρ, Ok F (.acc D acc :: (pl ++ pins)) ρ (wipe σ vs) H ∧ I i acc ρ ∧ i ≤ xs.length ∧ m = xs.length - i, ⟨_, [], ρ1, start2, h0, Nat.zero_le _, rfl⟩, ?_⟩
    rintro i m H2 ⟨acc, ρ2, O2, i2, hle, rfl⟩
    by_cases hlt : i < xs.length
    · refine .inr ⟨W.goes i _ ρ2 _ H2 (hin acc) hlt O2, fun H' => ∃ acc ρ, Ok F (.acc D acc :: (pl ++ pins)) ρ (wipe σ vs) H' ∧ I (i + 1) acc ρ, fun H' ⟨acc', ρ', O', i'⟩ => ⟨xs.length - (i + 1), by omega, acc', ρ', O', i', by omega, rfl⟩, fun x H3 hy => ?_⟩
      obtain ⟨y, ey, O3, im⟩ := W.yld i _ ρ2 _ H2 x H3 (hin acc) hlt O2 hy
      refine hg.run _ ρ2 _ H3 x (.d y) _ _ O3 (hfr2 acc) im (hturn i y acc ρ2 ey i2) fun ρ4 σ4 H4 O4 so q => ?_
      have hw4 : wipe σ4 vs = wipe σ vs := by
        have := so vs fun _ h => h
        rw [this]
        have idem : ∀ (us : List Nat) (τ : L2.St), (∀ i ∈ us, i ∈ vs) → wipe (wipe σ vs) us = wipe σ vs := fun us => by
          induction us with
          | nil => intro _ _; rfl
          | cons k ks ih =>
            intro τ hk
            show (wipe (wipe σ vs) ks).set k none = wipe σ vs
            rw [ih τ fun i hi => hk i (List.mem_cons_of_mem _ hi)]
            apply List.ext_getElem?
            intro n
            by_cases e : k = n
            · subst e
              have hk1 := hk k (List.mem_cons_self ..)
              by_cases hl : k < (wipe σ vs).length
              · rw [List.getElem?_set_self hl]
                have : ∀ (ws : List Nat), k ∈ ws → k < σ.length → (wipe σ ws)[k]? = some none := fun ws => by
                  induction ws with
                  | nil => intro h _; cases h
                  | cons w ws ih2 =>
                    intro h hl2
                    show ((wipe σ ws).set w none)[k]? = some none
                    by_cases e2 : w = k
                    · subst e2
                      rw [List.getElem?_set_self (by rw [wipe_length]; exact hl2)]
                    · rw [List.getElem?_set_ne e2]
                      rcases List.mem_cons.mp h with z | z
                      · exact absurd z.symm e2
                      · exact ih2 z hl2
                rw [this vs hk1 (by rw [wipe_length] at hl; exact hl)]
              · rw [List.getElem?_eq_none (by rw [List.length_set]; omega), List.getElem?_eq_none (by omega)]
            · rw [List.getElem?_set_ne e]
        exact idem vs σ fun _ h => h
      refine ⟨hw4, ?_⟩
      refine ht.run _ ρ4 σ4 H4 _ O4 (ht.mono _ _ _ (fun k ρ5 h5 H5 O5 => ?_) q)
      cases k with
      | false =>
        have := O5.wipe (hfr2 acc)
        rw [hw4] at this
        exact ⟨acc, _, this, h5⟩
      | true =>
        refine he.run _ ρ5 σ4 H5 _ O5 (he.mono _ _ _ (fun r ρ6 h6 w H6 O6 R6 => ?_) h5)
        cases r with
        | o j => exact h6.elim
        | raw u => exact h6.elim
        | d z =>
          obtain ⟨vsD, hHD, hiD, _, _⟩ := O6.pin _ (List.mem_cons_self ..)
          refine ⟨vsD, hHD, ?_, acc ++ [z], wipeR ρ6 vs, ?_, h6.2⟩
          · have := h6.1
            unfold Few at this
            rw [hiD.length]; omega
          · have O7 := (O6.setAcc (hiD.append (.cons R6 .nil))).wipe (hfr2 (acc ++ [z]))
            rw [hw4] at O7
            exact O7
    · have e : i = xs.length := by omega
      subst e
      refine .inl ⟨W.stops _ ρ2 _ H2 (hin acc) O2, ?_⟩
      have hq := hend acc ρ2 i2
      refine hq D H2 ?_
      have O3 := O2.wipe (hfr2 acc)
      have hww : wipe (wipe σ vs) vs = wipe (wipe σ vs) vs := rfl
      have O4 : Ok F (.acc D acc :: (pl ++ pins)) (wipeR ρ2 vs) σ H2 := by
        refine Ok.unwipe (vs := vs) (Ok.unwipe (vs := vs) O3 ?_) ?_
        all_goals
          intro i hi
          by_cases hl : i < ρ2.length
          · exact .inl (wipeR_none hi hl)
          · exact .inr (List.getElem?_eq_none (by rw [wipeR_len]; omega))
      refine O4.sub (fun p hp => ?_) (by show D :: accs pins = D :: accs (pl ++ pins); rw [accs_app hpl])
      rcases List.mem_cons.mp hp with z | z
      · exact z ▸ List.mem_cons_self ..
      · exact List.mem_cons_of_mem _ (List.mem_append_right _ z)
  · intro ρ Q Q' hq h
    refine hi.mono _ _ _ (fun xs ρ1 h1 => ?_) h
    obtain ⟨hno, I, h0, hturn, hend⟩ := h1
    exact ⟨hno, I, h0, hturn, fun acc ρ i => hq _ _ (hend acc ρ i)⟩
end
end DV
namespace DV
open PySem PySem.Spec PyProof.Rows L2
section
variable {X : Cx} {F : Fm} {a b c e : Expr} {es : List Expr} {ta tb tc te : TE} {da db dc de : TDE} {dl : TDL} {pos : Pos} {t : TA} {d : TDA} {tt tu : TT} {dt du : TDT}
/-! ## calls of defs -/
/-- what a def's parameter is handed: data that nobody changes (d), or a list that is read alone (ro) -/
inductive Kd
  | d | ro
def ArgOk (K : PySem.W.Frag) (N Z : Addr → Prop) (H : Hp) : Kd → PyData → V → Prop
  | .d, x, v => Im K N H x v
  | .ro, x, v => Im K N H x v ∨ ∃ a us xs, v = .ref a ∧ x = .list xs ∧ ((Rd H a (.lst us) ∧ ¬ Z a) ∨ SqL K (fun _ => none) a us) ∧ ImAll K N H xs us
def ArgsOk (K : PySem.W.Frag) (N Z : Addr → Prop) (H : Hp) : List Kd → List PyData → List V → Prop
  | k :: ks, x :: xs, vs => ∃ v us, vs = v :: us ∧ ArgOk K N Z H k x v ∧ ArgsOk K N Z H ks xs us
  | [], [], vs => vs = []
  | _, _, _ => False
def noZ : Addr → Prop := fun _ => False
abbrev Sd := List PyData → (PyData → Prop) → Prop
/-- the promise of a def that changes nothing -/
def spP (K : PySem.W.Frag) (ks : List Kd) (S : Sd) : Sp := fun vs H Q _ => ∃ (N : Addr → Prop) (xs : List PyData), (∀ a, N a → ∃ o, H a = some o) ∧ ArgsOk K N noZ H ks xs vs ∧
  S xs fun z => ∀ v H', (∀ a o, H a = some o → H' a = some o) → Im K N H' z v → Q v H'
abbrev Sb := List PyData → List PyData → (PyData → List PyData → Prop) → Prop
/-- of one that changes its first argument, a list, alone -/
def spB (K : PySem.W.Frag) (ks : List Kd) (S : Sb) : Sp := fun vs H Q _ => ∃ (N : Addr → Prop) (B : Addr) (bvs ws : List V) (bag xs : List PyData), vs = .ref B :: ws ∧ N B ∧ (∀ a, N a → ∃ o, H a = some o) ∧ H B = some (.lst bvs) ∧ ImAll K N H bag bvs ∧ ArgsOk K N (fun a => a = B) H ks xs ws ∧
  S bag xs fun z bag' => ∀ v H' bvs', (∀ a o, a ≠ B → H a = some o → H' a = some o) → H' B = some (.lst bvs') → ImAll K N H' bag' bvs' → Im K N H' z v → Q v H'
def dats2 (ρ : Rho) : List Kd → List R → Option (List PyData)
  | .d :: ks, .d x :: rs => (dats2 ρ ks rs).map (x :: ·)
  | .ro :: ks, r :: rs => match val ρ r, dats2 ρ ks rs with
    | some x, some xs => some (x :: xs)
    | _, _ => none
  | [], [] => some []
  | _, _ => none
theorem ro_arg {Z : Addr → Prop} {pins : List Pin} {ρ : Rho} {σ : L2.St} {H : Hp} (O : Ok F pins ρ σ H) {r : R} {v : V} {x : PyData} (h2 : ∀ a, Z a → F.L a ∨ F.H0 a = none) (h1 : ∀ j a, r = .o j → OwnAt ρ σ j a → ¬ Z a)
    (h : ROk F (Av F pins ρ σ) ρ σ H r v) (hv : val ρ r = some x) : ArgOk F.K (Av F pins ρ σ) Z H .ro x v := by
  have ro : ∀ {x : PyData} {v : V}, RoOk F (Av F pins ρ σ) H x v → ArgOk F.K (Av F pins ρ σ) Z H .ro x v := by
    rintro x v (h | ⟨a, us, xs, e, e2, l, t⟩)
    · exact .inl h
    · refine .inr ⟨a, us, xs, e, e2, ?_, t⟩
      rcases l with ⟨l, n⟩ | l
      · refine .inl ⟨?_, fun z => ?_⟩
        · rcases l with l | ⟨o, l⟩
          · exact .inl (O.fr _ _ n l)
          · exact .inr ⟨o, O.fr _ _ n l⟩
        · rcases h2 a z with z | z
          · exact n z
          · rcases l with l | ⟨o, l⟩
            · rw [z] at l; cases l
            · rw [z] at l; cases l
      · exact .inr l
  cases r with
  | d y => cases hv; exact .inl h
  | raw u => cases hv
  | o i =>
    have g1 := h.1
    have hv : slot ρ i = some x := hv
    unfold slot at hv
    split at hv
    · rename_i y e; cases hv
      obtain ⟨u, g2, g3⟩ := O.ent i _ e
      rw [g1] at g2; cases g2
      exact .inl g3
    · rename_i ys e; cases hv
      obtain ⟨p, vs, g2, g3, g4, g5⟩ := O.ownGet e
      rw [g1] at g2; cases g2
      exact .inr ⟨p, vs, ys, rfl, rfl, .inl ⟨.inl g3, h1 i p rfl g5⟩, g4⟩
    · rename_i y e; cases hv
      obtain ⟨u, g2, g3⟩ := O.ent i _ e
      rw [g1] at g2; cases g2
      exact ro g3
    · cases hv
theorem args_ok {Z : Addr → Prop} {pins : List Pin} {ρ : Rho} {σ : L2.St} {H : Hp} (O : Ok F pins ρ σ H) (h2 : ∀ a, Z a → F.L a ∨ F.H0 a = none) : ∀ {ks : List Kd} {rs : List R} {vs : List V} {xs : List PyData}, (∀ r ∈ rs, ∀ j a, r = .o j → OwnAt ρ σ j a → ¬ Z a) → ROks F (Av F pins ρ σ) ρ σ H rs vs → dats2 ρ ks rs = some xs → ArgsOk F.K (Av F pins ρ σ) Z H ks xs vs
  | [], [], vs, xs, _, h, e => by
    simp only [ROks] at h; simp only [dats2] at e; cases e
    simp only [ArgsOk]; exact h
  | .d :: ks, .d x :: rs, vs, xs, hz, h, e => by
    simp only [ROks] at h
    obtain ⟨v, us, rfl, h1, h3⟩ := h
    simp only [dats2] at e
    cases e1 : dats2 ρ ks rs with
    | none => rw [e1] at e; cases e
    | some ys =>
      rw [e1] at e; cases e
      simp only [ArgsOk]
      exact ⟨v, us, rfl, h1, args_ok O h2 (fun r hr => hz r (List.mem_cons_of_mem _ hr)) h3 e1⟩
  | .ro :: ks, r :: rs, vs, xs, hz, h, e => by
    simp only [ROks] at h
    obtain ⟨v, us, rfl, h1, h3⟩ := h
    simp only [dats2] at e
    cases e0 : val ρ r with
    | none => rw [e0] at e; cases e
    | some x =>
      cases e1 : dats2 ρ ks rs with
      | none => rw [e0, e1] at e; cases e
      | some ys =>
        rw [e0, e1] at e; cases e
        simp only [ArgsOk]
        exact ⟨v, us, rfl, ro_arg O h2 (hz r (List.mem_cons_self ..)) h1 e0, args_ok O h2 (fun r hr => hz r (List.mem_cons_of_mem _ hr)) h3 e1⟩
  | [], _ :: _, _, _, _, _, e => by simp only [dats2] at e; cases e
  | .d :: _, [], _, _, _, _, e => by simp only [dats2] at e; cases e
  | .ro :: _, [], _, _, _, _, e => by simp only [dats2] at e; cases e
  | .d :: _, .o _ :: _, _, _, _, _, e => by simp only [dats2] at e; cases e
  | .d :: _, .raw _ :: _, _, _, _, _, e => by simp only [dats2] at e; cases e
def onArgs (ρ : Rho) (ks : List Kd) (rs : List R) (f : List PyData → Prop) : Prop := match dats2 ρ ks rs with
  | some xs => f xs
  | _ => False
theorem onArgs_of {ρ : Rho} {ks : List Kd} {rs : List R} {f : List PyData → Prop} (h : onArgs ρ ks rs f) : ∃ xs, dats2 ρ ks rs = some xs ∧ f xs := by
  unfold onArgs at h
  split at h
  · exact ⟨_, by assumption, h⟩
  · exact h.elim
theorem onArgs_mono {ρ : Rho} {ks : List Kd} {rs : List R} {f g : List PyData → Prop} (h : onArgs ρ ks rs f) (k : ∀ xs, f xs → g xs) : onArgs ρ ks rs g := by
  unfold onArgs at h ⊢
  split at h
  · exact k _ h
  · exact h.elim
def MonoP (S : Sd) : Prop := ∀ xs Q Q', (∀ z, Q z → Q' z) → S xs Q → S xs Q'
def MonoB (S : Sb) : Prop := ∀ bag xs Q Q', (∀ z b, Q z b → Q' z b) → S bag xs Q → S bag xs Q'
def dCallP (ks : List Kd) (S : Sd) (t : TDA) : TDE := fun ρ Q => t ρ fun rs ρ1 => onArgs ρ1 ks rs fun xs => S xs fun z => Q (.d z) ρ1
theorem de_callP {ks : List Kd} {S : Sd} {E : XK} (hS : MonoP S) (h : DA F t d) : DE F (fun σ H Q => t σ H fun vs H1 => spP F.K ks S vs H1 Q E) (dCallP ks S d) := by
  constructor
  · intro pins ρ σ H Q O hq
    refine h.run pins ρ σ H _ O (h.mono _ _ _ (fun rs ρ1 h1 vs H1 O1 R1 => ?_) hq)
    obtain ⟨xs, e, h2⟩ := onArgs_of h1
    refine ⟨Av F pins ρ1 σ, xs, fun a ha => O1.avH ha, args_ok O1 (fun a z => z.elim) (fun _ _ _ _ _ _ z => z) R1 e, hS _ _ _ (fun z q v H' g im => ?_) h2⟩
    exact q v H' (O1.heap g) im
  · intro ρ Q Q' hq hh
    exact h.mono _ _ _ (fun rs ρ1 h1 => onArgs_mono h1 fun xs h2 => hS _ _ _ (fun z => hq _ _) h2) hh
theorem pd_callP {ks : List Kd} {S : Sd} {k : Nat} {f : Addr} {fd : FuncData} {ps : List Str} {x : Str} {p : Pos} (G : FnG X.prog X.w X.K X.mg X.base CX0 k f fd ps (spP F.K ks S)) (hS : MonoP S) (hr : Room k X.A) (hgd : X.A.guards = some []) (hg : Gl X x) (hm : X.mg x = some (.ref f)) (hk : PySem.W.keepIn X.K (.ref f) = true) (hb : Binds X.K fd ps [])
    (ha : PDA X F (e :: es) t d) (hdb : (x == ("__debug__" : Str)) = false := by decide) (he : starEach (e :: es) X.env = (false, eval e X.env) :: starEach es X.env := by rfl) (hpl : (backTo pos (starEach es X.env)).any (·.1) = false := by rfl) :
    PD X F (.Call (.Name x p) (e :: es) [] pos) (fun σ H Q => t σ H fun vs H1 => spP F.K ks S vs H1 Q E0) (dCallP ks S d) :=
  ⟨pe_callG G hr hgd hg hm hk hb ha.pa hdb he hpl, de_callP hS ha.da⟩
def noSelf (i : Nat) : List R → Prop
  | [] => True
  | .o j :: rs => j ≠ i ∧ noSelf i rs
  | _ :: rs => noSelf i rs
theorem noSelf_mem {i : Nat} : ∀ {rs : List R}, noSelf i rs → ∀ r ∈ rs, ∀ j, r = .o j → j ≠ i
  | .o k :: rs, h, r, hr, j, e => by
    rcases List.mem_cons.mp hr with z | z
    · rw [z] at e; cases e; exact h.1
    · exact noSelf_mem h.2 r z j e
  | .d _ :: rs, h, r, hr, j, e => by
    rcases List.mem_cons.mp hr with z | z
    · rw [z] at e; cases e
    · exact noSelf_mem (show noSelf i rs from h) r z j e
  | .raw _ :: rs, h, r, hr, j, e => by
    rcases List.mem_cons.mp hr with z | z
    · rw [z] at e; cases e
    · exact noSelf_mem (show noSelf i rs from h) r z j e
/-- f(bag, ..): the first argument the own list at slot i -/
def dCallB (ks : List Kd) (S : Sb) (t : TDA) : TDE := fun ρ Q => t ρ fun rs ρ1 => match rs with
  | .o i :: rs => noSelf i rs ∧ onOwn ρ1 i fun bag => onArgs ρ1 ks rs fun xs => S bag xs fun z bag' => Q (.d z) (ρ1.set i (some (.own bag')))
  | _ => False
theorem Ok.lent {pins : List Pin} {ρ : Rho} {σ : L2.St} {H H' : Hp} (O : Ok F pins ρ σ H) {i : Nat} {B : Addr} {vs : List V} {ys : List PyData} (h : OwnAt ρ σ i B) (g : ∀ a o, a ≠ B → H a = some o → H' a = some o) (hB : H' B = some (.lst vs)) (hv : ImAll F.K (Av F pins ρ σ) H' ys vs) :
    Ok F pins (ρ.set i (some (.own ys))) σ H' ∧ Av F pins (ρ.set i (some (.own ys))) σ = Av F pins ρ σ := by
  have ae : Av F pins (ρ.set i (some (.own ys))) σ = Av F pins ρ σ := by
    funext b
    unfold Av
    simp only [setOwn_iff (xs := ys) h]
  have aB : Av F pins ρ σ B := .inr (.inl ⟨i, h⟩)
  have G : Go (Av F pins ρ σ) (Av F pins ρ σ) H H' := ⟨fun a o n e => g a o (fun z => n (by rw [z]; exact aB)) e, fun a z => .inl z⟩
  -- first a heap with an empty list at B, then the heap H'
  have O1 := O.setOwn (xs := []) (vs := []) h .nil
  have ae1 : Av F pins (ρ.set i (some (.own []))) σ = Av F pins ρ σ := by
    funext b
    unfold Av
    simp only [setOwn_iff (xs := []) h]
  have hi : i < ρ.length := by
    obtain ⟨⟨zs, h1⟩, _⟩ := h
    rcases Nat.lt_or_ge i ρ.length with z | z
    · exact z
    · rw [List.getElem?_eq_none z] at h1; cases h1
  refine ⟨?_, ae⟩
  refine ⟨by rw [List.length_set]; exact O.len, fun j f hj => ?_, fun j k b z1 z2 => O.own j k b ((setOwn_iff h j b).mp z1) ((setOwn_iff h k b).mp z2), fun p hp => ?_, O.acs, fun b o n e => ?_, fun b z => ?_, O.ln, O.h0, fun j b z => O.lf j b ((setOwn_iff h j b).mp z)⟩
  · rw [ae]
    rcases getset hj with ⟨rfl, q, hl⟩ | ⟨ne, q⟩
    · cases q
      obtain ⟨_, _, hl⟩ := O.ownL h
      exact ⟨.ref B, h.2, B, vs, rfl, hB, hv, hl⟩
    · obtain ⟨v, h3, h4⟩ := O.ent j f q
      refine ⟨v, h3, EntOk.go G h4 fun b us ev hb ⟨zs, ex⟩ => ?_⟩
      subst ev ex
      exact g b _ (fun z => ne (O.own j i B (by subst z; exact ⟨⟨zs, q⟩, h3⟩) h)) hb
  · rw [ae]
    have hq := O.pin p hp
    cases p with
    | val v r =>
      cases r with
      | d x => exact Im.go G hq
      | o j =>
        refine ⟨hq.1, ?_⟩
        by_cases e2 : j = i
        · subst e2
          exact ⟨.list ys, by unfold slot; rw [List.getElem?_set_self hi]⟩
        · obtain ⟨x, hx2⟩ := hq.2
          exact ⟨x, by rw [slot_ne e2]; exact hx2⟩
      | raw u => exact hq
    | acc b zs =>
      obtain ⟨us, h3, h4, h5, h6⟩ := hq
      exact ⟨us, g b _ (fun z => h6 (by subst z; exact ⟨i, h⟩)) h3, h4.go G, h5, fun ⟨j, z⟩ => h6 ⟨j, (setOwn_iff h j b).mp z⟩⟩
  · obtain ⟨_, _, hl⟩ := O.ownL h
    refine g b o (fun z => ?_) (O.fr b o n e)
    subst z
    rcases hl with hl | hl
    · exact n hl
    · rw [hl] at e; cases e
  · by_cases e : b = B
    · subst e; exact ⟨_, hB⟩
    · obtain ⟨o, z⟩ := O.nh b z
      exact ⟨o, g b o e z⟩
theorem de_callB {ks : List Kd} {S : Sb} {E : XK} (hS : MonoB S) (h : DA F t d) : DE F (fun σ H Q => t σ H fun vs H1 => spB F.K ks S vs H1 Q E) (dCallB ks S d) := by
  constructor
  · intro pins ρ σ H Q O hq
    refine h.run pins ρ σ H _ O (h.mono _ _ _ (fun rs ρ1 h1 vs H1 O1 R1 => ?_) hq)
    cases rs with
    | nil => exact h1.elim
    | cons r rs =>
      cases r with
      | d x => exact h1.elim
      | raw u => exact h1.elim
      | o i =>
        obtain ⟨hns, h1⟩ := h1
        obtain ⟨bag, e0, h2⟩ := onOwn_of h1
        obtain ⟨xs, e, h3⟩ := onArgs_of h2
        simp only [ROks] at R1
        obtain ⟨v, us, rfl, R0, R1⟩ := R1
        obtain ⟨B, bvs, g1, g2, g3, g4⟩ := O1.ownGet e0
        have := R0.1
        rw [g1] at this; cases this
        refine ⟨Av F pins ρ1 σ, B, bvs, us, bag, xs, rfl, .inr (.inl ⟨i, g4⟩), fun a ha => O1.avH ha, g2, g3, args_ok O1 (fun a z => by obtain ⟨_, _, hl⟩ := O1.ownL g4; rw [z]; exact hl) (fun r hr j a e z ea => noSelf_mem hns r hr j e (O1.own j i B (by rw [← ea]; exact z) g4)) R1 e, hS _ _ _ _ (fun z bag' q v H' bvs' g hB hv im => ?_) h3⟩
        obtain ⟨O2, ae⟩ := O1.lent g4 g hB hv
        exact q v H' O2 (by show Im F.K (Av F pins (ρ1.set i (some (.own bag'))) σ) H' z v; rw [ae]; exact im)
  · intro ρ Q Q' hq hh
    refine h.mono _ _ _ (fun rs ρ1 h1 => ?_) hh
    cases rs with
    | nil => exact h1.elim
    | cons r rs =>
      cases r with
      | d x => exact h1.elim
      | raw u => exact h1.elim
      | o i => exact ⟨h1.1, onOwn_mono h1.2 fun bag h2 => onArgs_mono h2 fun xs h3 => hS _ _ _ _ (fun z b => hq _ _) h3⟩
theorem pd_callBag {ks : List Kd} {S : Sb} {k : Nat} {f : Addr} {fd : FuncData} {ps : List Str} {x : Str} {p : Pos} (G : FnG X.prog X.w X.K X.mg X.base CX0 k f fd ps (spB F.K ks S)) (hS : MonoB S) (hr : Room k X.A) (hgd : X.A.guards = some []) (hg : Gl X x) (hm : X.mg x = some (.ref f)) (hk : PySem.W.keepIn X.K (.ref f) = true) (hb : Binds X.K fd ps [])
    (ha : PDA X F (e :: es) t d) (hdb : (x == ("__debug__" : Str)) = false := by decide) (he : starEach (e :: es) X.env = (false, eval e X.env) :: starEach es X.env := by rfl) (hpl : (backTo pos (starEach es X.env)).any (·.1) = false := by rfl) :
    PD X F (.Call (.Name x p) (e :: es) [] pos) (fun σ H Q => t σ H fun vs H1 => spB F.K ks S vs H1 Q E0) (dCallB ks S d) :=
  ⟨pe_callG G hr hgd hg hm hk hb ha.pa hdb he hpl, de_callB hS ha.da⟩
end
/-! ## a def's body -/
def entOf : Kd → PyData → Ent
  | .d, x => .d x
  | .ro, x => .ro x
def rhoP (n : Nat) (ks : List Kd) (xs : List PyData) : Rho := (ks.zip xs).map (fun p => some (entOf p.1 p.2)) ++ List.replicate (n - xs.length) none
def frP (K : PySem.W.Frag) (H : Hp) (N : Addr → Prop) : Fm := ⟨K, H, N, fun _ => False, fun _ => False⟩
def frB (K : PySem.W.Frag) (H : Hp) (N : Addr → Prop) (B : Addr) : Fm := ⟨K, H, N, fun a => a = B, fun i => i = 0⟩
theorem ArgsOk.len {K : PySem.W.Frag} {N Z : Addr → Prop} {H : Hp} : ∀ {ks : List Kd} {xs : List PyData} {vs : List V}, ArgsOk K N Z H ks xs vs → vs.length = ks.length ∧ xs.length = ks.length
  | [], [], _, h => by simp only [ArgsOk] at h; subst h; exact ⟨rfl, rfl⟩
  | k :: ks, x :: xs, _, h => by
    simp only [ArgsOk] at h
    obtain ⟨v, us, rfl, _, h2⟩ := h
    obtain ⟨e1, e2⟩ := ArgsOk.len h2
    exact ⟨by simp [e1], by simp [e2]⟩
  | [], _ :: _, _, h => by simp only [ArgsOk] at h
  | _ :: _, [], _, h => by simp only [ArgsOk] at h
theorem ArgsOk.at {K : PySem.W.Frag} {N Z : Addr → Prop} {H : Hp} : ∀ {ks : List Kd} {xs : List PyData} {vs : List V} {i : Nat} {e : Ent}, ArgsOk K N Z H ks xs vs → ((ks.zip xs).map (fun p => some (entOf p.1 p.2)))[i]? = some (some e) → ∃ k x v, e = entOf k x ∧ vs[i]? = some v ∧ ArgOk K N Z H k x v
  | [], [], _, _, _, _, h => by simp at h
  | k :: ks, x :: xs, _, 0, e, h, he => by
    simp only [ArgsOk] at h
    obtain ⟨v, us, rfl, h1, _⟩ := h
    simp at he
    exact ⟨k, x, v, he.symm, rfl, h1⟩
  | k :: ks, x :: xs, _, i + 1, e, h, he => by
    simp only [ArgsOk] at h
    obtain ⟨v, us, rfl, _, h2⟩ := h
    obtain ⟨k', x', v', g1, g2, g3⟩ := ArgsOk.at (i := i) h2 (by simpa using he)
    exact ⟨k', x', v', g1, by simpa using g2, g3⟩
  | [], _ :: _, _, _, _, h, _ => by simp only [ArgsOk] at h
  | _ :: _, [], _, _, _, h, _ => by simp only [ArgsOk] at h
end DV
namespace DV
open PySem PySem.Spec PyProof.Rows L2
theorem rhoP_len {n : Nat} {ks : List Kd} {xs : List PyData} (h : xs.length = ks.length) (hn : ks.length ≤ n) : (rhoP n ks xs).length = n := by
  unfold rhoP
  rw [List.length_append, List.length_map, List.length_zip, List.length_replicate]
  omega
theorem rhoP_some {n : Nat} {ks : List Kd} {xs : List PyData} {i : Nat} {e : Ent} (h : (rhoP n ks xs)[i]? = some (some e)) : ((ks.zip xs).map (fun p => some (entOf p.1 p.2)))[i]? = some (some e) := by
  unfold rhoP at h
  by_cases hi : i < ((ks.zip xs).map (fun p => some (entOf p.1 p.2))).length
  · rw [List.getElem?_append_left hi] at h; exact h
  · rw [List.getElem?_append_right (by omega), List.getElem?_replicate] at h
    split at h <;> cases h
theorem arg_ent {K : PySem.W.Frag} {N A Z : Addr → Prop} {H : Hp} {F : Fm} (hF : F.K = K) (hH : F.H0 = H) (hL : ∀ a, F.L a → Z a) (hA : ∀ a, A a → N a) {k : Kd} {x : PyData} {v : V} (h : ArgOk K N Z H k x v) : EntOk F A H (entOf k x) v := by
  subst hF hH
  have G : Go N A F.H0 F.H0 := ⟨fun a o _ e => e, fun a z => .inl (hA a z)⟩
  cases k with
  | d => exact Im.go G h
  | ro =>
    rcases h with h | ⟨a, us, xs, e, e2, l, t⟩
    · exact .inl (Im.go G h)
    · refine .inr ⟨a, us, xs, e, e2, ?_, t.go G⟩
      rcases l with ⟨l, n⟩ | l
      · exact .inl ⟨l, fun z => n (hL a z)⟩
      · exact .inr l
def retP (r : R) (ρ : Rho) (Q : PyData → Prop) : Prop := match r with
  | .d z => Q z
  | .o i => onOwn ρ i fun xs => Q (.list xs)
  | .raw _ => False
def retB (r : R) (ρ : Rho) (Q : PyData → List PyData → Prop) : Prop := onOwn ρ 0 fun bag => match r with
  | .d z => Q z bag
  | .o (i + 1) => onOwn ρ (i + 1) fun xs => Q (.list xs) bag
  | _ => False
theorem fixP {K : PySem.W.Frag} {H : Hp} {N : Addr → Prop} {i : Nat} : ¬ (frP K H N).fix i := fun z => z
theorem fixB {K : PySem.W.Frag} {H : Hp} {N : Addr → Prop} {B : Addr} {i : Nat} (h : i ≠ 0) : ¬ (frB K H N B).fix i := h
theorem nofixP {K : PySem.W.Frag} {H : Hp} {N : Addr → Prop} {l : List Nat} : ∀ i ∈ l, ¬ (frP K H N).fix i := fun _ _ z => z
theorem nofixB {K : PySem.W.Frag} {H : Hp} {N : Addr → Prop} {B : Addr} {l : List Nat} (h : ∀ i ∈ l, i ≠ 0) : ∀ i ∈ l, ¬ (frB K H N B).fix i := h
section
variable {P : Program} {w : World} {K : PySem.W.Frag} {mg : Str → Option Value} {base : Heap}
theorem fnP {x qual : Str} {st : Stmt} {f : Addr} {fd : FuncData} {N ps : List Str} {k : Nat} {ks : List Kd} {S : Sd} (W : Fun K x qual st f fd) (Sc : FnScope N ps (defScope st)) (hks : ks.length = ps.length)
    (body : ∀ (cdv : Value) (A : Around) (out : List Env) (s : Shared) (H : Hp) (E : XK) (Nn : Addr → Prop), Room k (A.deeper (envOfC qual (defScope st) s.heap.objs.size f cdv)) → A.guards = some [] →
      ∃ ts tds, PDSs (cxOf CX0 P w K mg base N qual (defScope st) f cdv A out s H E).nox (frP K H Nn) (defBody st) ts tds ∧
        ∀ xs Q, xs.length = ks.length → S xs Q → tds { nx := fun _ => Q .none, rt := fun r ρ => retP r ρ Q } (rhoP N.length ks xs)) : FnG P w K mg base CX0 (k + 1) f fd ps (spP K ks S) := by
  have hpl : ps.length ≤ N.length := by have := congrArg List.length Sc.pre; rw [List.length_take] at this; omega
  refine fg_of W Sc (fun vs H Q E h => ?_) fun cdv A out s H vs Q E hr hgd h => ?_
  · obtain ⟨Nn, xs, _, ha, _⟩ := h
    rw [ha.len.1, hks]
  obtain ⟨Nn, xs, hN, ha, hS⟩ := h
  obtain ⟨ts, tds, hb, hq⟩ := body cdv A out s H E Nn hr hgd
  refine ⟨ts, hb.pss, ?_⟩
  have hl := ha.len
  have noOwn : ∀ i a, ¬ OwnAt (rhoP N.length ks xs) (L2.start N vs) i a := by
    rintro i a ⟨⟨ys, h1⟩, _⟩
    obtain ⟨k, x, v, e, _⟩ := ha.at (rhoP_some h1)
    cases k <;> cases e
  have O : Ok (frP K H Nn) [] (rhoP N.length ks xs) (L2.start N vs) H := by
    refine ⟨?_, fun i e h1 => ?_, fun i j a h1 _ => absurd h1 (noOwn i a), fun p hp => (nomatch hp), .nil, fun a o _ e => e, hN, fun a h => h.elim, hN, fun i a _ h => h.elim⟩
    · rw [rhoP_len hl.2 (by rw [hks]; exact hpl)]
      unfold L2.start
      rw [List.length_append, List.length_map, List.length_replicate]
      omega
    · obtain ⟨k, x, v, rfl, h2, h3⟩ := ha.at (rhoP_some h1)
      refine ⟨v, ?_, arg_ent (N := Nn) rfl rfl (fun a z => z) (fun a z => ?_) h3⟩
      · have hi : i < vs.length := by
          rcases Nat.lt_or_ge i vs.length with z | z
          · exact z
          · rw [List.getElem?_eq_none z] at h2; cases h2
        unfold L2.start
        rw [List.getElem?_append_left (by simpa using hi), List.getElem?_map, h2]; rfl
      · rcases z with z | ⟨j, z⟩ | z
        · exact z
        · exact absurd z (noOwn j a)
        · cases z
  refine hb.ds [] _ _ H _ _ O (fun v j hp => nomatch hp) ⟨fun ρ σ H' O' q => ?_, fun ρ σ H' v r O' R' q => ?_, fun _ _ _ _ q => False.elim q, fun _ _ _ _ q => False.elim q⟩ (hq xs _ hl.2 hS)
  · exact q .non H' (fun a o e => O'.fr a o (fun z => z) e) .none
  · have G : Go (Av (frP K H Nn) [] ρ σ) Nn H' H' := ⟨fun _ _ _ e => e, fun a z => .inl (.inl z)⟩
    have fr : ∀ a o, H a = some o → H' a = some o := fun a o e => O'.fr a o (fun z => z) e
    cases r with
    | d z => exact q v H' fr (Im.go G R')
    | raw u => exact q.elim
    | o i =>
      obtain ⟨ys, e, q⟩ := onOwn_of q
      obtain ⟨p, us, h1, h2, h3, h4⟩ := O'.ownGet e
      have := R'.1
      rw [h1] at this; cases this
      refine q _ H' fr ?_
      simp only [Im]
      refine ⟨p, us, rfl, ⟨h2, fun z => ?_⟩, h3.go G⟩
      obtain ⟨_, _, hl⟩ := O'.ownL h4
      rcases hl with hl | hl
      · exact hl
      · obtain ⟨o, e⟩ := hN p z
        have hl : H p = none := hl
        rw [hl] at e; cases e
theorem fnB {x qual : Str} {st : Stmt} {f : Addr} {fd : FuncData} {N ps : List Str} {k : Nat} {ks : List Kd} {S : Sb} (W : Fun K x qual st f fd) (Sc : FnScope N ps (defScope st)) (hks : ks.length + 1 = ps.length)
    (body : ∀ (cdv : Value) (A : Around) (out : List Env) (s : Shared) (H : Hp) (E : XK) (Nn : Addr → Prop) (B : Addr), Room k (A.deeper (envOfC qual (defScope st) s.heap.objs.size f cdv)) → A.guards = some [] →
      ∃ ts tds, PDSs (cxOf CX0 P w K mg base N qual (defScope st) f cdv A out s H E).nox (frB K H Nn B) (defBody st) ts tds ∧
        ∀ bag xs Q, xs.length = ks.length → S bag xs Q → tds { nx := fun ρ => retB (.d .none) ρ Q, rt := fun r ρ => retB r ρ Q } (some (.own bag) :: rhoP (N.length - 1) ks xs)) : FnG P w K mg base CX0 (k + 1) f fd ps (spB K ks S) := by
  have hpl : ps.length ≤ N.length := by have := congrArg List.length Sc.pre; rw [List.length_take] at this; omega
  refine fg_of W Sc (fun vs H Q E h => ?_) fun cdv A out s H vs Q E hr hgd h => ?_
  · obtain ⟨Nn, B, bvs, ws, bag, xs, rfl, _, _, _, _, ha, _⟩ := h
    rw [List.length_cons, ha.len.1, hks]
  obtain ⟨Nn, B, bvs, ws, bag, xs, rfl, hNB, hN, hB, hbag, ha, hS⟩ := h
  obtain ⟨ts, tds, hb, hq⟩ := body cdv A out s H E Nn B hr hgd
  refine ⟨ts, hb.pss, ?_⟩
  have hl := ha.len
  have own0 : ∀ i a, OwnAt (some (.own bag) :: rhoP (N.length - 1) ks xs) (L2.start N (.ref B :: ws)) i a → i = 0 ∧ a = B := by
    rintro i a ⟨⟨ys, h1⟩, h2⟩
    cases i with
    | zero =>
      have h2 : some (some (V.ref B)) = some (some (V.ref a)) := h2
      cases h2; exact ⟨rfl, rfl⟩
    | succ i =>
      obtain ⟨k, x, v, e, _⟩ := ha.at (rhoP_some (show (rhoP (N.length - 1) ks xs)[i]? = some (some (.own ys)) by simpa using h1))
      cases k <;> cases e
  have at0 : OwnAt (some (.own bag) :: rhoP (N.length - 1) ks xs) (L2.start N (.ref B :: ws)) 0 B := ⟨⟨bag, rfl⟩, rfl⟩
  have avN : ∀ a, Av (frB K H Nn B) [.val (.ref B) (.o 0)] (some (.own bag) :: rhoP (N.length - 1) ks xs) (L2.start N (.ref B :: ws)) a → Nn a := by
    rintro a (z | ⟨j, z⟩ | z)
    · exact z
    · rw [(own0 j a z).2]; exact hNB
    · cases z
  have G0 : Go Nn (Av (frB K H Nn B) [.val (.ref B) (.o 0)] (some (.own bag) :: rhoP (N.length - 1) ks xs) (L2.start N (.ref B :: ws))) H H := ⟨fun _ _ _ e => e, fun a z => .inl (avN a z)⟩
  have O : Ok (frB K H Nn B) [.val (.ref B) (.o 0)] (some (.own bag) :: rhoP (N.length - 1) ks xs) (L2.start N (.ref B :: ws)) H := by
    refine ⟨?_, fun i e h1 => ?_, fun i j a h1 h2 => (own0 i a h1).1.trans (own0 j a h2).1.symm, fun p hp => ?_, .nil, fun a o _ e => e, hN, fun a h => ?_, hN, fun i a h _ => (own0 i a h).1⟩
    · rw [List.length_cons, rhoP_len hl.2 (by omega)]
      unfold L2.start
      rw [List.length_append, List.length_map, List.length_replicate, List.length_cons]
      omega
    · cases i with
      | zero =>
        have h1 : some (some (Ent.own bag)) = some (some e) := h1
        cases h1
        exact ⟨.ref B, rfl, B, bvs, rfl, hB, hbag.go G0, .inl rfl⟩
      | succ i =>
        obtain ⟨k, x, v, rfl, h2, h3⟩ := ha.at (rhoP_some (show (rhoP (N.length - 1) ks xs)[i]? = some (some e) by simpa using h1))
        refine ⟨v, ?_, ?_⟩
        · have hi : i < ws.length := by
            rcases Nat.lt_or_ge i ws.length with z | z
            · exact z
            · rw [List.getElem?_eq_none z] at h2; cases h2
          unfold L2.start
          rw [List.getElem?_append_left (by simpa using hi), List.getElem?_map]
          show (ws[i]?).map some = some (some v)
          rw [h2]; rfl
        · exact arg_ent (N := Nn) rfl rfl (fun a z => z) avN h3
    · rcases List.mem_cons.mp hp with rfl | hp
      · exact ⟨rfl, .list bag, rfl⟩
      · cases hp
    · rw [h]; exact hNB
  refine hb.ds [.val (.ref B) (.o 0)] _ _ H _ _ O (fun v j hp => ?_) ⟨fun ρ σ H' O' q => ?_, fun ρ σ H' v r O' R' q => ?_, fun _ _ _ _ q => False.elim q, fun _ _ _ _ q => False.elim q⟩ (hq bag xs _ hl.2 hS)
  · rcases List.mem_cons.mp hp with z | z
    · cases z; rfl
    · cases z
  all_goals
    have G : Go (Av (frB K H Nn B) [.val (.ref B) (.o 0)] ρ σ) Nn H' H' := ⟨fun _ _ _ e => e, fun a z => .inl (.inl z)⟩
    have fr : ∀ a o, a ≠ B → H a = some o → H' a = some o := fun a o n e => O'.fr a o n e
    obtain ⟨bag', e0, q⟩ := onOwn_of q
    obtain ⟨p, us, h1, h2, h3, h4⟩ := O'.ownGet e0
    have hp0 := (O'.pin _ (List.mem_cons_self ..)).1
    rw [h1] at hp0; cases hp0
  · exact q .non H' us fr h2 (h3.go G) .none
  · cases r with
    | d z => exact q v H' us fr h2 (h3.go G) (Im.go G R')
    | raw u => exact q.elim
    | o i =>
      cases i with
      | zero => exact q.elim
      | succ i =>
        obtain ⟨ys, e, q⟩ := onOwn_of q
        obtain ⟨p, vs, g1, g2, g3, g4⟩ := O'.ownGet e
        have := R'.1
        rw [g1] at this; cases this
        refine q _ H' us fr h2 (h3.go G) ?_
        simp only [Im]
        refine ⟨p, vs, rfl, ⟨g2, fun z => ?_⟩, g3.go G⟩
        obtain ⟨_, _, hl⟩ := O'.ownL g4
        rcases hl with hl | hl
        · have hl : p = B := hl
          subst hl
          have := O'.own _ _ _ g4 h4
          cases this
        · obtain ⟨o, e⟩ := hN p z
          have hl : H p = none := hl
          rw [hl] at e; cases e
end
end DV
namespace DV
open PySem PySem.Spec PyProof.Rows L2
section
variable {X : Cx} {F : Fm} {a b c e : Expr} {es : List Expr} {ta tb tc te : TE} {da db dc de : TDE} {dl dl2 : TDL} {pos : Pos} {t : TA} {d : TDA} {tt tu : TT} {dt du : TDT}
/-! ### lists and tuples that are read -/
theorem get_list : PGet X (rIxL X.K) := by
  intro pins s σ H o i ov iv Q I ro ri h
  obtain ⟨p, xs, k, z, rfl, rfl, hq, he, q⟩ := h
  cases ro
  obtain ⟨tk, rfl⟩ := ri
  obtain ⟨its, r, pl, hz⟩ := I.list hq
  obtain ⟨j, h1, h2, h3, h4, h5⟩ := atI_get he
  obtain ⟨w, ew, rw'⟩ := r.get h2
  have hl := r.length
  have hn := line63
  have fin : EP X pins σ Q w s := ⟨z, H, I, rw', q⟩
  by_cases h0 : 0 ≤ k
  · have hj : k.toNat = j := by
      rw [seqIndex_of h0 h5] at h1
      exact Option.some.inj h1
    exact wpAny_getItem_list pl.isList h0 (by omega) (by rw [hj]; simpa using ew) fin
  · have hj : (k + (its.toArray.size : Int)).toNat = j := by
      rw [seqIndex_neg (by omega) h4] at h1
      rw [List.size_toArray, ← hl]
      exact Option.some.inj h1
    exact wpAny_getItem_list_neg pl.isList (by omega) (by rw [List.size_toArray] <;> omega) (by omega) (by rw [hj]; simpa using ew) fin
/-- the items of a list or tuple -/
def items (ρ : Rho) : R → Option (List PyData)
  | .d (.list xs) => some xs
  | .d (.tuple xs) => some xs
  | .o i => match ρ[i]? with
    | some (some (.own xs)) => some xs
    | some (some (.ro (.list xs))) => some xs
    | some (some (.ro (.tuple xs))) => some xs
    | some (some (.d (.list xs))) => some xs
    | some (some (.d (.tuple xs))) => some xs
    | _ => none
  | _ => none
section
variable {pins : List Pin} {ρ : Rho} {σ : L2.St} {H : Hp}
theorem im_items {A : Addr → Prop} {x : PyData} {v : V} {xs : List PyData} (h : Im F.K A H x v) (e : x = .list xs ∨ x = .tuple xs) : ∃ a vs, v = .ref a ∧ (SqL F.K H a vs ∨ SqT F.K H a vs) ∧ ImAll F.K A H xs vs := by
  rcases e with rfl | rfl
  · simp only [Im] at h
    obtain ⟨a, vs, e, l, t⟩ := h
    exact ⟨a, vs, e, .inl l.sq, t⟩
  · simp only [Im] at h
    obtain ⟨a, vs, e, l, t⟩ := h
    exact ⟨a, vs, e, .inr l.sq, t⟩
theorem items_ok (O : Ok F pins ρ σ H) {r : R} {v : V} {xs : List PyData} (h : ROk F (Av F pins ρ σ) ρ σ H r v) (e : items ρ r = some xs) : ∃ a vs, v = .ref a ∧ (SqL F.K H a vs ∨ SqT F.K H a vs) ∧ ImAll F.K (Av F pins ρ σ) H xs vs := by
  cases r with
  | raw u => cases e
  | d x =>
    cases x <;> first | cases e | skip
    · exact im_items h (.inl rfl)
    · exact im_items h (.inr rfl)
  | o i =>
    have h1 := h.1
    have e : (match ρ[i]? with
      | some (some (.own xs)) => some xs
      | some (some (.ro (.list xs))) => some xs
      | some (some (.ro (.tuple xs))) => some xs
      | some (some (.d (.list xs))) => some xs
      | some (some (.d (.tuple xs))) => some xs
      | _ => none) = some xs := e
    split at e
    · rename_i ys q; cases e
      obtain ⟨p, vs, g1, g2, g3, _⟩ := O.ownGet q
      rw [h1] at g1; cases g1
      exact ⟨p, vs, rfl, .inl (.of g2), g3⟩
    · rename_i ys q; cases e
      obtain ⟨u, g1, g2⟩ := O.ent i _ q
      rw [h1] at g1; cases g1
      rcases g2 with g2 | ⟨p, us, zs, rfl, g4, g5, g6⟩
      · exact im_items g2 (.inl rfl)
      · cases g4; exact ⟨p, us, rfl, .inl (g5.sq O), g6⟩
    · rename_i ys q; cases e
      obtain ⟨u, g1, g2⟩ := O.ent i _ q
      rw [h1] at g1; cases g1
      rcases g2 with g2 | ⟨p, us, zs, rfl, g4, g5, g6⟩
      · exact im_items g2 (.inr rfl)
      · cases g4
    · rename_i ys q; cases e
      obtain ⟨u, g1, g2⟩ := O.ent i _ q
      rw [h1] at g1; cases g1
      exact im_items g2 (.inl rfl)
    · rename_i ys q; cases e
      obtain ⟨u, g1, g2⟩ := O.ent i _ q
      rw [h1] at g1; cases g1
      exact im_items g2 (.inr rfl)
    · cases e
end
def onItems (ρ : Rho) (r : R) (f : List PyData → Prop) : Prop := match items ρ r with
  | some xs => f xs
  | _ => False
theorem onItems_of {ρ : Rho} {r : R} {f : List PyData → Prop} (h : onItems ρ r f) : ∃ xs, items ρ r = some xs ∧ f xs := by
  unfold onItems at h
  split at h
  · exact ⟨_, by assumption, h⟩
  · exact h.elim
theorem onItems_mono {ρ : Rho} {r : R} {f g : List PyData → Prop} (h : onItems ρ r f) (k : ∀ xs, f xs → g xs) : onItems ρ r g := by
  unfold onItems at h ⊢
  split at h
  · exact k _ h
  · exact h.elim
def onInt (ρ : Rho) (r : R) (f : Int → Prop) : Prop := match val ρ r with
  | some (.int k) => f k
  | _ => False
theorem onInt_of {ρ : Rho} {r : R} {f : Int → Prop} (h : onInt ρ r f) : ∃ k, val ρ r = some (.int k) ∧ f k := by
  unfold onInt at h
  split at h
  · exact ⟨_, by assumption, h⟩
  · exact h.elim
theorem onInt_mono {ρ : Rho} {r : R} {f g : Int → Prop} (h : onInt ρ r f) (k : ∀ x, f x → g x) : onInt ρ r g := by
  unfold onInt at h ⊢
  split at h
  · exact k _ h
  · exact h.elim
def onAt (xs : List PyData) (k : Int) (f : PyData → Prop) : Prop := match atI xs k with
  | some y => f y
  | _ => False
theorem onAt_of {xs : List PyData} {k : Int} {f : PyData → Prop} (h : onAt xs k f) : ∃ y, atI xs k = some y ∧ f y := by
  unfold onAt at h
  split at h
  · exact ⟨_, by assumption, h⟩
  · exact h.elim
theorem onAt_mono {xs : List PyData} {k : Int} {f g : PyData → Prop} (h : onAt xs k f) (m : ∀ x, f x → g x) : onAt xs k g := by
  unfold onAt at h ⊢
  split at h
  · exact m _ h
  · exact h.elim
def dIx (ta tb : TDE) : TDE := dBin ta tb fun r s ρ Q => onItems ρ r fun xs => onInt ρ s fun k => onAt xs k fun y => Q (.d y) ρ
theorem at_rel {K : PySem.W.Frag} {N : Addr → Prop} {H : Hp} {xs : List PyData} {vs : List V} {k : Int} {y : PyData} (h : ImAll K N H xs vs) (e : atI xs k = some y) : ∃ v, atI vs k = some v ∧ Im K N H y v := by
  unfold atI at e ⊢
  rw [h.length]
  cases q : ixN xs.length k with
  | none => rw [q] at e; cases e
  | some j =>
    rw [q] at e
    exact h.get e
theorem pd_ix (ha : PD X F a ta da) (hb : PD X F b tb db) (hs : PlainIx b) (hK : X.K = F.K := by rfl) : PD X F (.Subscript a b pos) (tOp (fun x y H Q => rIxL F.K x y H Q ∨ rIxT F.K x y H Q) ta tb) (dIx da db) := by
  refine ⟨?_, de_bin ha.de hb.de (fun pins ρ σ H x y r s Q O R1 R2 h => ?_) fun r s ρ Q Q' hq h => onItems_mono h fun xs h => onInt_mono h fun k h => onAt_mono h fun y h => hq _ _ h⟩
  · have := pe_ix (pos := pos) (ix_list.or ix_tup) ha.pe hb.pe hs
    rw [hK] at this
    exact this
  obtain ⟨xs, e1, h⟩ := onItems_of h
  obtain ⟨k, e2, h⟩ := onInt_of h
  obtain ⟨y, e3, h⟩ := onAt_of h
  obtain ⟨p, vs, rfl, l, im⟩ := items_ok O R1 e1
  cases dp_int (val_dp O R2 e2)
  obtain ⟨v, e4, i4⟩ := at_rel im e3
  rcases l with l | l
  · exact .inl ⟨p, vs, k, v, rfl, rfl, l, e4, h v H O i4⟩
  · exact .inr ⟨p, vs, k, v, rfl, rfl, l, e4, h v H O i4⟩
/-! ### slices -/
def cutD (xs : List PyData) (lo hi : Option Int) : List PyData := (xs.drop (HT.sIx xs.length 0 lo)).take (HT.sIx xs.length xs.length hi - HT.sIx xs.length 0 lo)
theorem ImAll.cut {K : PySem.W.Frag} {N : Addr → Prop} {H : Hp} {xs : List PyData} {vs : List V} (h : ImAll K N H xs vs) (lo hi : Option Int) : ImAll K N H (cutD xs lo hi) (cutV vs lo hi) := by
  unfold cutD cutV
  rw [h.length]
  exact (h.drop _).take _
abbrev TDO := Rho → (Option Int → Rho → Prop) → Prop
structure DO (F : Fm) (to : TO) (td : TDO) : Prop where
  run : ∀ (pins : List Pin) (ρ : Rho) (σ : L2.St) (H : Hp) (Q : Option Int → Hp → Prop), Ok F pins ρ σ H → td ρ (fun o ρ' => ∀ H', Ok F pins ρ' σ H' → Q o H') → to σ H Q
  mono : ∀ ρ Q Q', (∀ r ρ', Q r ρ' → Q' r ρ') → td ρ Q → td ρ Q'
structure PDO (X : Cx) (F : Fm) (e : Option Expr) (to : TO) (td : TDO) : Prop where
  po : PO X e to
  d : DO F to td
def dNoPart : TDO := fun ρ Q => Q none ρ
def dPart (te : TDE) : TDO := fun ρ Q => te ρ fun r ρ1 => onInt ρ1 r fun k => Q (some k) ρ1
theorem pdo_none : PDO X F none tNoPart dNoPart := ⟨po_none, fun pins ρ σ H Q O h => h H O, fun _ _ _ hq h => hq _ _ h⟩
theorem pdo_some (h : PD X F e te de) : PDO X F (some e) (tPart te) (dPart de) := by
  refine ⟨po_some h.pe, fun pins ρ σ H Q O hq => ?_, fun ρ Q Q' hq hh => h.de.mono _ _ _ (fun r ρ1 h1 => onInt_mono h1 fun k => hq _ _) hh⟩
  refine h.de.run pins ρ σ H _ O (h.de.mono _ _ _ (fun r ρ1 h1 v H1 O1 R1 => ?_) hq)
  obtain ⟨k, e, q⟩ := onInt_of h1
  cases dp_int (val_dp O1 R1 e)
  exact ⟨k, rfl, q H1 O1⟩
def dSlice (te : TDE) (tl th : TDO) (k : R → Option Int → Option Int → Rho → Prop) (ρ : Rho) : Prop := te ρ fun r ρ1 => tl ρ1 fun lo ρ2 => th ρ2 fun hi ρ3 => k r lo hi ρ3
variable {lo hi : Option Expr} {tl th : TO} {dlo dhi : TDO} {p2 : Pos}
/-- the items of a list that callers or this body may change -/
def litems (ρ : Rho) : R → Option (List PyData)
  | .d (.list xs) => some xs
  | .o i => match ρ[i]? with
    | some (some (.own xs)) => some xs
    | some (some (.ro (.list xs))) => some xs
    | some (some (.d (.list xs))) => some xs
    | _ => none
  | _ => none
theorem litems_ok {pins : List Pin} {ρ : Rho} {σ : L2.St} {H : Hp} (O : Ok F pins ρ σ H) {r : R} {v : V} {xs : List PyData} (h : ROk F (Av F pins ρ σ) ρ σ H r v) (e : litems ρ r = some xs) : ∃ a vs, v = .ref a ∧ SqL F.K H a vs ∧ ImAll F.K (Av F pins ρ σ) H xs vs := by
  have lst : ∀ {A : Addr → Prop} {v : V} {xs : List PyData}, Im F.K A H (.list xs) v → ∃ a vs, v = .ref a ∧ SqL F.K H a vs ∧ ImAll F.K A H xs vs := fun {A v xs} h => by
    simp only [Im] at h
    obtain ⟨a, vs, e, l, t⟩ := h
    exact ⟨a, vs, e, l.sq, t⟩
  cases r with
  | raw u => cases e
  | d x =>
    cases x <;> first | cases e | skip
    exact lst h
  | o i =>
    have h1 := h.1
    have e : (match ρ[i]? with
      | some (some (.own xs)) => some xs
      | some (some (.ro (.list xs))) => some xs
      | some (some (.d (.list xs))) => some xs
      | _ => none) = some xs := e
    split at e
    · rename_i ys q; cases e
      obtain ⟨p, vs, g1, g2, g3, _⟩ := O.ownGet q
      rw [h1] at g1; cases g1
      exact ⟨p, vs, rfl, .of g2, g3⟩
    · rename_i ys q; cases e
      obtain ⟨u, g1, g2⟩ := O.ent i _ q
      rw [h1] at g1; cases g1
      rcases g2 with g2 | ⟨p, us, zs, rfl, g4, g5, g6⟩
      · exact lst g2
      · cases g4; exact ⟨p, us, rfl, g5.sq O, g6⟩
    · rename_i ys q; cases e
      obtain ⟨u, g1, g2⟩ := O.ent i _ q
      rw [h1] at g1; cases g1
      exact lst g2
    · cases e
def onL (ρ : Rho) (r : R) (f : List PyData → Prop) : Prop := match litems ρ r with
  | some xs => f xs
  | _ => False
theorem onL_of {ρ : Rho} {r : R} {f : List PyData → Prop} (h : onL ρ r f) : ∃ xs, litems ρ r = some xs ∧ f xs := by
  unfold onL at h
  split at h
  · exact ⟨_, by assumption, h⟩
  · exact h.elim
theorem onL_mono {ρ : Rho} {r : R} {f g : List PyData → Prop} (h : onL ρ r f) (k : ∀ xs, f xs → g xs) : onL ρ r g := by
  unfold onL at h ⊢
  split at h
  · exact k _ h
  · exact h.elim
def dSlL (te : TDE) (tl th : TDO) : TDL := fun ρ Q => dSlice te tl th (fun r lo hi ρ3 => onL ρ3 r fun xs => Q (cutD xs lo hi) ρ3) ρ
theorem pl_slice (he : PD X F e te de) (hl : PDO X F lo tl dlo) (hh : PDO X F hi th dhi) (hK : X.K = F.K := by rfl) : PDL X F (.Subscript e (.Slice lo hi none p2) pos) (tSl (rSlL F.K) te tl th) (dSlL de dlo dhi) := by
  refine ⟨?_, fun pins ρ σ H Q O h => ?_, fun ρ Q Q' hq h => he.de.mono _ _ _ (fun r ρ1 h1 => hl.d.mono _ _ _ (fun l ρ2 h2 => hh.d.mono _ _ _ (fun u ρ3 h3 => onL_mono h3 fun xs => hq _ _) h2) h1) h⟩
  · have := pe_slice (pos := pos) (p2 := p2) sl_list he.pe hl.po hh.po
    rw [hK] at this
    exact this
  refine he.de.run pins ρ σ H _ O (he.de.mono _ _ _ (fun r ρ1 h1 v H1 O1 R1 => ?_) h)
  refine hl.d.run (.val v r :: pins) ρ1 σ H1 _ (O1.push R1) (hl.d.mono _ _ _ (fun l ρ2 h2 H2 O2 => ?_) h1)
  refine hh.d.run (.val v r :: pins) ρ2 σ H2 _ O2 (hh.d.mono _ _ _ (fun u ρ3 h3 H3 O3 => ?_) h2)
  obtain ⟨O4, R4⟩ := O3.popV
  obtain ⟨xs, e1, q⟩ := onL_of h3
  obtain ⟨p, vs, rfl, sq, im⟩ := litems_ok O4 R4 e1
  exact ⟨p, vs, rfl, sq, fun p' hp => q p' _ (O4.pushL hp (im.cut l u))⟩
/-! ### xs + ys of lists -/
def mitems (ρ : Rho) : R → Option (List PyData)
  | .d (.list xs) => some xs
  | .o i => match ρ[i]? with
    | some (some (.own xs)) => some xs
    | _ => none
  | _ => none
theorem mitems_ok {pins : List Pin} {ρ : Rho} {σ : L2.St} {H : Hp} (O : Ok F pins ρ σ H) {r : R} {v : V} {xs : List PyData} (h : ROk F (Av F pins ρ σ) ρ σ H r v) (e : mitems ρ r = some xs) : ∃ a vs, v = .ref a ∧ H a = some (.lst vs) ∧ ImAll F.K (Av F pins ρ σ) H xs vs := by
  cases r with
  | raw u => cases e
  | d x =>
    cases x <;> first | cases e | skip
    have h : Im F.K (Av F pins ρ σ) H (.list xs) v := h
    simp only [Im] at h
    obtain ⟨a, vs, e, l, t⟩ := h
    exact ⟨a, vs, e, l.1, t⟩
  | o i =>
    have h1 := h.1
    have e : (match ρ[i]? with
      | some (some (.own xs)) => some xs
      | _ => none) = some xs := e
    split at e
    · rename_i ys q; cases e
      obtain ⟨p, vs, g1, g2, g3, _⟩ := O.ownGet q
      rw [h1] at g1; cases g1
      exact ⟨p, vs, rfl, g2, g3⟩
    · cases e
def onM (ρ : Rho) (r : R) (f : List PyData → Prop) : Prop := match mitems ρ r with
  | some xs => f xs
  | _ => False
theorem onM_of {ρ : Rho} {r : R} {f : List PyData → Prop} (h : onM ρ r f) : ∃ xs, mitems ρ r = some xs ∧ f xs := by
  unfold onM at h
  split at h
  · exact ⟨_, by assumption, h⟩
  · exact h.elim
theorem onM_mono {ρ : Rho} {r : R} {f g : List PyData → Prop} (h : onM ρ r f) (k : ∀ xs, f xs → g xs) : onM ρ r g := by
  unfold onM at h ⊢
  split at h
  · exact k _ h
  · exact h.elim
def dCat (ta tb : TDE) : TDL := fun ρ Q => ta ρ fun r ρ1 => tb ρ1 fun s ρ2 => onM ρ2 r fun xs => onM ρ2 s fun ys => Few (xs.length + ys.length) ∧ Q (xs ++ ys) ρ2
theorem pl_cat (ha : PD X F a ta da) (hb : PD X F b tb db) : PDL X F (.BinOp a .Add b pos) (tOp rCat ta tb) (dCat da db) := by
  refine ⟨pe_op op_cat ha.pe hb.pe, fun pins ρ σ H Q O h => ?_, fun ρ Q Q' hq h => ha.de.mono _ _ _ (fun r ρ1 h1 => hb.de.mono _ _ _ (fun s ρ2 h2 => onM_mono h2 fun xs h3 => onM_mono h3 fun ys h4 => ⟨h4.1, hq _ _ h4.2⟩) h1) h⟩
  refine ha.de.run pins ρ σ H _ O (ha.de.mono _ _ _ (fun r ρ1 h1 x H1 O1 R1 => ?_) h)
  refine hb.de.run (.val x r :: pins) ρ1 σ H1 _ (O1.push R1) (hb.de.mono _ _ _ (fun s ρ2 h2 y H2 O2 R2 => ?_) h1)
  obtain ⟨O3, R3⟩ := O2.popV
  obtain ⟨xs, e1, h3⟩ := onM_of h2
  obtain ⟨ys, e2, h4, q⟩ := onM_of h3
  obtain ⟨p, vs, rfl, g1, i1⟩ := mitems_ok O3 R3 e1
  obtain ⟨p2, us, rfl, g2, i2⟩ := mitems_ok O3 R2 e2
  exact ⟨p, p2, vs, us, rfl, rfl, g1, g2, by rw [i1.length, i2.length]; exact h4, fun p' hp => q p' _ (O3.pushL hp (i1.append i2))⟩
/-! ### tuple(xs), list(xs) -/
def dTupOf (t : TDA) : TDE := fun ρ Q => t ρ fun rs ρ1 => match rs with
  | [.d (.tuple xs)] => Q (.d (.tuple xs)) ρ1
  | [r] => onL ρ1 r fun xs => Q (.d (.tuple xs)) ρ1
  | _ => False
theorem pd_tupleOf {p : Pos} (hg : Gl X "tuple") (hm : X.mg "tuple" = none) (ha : PDA X F [e] t d) (hK : X.K = F.K := by rfl) (he : starEach [e] X.env = (false, eval e X.env) :: starEach [] X.env := by rfl) (hpl : (backTo pos (starEach [] X.env)).any (·.1) = false := by rfl) :
    PD X F (.Call (.Name "tuple" p) [e] [] pos) (tCB (fun xs H Q => ∃ p ys, xs = [.ref p] ∧ ((SqL F.K H p ys ∧ ∀ l, H l = none → Q (.ref l) (upd H l (.tup ys))) ∨ (SqT F.K H p ys ∧ Q (.ref p) H))) t) (dTupOf d) := by
  refine ⟨?_, fun pins ρ σ H Q O h => ?_, fun ρ Q Q' hq h => ?_⟩
  · have := pe_callTy (p := p) (pos := pos) call_tuple_of hg hm (by decide +kernel) ha.pa (by decide) (by decide) he hpl
    rw [hK] at this
    exact this
  · refine ha.da.run pins ρ σ H _ O (ha.da.mono _ _ _ (fun rs ρ1 h1 vs H1 O1 R1 => ?_) h)
    split at h1
    · rename_i xs
      simp only [ROks] at R1
      obtain ⟨v, _, rfl, r1, rfl⟩ := R1
      have r2 : Im F.K (Av F pins ρ1 σ) H1 (.tuple xs) v := r1
      have r3 := r2
      simp only [Im] at r2
      obtain ⟨p, us, rfl, l, im⟩ := r2
      exact ⟨p, us, rfl, .inr ⟨l.sq, h1 _ _ O1 r3⟩⟩
    · rename_i r _
      simp only [ROks] at R1
      obtain ⟨v, _, rfl, r1, rfl⟩ := R1
      obtain ⟨xs, e1, q⟩ := onL_of h1
      obtain ⟨p, us, rfl, l, im⟩ := litems_ok O1 r1 e1
      refine ⟨p, us, rfl, .inl ⟨l, fun l' hl => ?_⟩⟩
      obtain ⟨O2, i2⟩ := newTup O1 hl im
      exact q _ _ O2 i2
    · exact h1.elim
  · refine ha.da.mono _ _ _ (fun rs ρ1 h1 => ?_) h
    revert h1
    split
    · exact fun h1 => hq _ _ h1
    · exact fun h1 => onL_mono h1 fun xs => hq _ _
    · exact fun h1 => h1
end
/-! ### what is walked -/
section
variable {X : Cx} {F : Fm} {tg e e2 : Expr} {te te2 : TE} {de de2 : TDE} {pos p : Pos} {t : TA} {d : TDA}
theorem PI.or {tg iter : Expr} {w1 w2 : TI} (h1 : PI X tg iter w1) (h2 : PI X tg iter w2) : PI X tg iter (fun σ H R => w1 σ H R ∨ w2 σ H R) :=
  ⟨fun pins s σ H R I h => h.elim (h1.run pins s σ H R I) (h2.run pins s σ H R I)⟩
end
end DV
namespace DV
open PySem PySem.Spec PyProof.Rows L2
section
variable {X : Cx} {F : Fm} {tg e e2 a b : Expr} {te te2 ta tb : TE} {de de2 da db : TDE} {pos p : Pos} {t : TA} {d : TDA}
theorem wok_list {v : V} {xs : List PyData} {a : Addr} (hv : v = .ref a) : WOk F (Itl F.K a) xs [.val v (.d (.list xs))] := by
  subst hv
  have key : ∀ (pins : List Pin) (ρ : Rho) (σ : L2.St) (H : Hp), (∀ q ∈ [Pin.val (.ref a) (.d (.list xs))], q ∈ pins) → Ok F pins ρ σ H → ∃ vs, SqL F.K H a vs ∧ ImAll F.K (Av F pins ρ σ) H xs vs := fun pins ρ σ H hp O => by
    have h : Im F.K (Av F pins ρ σ) H (.list xs) (.ref a) := O.pin _ (hp _ (List.mem_cons_self ..))
    simp only [Im] at h
    obtain ⟨q, vs, e, l, im⟩ := h
    cases e
    exact ⟨vs, l.sq, im⟩
  refine ⟨fun i pins ρ σ H hp hi O => ?_, fun pins ρ σ H hp O => ?_, fun i pins ρ σ H x H' hp hi O y => ?_⟩
  · obtain ⟨vs, h1, h2⟩ := key pins ρ σ H hp O
    have hl := h2.length
    exact ⟨vs, vs[i]'(by omega), h1, by simp⟩
  · obtain ⟨vs, h1, h2⟩ := key pins ρ σ H hp O
    exact ⟨vs, h1, by rw [h2.length]; exact Nat.le_refl _⟩
  · obtain ⟨vs, h1, h2⟩ := key pins ρ σ H hp O
    obtain ⟨rfl, y⟩ := y
    obtain ⟨d, e1, e2⟩ := h2.getV (y vs h1)
    exact ⟨d, e1, O, e2⟩
theorem wok_tup {v : V} {xs : List PyData} {a : Addr} (hv : v = .ref a) : WOk F (Itt F.K a) xs [.val v (.d (.tuple xs))] := by
  subst hv
  have key : ∀ (pins : List Pin) (ρ : Rho) (σ : L2.St) (H : Hp), (∀ q ∈ [Pin.val (.ref a) (.d (.tuple xs))], q ∈ pins) → Ok F pins ρ σ H → ∃ vs, SqT F.K H a vs ∧ ImAll F.K (Av F pins ρ σ) H xs vs := fun pins ρ σ H hp O => by
    have h : Im F.K (Av F pins ρ σ) H (.tuple xs) (.ref a) := O.pin _ (hp _ (List.mem_cons_self ..))
    simp only [Im] at h
    obtain ⟨q, vs, e, l, im⟩ := h
    cases e
    exact ⟨vs, l.sq, im⟩
  refine ⟨fun i pins ρ σ H hp hi O => ?_, fun pins ρ σ H hp O => ?_, fun i pins ρ σ H x H' hp hi O y => ?_⟩
  · obtain ⟨vs, h1, h2⟩ := key pins ρ σ H hp O
    have hl := h2.length
    exact ⟨vs, vs[i]'(by omega), h1, by simp⟩
  · obtain ⟨vs, h1, h2⟩ := key pins ρ σ H hp O
    exact ⟨vs, h1, by rw [h2.length]; exact Nat.le_refl _⟩
  · obtain ⟨vs, h1, h2⟩ := key pins ρ σ H hp O
    obtain ⟨rfl, y⟩ := y
    obtain ⟨d, e1, e2⟩ := h2.getV (y vs h1)
    exact ⟨d, e1, O, e2⟩
theorem mem_pinsOf : ∀ {vs : List V} {xs : List PyData} {p : Pin}, p ∈ pinsOf vs xs → ∃ v x, p = .val v (.d x)
  | [], _, _, h => by cases h
  | _ :: _, [], _, h => by cases h
  | v :: vs, x :: xs, p, h => by
    rcases List.mem_cons.mp h with z | z
    · exact ⟨v, x, z⟩
    · exact mem_pinsOf z
theorem all_pinsOf {pins : List Pin} {ρ : Rho} {σ : L2.St} {H : Hp} (O : Ok F pins ρ σ H) : ∀ {vs : List V} {xs : List PyData}, vs.length = xs.length → (∀ q ∈ pinsOf vs xs, q ∈ pins) → ImAll F.K (Av F pins ρ σ) H xs vs
  | [], [], _, _ => .nil
  | v :: vs, x :: xs, hl, h => .cons (O.pin _ (h _ (List.mem_cons_self ..))) (all_pinsOf O (by simpa using hl) fun q hq => h q (List.mem_cons_of_mem _ hq))
  | [], _ :: _, hl, _ => by cases hl
  | _ :: _, [], hl, _ => by cases hl
/-- a list that is read alone -/
theorem wok_ro {xs : List PyData} {us : List V} {a : Addr} (hl : us.length = xs.length) (hr : LkR F a us) : WOk F (Itl F.K a) xs (pinsOf us xs) := by
  refine ⟨fun i pins ρ σ H hp hi O => ?_, fun pins ρ σ H hp O => ?_, fun i pins ρ σ H x H' hp hi O y => ?_⟩
  · exact ⟨us, us[i]'(by omega), hr.sq O, by simp⟩
  · exact ⟨us, hr.sq O, by rw [hl]; exact Nat.le_refl _⟩
  · obtain ⟨rfl, y⟩ := y
    obtain ⟨d, e1, e2⟩ := (all_pinsOf O hl hp).getV (y us (hr.sq O))
    exact ⟨d, e1, O, e2⟩
def dSeqI (te : TDE) : TDI := fun ρ Q => te ρ fun r ρ1 => match r with
  | .d (.list xs) => Q xs ρ1
  | .d (.tuple xs) => Q xs ρ1
  | .o i => match ρ1[i]? with
    | some (some (.ro (.list xs))) => Q xs ρ1
    | some (some (.ro (.tuple xs))) => Q xs ρ1
    | _ => False
  | _ => False
def iSeq (K : PySem.W.Frag) (tl : TE) : TI := fun σ H R => tl σ H fun x H1 => ∃ a, x = .ref a ∧ (((∃ xs, SqL K H1 a xs) ∧ R (Itl K a) H1) ∨ ((∃ xs, SqT K H1 a xs) ∧ R (Itt K a) H1))
theorem pi_seq (he : PE X e te) : PI X tg e (iSeq X.K te) := by
  constructor
  intro pins s σ H R I h
  refine thn (he.run pins s σ H _ I h) ?_
  rintro v s1 ⟨x, H1, I1, r1, a, rfl, hq⟩
  cases r1
  have new : ∀ (o : Obj), ∀ b ∈ [s1.heap.objs.size], FpOk X pins H1 b := fun o b hb => by
    obtain rfl : b = s1.heap.objs.size := by simpa using hb
    exact I1.fpOk (Nat.le_refl _) I1.fresh
  have keep : ∀ (o : Obj), Inv X pins σ H1 { s1 with heap := s1.heap.push o } := fun o => I1.kept (t' := s1.toks) fun b u e => Heap.get?_push_of_some _ e
  rcases hq with ⟨⟨xs, hq⟩, q⟩ | ⟨⟨xs, hq⟩, q⟩
  · obtain ⟨its, rv, pl, _⟩ := I1.list hq
    apply wpAny_pyIter_list pl.isList
    exact ⟨_, [s1.heap.objs.size], _, _, H1, rfl, keep _, turn_list a _, ⟨_, Heap.get?_push_size _ rfl, rfl, rfl⟩, new default, q⟩
  · obtain ⟨its, rv, pl, _⟩ := I1.tuple hq
    apply wpAny_pyIter_tuple (show s1.heap.IsTuple a its.toArray from pl)
    exact ⟨_, [s1.heap.objs.size], _, _, H1, rfl, keep _, turn_tuple a _, ⟨_, Heap.get?_push_size _ rfl, rfl, rfl⟩, new default, q⟩
theorem pdi_seq (he : PD X F e te de) (hK : X.K = F.K := by rfl) : PDI X F tg e (iSeq F.K te) (dSeqI de) := by
  refine ⟨?_, fun pins ρ σ H R O h => ?_, fun ρ Q Q' hq h => ?_⟩
  · have := pi_seq (tg := tg) he.pe
    rw [hK] at this
    exact this
  · refine he.de.run pins ρ σ H _ O (he.de.mono _ _ _ (fun r ρ1 h1 v H1 O1 R1 => ?_) h)
    split at h1
    · rename_i xs
      have im : Im F.K (Av F pins ρ1 σ) H1 (.list xs) v := R1
      have im2 := im
      simp only [Im] at im2
      obtain ⟨a, vs, rfl, l, _⟩ := im2
      refine ⟨a, rfl, .inl ⟨⟨vs, l.sq⟩, h1 _ H1 _ (wok_list rfl) (fun p hp => ?_) (O1.push (v := .ref a) (r := .d (.list xs)) im)⟩⟩
      rcases List.mem_cons.mp hp with z | z
      · exact ⟨_, _, z⟩
      · cases z
    · rename_i xs
      have im : Im F.K (Av F pins ρ1 σ) H1 (.tuple xs) v := R1
      have im2 := im
      simp only [Im] at im2
      obtain ⟨a, vs, rfl, l, _⟩ := im2
      refine ⟨a, rfl, .inr ⟨⟨vs, l.sq⟩, h1 _ H1 _ (wok_tup rfl) (fun p hp => ?_) (O1.push (v := .ref a) (r := .d (.tuple xs)) im)⟩⟩
      rcases List.mem_cons.mp hp with z | z
      · exact ⟨_, _, z⟩
      · cases z
    · rename_i i
      have g0 := R1.1
      split at h1
      · rename_i xs q
        obtain ⟨u, g1, g2⟩ := O1.ent i _ q
        rw [g0] at g1; cases g1
        rcases g2 with im | ⟨a, us, ys, rfl, e1, l, t⟩
        · have im2 := im
          simp only [Im] at im2
          obtain ⟨a, vs, rfl, l, _⟩ := im2
          refine ⟨a, rfl, .inl ⟨⟨vs, l.sq⟩, h1 _ H1 _ (wok_list rfl) (fun p hp => ?_) (O1.push (v := .ref a) (r := .d (.list xs)) im)⟩⟩
          rcases List.mem_cons.mp hp with z | z
          · exact ⟨_, _, z⟩
          · cases z
        · cases e1
          exact ⟨a, rfl, .inl ⟨⟨us, l.sq O1⟩, h1 _ H1 _ (wok_ro t.length l) (fun p hp => mem_pinsOf hp) (O1.pushAll t).1⟩⟩
      · rename_i xs q
        obtain ⟨u, g1, g2⟩ := O1.ent i _ q
        rw [g0] at g1; cases g1
        rcases g2 with im | ⟨a, us, ys, rfl, e1, l, t⟩
        · have im2 := im
          simp only [Im] at im2
          obtain ⟨a, vs, rfl, l, _⟩ := im2
          refine ⟨a, rfl, .inr ⟨⟨vs, l.sq⟩, h1 _ H1 _ (wok_tup rfl) (fun p hp => ?_) (O1.push (v := .ref a) (r := .d (.tuple xs)) im)⟩⟩
          rcases List.mem_cons.mp hp with z | z
          · exact ⟨_, _, z⟩
          · cases z
        · cases e1
      · exact h1.elim
    · exact h1.elim
  · refine he.de.mono _ _ _ (fun r ρ1 h1 => ?_) h
    revert h1
    split
    · exact fun h1 => hq _ _ h1
    · exact fun h1 => hq _ _ h1
    · intro h1
      split at h1
      · exact hq _ _ h1
      · exact hq _ _ h1
      · exact h1.elim
    · exact fun h1 => h1
/-! ### ranges -/
def rng (lo : Int) (n : Nat) : List PyData := (List.range n).map fun k => .int (lo + (k : Nat))
theorem rng_at {lo : Int} {n i : Nat} (h : i < n) : (rng lo n)[i]? = some (.int (lo + (i : Nat))) := by
  unfold rng
  rw [List.getElem?_map, List.getElem?_range h]; rfl
theorem rng_len {lo : Int} {n : Nat} : (rng lo n).length = n := by unfold rng; rw [List.length_map, List.length_range]
theorem wok_rng {lo : Int} {n : Nat} : WOk F (Itr lo n) (rng lo n) [] := by
  refine ⟨fun i pins ρ σ H hp hi O => by rw [rng_len] at hi; exact hi, fun pins ρ σ H hp O => by rw [rng_len]; exact Nat.le_refl _, fun i pins ρ σ H x H' hp hi O y => ?_⟩
  rw [rng_len] at hi
  obtain ⟨rfl, rfl⟩ := y
  exact ⟨_, rng_at hi, O, .int⟩
def dRng1 (t : TDA) : TDI := fun ρ Q => t ρ fun rs ρ1 => match rs with
  | [.d (.int j)] => (-(2 ^ 62) ≤ j ∧ j < 2 ^ 62) ∧ Q (rng 0 j.toNat) ρ1
  | _ => False
def dRng2 (t : TDA) : TDI := fun ρ Q => t ρ fun rs ρ1 => match rs with
  | [.d (.int i), .d (.int j)] => (-(2 ^ 62) ≤ i ∧ i < 2 ^ 62 ∧ -(2 ^ 62) ≤ j ∧ j < 2 ^ 62) ∧ Q (rng i (j - i).toNat) ρ1
  | _ => False
theorem pdi_range1 (hg : Gl X "range") (hm : X.mg "range" = none) (ha : PDA X F [e] t d) (hs : starEach [e] X.env = [(false, eval e X.env)] := by rfl) : PDI X F tg (.Call (.Name "range" p) [e] [] pos) (iRng1 t) (dRng1 d) := by
  refine ⟨pi_range1 hg hm ha.pa hs, fun pins ρ σ H R O h => ?_, fun ρ Q Q' hq h => ?_⟩
  · refine ha.da.run pins ρ σ H _ O (ha.da.mono _ _ _ (fun rs ρ1 h1 vs H1 O1 R1 => ?_) h)
    split at h1
    · rename_i j
      simp only [ROks] at R1
      obtain ⟨v, _, rfl, r1, rfl⟩ := R1
      cases (Im.int_iff.mp (show Im F.K (Av F pins ρ1 σ) H1 (.int j) v from r1))
      exact ⟨j, rfl, h1.1.1, h1.1.2, h1.2 _ H1 [] wok_rng (fun p hp => nomatch hp) O1⟩
    · exact h1.elim
  · refine ha.da.mono _ _ _ (fun rs ρ1 h1 => ?_) h
    revert h1
    split
    · exact fun h1 => ⟨h1.1, hq _ _ h1.2⟩
    · exact fun h1 => h1
theorem pdi_range2 (hg : Gl X "range") (hm : X.mg "range" = none) (ha : PDA X F [e, e2] t d) (hs : starEach [e, e2] X.env = [(false, eval e X.env), (false, eval e2 X.env)] := by rfl) (hs2 : starEach [e2] X.env = [(false, eval e2 X.env)] := by rfl) :
    PDI X F tg (.Call (.Name "range" p) [e, e2] [] pos) (iRng2 t) (dRng2 d) := by
  refine ⟨pi_range2 hg hm ha.pa hs hs2, fun pins ρ σ H R O h => ?_, fun ρ Q Q' hq h => ?_⟩
  · refine ha.da.run pins ρ σ H _ O (ha.da.mono _ _ _ (fun rs ρ1 h1 vs H1 O1 R1 => ?_) h)
    split at h1
    · rename_i i j
      simp only [ROks] at R1
      obtain ⟨v, _, rfl, r1, w, _, rfl, r2, rfl⟩ := R1
      cases (Im.int_iff.mp (show Im F.K (Av F pins ρ1 σ) H1 (.int i) v from r1))
      cases (Im.int_iff.mp (show Im F.K (Av F pins ρ1 σ) H1 (.int j) w from r2))
      exact ⟨i, j, rfl, h1.1, h1.2 _ H1 [] wok_rng (fun p hp => nomatch hp) O1⟩
    · exact h1.elim
  · refine ha.da.mono _ _ _ (fun rs ρ1 h1 => ?_) h
    revert h1
    split
    · exact fun h1 => ⟨h1.1, hq _ _ h1.2⟩
    · exact fun h1 => h1
end
/-- comprehensions -/
theorem pl_lc {X : Cx} {F : Fm} {elt tg iter : Expr} {ifs : List Expr} {scope : Scope} {own : List (Str × Nat)} {pos : Pos} {wi : TI} {dw : TDI} {g : TG} {dg : TDGt} {tt : TT} {dt : TDT} {te : TE} {de : TDE} (hc : X.calm = true) (hN : X.N.Nodup) (hi : PDI X F tg iter wi dw) (ok : BlkOk X.N X.env.scope scope own)
    (hg : ∀ (s : Shared) (H : Hp) (C : Addr) (cl : List (Str × Addr)) (fp : List Addr), PDG (X.blk s H scope (compEnvC scope cl C X.env) fp) F tg g dg (own.map (·.2))) (ht : ∀ (s : Shared) (H : Hp) (C : Addr) (cl : List (Str × Addr)) (fp : List Addr), PDTs (X.blk s H scope (compEnvC scope cl C X.env) fp) F ifs tt dt)
    (he : ∀ (s : Shared) (H : Hp) (C : Addr) (cl : List (Str × Addr)) (fp : List Addr), PD (X.blk s H scope (compEnvC scope cl C X.env) fp) F elt te de) (hs : ∀ x, foldedSetIterable iter X.env x = pure x := by intro _; rfl) :
    PDL X F (.ListComp elt [⟨tg, iter, ifs, 0⟩] scope pos) (tLc wi g tt te (own.map (·.2))) (dLc dw dg dt de (own.map (·.2))) := by
  refine ⟨pe_lc hc hN hi.pi ok (fun s H C cl fp => (hg s H C cl fp).pg) (fun s H C cl fp => (ht s H C cl fp).pts) (fun s H C cl fp => (he s H C cl fp).pe) hs, ?_⟩
  exact dl_lc hi.di (hg (PySem.start X.prog).1 (fun _ => none) 0 [] []).dg (ht (PySem.start X.prog).1 (fun _ => none) 0 [] []).dt (he (PySem.start X.prog).1 (fun _ => none) 0 [] []).de
end DV
namespace DV
open PySem PySem.Spec PyProof.Rows L2
section
variable {X : Cx} {F : Fm} {e a b c : Expr} {es : List Expr} {te ta tb : TE} {de da db : TDE} {dl : TDL} {pos p : Pos} {t : TA} {d : TDA}
/-! ### isinstance, isqrt, ** -/
def tyName : PyData → String
  | .none => "NoneType"
  | .bool _ => "bool"
  | .int _ => "int"
  | .str _ => "str"
  | .list _ => "list"
  | .tuple _ => "tuple"
  | .dict _ => "dict"
theorem tyx_of {K : PySem.W.Frag} {H : Hp} {v : V} {x : PyData} (h : Dp K H v x) : TyX K H v (.type (tyName x)) := by
  cases h with
  | non => exact .base .non
  | bl b => exact .base (.bl b)
  | int i => exact .base (.int i)
  | str z => exact .base (.str z)
  | lst l _ =>
    rcases l with (l | ⟨o, l⟩) | ⟨o, its, n, hk, hc, _⟩
    · exact .base (.lst l)
    · exact .base (.frz l)
    · exact .kList hk hc
  | tup l _ =>
    rcases l with (l | ⟨o, l⟩) | ⟨o, its, n, hk, hc, _⟩
    · exact .base (.tup l)
    · exact .fTuple l
    · exact .kTuple hk hc
def dIsi (n : String) (te : TDE) : TDE := fun ρ Q => te ρ fun r ρ1 => onV ρ1 r fun x => match kitB (tyName x) n with
  | some k => Q (.d (.bool k)) ρ1
  | _ => False
theorem pd_isinst {n : String} {x : Str} {p2 : Pos} (he : PD X F e te de) (hg : Gl X "isinstance") (hm : X.mg "isinstance" = none) (hg2 : Gl X x) (hm2 : X.mg x = none) (hv2 : bootBuiltins x = some (.type n)) (hK : X.K = F.K := by rfl) (hn : x ≠ "__name__" := by decide) (hd : (x == ("__debug__" : Str)) = false := by decide)
    (hs : starEach [e, .Name x p2] X.env = (false, eval e X.env) :: starEach [.Name x p2] X.env := by rfl) (hs2 : starEach [.Name x p2] X.env = (false, eval (.Name x p2) X.env) :: starEach [] X.env := by rfl) (hpl : (backTo pos (starEach [.Name x p2] X.env)).any (·.1) = false := by rfl) :
    PD X F (.Call (.Name "isinstance" p) [e, .Name x p2] [] pos) (tCB (rIsi F.K) (tCons te (tCons (tC (.ty n)) tNil))) (dIsi n de) := by
  refine ⟨?_, fun pins ρ σ H Q O h => ?_, fun ρ Q Q' hq h => ?_⟩
  · have := pe_callB (p := p) (pos := pos) call_isi hg hm (by decide +kernel) (pa_cons he.pe (pa_cons (pe_bltn (pos := p2) (v := .ty n) hg2 hm2 hv2 rfl hn hd) pa_nil hs2) hs) (by decide) (by decide) hs hpl
    rw [hK] at this
    exact this
  · refine he.de.run pins ρ σ H _ O (he.de.mono _ _ _ (fun r ρ1 h1 v H1 O1 R1 => ?_) h)
    obtain ⟨x, e1, h2⟩ := onV_of h1
    split at h2
    · rename_i k ek
      exact ⟨v, .ty n, _, _, k, rfl, .ty n, tyx_of (val_dp O1 R1 e1), kit_ty ek, h2 _ _ O1 (.sc .bool)⟩
    · exact h2.elim
  · refine he.de.mono _ _ _ (fun r ρ1 h1 => onV_mono h1 fun x h2 => ?_) h
    revert h2
    split
    · exact fun h2 => hq _ _ h2
    · exact fun h2 => h2
def rSqrt : List V → Hp → VK → Prop := fun vs H Q => ∃ i : Int, vs = [.int i] ∧ 0 ≤ i ∧ i.toNat.log2 < 13000 ∧ Q (.int ((Float64.isqrt i.toNat : Nat) : Int)) H
theorem cr_sqrt : CallR X (.builtin "math.isqrt") rSqrt := by
  intro pins s σ H vs us Q I r h
  obtain ⟨i, rfl, h0, h1, q⟩ := h
  obtain ⟨u, rfl, t, rfl⟩ := vals1 r
  exact call_function_meets PySem.W.MGF.kind_isqrt PySem.W.MGF.plain_isqrt PySem.W.MGF.entry_isqrt (PySem.W.MGF.args_isqrt _) (PySem.W.mg_run_isqrt i t (by omega) (by omega) (by omega)).meets ⟨.int _, H, I.tok _, ⟨_, rfl⟩, q⟩
def fSqrt : FA
  | [.int i], Q => (0 ≤ i ∧ i.toNat.log2 < 13000) ∧ Q (.int ((Float64.isqrt i.toNat : Nat) : Int))
  | _, _ => False
theorem sc_sqrt {K : PySem.W.Frag} : SC K rSqrt fSqrt := by
  constructor
  · intro H vs ds Q h q
    unfold fSqrt at q
    split at q
    · obtain ⟨v, rfl, h1⟩ := dpall1 h
      cases dp_int h1
      exact ⟨_, rfl, q.1.1, q.1.2, q.2 _ .int⟩
    · exact q.elim
  · intro ds Q Q' hq q
    unfold fSqrt at q ⊢
    split at q
    · exact ⟨q.1, hq _ q.2⟩
    · exact q.elim
abbrev fPow : F2 := fI CPow fun i j => .int (i ^ j.toNat)
theorem pd_pow (ha : PD X F a ta da) (hb : PD X F b tb db) : PD X F (.BinOp a .Pow b pos) (tOp (rI CPow fun i j => .int (i ^ j.toNat)) ta tb) (dOp fPow da db) := pd_op op_pow (so_I fun _ _ => .int) ha hb
/-- a chain of two comparisons of whole numbers -/
def dChainLe (f g : Int → Int → Bool) (ta tb tc : TDE) : TDE := fun ρ Q => ta ρ fun r ρ1 => tb ρ1 fun s ρ2 => onInt ρ2 r fun i => onInt ρ2 s fun j => if f i j = true then tc ρ2 fun u ρ3 => onInt ρ3 u fun k => Q (.d (.bool (g j k))) ρ3 else Q (.d (.bool false)) ρ2
theorem pd_chainI {op op' : CmpOp} {f g : Int → Int → Bool} {tc : TE} {dc : TDE} (ho : OpR X (compareOp op) (rI0 fun i j => .bl (f i j))) (ho' : OpR X (compareOp op') (rI0 fun i j => .bl (g i j))) (ha : PD X F a ta da) (hb : PD X F b tb db) (hc : PD X F c tc dc)
    (h1 : PE X (.Compare a [op, op'] [b, c] pos) (tChain (rI0 fun i j => .bl (f i j)) (rI0 fun i j => .bl (g i j)) ta tb tc)) : PD X F (.Compare a [op, op'] [b, c] pos) (tChain (rI0 fun i j => .bl (f i j)) (rI0 fun i j => .bl (g i j)) ta tb tc) (dChainLe f g da db dc) := by
  refine ⟨h1, fun pins ρ σ H Q O h => ?_, fun ρ Q Q' hq h => ?_⟩
  · refine ha.de.run pins ρ σ H _ O (ha.de.mono _ _ _ (fun r ρ1 h1 x H1 O1 R1 => ?_) h)
    refine hb.de.run (.val x r :: pins) ρ1 σ H1 _ (O1.push R1) (hb.de.mono _ _ _ (fun s ρ2 h2 y H2 O2 R2 => ?_) h1)
    obtain ⟨O3, R3⟩ := O2.popV
    obtain ⟨i, e1, h3⟩ := onInt_of h2
    obtain ⟨j, e2, h4⟩ := onInt_of h3
    cases dp_int (val_dp O3 R3 e1)
    cases dp_int (val_dp O3 R2 e2)
    refine ⟨i, j, rfl, rfl, f i j, rfl, ?_⟩
    by_cases hf : f i j = true
    · rw [if_pos hf] at h4 ⊢
      refine hc.de.run (.val (.int j) s :: pins) ρ2 σ H2 _ (O3.push R2) (hc.de.mono _ _ _ (fun u ρ3 h5 z H3 O4 R4 => ?_) h4)
      obtain ⟨k, e3, h6⟩ := onInt_of h5
      obtain ⟨O5, _⟩ := O4.popV
      cases dp_int (val_dp O5 R4 e3)
      exact ⟨j, k, rfl, rfl, h6 _ _ O5 (.sc .bool)⟩
    · rw [if_neg hf] at h4 ⊢
      exact h4 _ _ O3 (.sc .bool)
  · refine ha.de.mono _ _ _ (fun r ρ1 h1 => hb.de.mono _ _ _ (fun s ρ2 h2 => onInt_mono h2 fun i h3 => onInt_mono h3 fun j h4 => ?_) h1) h
    by_cases hf : f i j = true
    · rw [if_pos hf] at h4 ⊢
      exact hc.de.mono _ _ _ (fun u ρ3 h5 => onInt_mono h5 fun k h6 => hq _ _ h6) h4
    · rw [if_neg hf] at h4 ⊢
      exact hq _ _ h4
end
/-! ### a def that hands back a new list -/
abbrev SdL := List PyData → (List PyData → Prop) → Prop
def spF (K : PySem.W.Frag) (ks : List Kd) (S : SdL) : Sp := fun vs H Q _ => ∃ (N : Addr → Prop) (xs : List PyData), (∀ a, N a → ∃ o, H a = some o) ∧ ArgsOk K N noZ H ks xs vs ∧
  S xs fun zs => ∀ p H' us, (∀ a o, H a = some o → H' a = some o) → H p = none → H' p = some (.lst us) → ImAll K (fun a => N a ∨ a = p) H' zs us → Q (.ref p) H'
def MonoF (S : SdL) : Prop := ∀ xs Q Q', (∀ z, Q z → Q' z) → S xs Q → S xs Q'
section
variable {P : Program} {w : World} {K : PySem.W.Frag} {mg : Str → Option Value} {base : Heap}
/-- its body: return [..] -/
theorem fnF {x qual : Str} {st : Stmt} {f : Addr} {fd : FuncData} {N ps : List Str} {k : Nat} {ks : List Kd} {S : SdL} {e : Expr} {pos : Pos} (W : Fun K x qual st f fd) (Sc : FnScope N ps (defScope st)) (hks : ks.length = ps.length) (hst : defBody st = [.Return (some e) pos])
    (body : ∀ (cdv : Value) (A : Around) (out : List Env) (s : Shared) (H : Hp) (E : XK) (Nn : Addr → Prop), Room k (A.deeper (envOfC qual (defScope st) s.heap.objs.size f cdv)) → A.guards = some [] →
      ∃ te dl, PDL (cxOf CX0 P w K mg base N qual (defScope st) f cdv A out s H E).nox (frP K H Nn) e te dl ∧
        ∀ xs Q, xs.length = ks.length → S xs Q → dl (rhoP N.length ks xs) fun zs _ => Q zs) : FnG P w K mg base CX0 (k + 1) f fd ps (spF K ks S) := by
  have hpl : ps.length ≤ N.length := by have := congrArg List.length Sc.pre; rw [List.length_take] at this; omega
  refine fg_of W Sc (fun vs H Q E h => ?_) fun cdv A out s H vs Q E hr hgd h => ?_
  · obtain ⟨Nn, xs, _, ha, _⟩ := h
    rw [ha.len.1, hks]
  obtain ⟨Nn, xs, hN, ha, hS⟩ := h
  obtain ⟨te, dl, hb, hq⟩ := body cdv A out s H E Nn hr hgd
  refine ⟨_, by rw [hst]; exact pss_one (ps_ret hb.pe), ?_⟩
  have hl := ha.len
  have noOwn : ∀ i a, ¬ OwnAt (rhoP N.length ks xs) (L2.start N vs) i a := by
    rintro i a ⟨⟨ys, h1⟩, _⟩
    obtain ⟨k, x, v, e, _⟩ := ha.at (rhoP_some h1)
    cases k <;> cases e
  have O : Ok (frP K H Nn) [] (rhoP N.length ks xs) (L2.start N vs) H := by
    refine ⟨?_, fun i e h1 => ?_, fun i j a h1 _ => absurd h1 (noOwn i a), fun p hp => (nomatch hp), .nil, fun a o _ e => e, hN, fun a h => h.elim, hN, fun i a _ h => h.elim⟩
    · rw [rhoP_len hl.2 (by rw [hks]; exact hpl)]
      unfold L2.start
      rw [List.length_append, List.length_map, List.length_replicate]
      omega
    · obtain ⟨k, x, v, rfl, h2, h3⟩ := ha.at (rhoP_some h1)
      refine ⟨v, ?_, arg_ent (N := Nn) rfl rfl (fun a z => z) (fun a z => ?_) h3⟩
      · have hi : i < vs.length := by
          rcases Nat.lt_or_ge i vs.length with z | z
          · exact z
          · rw [List.getElem?_eq_none z] at h2; cases h2
        unfold L2.start
        rw [List.getElem?_append_left (by simpa using hi), List.getElem?_map, h2]; rfl
      · rcases z with z | ⟨j, z⟩ | z
        · exact z
        · exact absurd z (noOwn j a)
        · cases z
  refine hb.dl.run [] _ _ H _ O (hb.dl.mono _ _ _ (fun zs ρ q p H' O' => ?_) (hq xs _ hl.2 hS))
  obtain ⟨us, h1, h2, h3, h4⟩ := O'.pin _ (List.mem_cons_self ..)
  have hp : H p = none := h3
  refine q p H' us (fun a o e => O'.fr a o (fun z => z) e) hp h1 (h2.go ⟨fun _ _ _ e => e, fun a z => .inl ?_⟩)
  rcases z with z | rfl
  · exact .inl z
  · exact .inr (.inr (List.mem_cons_self ..))
end
section
variable {X : Cx} {F : Fm} {e : Expr} {es : List Expr} {t : TA} {d : TDA} {pos : Pos}
/-- kept in mind, from one heap to the next -/
theorem Ok.pushL2 {pins : List Pin} {ρ : Rho} {σ : L2.St} {H H' : Hp} (O : Ok F pins ρ σ H) (g : ∀ a o, H a = some o → H' a = some o) {p : Addr} {xs : List PyData} {vs : List V} (hp : H p = none) (hp' : H' p = some (.lst vs)) (h : ImAll F.K (fun a => Av F pins ρ σ a ∨ a = p) H' xs vs) : Ok F (.acc p xs :: pins) ρ σ H' := by
  have avE : ∀ a, Av F (.acc p xs :: pins) ρ σ a → Av F pins ρ σ a ∨ a = p := fun a h => by
    rcases h with h | h | h
    · exact .inl (.inl h)
    · exact .inl (.inr (.inl h))
    · rcases List.mem_cons.mp (show a ∈ p :: accs pins from h) with rfl | h
      · exact .inr rfl
      · exact .inl (.inr (.inr h))
  have G : Go (Av F pins ρ σ) (Av F (.acc p xs :: pins) ρ σ) H H' := ⟨fun a o _ h => g a o h, fun a h => (avE a h).imp_right fun z => by rw [z]; exact hp⟩
  have G2 : Go (fun a => Av F pins ρ σ a ∨ a = p) (Av F (.acc p xs :: pins) ρ σ) H' H' := ⟨fun a o _ h => h, fun a h => .inl (avE a h)⟩
  have nAv : ¬ Av F pins ρ σ p := fun h => by obtain ⟨o, h⟩ := O.avH h; rw [hp] at h; cases h
  refine ⟨O.len, fun i e h => ?_, O.own, fun q hq => ?_, ?_, fun a o n h => g _ _ (O.fr a o n h), fun a h => ?_, O.ln, O.h0, O.lf⟩
  · obtain ⟨v, h1, h2⟩ := O.ent i e h
    exact ⟨v, h1, EntOk.go G h2 fun a us _ z _ => g _ _ z⟩
  · rcases List.mem_cons.mp hq with rfl | hq
    · refine ⟨vs, hp', h.go G2, ?_, fun ⟨i, z⟩ => nAv (.inr (.inl ⟨i, z⟩))⟩
      cases e : F.H0 p with
      | none => rfl
      | some o =>
        by_cases hl : F.L p
        · exact absurd (.inl (O.ln p hl)) nAv
        · rw [O.fr p o hl e] at hp; cases hp
    · have h := O.pin q hq
      cases q with
      | val v r => exact ROk.go G h
      | acc a ys =>
        obtain ⟨us, h1, h2, h3⟩ := h
        exact ⟨us, g _ _ h1, h2.go G, h3⟩
  · exact List.nodup_cons.mpr ⟨fun h => nAv (.inr (.inr h)), O.acs⟩
  · obtain ⟨o, h⟩ := O.nh a h
    exact ⟨o, g _ _ h⟩
def dCallF (ks : List Kd) (S : SdL) (t : TDA) : TDL := fun ρ Q => t ρ fun rs ρ1 => onArgs ρ1 ks rs fun xs => S xs fun zs => Q zs ρ1
theorem pl_callF {ks : List Kd} {S : SdL} {k : Nat} {f : Addr} {fd : FuncData} {ps : List Str} {x : Str} {p : Pos} (G : FnG X.prog X.w X.K X.mg X.base CX0 k f fd ps (spF F.K ks S)) (hS : MonoF S) (hr : Room k X.A) (hgd : X.A.guards = some []) (hg : Gl X x) (hm : X.mg x = some (.ref f)) (hk : PySem.W.keepIn X.K (.ref f) = true) (hb : Binds X.K fd ps [])
    (ha : PDA X F (e :: es) t d) (hdb : (x == ("__debug__" : Str)) = false := by decide) (he : starEach (e :: es) X.env = (false, eval e X.env) :: starEach es X.env := by rfl) (hpl : (backTo pos (starEach es X.env)).any (·.1) = false := by rfl) :
    PDL X F (.Call (.Name x p) (e :: es) [] pos) (fun σ H Q => t σ H fun vs H1 => spF F.K ks S vs H1 Q E0) (dCallF ks S d) := by
  refine ⟨pe_callG G hr hgd hg hm hk hb ha.pa hdb he hpl, fun pins ρ σ H Q O h => ?_, fun ρ Q Q' hq h => ha.da.mono _ _ _ (fun rs ρ1 h1 => onArgs_mono h1 fun xs h2 => hS _ _ _ (fun z => hq _ _) h2) h⟩
  refine ha.da.run pins ρ σ H _ O (ha.da.mono _ _ _ (fun rs ρ1 h1 vs H1 O1 R1 => ?_) h)
  obtain ⟨xs, e, h2⟩ := onArgs_of h1
  exact ⟨Av F pins ρ1 σ, xs, fun a ha => O1.avH ha, args_ok O1 (fun a z => z.elim) (fun _ _ _ _ _ _ z => z) R1 e, hS _ _ _ (fun zs q p H' us g hp hp' im => q p H' (O1.pushL2 g hp hp' im)) h2⟩
end
section
variable {X : Cx} {F : Fm} {a b : Expr} {ta tb : TE} {da db : TDE} {pos : Pos}
/-! ### comparisons as tests -/
theorem pt_cmpD {op : CmpOp} {r : R2} {f : F2} (ho : OpR X (compareOp op) r) (hm : behindInMarks op b = false) (hf : SO F.K r f) (ha : PD X F a ta da) (hb : PD X F b tb db) : PDT X F (.Compare a [op] [b] pos) (tTest (tOp r ta tb)) (dTV (dOp f da db)) :=
  ⟨pt_cmpR ho ha.pe hb.pe hm, dt_tv (k := tTest) (fun _ => rfl) (de_op hf ha.de hb.de)⟩
theorem pt_lt (ha : PD X F a ta da) (hb : PD X F b tb db) : PDT X F (.Compare a [.Lt] [b] pos) (tTest (tOp (rI0 fun i j => .bl (decide (i < j))) ta tb)) (dTV (dOp fLt da db)) := pt_cmpD op_lt (nomark _) (so_I0 fun _ _ => .bool) ha hb
theorem pt_le (ha : PD X F a ta da) (hb : PD X F b tb db) : PDT X F (.Compare a [.LtE] [b] pos) (tTest (tOp (rI0 fun i j => .bl (decide (i ≤ j))) ta tb)) (dTV (dOp fLe da db)) := pt_cmpD op_le (nomark _) (so_I0 fun _ _ => .bool) ha hb
theorem pt_gt (ha : PD X F a ta da) (hb : PD X F b tb db) : PDT X F (.Compare a [.Gt] [b] pos) (tTest (tOp (rI0 fun i j => .bl (decide (j < i))) ta tb)) (dTV (dOp fGt da db)) := pt_cmpD op_gt (nomark _) (so_I0 fun _ _ => .bool) ha hb
theorem pt_ge (ha : PD X F a ta da) (hb : PD X F b tb db) : PDT X F (.Compare a [.GtE] [b] pos) (tTest (tOp (rI0 fun i j => .bl (decide (j ≤ i))) ta tb)) (dTV (dOp fGe da db)) := pt_cmpD op_ge (nomark _) (so_I0 fun _ _ => .bool) ha hb
theorem pt_eq (hu : X.A.units + 64 < cLine) (hK : X.K = F.K) (ha : PD X F a ta da) (hb : PD X F b tb db) : PDT X F (.Compare a [.Eq] [b] pos) (tTest (tOp (rEqD F.K) ta tb)) (dTV (dOp fEq da db)) := by
  have h := pt_cmpD (X := X) (F := F) (pos := pos) (op_eqD hu) (nomark _) (by rw [hK]; exact so_Eq) ha hb
  rw [hK] at h; exact h
theorem pt_ne (hu : X.A.units + 64 < cLine) (hK : X.K = F.K) (ha : PD X F a ta da) (hb : PD X F b tb db) : PDT X F (.Compare a [.NotEq] [b] pos) (tTest (tOp (rNeD F.K) ta tb)) (dTV (dOp fNe da db)) := by
  have h := pt_cmpD (X := X) (F := F) (pos := pos) (op_neD hu) (nomark _) (by rw [hK]; exact so_Ne) ha hb
  rw [hK] at h; exact h
end
end DV
namespace DV
open PySem PySem.Spec PyProof.Rows L2
/-! ## what is shown, and how long it is -/
mutual
def okd : PyData → Bool
  | .none => true
  | .bool _ => true
  | .int i => decide (i.natAbs.log2 < 1000)
  | .str x => (PyData.str x).canLay0 && x.cps.toList.all fun c => decide (c < 16 ^ 8)
  | .list xs => okds xs
  | .tuple xs => okds xs
  | .dict _ => false
def okds : List PyData → Bool
  | [] => true
  | x :: xs => okd x && okds xs
end
mutual
def cost : PyData → Nat
  | .none => 5
  | .bool _ => 5
  | .int _ => 1001
  | .str x => 10 * x.length + 2
  | .list xs => costs xs + 3
  | .tuple xs => costs xs + 3
  | .dict _ => 0
def costs : List PyData → Nat
  | [] => 0
  | x :: xs => cost x + 2 + costs xs
end
theorem piled_costs : ∀ {ts : List Str} {xs : List PyData}, ts = PyData.shownAll xs → (∀ x ∈ xs, x.shown.length ≤ cost x) → (Str.join ", " ts).length ≤ costs xs
  | _, [], h, _ => by
    rw [PyData.shownAll_nil] at h; subst h
    show (Str.join ", " []).length ≤ 0
    decide
  | _, [x], h, hx => by
    rw [PyData.shownAll_cons, PyData.shownAll_nil] at h; subst h
    have := hx x (List.mem_cons_self ..)
    show x.shown.length ≤ cost x + 2 + 0
    omega
  | _, x :: y :: xs, h, hx => by
    rw [PyData.shownAll_cons] at h; subst h
    have ih := piled_costs (ts := PyData.shownAll (y :: xs)) (xs := y :: xs) rfl fun z hz => hx z (List.mem_cons_of_mem _ hz)
    have h1 := hx x (List.mem_cons_self ..)
    have e : Str.join ", " (x.shown :: PyData.shownAll (y :: xs)) = x.shown ++ ", " ++ Str.join ", " (PyData.shownAll (y :: xs)) := by
      rw [PyData.shownAll_cons]; rfl
    rw [e, strLen_append, strLen_append]
    have e2 : (Str.ofString ", ").length = 2 := by decide
    have e3 : costs (x :: y :: xs) = cost x + 2 + costs (y :: xs) := by simp only [costs]
    rw [e3]
    omega
mutual
theorem shown_le : ∀ d : PyData, okd d = true → d.shown.length ≤ cost d
  | .none, _ => by rw [PyData.shown_none]; simp only [cost]; decide
  | .bool b, _ => by rw [PyData.shown_bool]; simp only [cost]; cases b <;> decide
  | .int i, h => by
    simp only [okd, decide_eq_true_eq] at h
    rw [PyData.shown_int, PySem.ofString_length]
    simp only [cost]
    exact int_text_length_le (k := 1000) (by decide) h
  | .str x, h => by
    simp only [okd, Bool.and_eq_true, List.all_eq_true, decide_eq_true_eq] at h
    rw [PyData.shown_str]
    simp only [cost]
    exact StrLaws.reprText_len x h.2
  | .list xs, h => by
    simp only [okd] at h
    rw [PyData.shown_list, strLen_append, strLen_append]
    have := piled_costs (ts := PyData.shownAll xs) rfl (shown_les xs h)
    simp only [cost]
    have e1 : (Str.ofString "[").length = 1 := by decide
    have e2 : (Str.ofString "]").length = 1 := by decide
    omega
  | .tuple xs, h => by
    simp only [okd] at h
    rw [PyData.shown_tuple, strLen_append, strLen_append]
    have := piled_costs (ts := PyData.shownAll xs) rfl (shown_les xs h)
    simp only [cost]
    have e1 : (Str.ofString "(").length = 1 := by decide
    have e2 : (Str.ofString (if (xs.length == 1) = true then ",)" else ")")).length ≤ 2 := by split <;> decide
    omega
  | .dict _, h => by simp only [okd] at h; cases h
theorem shown_les : ∀ xs : List PyData, okds xs = true → ∀ x ∈ xs, x.shown.length ≤ cost x
  | [], _, x, hx => nomatch hx
  | y :: ys, h, x, hx => by
    simp only [okds, Bool.and_eq_true] at h
    rcases List.mem_cons.mp hx with e | hx
    · rw [e]; exact shown_le y h.1
    · exact shown_les ys h.2 x hx
end
mutual
theorem okd_facts : ∀ d : PyData, okd d = true → d.canLay0 = true ∧ d.showable = true ∧ d.hasDict = false
  | .none, _ => ⟨by simp [PyData.canLay0], by simp [PyData.showable], by simp [PyData.hasDict]⟩
  | .bool b, _ => ⟨by simp [PyData.canLay0], by simp [PyData.showable], by simp [PyData.hasDict]⟩
  | .int i, h => by
    simp only [okd, decide_eq_true_eq] at h
    exact ⟨by simp [PyData.canLay0], by simp only [PyData.showable, decide_eq_true_eq]; omega, by simp [PyData.hasDict]⟩
  | .str x, h => by
    simp only [okd, Bool.and_eq_true] at h
    exact ⟨h.1, by simp [PyData.showable], by simp [PyData.hasDict]⟩
  | .list xs, h => by
    simp only [okd] at h
    simp only [PyData.canLay0, PyData.showable, PyData.hasDict]
    exact okds_facts xs h
  | .tuple xs, h => by
    simp only [okd] at h
    simp only [PyData.canLay0, PyData.showable, PyData.hasDict]
    exact okds_facts xs h
  | .dict _, h => by simp only [okd] at h; cases h
theorem okds_facts : ∀ xs : List PyData, okds xs = true → PyData.canLayAll0 xs = true ∧ PyData.showableAll xs = true ∧ PyData.hasDictAll xs = false
  | [], _ => ⟨by simp [PyData.canLayAll0], by simp [PyData.showableAll], by simp [PyData.hasDictAll]⟩
  | y :: ys, h => by
    simp only [okds, Bool.and_eq_true] at h
    obtain ⟨a1, a2, a3⟩ := okd_facts y h.1
    obtain ⟨b1, b2, b3⟩ := okds_facts ys h.2
    simp only [PyData.canLayAll0, PyData.showableAll, PyData.hasDictAll]
    exact ⟨by rw [a1, b1]; rfl, by rw [a2, b2]; rfl, by rw [a3, b3]; rfl⟩
end
/-- data that can be compared and shown -/
structure Fine (d : PyData) : Prop where
  ok : okd d = true
  deep : d.depth ≤ 60
  few : cost d ≤ 16000000
theorem Fine.shaped {d : PyData} (h : Fine d) : SeqAt.shaped d = true := by
  unfold SeqAt.shaped
  rw [Bool.and_eq_true, decide_eq_true_eq]
  exact ⟨(okd_facts d h.ok).1, by have := h.deep; omega⟩
theorem Fine.plain {d : PyData} (h : Fine d) : Plain d := by
  refine ⟨(okd_facts d h.ok).2.1, (okd_facts d h.ok).2.2, h.deep, Nat.le_trans (shown_le d h.ok) (Nat.le_trans h.few ?_)⟩
  rw [sizeLine_eq]; decide
theorem Fine.refl {d : PyData} (h : Fine d) : PyData.eqv d d = true := SeqAt.eqv_refl d (okd_facts d h.ok).1
theorem shaped_str {x : Str} (h : (PyData.str x).canLay0 = true) : SeqAt.shaped (.str x) = true := by
  unfold SeqAt.shaped
  rw [Bool.and_eq_true, decide_eq_true_eq]
  exact ⟨h, by simp [PyData.depth]⟩
end DV
namespace DV
open PySem PySem.Spec PyProof.Rows L2
/-! ## words for readings -/
theorem few_le {n : Nat} (h : n ≤ 100000) : Few n := Nat.le_trans h (by rw [sizeLine_eq]; decide)
theorem few_iff {n : Nat} : (n ≤ sizeLine) = Few n := rfl
theorem sh_int {i : Int} : SeqAt.shaped (.int i) = true := by simp [SeqAt.shaped, PyData.canLay0, PyData.depth]
theorem sh_bool {i : Bool} : SeqAt.shaped (.bool i) = true := by simp [SeqAt.shaped, PyData.canLay0, PyData.depth]
theorem eqv_int {i j : Int} : PyData.eqv (.int i) (.int j) = decide (i = j) := by
  simp only [PyData.eqv]; exact Bool.beq_eq_decide_eq i j
theorem on0 {x : PyData} {xs : List PyData} {f : PyData → Prop} : onAt (x :: xs) 0 f = f x := by
  have e : atI (x :: xs) 0 = some x := by
    unfold atI ixN
    rw [if_pos (by omega), if_pos (by rw [List.length_cons]; omega)]; rfl
  unfold onAt; rw [e]
theorem on1 {x y : PyData} {xs : List PyData} {f : PyData → Prop} : onAt (x :: y :: xs) 1 f = f y := by
  have e : atI (x :: y :: xs) 1 = some y := by
    unfold atI ixN
    rw [if_pos (by omega), if_pos (by rw [List.length_cons, List.length_cons]; omega)]; rfl
  unfold onAt; rw [e]
theorem on2 {x y z : PyData} {xs : List PyData} {f : PyData → Prop} : onAt (x :: y :: z :: xs) 2 f = f z := by
  have e : atI (x :: y :: z :: xs) 2 = some z := by
    unfold atI ixN
    rw [if_pos (by omega), if_pos (by rw [List.length_cons, List.length_cons, List.length_cons]; omega)]; rfl
  unfold onAt; rw [e]
theorem on3 {x y z u : PyData} {xs : List PyData} {f : PyData → Prop} : onAt (x :: y :: z :: u :: xs) 3 f = f u := by
  have e : atI (x :: y :: z :: u :: xs) 3 = some u := by
    unfold atI ixN
    rw [if_pos (by omega), if_pos (by rw [List.length_cons, List.length_cons, List.length_cons, List.length_cons]; omega)]; rfl
  unfold onAt; rw [e]
theorem cutD_sub {xs : List PyData} {lo hi : Option Int} : ∀ y ∈ cutD xs lo hi, y ∈ xs := fun y h => List.mem_of_mem_drop (List.mem_of_mem_take h)
theorem cutD_len {xs : List PyData} {lo hi : Option Int} : (cutD xs lo hi).length ≤ xs.length := by
  unfold cutD
  rw [List.length_take, List.length_drop]; omega
theorem ite_t {c : Prop} [Decidable c] {A B : Prop} (h : c) (k : A) : if decide c = true then A else B := by rw [decide_eq_true h, if_pos rfl]; exact k
theorem ite_f {c : Prop} [Decidable c] {A B : Prop} (h : ¬ c) (k : B) : if decide c = true then A else B := by rw [decide_eq_false h, if_neg (by decide)]; exact k
theorem ite_b {c : Prop} [Decidable c] {A B : Prop} (k : c → A) (m : ¬ c → B) : if decide c = true then A else B := by
  by_cases h : c
  · exact ite_t h (k h)
  · exact ite_f h (m h)
theorem cmw {i j : Int} {a b : Nat} (ha : i.natAbs < 2 ^ a) (hb : j.natAbs < 2 ^ b) (h0 : 0 < a := by decide) (h1 : 0 < b := by decide) (h : a + b ≤ 1000000 := by decide) : CMulW i j := wide_mul ha hb h0 h1 h
theorem cdw {i j : Int} {b : Nat} (h : 0 < j) (hb : j.natAbs < 2 ^ b) (h0 : 0 < b := by decide) (h9 : b ≤ 9000 := by decide) : CDivW i j := wide_div h hb h0 h9
/-- one statement, what follows kept shut -/
theorem seqI {t u : TDS} {DD : DEnds} {ρ : Rho} (h : ∀ k, k = u DD → t { DD with nx := k } ρ) : dSeq t u DD ρ := h _ rfl
theorem tn0 : Int.toNat 0 = 0 := rfl
theorem tn1 : Int.toNat 1 = 1 := rfl
theorem tn2 : Int.toNat 2 = 2 := rfl
theorem tn3 : Int.toNat 3 = 3 := rfl
/-! ## the draws of the laws -/
/-- the state of the draws, behind at most m of them -/
def Bag (m : Nat) (bag : List PyData) : Prop := ∃ (a b c : Int) (cells : List Int), bag = [.int a, .int b, .int c, .list (cells.map .int)] ∧ 0 ≤ a ∧ 0 ≤ b ∧ b < 4294967296 ∧ 0 ≤ c ∧ c ≤ m ∧ cells.length ≤ 63 ∧ ∀ k ∈ cells, (0 : Int) ≤ k
theorem Bag.up {m n : Nat} {bag : List PyData} (h : Bag m bag) (k : m ≤ n) : Bag n bag := by
  obtain ⟨a, b, c, cells, e, h1, h2, h3, h4, h5, h6⟩ := h
  exact ⟨a, b, c, cells, e, h1, h2, h3, h4, by omega, h6⟩
def S_take : Sb := fun bag xs Q => ∃ (m : Nat) (n : Int), Bag m bag ∧ m < 2 ^ 60 ∧ xs = [.int n] ∧ 0 < n ∧ n.natAbs < 2 ^ 8000 ∧ ∀ (v : Int) bag', 0 ≤ v → v < n → Bag (m + 1) bag' → Q (.int v) bag'
theorem m_take : MonoB S_take := fun bag xs Q Q' hq ⟨m, n, h1, h2, h3, h4, h5, h6⟩ => ⟨m, n, h1, h2, h3, h4, h5, fun v b a1 a2 a3 => hq _ _ (h6 v b a1 a2 a3)⟩
def td_take : TDS := dSeq
          (dIfS (dTV (dOp fEq (dIx (dVar 0) (dC (PyData.int 0))) (dC (PyData.int 0))))
            (dSeq
              (dAsg
                (dIx
                  (dOfL
                    (dCat
                      (dOfL
                        (dSlL (dIx (dVar 0) (dC (PyData.int 3))) (dPart (dIx (dVar 0) (dC (PyData.int 2)))) dNoPart))
                      (dOfL (dLst (dCons (dC (PyData.int 0)) dNil)))))
                  (dC (PyData.int 0)))
                (setR 2))
              (dSeq (dAddItem 0 (dC (PyData.int 2)) (dC (PyData.int 1)))
                (dSeq
                  (dIfS (dTV (dOp fGe (dVar 2) (dOp fPow (dC (PyData.int 10)) (dC (PyData.int 18)))))
                    (dSetItem 0 (dVar 2) (dC (PyData.int 0))) dNext)
                  (dSeq
                    (dAsg
                      (dOp fAdd
                        (dOp fAdd (dOp fMul (dIx (dVar 0) (dC (PyData.int 1))) (dC (PyData.int 48271)))
                          (dOp fMod (dCB fInt (dCons (dVar 2) dNil)) (dC (PyData.int 2147483647))))
                        (dOp fMul (dC (PyData.int 7919)) (dIx (dVar 0) (dC (PyData.int 2)))))
                      (setR 3))
                    (dSetItem 0 (dOp fMod (dCB fInt (dCons (dVar 3) dNil)) (dC (PyData.int 2147483647)))
                      (dC (PyData.int 1)))))))
            dNext)
          (dSeq
            (dIfS (dTV (dOp fGt (dIx (dVar 0) (dC (PyData.int 0))) (dC (PyData.int 0))))
              (dSeq (dAsg (dOp fMod (dCB fInt (dCons (dIx (dVar 0) (dC (PyData.int 0))) dNil)) (dVar 1)) (setR 4))
                (dSeq
                  (dSetItem 0 (dOp fDiv (dCB fInt (dCons (dIx (dVar 0) (dC (PyData.int 0))) dNil)) (dVar 1))
                    (dC (PyData.int 0)))
                  (dRet (dVar 4))))
              dNext)
            (dSeq
              (dAsg
                (dOp fMod
                  (dCB fInt
                    (dCons
                      (dOp fMul (dOp fAdd (dIx (dVar 0) (dC (PyData.int 1))) (dC (PyData.int 1)))
                        (dC (PyData.int 39373)))
                      dNil))
                  (dC (PyData.int 1000000007)))
                (setR 5))
              (dSeq
                (dAsg
                  (dOp fMod
                    (dCB fInt
                      (dCons
                        (dOp fMul
                          (dOp fMod (dCB fInt (dCons (dOp fMul (dVar 5) (dVar 5)) dNil)) (dC (PyData.int 998244353)))
                          (dC (PyData.int 30011)))
                        dNil))
                    (dC (PyData.int 998244353)))
                  (setR 6))
                (dRet (dOp fMod (dCB fInt (dCons (dOp fDiv (dVar 6) (dC (PyData.int 7))) dNil)) (dVar 1))))))
/-- behind the first if -/
def td_take2 : TDS := (dSeq
            (dIfS (dTV (dOp fGt (dIx (dVar 0) (dC (PyData.int 0))) (dC (PyData.int 0))))
              (dSeq (dAsg (dOp fMod (dCB fInt (dCons (dIx (dVar 0) (dC (PyData.int 0))) dNil)) (dVar 1)) (setR 4))
                (dSeq
                  (dSetItem 0 (dOp fDiv (dCB fInt (dCons (dIx (dVar 0) (dC (PyData.int 0))) dNil)) (dVar 1))
                    (dC (PyData.int 0)))
                  (dRet (dVar 4))))
              dNext)
            (dSeq
              (dAsg
                (dOp fMod
                  (dCB fInt
                    (dCons
                      (dOp fMul (dOp fAdd (dIx (dVar 0) (dC (PyData.int 1))) (dC (PyData.int 1)))
                        (dC (PyData.int 39373)))
                      dNil))
                  (dC (PyData.int 1000000007)))
                (setR 5))
              (dSeq
                (dAsg
                  (dOp fMod
                    (dCB fInt
                      (dCons
                        (dOp fMul
                          (dOp fMod (dCB fInt (dCons (dOp fMul (dVar 5) (dVar 5)) dNil)) (dC (PyData.int 998244353)))
                          (dC (PyData.int 30011)))
                        dNil))
                    (dC (PyData.int 998244353)))
                  (setR 6))
                (dRet (dOp fMod (dCB fInt (dCons (dOp fDiv (dVar 6) (dC (PyData.int 7))) dNil)) (dVar 1))))))
theorem rd_take2 {m : Nat} {n a b c : Int} {cells : List Int} {x2 x3 : Option Ent} {Q : PyData → List PyData → Prop} (hn : 0 < n) (hn2 : n.natAbs < 2 ^ 8000) (h0 : 0 ≤ a) (h1 : 0 ≤ b) (h2 : b < 4294967296) (h3 : 0 ≤ c) (h4 : c ≤ m) (h5 : cells.length ≤ 63) (h6 : ∀ k ∈ cells, (0 : Int) ≤ k)
    (q : ∀ (v : Int) bag', 0 ≤ v → v < n → Bag m bag' → Q (.int v) bag') : td_take2 { nx := fun ρ => retB (.d .none) ρ Q, rt := fun r ρ => retB r ρ Q } [some (.own [.int a, .int b, .int c, .list (cells.map .int)]), some (.d (.int n)), x2, x3, none, none, none] := by
  unfold td_take2
  simp only [dSeq, dAsg, dCB, dCons, dNil, dVar, onVs, vals, val, slot, setR, fGcd, dIfS, dTV, dOp, dBin, onV2, fLt, fLe, fGt, fGe, fAdd, fSub, fMul, fDiv, fMod, fI0, dC, dUn, onV, fNeg, dNext, dRet, dTup, onD, dats, fDivZ, fI, fPow, Few, retP, fAbs, fInt, fMax, fMin, fLen, fSqrt, fEq, fNe, dNot, dAnd, dOr, dAndV, dOrV, dNotV, dIfE, dDrop, dRetN, dPar, noO, dSetL, dLst, dOfL, dOwnM, onOwn, onDat, kAppend, kInsert, dSetItem, dAddItem, dIx, onItems, items, onInt, dNoPart, dPart, dSlice, onL, litems, dSlL, dCat, onM, mitems, dTupOf, dSeqI, dRng1, dRng2, dCallP, dCallB, dCallF, noSelf, onArgs, dats2, dIsi, tyName, dYes, dgTup, dgCons, dgNil, retB, dBreak, dCont, ne_eq, not_false_eq_true, true_and, and_true, List.getElem?_cons_zero, List.getElem?_cons_succ, List.set_cons_zero, List.set_cons_succ, Option.map, List.length_cons, List.length_nil, on0, on1, on2, on3]
  refine ite_b (fun ha => ?_) fun ha => ?_
  · refine ⟨hn, cdw hn hn2, ⟨by decide, by decide⟩, ?_⟩
    exact q _ _ (Int.emod_nonneg _ (by clear hn2; omega)) (Int.emod_lt_of_pos _ hn) ⟨a / n, b, c, cells, rfl, Int.ediv_nonneg h0 (by clear hn2; omega), h1, h2, h3, h4, h5, h6⟩
  · have e0 : ∀ x k : Int, 0 < k → 0 ≤ x % k ∧ x % k < k := fun x k hk => ⟨Int.emod_nonneg _ (by omega), Int.emod_lt_of_pos _ hk⟩
    refine ⟨cmw (a := 40) (b := 20) (by omega) (by decide), by decide, ?_⟩
    obtain ⟨u1, u2⟩ := e0 ((b + 1) * 39373) 1000000007 (by decide)
    generalize (b + 1) * 39373 % 1000000007 = u at u1 u2 ⊢
    refine ⟨cmw (a := 40) (b := 40) (by omega) (by omega), by decide, ?_⟩
    obtain ⟨w1, w2⟩ := e0 (u * u) 998244353 (by decide)
    generalize u * u % 998244353 = w at w1 w2 ⊢
    refine ⟨cmw (a := 40) (b := 20) (by omega) (by decide), by decide, cdw (b := 20) (by decide) (by decide), hn, ?_⟩
    exact q _ _ (e0 _ n hn).1 (e0 _ n hn).2 ⟨a, b, c, cells, rfl, h0, h1, h2, h3, h4, h5, h6⟩
theorem rd_take {bag xs : List PyData} {Q : PyData → List PyData → Prop} (hS : S_take bag xs Q) : td_take { nx := fun ρ => retB (.d .none) ρ Q, rt := fun r ρ => retB r ρ Q } (some (.own bag) :: rhoP 6 [.d] xs) := by
  obtain ⟨m, n, ⟨a, b, c, cells, rfl, h0, h1, h2, h3, h4, h5, h6⟩, hm, rfl, hn, hn2, q⟩ := hS
  have e : (some (.own [.int a, .int b, .int c, .list (cells.map .int)]) :: rhoP 6 [.d] [.int n] : Rho) = [some (.own [.int a, .int b, .int c, .list (cells.map .int)]), some (.d (.int n)), none, none, none, none, none] := rfl
  rw [e]
  show dSeq _ td_take2 _ _
  unfold dSeq
  simp only [dSeq, dAsg, dCB, dCons, dNil, dVar, onVs, vals, val, slot, setR, fGcd, dIfS, dTV, dOp, dBin, onV2, fLt, fLe, fGt, fGe, fAdd, fSub, fMul, fDiv, fMod, fI0, dC, dUn, onV, fNeg, dNext, dRet, dTup, onD, dats, fDivZ, fI, fPow, Few, retP, fAbs, fInt, fMax, fMin, fLen, fSqrt, fEq, fNe, dNot, dAnd, dOr, dAndV, dOrV, dNotV, dIfE, dDrop, dRetN, dPar, noO, dSetL, dLst, dOfL, dOwnM, onOwn, onDat, kAppend, kInsert, dSetItem, dAddItem, dIx, onItems, items, onInt, dNoPart, dPart, dSlice, onL, litems, dSlL, dCat, onM, mitems, dTupOf, dSeqI, dRng1, dRng2, dCallP, dCallB, dCallF, noSelf, onArgs, dats2, dIsi, tyName, dYes, dgTup, dgCons, dgNil, retB, dBreak, dCont, ne_eq, not_false_eq_true, true_and, and_true, List.getElem?_cons_zero, List.getElem?_cons_succ, List.set_cons_zero, List.set_cons_succ, Option.map, List.length_cons, List.length_nil, on0, on1, on2, on3, sh_int, eqv_int]
  refine ite_b (fun ha => ?_) fun ha => ?_
  · -- the next cell
    have hc : ∃ (k : Int) (rest : List PyData), cutD (cells.map PyData.int) (some c) none ++ [PyData.int 0] = .int k :: rest ∧ 0 ≤ k := by
      cases e1 : cutD (cells.map PyData.int) (some c) none with
      | nil => exact ⟨0, [], rfl, by decide⟩
      | cons y ys =>
        have hy : y ∈ cells.map PyData.int := cutD_sub (lo := some c) (hi := none) y (by rw [e1]; exact List.mem_cons_self ..)
        obtain ⟨k, hk, rfl⟩ := List.mem_map.mp hy
        exact ⟨k, ys ++ [PyData.int 0], rfl, h6 k hk⟩
    obtain ⟨k, rest, e1, hk⟩ := hc
    have hl : (cutD (cells.map PyData.int) (some c) none).length ≤ 63 := Nat.le_trans cutD_len (by rw [List.length_map]; exact h5)
    rw [e1]
    simp only [dSeq, dAsg, dCB, dCons, dNil, dVar, onVs, vals, val, slot, setR, fGcd, dIfS, dTV, dOp, dBin, onV2, fLt, fLe, fGt, fGe, fAdd, fSub, fMul, fDiv, fMod, fI0, dC, dUn, onV, fNeg, dNext, dRet, dTup, onD, dats, fDivZ, fI, fPow, Few, retP, fAbs, fInt, fMax, fMin, fLen, fSqrt, fEq, fNe, dNot, dAnd, dOr, dAndV, dOrV, dNotV, dIfE, dDrop, dRetN, dPar, noO, dSetL, dLst, dOfL, dOwnM, onOwn, onDat, kAppend, kInsert, dSetItem, dAddItem, dIx, onItems, items, onInt, dNoPart, dPart, dSlice, onL, litems, dSlL, dCat, onM, mitems, dTupOf, dSeqI, dRng1, dRng2, dCallP, dCallB, dCallF, noSelf, onArgs, dats2, dIsi, tyName, dYes, dgTup, dgCons, dgNil, retB, dBreak, dCont, ne_eq, not_false_eq_true, true_and, and_true, List.getElem?_cons_zero, List.getElem?_cons_succ, List.set_cons_zero, List.set_cons_succ, Option.map, List.length_cons, List.length_nil, on0, on1, on2, on3, sh_int, eqv_int, tn0, tn1, tn2, tn3]
    refine ⟨few_le (by omega), few_le (by omega), ⟨by decide, by decide⟩, ⟨by decide, by decide, by decide⟩, ?_⟩
    refine ite_b (fun hk2 => ?_) fun hk2 => ?_
    · refine ⟨⟨by decide, by decide⟩, cmw (a := 40) (b := 20) (by omega) (by decide), by decide, cmw (a := 20) (b := 62) (by decide) (by omega), by decide, ⟨by decide, by decide⟩, ?_⟩
      have z := Int.emod_lt_of_pos (b * 48271 + k % 2147483647 + 7919 * (c + 1)) (show (0 : Int) < 2147483647 by decide)
      exact rd_take2 (m := m + 1) hn hn2 hk (Int.emod_nonneg _ (by decide)) (by omega) (by omega) (by omega) h5 h6 q
    · refine ⟨cmw (a := 40) (b := 20) (by omega) (by decide), by decide, cmw (a := 20) (b := 62) (by decide) (by omega), by decide, ⟨by decide, by decide⟩, ?_⟩
      have z := Int.emod_lt_of_pos (b * 48271 + k % 2147483647 + 7919 * (c + 1)) (show (0 : Int) < 2147483647 by decide)
      exact rd_take2 (m := m + 1) hn hn2 h0 (Int.emod_nonneg _ (by decide)) (by omega) (by omega) (by omega) h5 h6 q
  · exact rd_take2 hn hn2 h0 h1 h2 h3 (by omega) h5 h6 q
/-- one of some things -/
def S_some : Sb := fun bag xs Q => ∃ (m : Nat) (ys : List PyData), Bag m bag ∧ m < 2 ^ 60 ∧ (xs = [.list ys] ∨ xs = [.tuple ys]) ∧ 0 < ys.length ∧ ys.length ≤ 100000 ∧ ∀ y bag', y ∈ ys → Bag (m + 1) bag' → Q y bag'
theorem m_some : MonoB S_some := fun bag xs Q Q' hq ⟨m, ys, h1, h2, h3, h4, h5, h6⟩ => ⟨m, ys, h1, h2, h3, h4, h5, fun y b a1 a2 => hq _ _ (h6 y b a1 a2)⟩
theorem onAt_mem {ys : List PyData} {v : Int} {f : PyData → Prop} (h0 : 0 ≤ v) (h1 : v < ys.length) (h : ∀ y ∈ ys, f y) : onAt ys v f := by
  have hv : v.toNat < ys.length := by omega
  have e : atI ys v = some ys[v.toNat] := by
    unfold atI ixN
    rw [if_pos h0, if_pos h1]
    exact List.getElem?_eq_getElem hv
  unfold onAt; rw [e]
  exact h _ (List.getElem_mem hv)
theorem rd_some {bag xs : List PyData} {Q : PyData → List PyData → Prop} (hS : S_some bag xs Q) :
    dRet (dIx (dVar 1) (dCallB [Kd.d] S_take (dCons (dVar 0) (dCons (dCB fLen (dCons (dVar 1) dNil)) dNil)))) { nx := fun ρ => retB (.d .none) ρ Q, rt := fun r ρ => retB r ρ Q } (some (.own bag) :: rhoP 1 [.d] xs) := by
  obtain ⟨m, ys, hb, hm, hx, h0, h1, q⟩ := hS
  have key : ∀ n : Int, n = (ys.length : Nat) → S_take bag [.int n] fun z bag' => ∃ v : Int, z = .int v ∧ 0 ≤ v ∧ v < ys.length ∧ Bag (m + 1) bag' := fun n hn =>
    ⟨m, n, hb, hm, rfl, by omega, Nat.lt_of_lt_of_le (by omega : n.natAbs < 2 ^ 17) (Nat.pow_le_pow_right (by decide) (by decide)), fun v bag' a1 a2 a3 => ⟨v, rfl, a1, by omega, a3⟩⟩
  rcases hx with rfl | rfl
  · have e : (some (.own bag) :: rhoP 1 [.d] [.list ys] : Rho) = [some (.own bag), some (.d (.list ys))] := rfl
    rw [e]
    simp only [dSeq, dAsg, dCB, dCons, dNil, dVar, onVs, vals, val, slot, setR, fGcd, dIfS, dTV, dOp, dBin, onV2, fLt, fLe, fGt, fGe, fAdd, fSub, fMul, fDiv, fMod, fI0, dC, dUn, onV, fNeg, dNext, dRet, dTup, onD, dats, fDivZ, fI, fPow, Few, retP, fAbs, fInt, fMax, fMin, fLen, fSqrt, fEq, fNe, dNot, dAnd, dOr, dAndV, dOrV, dNotV, dIfE, dDrop, dRetN, dPar, noO, dSetL, dLst, dOfL, dOwnM, onOwn, onDat, kAppend, kInsert, dSetItem, dAddItem, dIx, onItems, items, onInt, dNoPart, dPart, dSlice, onL, litems, dSlL, dCat, onM, mitems, dTupOf, dSeqI, dRng1, dRng2, dCallP, dCallB, dCallF, noSelf, onArgs, dats2, dIsi, tyName, dYes, dgTup, dgCons, dgNil, retB, dBreak, dCont, ne_eq, not_false_eq_true, true_and, and_true, List.getElem?_cons_zero, List.getElem?_cons_succ, List.set_cons_zero, List.set_cons_succ, Option.map, List.length_cons, List.length_nil]
    refine m_take _ _ _ _ (fun z bag' h => ?_) (key _ rfl)
    obtain ⟨v, rfl, a1, a2, a3⟩ := h
    exact onAt_mem a1 a2 fun y hy => q y bag' hy a3
  · have e : (some (.own bag) :: rhoP 1 [.d] [.tuple ys] : Rho) = [some (.own bag), some (.d (.tuple ys))] := rfl
    rw [e]
    simp only [dSeq, dAsg, dCB, dCons, dNil, dVar, onVs, vals, val, slot, setR, fGcd, dIfS, dTV, dOp, dBin, onV2, fLt, fLe, fGt, fGe, fAdd, fSub, fMul, fDiv, fMod, fI0, dC, dUn, onV, fNeg, dNext, dRet, dTup, onD, dats, fDivZ, fI, fPow, Few, retP, fAbs, fInt, fMax, fMin, fLen, fSqrt, fEq, fNe, dNot, dAnd, dOr, dAndV, dOrV, dNotV, dIfE, dDrop, dRetN, dPar, noO, dSetL, dLst, dOfL, dOwnM, onOwn, onDat, kAppend, kInsert, dSetItem, dAddItem, dIx, onItems, items, onInt, dNoPart, dPart, dSlice, onL, litems, dSlL, dCat, onM, mitems, dTupOf, dSeqI, dRng1, dRng2, dCallP, dCallB, dCallF, noSelf, onArgs, dats2, dIsi, tyName, dYes, dgTup, dgCons, dgNil, retB, dBreak, dCont, ne_eq, not_false_eq_true, true_and, and_true, List.getElem?_cons_zero, List.getElem?_cons_succ, List.set_cons_zero, List.set_cons_succ, Option.map, List.length_cons, List.length_nil]
    refine m_take _ _ _ _ (fun z bag' h => ?_) (key _ rfl)
    obtain ⟨v, rfl, a1, a2, a3⟩ := h
    exact onAt_mem a1 a2 fun y hy => q y bag' hy a3
/-- the draws at their start -/
def S_bag : SdL := fun xs Q => ∃ ns : List Int, xs = [.list (ns.map .int)] ∧ ∀ bag, Bag 0 bag → Q bag
theorem m_bag : MonoF S_bag := fun xs Q Q' hq ⟨ns, h1, h2⟩ => ⟨ns, h1, fun b hb => hq _ (h2 b hb)⟩
theorem rd_bag {xs : List PyData} {Q : List PyData → Prop} (hS : S_bag xs Q) :
    dLst (dCons (dC (PyData.int 0)) (dCons (dC (PyData.int 1234567891)) (dCons (dC (PyData.int 0)) (dCons (dOfL
                    (dLc (dSeqI (dOfL (dSlL (dVar 0) dNoPart (dPart (dC (PyData.int 63)))))) (setR 1) dYes
                      (dCB fAbs (dCons (dVar 1) dNil)) [1])) dNil)))) (rhoP 2 [.ro] xs) fun zs _ => Q zs := by
  obtain ⟨ns, rfl, q⟩ := hS
  have e : rhoP 2 [.ro] [.list (ns.map .int)] = [some (.ro (.list (ns.map .int))), none] := rfl
  rw [e]
  have hl : (cutD (ns.map PyData.int) none (some 63)).length ≤ 63 := by
    unfold cutD
    rw [List.length_take]
    have : HT.sIx (ns.map PyData.int).length (ns.map PyData.int).length (some 63) ≤ 63 := by
      rw [show (63 : Int) = ((63 : Nat) : Int) from rfl, HT.sIx_nat]; omega
    omega
  have hi : ∀ (i : Nat) (x : PyData), (cutD (ns.map PyData.int) none (some 63))[i]? = some x → ∃ k : Int, x = .int k := fun i x h => by
    have := cutD_sub x (List.mem_of_getElem? h)
    obtain ⟨k, _, rfl⟩ := List.mem_map.mp this
    exact ⟨k, rfl⟩
  simp only [dLc, dSeq, dAsg, dCB, dCons, dNil, dVar, onVs, vals, val, slot, setR, fGcd, dIfS, dTV, dOp, dBin, onV2, fLt, fLe, fGt, fGe, fAdd, fSub, fMul, fDiv, fMod, fI0, dC, dUn, onV, fNeg, dNext, dRet, dTup, onD, dats, fDivZ, fI, fPow, Few, retP, fAbs, fInt, fMax, fMin, fLen, fSqrt, fEq, fNe, dNot, dAnd, dOr, dAndV, dOrV, dNotV, dIfE, dDrop, dRetN, dPar, noO, dSetL, dLst, dOfL, dOwnM, onOwn, onDat, kAppend, kInsert, dSetItem, dAddItem, dIx, onItems, items, onInt, dNoPart, dPart, dSlice, onL, litems, dSlL, dCat, onM, mitems, dTupOf, dSeqI, dRng1, dRng2, dCallP, dCallB, dCallF, noSelf, onArgs, dats2, dIsi, tyName, dYes, dgTup, dgCons, dgNil, retB, dBreak, dCont, ne_eq, not_false_eq_true, true_and, and_true, List.getElem?_cons_zero, List.getElem?_cons_succ, List.set_cons_zero, List.set_cons_succ, Option.map, List.length_cons, List.length_nil]
  refine ⟨fun i hi => ?_, fun i acc ρ => i ≤ 63 ∧ ρ = [some (.ro (.list (ns.map .int))), none] ∧ ∃ cs : List Int, acc = cs.map .int ∧ cs.length = i ∧ ∀ k ∈ cs, (0 : Int) ≤ k, ⟨by omega, rfl, [], rfl, rfl, fun k hk => nomatch hk⟩, fun i x acc ρ hx hI => ?_, fun acc ρ hI => ?_⟩
  · obtain rfl : i = 1 := by simpa using hi
    rfl
  · obtain ⟨hi0, rfl, cs, rfl, hc, hp⟩ := hI
    obtain ⟨k, rfl⟩ := hi i x hx
    have hil : i < 63 := by
      have := (List.getElem?_eq_some_iff.mp hx).1
      omega
    simp only [dSeq, dAsg, dCB, dCons, dNil, dVar, onVs, vals, val, slot, setR, fGcd, dIfS, dTV, dOp, dBin, onV2, fLt, fLe, fGt, fGe, fAdd, fSub, fMul, fDiv, fMod, fI0, dC, dUn, onV, fNeg, dNext, dRet, dTup, onD, dats, fDivZ, fI, fPow, Few, retP, fAbs, fInt, fMax, fMin, fLen, fSqrt, fEq, fNe, dNot, dAnd, dOr, dAndV, dOrV, dNotV, dIfE, dDrop, dRetN, dPar, noO, dSetL, dLst, dOfL, dOwnM, onOwn, onDat, kAppend, kInsert, dSetItem, dAddItem, dIx, onItems, items, onInt, dNoPart, dPart, dSlice, onL, litems, dSlL, dCat, onM, mitems, dTupOf, dSeqI, dRng1, dRng2, dCallP, dCallB, dCallF, noSelf, onArgs, dats2, dIsi, tyName, dYes, dgTup, dgCons, dgNil, retB, dBreak, dCont, ne_eq, not_false_eq_true, true_and, and_true, List.getElem?_cons_zero, List.getElem?_cons_succ, List.set_cons_zero, List.set_cons_succ, Option.map, List.length_cons, List.length_nil, wipeR, if_pos]
    refine ⟨few_le (by rw [List.length_map]; omega), by omega, cs ++ [if k < 0 then -k else k], by rw [List.map_append]; rfl, by rw [List.length_append, hc]; rfl, fun j hj => ?_⟩
    rcases List.mem_append.mp hj with h | h
    · exact hp j h
    · obtain rfl : j = if k < 0 then -k else k := by simpa using h
      split <;> omega
  · obtain ⟨hi0, rfl, cs, rfl, hc, hp⟩ := hI
    exact ⟨few_le (by decide), q _ ⟨0, 1234567891, 0, cs, rfl, by decide, by decide, by decide, by decide, by decide, by omega, hp⟩⟩
/-- the same, and shown the same -/
def S_alike : Sd
  | [x, y], Q => (x = y ∧ Fine x) ∧ Q (.bool true)
  | _, _ => False
theorem m_alike : MonoP S_alike := fun xs Q Q' hq h => by
  unfold S_alike at h ⊢
  split at h
  · exact ⟨h.1, hq _ h.2⟩
  · exact h.elim
theorem rd_alike {xs : List PyData} {Q : PyData → Prop} (hS : S_alike xs Q) :
    dRet (dAndV (dOp fEq (dVar 0) (dVar 1)) (dOp fEqS (dCB fRepr (dCons (dVar 0) dNil)) (dCB fRepr (dCons (dVar 1) dNil)))) { nx := fun _ => Q .none, rt := fun r ρ => retP r ρ Q } (rhoP 2 [.ro, .ro] xs) := by
  unfold S_alike at hS
  split at hS
  · rename_i x y
    obtain ⟨⟨rfl, hf⟩, q⟩ := hS
    have e : rhoP 2 [.ro, .ro] [x, x] = [some (.ro x), some (.ro x)] := rfl
    rw [e]
    simp only [dSeq, dAsg, dCB, dCons, dNil, dVar, onVs, vals, val, slot, setR, fGcd, dIfS, dTV, dOp, dBin, onV2, fLt, fLe, fGt, fGe, fAdd, fSub, fMul, fDiv, fMod, fI0, dC, dUn, onV, fNeg, dNext, dRet, dTup, onD, dats, fDivZ, fI, fPow, Few, retP, fAbs, fInt, fMax, fMin, fLen, fSqrt, fEq, fNe, dNot, dAnd, dOr, dAndV, dOrV, dNotV, dIfE, dDrop, dRetN, dPar, noO, dSetL, dLst, dOfL, dOwnM, onOwn, onDat, kAppend, kInsert, dSetItem, dAddItem, dIx, onItems, items, onInt, dNoPart, dPart, dSlice, onL, litems, dSlL, dCat, onM, mitems, dTupOf, dSeqI, dRng1, dRng2, dCallP, dCallB, dCallF, noSelf, onArgs, dats2, dIsi, tyName, dYes, dgTup, dgCons, dgNil, retB, dBreak, dCont, ne_eq, not_false_eq_true, true_and, and_true, List.getElem?_cons_zero, List.getElem?_cons_succ, List.set_cons_zero, List.set_cons_succ, Option.map, List.length_cons, List.length_nil, fRepr, fEqS, hf.shaped, hf.refl, if_pos]
    exact ⟨hf.plain, hf.plain, by simpa only [decide_true] using q⟩
  · exact hS.elim
theorem law_args {K : PySem.W.Frag} {H : Hp} {a : Addr} {ns : List Int} {n : Nat} {S : Sd} {E : XK} (hl : ns.length ≤ n) (hS : SqL K H a (ns.map V.int)) (hm : MonoP S) (h : ∀ ns : List Int, ns.length ≤ n → S [.list (ns.map .int)] fun z => z = .bool true) :
    spP K [.ro] S [.ref a] H (fun v _ => v = .bl true) E := by
  refine ⟨fun _ => False, [.list (ns.map .int)], fun a z => z.elim, ?_, hm _ _ _ (fun z hz v H' _ im => ?_) (h ns hl)⟩
  · simp only [ArgsOk]
    refine ⟨.ref a, [], rfl, .inr ⟨a, ns.map .int, ns.map .int, rfl, rfl, ?_, ImAll.ints ns⟩, rfl⟩
    rcases hS with h | h
    · exact .inl ⟨h, fun z => z⟩
    · exact .inr (.inr h)
  · subst hz
    exact Im.bool_iff.mp im
end DV
namespace K01
open PySem PySem.Spec PyProof.Rows L2 DV
def topS (i : Nat) : Stmt := PySem.Challenge.pw_lampsaloft_k01_fractions.main.body.getD i (.Pass ⟨0, 0, 0, 0⟩)
abbrev nm_reduced : List Str := ["n", "d", "common"]
abbrev s_reduced : Stmt := topS 2
theorem sc_reduced : FnScope nm_reduced ["n", "d"] (defScope s_reduced) := ⟨rfl, rfl, rfl, by decide +kernel, rfl, by decide +kernel, by decide +kernel⟩
abbrev nm_added : List Str := ["one", "other"]
abbrev s_added : Stmt := topS 3
theorem sc_added : FnScope nm_added ["one", "other"] (defScope s_added) := ⟨rfl, rfl, rfl, by decide +kernel, rfl, by decide +kernel, by decide +kernel⟩
abbrev nm_lessened : List Str := ["one", "other"]
abbrev s_lessened : Stmt := topS 4
theorem sc_lessened : FnScope nm_lessened ["one", "other"] (defScope s_lessened) := ⟨rfl, rfl, rfl, by decide +kernel, rfl, by decide +kernel, by decide +kernel⟩
abbrev nm_times : List Str := ["one", "other"]
abbrev s_times : Stmt := topS 5
theorem sc_times : FnScope nm_times ["one", "other"] (defScope s_times) := ⟨rfl, rfl, rfl, by decide +kernel, rfl, by decide +kernel, by decide +kernel⟩
abbrev nm_over : List Str := ["one", "other"]
abbrev s_over : Stmt := topS 6
theorem sc_over : FnScope nm_over ["one", "other"] (defScope s_over) := ⟨rfl, rfl, rfl, by decide +kernel, rfl, by decide +kernel, by decide +kernel⟩
abbrev nm_compared : List Str := ["one", "other", "here", "there"]
abbrev s_compared : Stmt := topS 7
theorem sc_compared : FnScope nm_compared ["one", "other"] (defScope s_compared) := ⟨rfl, rfl, rfl, by decide +kernel, rfl, by decide +kernel, by decide +kernel⟩
abbrev nm_least_of : List Str := ["fractions", "least", "fraction"]
abbrev s_least_of : Stmt := topS 8
theorem sc_least_of : FnScope nm_least_of ["fractions"] (defScope s_least_of) := ⟨rfl, rfl, rfl, by decide +kernel, rfl, by decide +kernel, by decide +kernel⟩
abbrev nm_greatest_of : List Str := ["fractions", "greatest", "fraction"]
abbrev s_greatest_of : Stmt := topS 9
theorem sc_greatest_of : FnScope nm_greatest_of ["fractions"] (defScope s_greatest_of) := ⟨rfl, rfl, rfl, by decide +kernel, rfl, by decide +kernel, by decide +kernel⟩
abbrev nm_clipped : List Str := ["one"]
abbrev s_clipped : Stmt := topS 10
theorem sc_clipped : FnScope nm_clipped ["one"] (defScope s_clipped) := ⟨rfl, rfl, rfl, by decide +kernel, rfl, by decide +kernel, by decide +kernel⟩
abbrev nm_floor_of : List Str := ["one"]
abbrev s_floor_of : Stmt := topS 11
theorem sc_floor_of : FnScope nm_floor_of ["one"] (defScope s_floor_of) := ⟨rfl, rfl, rfl, by decide +kernel, rfl, by decide +kernel, by decide +kernel⟩
abbrev nm_root_floor : List Str := ["n"]
abbrev s_root_floor : Stmt := topS 12
theorem sc_root_floor : FnScope nm_root_floor ["n"] (defScope s_root_floor) := ⟨rfl, rfl, rfl, by decide +kernel, rfl, by decide +kernel, by decide +kernel⟩
abbrev nm__law_bag : List Str := ["_law_script", "_law_cell"]
abbrev s__law_bag : Stmt := topS 14
theorem sc__law_bag : FnScope nm__law_bag ["_law_script"] (defScope s__law_bag) := ⟨rfl, rfl, rfl, by decide +kernel, rfl, by decide +kernel, by decide +kernel⟩
abbrev nm__law_take : List Str := ["_law_bag_here", "_law_many", "_law_cell", "_law_stirred", "_law_value", "_law_begin", "_law_second"]
abbrev s__law_take : Stmt := topS 15
theorem sc__law_take : FnScope nm__law_take ["_law_bag_here", "_law_many"] (defScope s__law_take) := ⟨rfl, rfl, rfl, by decide +kernel, rfl, by decide +kernel, by decide +kernel⟩
abbrev nm__law_some : List Str := ["_law_bag_here", "_law_things"]
abbrev s__law_some : Stmt := topS 16
theorem sc__law_some : FnScope nm__law_some ["_law_bag_here", "_law_things"] (defScope s__law_some) := ⟨rfl, rfl, rfl, by decide +kernel, rfl, by decide +kernel, by decide +kernel⟩
abbrev nm__law_alike : List Str := ["_law_found", "_law_due"]
abbrev s__law_alike : Stmt := topS 17
theorem sc__law_alike : FnScope nm__law_alike ["_law_found", "_law_due"] (defScope s__law_alike) := ⟨rfl, rfl, rfl, by decide +kernel, rfl, by decide +kernel, by decide +kernel⟩
abbrev nm__law_is_int : List Str := ["_law_thing"]
abbrev s__law_is_int : Stmt := topS 18
theorem sc__law_is_int : FnScope nm__law_is_int ["_law_thing"] (defScope s__law_is_int) := ⟨rfl, rfl, rfl, by decide +kernel, rfl, by decide +kernel, by decide +kernel⟩
abbrev nm__law_lowest : List Str := ["_law_n", "_law_d", "_law_one", "_law_other", "_law_sign_here"]
abbrev s__law_lowest : Stmt := topS 19
theorem sc__law_lowest : FnScope nm__law_lowest ["_law_n", "_law_d"] (defScope s__law_lowest) := ⟨rfl, rfl, rfl, by decide +kernel, rfl, by decide +kernel, by decide +kernel⟩
abbrev nm__law_number : List Str := ["_law_bag_here", "_law_size"]
abbrev s__law_number : Stmt := topS 20
theorem sc__law_number : FnScope nm__law_number ["_law_bag_here"] (defScope s__law_number) := ⟨rfl, rfl, rfl, by decide +kernel, rfl, by decide +kernel, by decide +kernel⟩
abbrev nm__law_fraction : List Str := ["_law_bag_here", "_law_d"]
abbrev s__law_fraction : Stmt := topS 21
theorem sc__law_fraction : FnScope nm__law_fraction ["_law_bag_here"] (defScope s__law_fraction) := ⟨rfl, rfl, rfl, by decide +kernel, rfl, by decide +kernel, by decide +kernel⟩
abbrev nm__law_sign : List Str := ["_law_one", "_law_other", "_law_left", "_law_right"]
abbrev s__law_sign : Stmt := topS 22
theorem sc__law_sign : FnScope nm__law_sign ["_law_one", "_law_other"] (defScope s__law_sign) := ⟨rfl, rfl, rfl, by decide +kernel, rfl, by decide +kernel, by decide +kernel⟩
abbrev nm__law_most : List Str := ["_law_some_here", "_law_sign_here", "_law_best", "_law_one"]
abbrev s__law_most : Stmt := topS 23
theorem sc__law_most : FnScope nm__law_most ["_law_some_here", "_law_sign_here"] (defScope s__law_most) := ⟨rfl, rfl, rfl, by decide +kernel, rfl, by decide +kernel, by decide +kernel⟩
abbrev nm_law : List Str := ["_law_script", "_law_bag_here", "_law_turn", "_law_one", "_law_other", "_law_n", "_law_d", "_law_told", "_law_due", "_law_some_here", "_law_more", "_law_number_here", "_law_root"]
abbrev s_law : Stmt := topS 24
theorem sc_law : FnScope nm_law ["_law_script"] (defScope s_law) := ⟨rfl, rfl, rfl, by decide +kernel, rfl, by decide +kernel, by decide +kernel⟩
structure Bi (mg : Str → Option Value) : Prop where
  b_abs : mg "abs" = none
  b_int : mg "int" = none
  b_len : mg "len" = none
  b_repr : mg "repr" = none
  b_isinstance : mg "isinstance" = none
  b_bool : mg "bool" = none
  b_range : mg "range" = none
  b_max : mg "max" = none
  b_tuple : mg "tuple" = none
  i_gcd : mg "gcd" = some (.builtin "math.gcd")
  i_isqrt : mg "isqrt" = some (.builtin "math.isqrt")
/-! ## the mathematics -/
def Bd (k : Nat) (i : Int) : Prop := i.natAbs < 2 ^ k
theorem Bd.up {j k : Nat} {i : Int} (h : Bd j i) (z : j ≤ k) : Bd k i := Nat.lt_of_lt_of_le h (Nat.pow_le_pow_right (by decide) z)
theorem Bd.mul {j k : Nat} {x y : Int} (h : Bd j x) (h2 : Bd k y) : Bd (j + k) (x * y) := wide_lt h h2
theorem Bd.add {k : Nat} {x y : Int} (h : Bd k x) (h2 : Bd k y) : Bd (k + 1) (x + y) := by
  unfold Bd at *
  have := Int.natAbs_add_le x y
  rw [Nat.pow_succ]; omega
theorem Bd.sub {k : Nat} {x y : Int} (h : Bd k x) (h2 : Bd k y) : Bd (k + 1) (x - y) := by
  unfold Bd at *
  have := Int.natAbs_sub_le x y
  rw [Nat.pow_succ]; omega
theorem cmb {j k : Nat} {x y : Int} (h : Bd j x) (h2 : Bd k y) (h0 : 0 < j := by decide) (h1 : 0 < k := by decide) (h3 : j + k ≤ 1000000 := by decide) : CMulW x y := wide_mul h h2 h0 h1 h3
def gg (n d : Int) : Nat := Nat.gcd n.natAbs d.natAbs
def fnu (n d : Int) : Int := (if d < 0 then -1 else 1) * n / (gg n d : Int)
def fde (n d : Int) : Int := (if d < 0 then -d else d) / (gg n d : Int)
def fr (n d : Int) : PyData := .tuple [.int (fnu n d), .int (fde n d)]
theorem gg_pos {n d : Int} (h : d ≠ 0) : 0 < gg n d := Nat.gcd_pos_of_pos_right _ (by omega)
theorem gg_le {n d : Int} (h : d ≠ 0) : gg n d ≤ d.natAbs := Nat.gcd_le_right _ (by omega)
theorem gg_dl (n d : Int) : ((gg n d : Nat) : Int) ∣ n := Int.natAbs_dvd_natAbs.mp (Nat.gcd_dvd_left _ _)
theorem gg_dr (n d : Int) : ((gg n d : Nat) : Int) ∣ d := Int.natAbs_dvd_natAbs.mp (Nat.gcd_dvd_right _ _)
theorem fdiv_neg' {g x : Int} (hg : 0 < g) (h : g ∣ x) : x.fdiv (-g) = -1 * x / g := by
  obtain ⟨k, rfl⟩ := h
  have e1 : g * k = (-g) * (-k) := by rw [Int.neg_mul_neg]
  have e2 : -1 * (g * k) = g * (-k) := by rw [Int.mul_neg, Int.neg_mul, Int.one_mul]
  rw [e2, Int.mul_ediv_cancel_left _ (by omega)]
  conv => lhs; rw [e1]
  rw [Int.mul_fdiv_cancel_left _ (by omega)]
theorem fde_pos {n d : Int} (h : d ≠ 0) : 0 < fde n d := by
  have hg := gg_pos (n := n) h
  have hl := gg_le (n := n) h
  unfold fde
  have : (if d < 0 then -d else d) = (d.natAbs : Int) := by split <;> omega
  rw [this]
  exact Int.ediv_pos_of_pos_of_dvd (by omega) (by omega) (Int.dvd_natAbs.mpr (gg_dr n d))
theorem div_bd {k : Nat} {x g : Int} (h : Bd k x) (hg : 0 < g) (hd : g ∣ x) : Bd k (x / g) := by
  obtain ⟨q, rfl⟩ := hd
  rw [Int.mul_ediv_cancel_left _ (by omega)]
  unfold Bd at *
  rw [Int.natAbs_mul] at h
  have : q.natAbs ≤ g.natAbs * q.natAbs := Nat.le_mul_of_pos_left _ (by omega)
  omega
theorem fnu_bd {k : Nat} {n d : Int} (h : d ≠ 0) (hn : Bd k n) : Bd k (fnu n d) := by
  unfold fnu
  have hg := gg_pos (n := n) h
  split
  · refine div_bd ?_ (by omega) ?_
    · unfold Bd at *; omega
    · rw [Int.neg_mul, Int.one_mul]; exact Int.dvd_neg.mpr (gg_dl n d)
  · rw [Int.one_mul]
    exact div_bd hn (by omega) (gg_dl n d)
theorem fde_bd {k : Nat} {n d : Int} (h : d ≠ 0) (hd : Bd k d) : Bd k (fde n d) := by
  unfold fde
  have hg := gg_pos (n := n) h
  split
  · refine div_bd ?_ (by omega) (Int.dvd_neg.mpr (gg_dr n d))
    unfold Bd at *; omega
  · exact div_bd hd (by omega) (gg_dr n d)
def cmp3 (x y : Int) : Int := if x < y then -1 else if y < x then 1 else 0
abbrev Fr2 := Int × Int
def enc (p : Fr2) : PyData := .tuple [.int p.1, .int p.2]
/-- a fraction of the law -/
structure Ok2 (p : Fr2) : Prop where
  n : Bd 61 p.1
  d : Bd 61 p.2
  pos : 0 < p.2
def cmpF (p q : Fr2) : Int := cmp3 (p.1 * q.2) (q.1 * p.2)
def better (s : Int) (best one : Fr2) : Fr2 := if cmpF one best = s then one else best
theorem better_t {s : Int} {b p : Fr2} (h : cmpF p b = s) : better s b p = p := if_pos h
theorem better_f {s : Int} {b p : Fr2} (h : ¬ cmpF p b = s) : better s b p = b := if_neg h
def pick (s : Int) : List Fr2 → Fr2
  | [] => (0, 1)
  | p :: ps => (p :: ps).foldl (better s) p
theorem pick_mem {s : Int} : ∀ {ps : List Fr2} {b : Fr2}, ps.foldl (better s) b = b ∨ ps.foldl (better s) b ∈ ps
  | [], b => .inl rfl
  | p :: ps, b => by
    show ps.foldl (better s) (better s b p) = b ∨ _
    have hb : better s b p = b ∨ better s b p = p := by unfold better; split <;> simp
    rcases pick_mem (s := s) (ps := ps) (b := better s b p) with h | h
    · rcases hb with hb | hb
      · exact .inl (h.trans hb)
      · exact .inr (by show ps.foldl (better s) (better s b p) ∈ _; rw [h, hb]; exact List.mem_cons_self ..)
    · exact .inr (List.mem_cons_of_mem _ h)
/-- what stands in the lists that are compared -/
def Itm (y : PyData) : Prop := okd y = true ∧ y.depth ≤ 1 ∧ cost y ≤ 2100
theorem okd_list : ∀ {W : List PyData}, (∀ y ∈ W, Itm y) → okds W = true ∧ PyData.depthAll W ≤ 1 ∧ costs W ≤ 2102 * W.length
  | [], _ => ⟨rfl, by simp [PyData.depthAll], by simp [costs]⟩
  | y :: W, h => by
    obtain ⟨a1, a2, a3⟩ := h y (List.mem_cons_self ..)
    obtain ⟨b1, b2, b3⟩ := okd_list (W := W) fun z hz => h z (List.mem_cons_of_mem _ hz)
    refine ⟨by simp only [okds, a1, b1, Bool.and_self], by simp only [PyData.depthAll]; omega, ?_⟩
    simp only [costs, List.length_cons]; omega
theorem fine_list {W : List PyData} (h : ∀ y ∈ W, Itm y) (hl : W.length ≤ 100) : Fine (.list W) := by
  obtain ⟨a1, a2, a3⟩ := okd_list h
  exact ⟨by simp only [okd]; exact a1, by simp only [PyData.depth]; omega, by simp only [cost]; omega⟩
theorem itm_int {i : Int} {k : Nat} (h : Bd k i) (hk : k ≤ 1000 := by decide) (h0 : 0 < k := by decide) : Itm (.int i) := by
  refine ⟨?_, by simp [PyData.depth], by simp [cost]⟩
  simp only [okd, decide_eq_true_eq]
  exact Nat.lt_of_lt_of_le (PySem.Flt.log2_lt_of h0 h) hk
theorem itm_two {i j : Int} {k : Nat} (h : Bd k i) (h2 : Bd k j) (hk : k ≤ 1000 := by decide) (h0 : 0 < k := by decide) : Itm (.tuple [.int i, .int j]) := by
  refine ⟨?_, by simp [PyData.depth, PyData.depthAll], by simp [cost, costs]⟩
  simp only [okd, okds, decide_eq_true_eq, Bool.and_eq_true]
  exact ⟨Nat.lt_of_lt_of_le (PySem.Flt.log2_lt_of h0 h) hk, Nat.lt_of_lt_of_le (PySem.Flt.log2_lt_of h0 h2) hk, trivial⟩
theorem itm_fr {n d : Int} (h : d ≠ 0) (hn : Bd 200 n) (hd : Bd 200 d) : Itm (fr n d) := itm_two (fnu_bd h hn) (fde_bd h hd)
theorem itm_enc {p : Fr2} (h : Ok2 p) : Itm (enc p) := itm_two h.n h.d
theorem cmp_bd (p q : Fr2) : Bd 2 (cmpF p q) := by unfold cmpF cmp3 Bd; split <;> (try split) <;> decide
theorem Bd.sq {k : Nat} {x y : Int} (h : 0 ≤ x) (h2 : x ≤ y) (hy : Bd k y) : Bd k x := by unfold Bd at *; omega
/-! ## what the defs promise -/
def S_reduced : Sd
  | [.int n, .int d], Q => (d ≠ 0 ∧ Bd 200 n ∧ Bd 200 d) ∧ Q (fr n d)
  | _, _ => False
abbrev S__law_lowest : Sd := S_reduced
def S2 (f : Fr2 → Fr2 → PyData) (c : Fr2 → Fr2 → Prop) : Sd := fun xs Q => ∃ p q, xs = [enc p, enc q] ∧ Ok2 p ∧ Ok2 q ∧ c p q ∧ Q (f p q)
abbrev S_added : Sd := S2 (fun p q => fr (p.1 * q.2 + q.1 * p.2) (p.2 * q.2)) fun _ _ => True
abbrev S_lessened : Sd := S2 (fun p q => fr (p.1 * q.2 - q.1 * p.2) (p.2 * q.2)) fun _ _ => True
abbrev S_times : Sd := S2 (fun p q => fr (p.1 * q.1) (p.2 * q.2)) fun _ _ => True
abbrev S_over : Sd := S2 (fun p q => fr (p.1 * q.2) (p.2 * q.1)) fun _ q => q.1 ≠ 0
abbrev S_compared : Sd := S2 (fun p q => .int (cmpF p q)) fun _ _ => True
abbrev S__law_sign : Sd := S_compared
def S_least_of : Sd := fun xs Q => ∃ ps : List Fr2, (xs = [.list (ps.map enc)] ∨ xs = [.tuple (ps.map enc)]) ∧ ps ≠ [] ∧ (∀ p ∈ ps, Ok2 p) ∧ Q (enc (pick (-1) ps))
def S_greatest_of : Sd := fun xs Q => ∃ ps : List Fr2, (xs = [.list (ps.map enc)] ∨ xs = [.tuple (ps.map enc)]) ∧ ps ≠ [] ∧ (∀ p ∈ ps, Ok2 p) ∧ Q (enc (pick 1 ps))
def S__law_most : Sd := fun xs Q => ∃ (ps : List Fr2) (s : Int), xs = [.list (ps.map enc), .int s] ∧ ps ≠ [] ∧ (∀ p ∈ ps, Ok2 p) ∧ Q (enc (pick s ps))
def clip (p : Fr2) : Fr2 := if p.1 < 0 then (0, 1) else if p.2 < p.1 then (1, 1) else p
def S_clipped : Sd := fun xs Q => ∃ p : Fr2, xs = [enc p] ∧ Q (enc (clip p))
def S_floor_of : Sd := fun xs Q => ∃ p : Fr2, xs = [enc p] ∧ Ok2 p ∧ Q (.int (p.1 / p.2))
def S_root_floor : Sd
  | [.int n], Q => (0 ≤ n ∧ Bd 130 n) ∧ Q (.int ((Float64.isqrt n.toNat : Nat) : Int))
  | _, _ => False
abbrev S__law_bag : SdL := S_bag
abbrev S__law_take : Sb := S_take
abbrev S__law_some : Sb := S_some
abbrev S__law_alike : Sd := S_alike
def S__law_is_int : Sd
  | [.int _], Q => Q (.bool true)
  | _, _ => False
def S__law_number : Sb := fun bag xs Q => ∃ m : Nat, Bag m bag ∧ m + 2 < 2 ^ 60 ∧ xs = [] ∧ ∀ (v : Int) bag', Bd 60 v → Bag (m + 2) bag' → Q (.int v) bag'
def S__law_fraction : Sb := fun bag xs Q => ∃ m : Nat, Bag m bag ∧ m + 4 < 2 ^ 60 ∧ xs = [] ∧ ∀ (p : Fr2) bag', Ok2 p → Bag (m + 4) bag' → Q (enc p) bag'
def S_law : Sd := fun xs Q => ∃ ns : List Int, xs = [.list (ns.map .int)] ∧ Q (.bool true)
theorem m_reduced : MonoP S_reduced := fun xs Q Q' hq h => by
  unfold S_reduced at h ⊢
  split at h
  · exact ⟨h.1, hq _ h.2⟩
  · exact h.elim
theorem m__law_lowest : MonoP S__law_lowest := m_reduced
theorem m2 {f : Fr2 → Fr2 → PyData} {c : Fr2 → Fr2 → Prop} : MonoP (S2 f c) := fun xs Q Q' hq ⟨p, q, h1, h2, h3, h4, h5⟩ => ⟨p, q, h1, h2, h3, h4, hq _ h5⟩
theorem m_added : MonoP S_added := m2
theorem m_lessened : MonoP S_lessened := m2
theorem m_times : MonoP S_times := m2
theorem m_over : MonoP S_over := m2
theorem m_compared : MonoP S_compared := m2
theorem m__law_sign : MonoP S__law_sign := m2
theorem m_least_of : MonoP S_least_of := fun xs Q Q' hq ⟨ps, h1, h2, h3, h4⟩ => ⟨ps, h1, h2, h3, hq _ h4⟩
theorem m_greatest_of : MonoP S_greatest_of := fun xs Q Q' hq ⟨ps, h1, h2, h3, h4⟩ => ⟨ps, h1, h2, h3, hq _ h4⟩
theorem m__law_most : MonoP S__law_most := fun xs Q Q' hq ⟨ps, s, h1, h2, h3, h4⟩ => ⟨ps, s, h1, h2, h3, hq _ h4⟩
theorem m_clipped : MonoP S_clipped := fun xs Q Q' hq ⟨p, h1, h2⟩ => ⟨p, h1, hq _ h2⟩
theorem m_floor_of : MonoP S_floor_of := fun xs Q Q' hq ⟨p, h1, h2, h3⟩ => ⟨p, h1, h2, hq _ h3⟩
theorem m_root_floor : MonoP S_root_floor := fun xs Q Q' hq h => by
  unfold S_root_floor at h ⊢
  split at h
  · exact ⟨h.1, hq _ h.2⟩
  · exact h.elim
theorem m__law_bag : MonoF S__law_bag := m_bag
theorem m__law_take : MonoB S__law_take := m_take
theorem m__law_some : MonoB S__law_some := m_some
theorem m__law_alike : MonoP S__law_alike := m_alike
theorem m__law_is_int : MonoP S__law_is_int := fun xs Q Q' hq h => by
  unfold S__law_is_int at h ⊢
  split at h
  · exact hq _ h
  · exact h.elim
theorem m__law_number : MonoB S__law_number := fun bag xs Q Q' hq ⟨m, h1, h2, h3, h4⟩ => ⟨m, h1, h2, h3, fun v b a1 a2 => hq _ _ (h4 v b a1 a2)⟩
theorem m__law_fraction : MonoB S__law_fraction := fun bag xs Q Q' hq ⟨m, h1, h2, h3, h4⟩ => ⟨m, h1, h2, h3, fun v b a1 a2 => hq _ _ (h4 v b a1 a2)⟩
theorem m_law : MonoP S_law := fun xs Q Q' hq ⟨ns, h1, h2⟩ => ⟨ns, h1, hq _ h2⟩
theorem law_spec : ∀ ns : List Int, ns.length ≤ 63 → S_law [.list (ns.map .int)] fun z => z = .bool true := fun ns _ => ⟨ns, rfl, rfl⟩
theorem ite_n {c : Prop} [Decidable c] {A B : Prop} (k : ¬ c → A) (m : c → B) : if (!decide c) = true then A else B := by
  by_cases h : c
  · rw [decide_eq_true h, if_neg (by decide)]; exact m h
  · rw [decide_eq_false h, if_pos (show (!false) = true from rfl)]; exact k h
theorem cdwB {x y : Int} {k : Nat} (h : 0 < y) (hb : Bd k y) (h0 : 0 < k := by decide) (h9 : k ≤ 9000 := by decide) : CDivW x y := wide_div h hb h0 h9
theorem few2 : 0 + 1 + 1 ≤ sizeLine := few_le (by decide)
theorem log_bd {k : Nat} {y : Nat} (h : y < 2 ^ k) (h0 : 0 < k) : y.log2 < k := PySem.Flt.log2_lt_of h0 h
section
variable {P : Program} {w : World} {K : PySem.W.Frag} {mg : Str → Option Value} {base : Heap}
set_option maxHeartbeats 4000000 in
theorem ok_reduced {f : Addr} {fd : FuncData} (W : Fun K "reduced" "reduced" s_reduced f fd) (T : Bi mg) :
    FnG P w K mg base CX0 1 f fd ["n", "d"] (spP K [.d, .d] S_reduced) := by
  refine fnP W sc_reduced rfl fun cdv A out s H E Nn hr hgd => ⟨_, _, (dss_cons (ds_set (i := 2) sc_reduced.nd (pd_callM cr_gcd sc_gcd rfl T.i_gcd (pda_cons (pdv 0) (pda_cons (pdv 1) pda_nil))) fixP)
      (dss_cons (ds_if (pt_lt (pdv 1) pd_int) (dss_one (ds_set (i := 2) sc_reduced.nd (pd_neg (pdv 2)) fixP)) dss_nil)
      (dss_one (ds_ret (pd_tup (pda_cons (pd_divZ (pdv 0) (pdv 2)) (pda_cons (pd_divZ (pdv 1) (pdv 2)) pda_nil))))))), ?_⟩
  intro xs Q hl hS
  unfold S_reduced at hS
  split at hS
  · rename_i n d
    obtain ⟨⟨h0, hn, hd⟩, q⟩ := hS
    have e : rhoP nm_reduced.length [Kd.d, Kd.d] [.int n, .int d] = [some (.d (.int n)), some (.d (.int d)), none] := rfl
    rw [e]
    simp only [dSeq, dAsg, dCB, dCons, dNil, dVar, onVs, vals, val, slot, setR, fGcd, dIfS, dTV, dOp, dBin, onV2, fLt, fLe, fGt, fGe, fAdd, fSub, fMul, fDiv, fMod, fI0, dC, dUn, onV, fNeg, dNext, dRet, dTup, onD, dats, fDivZ, fI, fPow, Few, retP, fAbs, fInt, fMax, fMin, fLen, fSqrt, fEq, fNe, dNot, dAnd, dOr, dAndV, dOrV, dNotV, dIfE, dDrop, dRetN, dPar, noO, dSetL, dLst, dOfL, dOwnM, onOwn, onDat, kAppend, kInsert, dSetItem, dAddItem, dIx, onItems, items, onInt, dNoPart, dPart, dSlice, onL, litems, dSlL, dCat, onM, mitems, dTupOf, dSeqI, dRng1, dRng2, dCallP, dCallB, dCallF, noSelf, onArgs, dats2, dIsi, tyName, dYes, dgTup, dgCons, dgNil, retB, dBreak, dCont, ne_eq, not_false_eq_true, true_and, and_true, List.getElem?_cons_zero, List.getElem?_cons_succ, List.set_cons_zero, List.set_cons_succ, Option.map, List.length_cons, List.length_nil]
    have hg := gg_pos (n := n) h0
    have hle := gg_le (n := n) h0
    have hlog : (gg n d).log2 < 9000 := Nat.lt_of_lt_of_le (log_bd (Nat.lt_of_le_of_lt hle hd) (by decide)) (by decide)
    show if decide (d < 0) = true then CDivZ n (-((gg n d : Nat) : Int)) ∧ CDivZ d (-((gg n d : Nat) : Int)) ∧ 0 + 1 + 1 ≤ sizeLine ∧ Q (.tuple [.int (n.fdiv (-((gg n d : Nat) : Int))), .int (d.fdiv (-((gg n d : Nat) : Int)))])
      else CDivZ n ((gg n d : Nat) : Int) ∧ CDivZ d ((gg n d : Nat) : Int) ∧ 0 + 1 + 1 ≤ sizeLine ∧ Q (.tuple [.int (n.fdiv ((gg n d : Nat) : Int)), .int (d.fdiv ((gg n d : Nat) : Int))])
    have z1 : ∀ x, CDivZ x (-((gg n d : Nat) : Int)) := fun x => ⟨by omega, by rw [Int.natAbs_neg, Int.natAbs_natCast]; exact hlog⟩
    have z2 : ∀ x, CDivZ x ((gg n d : Nat) : Int) := fun x => ⟨by omega, by rw [Int.natAbs_natCast]; exact hlog⟩
    refine ite_b (fun hd0 => ⟨z1 _, z1 _, few2, ?_⟩) fun hd0 => ⟨z2 _, z2 _, few2, ?_⟩
    · unfold fr fnu fde at q
      rw [if_pos hd0, if_pos hd0] at q
      rw [fdiv_neg' (by omega) (gg_dl n d), fdiv_neg' (by omega) (gg_dr n d), show -1 * d = -d by rw [Int.neg_mul, Int.one_mul]]
      exact q
    · unfold fr fnu fde at q
      rw [if_neg hd0, if_neg hd0, Int.one_mul] at q
      rw [Int.fdiv_eq_ediv_of_nonneg _ (by omega), Int.fdiv_eq_ediv_of_nonneg _ (by omega)]
      exact q
  · exact hS.elim
set_option maxHeartbeats 4000000 in
theorem ok_compared {f : Addr} {fd : FuncData} (W : Fun K "compared" "compared" s_compared f fd) (T : Bi mg) :
    FnG P w K mg base CX0 1 f fd ["one", "other"] (spP K [.d, .d] S_compared) := by
  refine fnP W sc_compared rfl fun cdv A out s H E Nn hr hgd => ⟨_, _, (dss_cons (ds_par (i := 2) (j := 3) rfl sc_compared.nd (pda_cons (pd_mul (pd_ix (pdv 0) pd_int (fun _ _ => rfl)) (pd_ix (pdv 1) pd_int (fun _ _ => rfl))) (pda_cons (pd_mul (pd_ix (pdv 1) pd_int (fun _ _ => rfl)) (pd_ix (pdv 0) pd_int (fun _ _ => rfl))) pda_nil)) fixP fixP)
      (dss_cons (ds_if (pt_lt (pdv 2) (pdv 3)) (dss_one (ds_ret (pd_neg pd_int))) dss_nil)
      (dss_cons (ds_if (pt_gt (pdv 2) (pdv 3)) (dss_one (ds_ret pd_int)) dss_nil)
      (dss_one (ds_ret pd_int))))), ?_⟩
  rintro xs Q hl ⟨⟨a, b⟩, ⟨c, d⟩, rfl, hp, hq, hc, q⟩
  have e : rhoP nm_compared.length [Kd.d, Kd.d] [enc (a, b), enc (c, d)] = [some (.d (.tuple [.int a, .int b])), some (.d (.tuple [.int c, .int d])), none, none] := rfl
  rw [e]
  simp only [dSeq, dAsg, dCB, dCons, dNil, dVar, onVs, vals, val, slot, setR, fGcd, dIfS, dTV, dOp, dBin, onV2, fLt, fLe, fGt, fGe, fAdd, fSub, fMul, fDiv, fMod, fI0, dC, dUn, onV, fNeg, dNext, dRet, dTup, onD, dats, fDivZ, fI, fPow, Few, retP, fAbs, fInt, fMax, fMin, fLen, fSqrt, fEq, fNe, dNot, dAnd, dOr, dAndV, dOrV, dNotV, dIfE, dDrop, dRetN, dPar, noO, dSetL, dLst, dOfL, dOwnM, onOwn, onDat, kAppend, kInsert, dSetItem, dAddItem, dIx, onItems, items, onInt, dNoPart, dPart, dSlice, onL, litems, dSlL, dCat, onM, mitems, dTupOf, dSeqI, dRng1, dRng2, dCallP, dCallB, dCallF, noSelf, onArgs, dats2, dIsi, tyName, dYes, dgTup, dgCons, dgNil, retB, dBreak, dCont, ne_eq, not_false_eq_true, true_and, and_true, List.getElem?_cons_zero, List.getElem?_cons_succ, List.set_cons_zero, List.set_cons_succ, Option.map, List.length_cons, List.length_nil, on0, on1]
  have ha : Bd 61 a := hp.n
  have hb : Bd 61 b := hp.d
  have hc2 : Bd 61 c := hq.n
  have hd : Bd 61 d := hq.d
  have q : Q (.int (cmp3 (a * d) (c * b))) := q
  unfold cmp3 at q
  refine ⟨cmb ha hd, cmb hc2 hb, ?_⟩
  refine ite_b (fun h => ?_) fun h => ite_b (fun h2 => ?_) fun h2 => ?_
  · rw [if_pos h] at q; exact q
  · rw [if_neg h, if_pos h2] at q; exact q
  · rw [if_neg h, if_neg h2] at q; exact q
set_option maxHeartbeats 4000000 in
theorem ok_clipped {f : Addr} {fd : FuncData} (W : Fun K "clipped" "clipped" s_clipped f fd) (T : Bi mg) :
    FnG P w K mg base CX0 1 f fd ["one"] (spP K [.d] S_clipped) := by
  refine fnP W sc_clipped rfl fun cdv A out s H E Nn hr hgd => ⟨_, _, (dss_cons (ds_if (pt_lt (pd_ix (pdv 0) pd_int (fun _ _ => rfl)) pd_int) (dss_one (ds_ret (pd_tup (pda_cons pd_int (pda_cons pd_int pda_nil))))) dss_nil)
      (dss_cons (ds_if (pt_gt (pd_ix (pdv 0) pd_int (fun _ _ => rfl)) (pd_ix (pdv 0) pd_int (fun _ _ => rfl))) (dss_one (ds_ret (pd_tup (pda_cons pd_int (pda_cons pd_int pda_nil))))) dss_nil)
      (dss_one (ds_ret (pdv 0))))), ?_⟩
  rintro xs Q hl ⟨⟨a, b⟩, rfl, q⟩
  have e : rhoP nm_clipped.length [Kd.d] [enc (a, b)] = [some (.d (.tuple [.int a, .int b]))] := rfl
  rw [e]
  unfold clip enc at q
  simp only [dSeq, dAsg, dCB, dCons, dNil, dVar, onVs, vals, val, slot, setR, fGcd, dIfS, dTV, dOp, dBin, onV2, fLt, fLe, fGt, fGe, fAdd, fSub, fMul, fDiv, fMod, fI0, dC, dUn, onV, fNeg, dNext, dRet, dTup, onD, dats, fDivZ, fI, fPow, Few, retP, fAbs, fInt, fMax, fMin, fLen, fSqrt, fEq, fNe, dNot, dAnd, dOr, dAndV, dOrV, dNotV, dIfE, dDrop, dRetN, dPar, noO, dSetL, dLst, dOfL, dOwnM, onOwn, onDat, kAppend, kInsert, dSetItem, dAddItem, dIx, onItems, items, onInt, dNoPart, dPart, dSlice, onL, litems, dSlL, dCat, onM, mitems, dTupOf, dSeqI, dRng1, dRng2, dCallP, dCallB, dCallF, noSelf, onArgs, dats2, dIsi, tyName, dYes, dgTup, dgCons, dgNil, retB, dBreak, dCont, ne_eq, not_false_eq_true, true_and, and_true, List.getElem?_cons_zero, List.getElem?_cons_succ, List.set_cons_zero, List.set_cons_succ, Option.map, List.length_cons, List.length_nil, on0, on1]
  refine ite_b (fun h => ⟨few2, ?_⟩) fun h => ite_b (fun h2 => ⟨few2, ?_⟩) fun h2 => ?_
  · rw [if_pos h] at q; exact q
  · rw [if_neg h, if_pos h2] at q; exact q
  · rw [if_neg h, if_neg h2] at q; exact q
set_option maxHeartbeats 4000000 in
theorem ok_floor_of {f : Addr} {fd : FuncData} (W : Fun K "floor_of" "floor_of" s_floor_of f fd) (T : Bi mg) :
    FnG P w K mg base CX0 1 f fd ["one"] (spP K [.d] S_floor_of) := by
  refine fnP W sc_floor_of rfl fun cdv A out s H E Nn hr hgd => ⟨_, _, (dss_one (ds_ret (pd_div (pd_ix (pdv 0) pd_int (fun _ _ => rfl)) (pd_ix (pdv 0) pd_int (fun _ _ => rfl))))), ?_⟩
  rintro xs Q hl ⟨⟨a, b⟩, rfl, hp, q⟩
  have e : rhoP nm_floor_of.length [Kd.d] [enc (a, b)] = [some (.d (.tuple [.int a, .int b]))] := rfl
  rw [e]
  simp only [dSeq, dAsg, dCB, dCons, dNil, dVar, onVs, vals, val, slot, setR, fGcd, dIfS, dTV, dOp, dBin, onV2, fLt, fLe, fGt, fGe, fAdd, fSub, fMul, fDiv, fMod, fI0, dC, dUn, onV, fNeg, dNext, dRet, dTup, onD, dats, fDivZ, fI, fPow, Few, retP, fAbs, fInt, fMax, fMin, fLen, fSqrt, fEq, fNe, dNot, dAnd, dOr, dAndV, dOrV, dNotV, dIfE, dDrop, dRetN, dPar, noO, dSetL, dLst, dOfL, dOwnM, onOwn, onDat, kAppend, kInsert, dSetItem, dAddItem, dIx, onItems, items, onInt, dNoPart, dPart, dSlice, onL, litems, dSlL, dCat, onM, mitems, dTupOf, dSeqI, dRng1, dRng2, dCallP, dCallB, dCallF, noSelf, onArgs, dats2, dIsi, tyName, dYes, dgTup, dgCons, dgNil, retB, dBreak, dCont, ne_eq, not_false_eq_true, true_and, and_true, List.getElem?_cons_zero, List.getElem?_cons_succ, List.set_cons_zero, List.set_cons_succ, Option.map, List.length_cons, List.length_nil, on0, on1]
  exact ⟨cdwB hp.pos hp.d, q⟩
set_option maxHeartbeats 4000000 in
theorem ok_root_floor {f : Addr} {fd : FuncData} (W : Fun K "root_floor" "root_floor" s_root_floor f fd) (T : Bi mg) :
    FnG P w K mg base CX0 1 f fd ["n"] (spP K [.d] S_root_floor) := by
  refine fnP W sc_root_floor rfl fun cdv A out s H E Nn hr hgd => ⟨_, _, (dss_one (ds_ret (pd_callM cr_sqrt sc_sqrt rfl T.i_isqrt (pda_cons (pdv 0) pda_nil)))), ?_⟩
  intro xs Q hl hS
  unfold S_root_floor at hS
  split at hS
  · rename_i n
    have e : rhoP nm_root_floor.length [Kd.d] [.int n] = [some (.d (.int n))] := rfl
    rw [e]
    simp only [dSeq, dAsg, dCB, dCons, dNil, dVar, onVs, vals, val, slot, setR, fGcd, dIfS, dTV, dOp, dBin, onV2, fLt, fLe, fGt, fGe, fAdd, fSub, fMul, fDiv, fMod, fI0, dC, dUn, onV, fNeg, dNext, dRet, dTup, onD, dats, fDivZ, fI, fPow, Few, retP, fAbs, fInt, fMax, fMin, fLen, fSqrt, fEq, fNe, dNot, dAnd, dOr, dAndV, dOrV, dNotV, dIfE, dDrop, dRetN, dPar, noO, dSetL, dLst, dOfL, dOwnM, onOwn, onDat, kAppend, kInsert, dSetItem, dAddItem, dIx, onItems, items, onInt, dNoPart, dPart, dSlice, onL, litems, dSlL, dCat, onM, mitems, dTupOf, dSeqI, dRng1, dRng2, dCallP, dCallB, dCallF, noSelf, onArgs, dats2, dIsi, tyName, dYes, dgTup, dgCons, dgNil, retB, dBreak, dCont, ne_eq, not_false_eq_true, true_and, and_true, List.getElem?_cons_zero, List.getElem?_cons_succ, List.set_cons_zero, List.set_cons_succ, Option.map, List.length_cons, List.length_nil]
    have hb : n.natAbs < 2 ^ 130 := hS.1.2
    exact ⟨⟨hS.1.1, Nat.lt_of_lt_of_le (log_bd (show n.toNat < 2 ^ 130 from Nat.lt_of_le_of_lt (by omega) hb) (by decide)) (by decide)⟩, hS.2⟩
  · exact hS.elim
set_option maxHeartbeats 4000000 in
theorem ok__law_bag {f : Addr} {fd : FuncData} (W : Fun K "_law_bag" "_law_bag" s__law_bag f fd) (T : Bi mg) :
    FnG P w K mg base CX0 1 f fd ["_law_script"] (spF K [.ro] S__law_bag) := by
  refine fnF W sc__law_bag rfl rfl fun cdv A out s H E Nn hr hgd => ⟨_, _, (pl_lst (pda_cons pd_int (pda_cons pd_int (pda_cons pd_int (pda_cons (pd_l (pl_lc (own := [("_law_cell", 1)]) rfl sc__law_bag.nd (pdi_seq (pd_l (pl_slice (pdv 0) pdo_none (pdo_some pd_int)))) (blkOk_by (own := [("_law_cell", 1)]) (N := nm__law_bag) (sc := defScope s__law_bag) (by decide +kernel)) (fun _ _ _ _ _ => (pgd_name (i := 1) sc__law_bag.nd)) (fun _ _ _ _ _ => dts_nil) (fun _ _ _ _ _ => (pd_callB call_abs sc_abs rfl T.b_abs (by decide +kernel) (pda_cons (pdv 1) pda_nil))))) pda_nil))))), ?_⟩
  exact fun xs Q hl hS => rd_bag hS
set_option maxHeartbeats 4000000 in
theorem ok__law_take {f : Addr} {fd : FuncData} (W : Fun K "_law_take" "_law_take" s__law_take f fd) (T : Bi mg) :
    FnG P w K mg base CX0 1 f fd ["_law_bag_here", "_law_many"] (spB K [.d] S__law_take) := by
  refine fnB W sc__law_take rfl fun cdv A out s H E Nn B hr hgd => ⟨_, _, (dss_cons (ds_if (pt_eq hr.units rfl (pd_ix (pdv 0) pd_int (fun _ _ => rfl)) pd_int) (dss_cons (ds_set (i := 2) sc__law_take.nd (pd_ix (pd_l (pl_cat (pd_l (pl_slice (pd_ix (pdv 0) pd_int (fun _ _ => rfl)) (pdo_some (pd_ix (pdv 0) pd_int (fun _ _ => rfl))) pdo_none)) (pd_l (pl_lst (pda_cons pd_int pda_nil))))) pd_int (fun _ _ => rfl)) (fixB (by decide)))
      (dss_cons (ds_addItem (i := 0) pd_int pd_int (ps_augS (pv 0) pe_int get_list pe_int ip_add set_list))
      (dss_cons (ds_if (pt_ge (pdv 2) (pd_pow pd_int pd_int)) (dss_one (ds_setItem (i := 0) (pdv 2) pd_int (pg_sub (pv 0) pe_int set_list))) dss_nil)
      (dss_cons (ds_set (i := 3) sc__law_take.nd (pd_add (pd_add (pd_mul (pd_ix (pdv 0) pd_int (fun _ _ => rfl)) pd_int) (pd_mod (pd_callTy call_int1 sc_int rfl T.b_int (by decide +kernel) (pda_cons (pdv 2) pda_nil)) pd_int)) (pd_mul pd_int (pd_ix (pdv 0) pd_int (fun _ _ => rfl)))) (fixB (by decide)))
      (dss_one (ds_setItem (i := 0) (pd_mod (pd_callTy call_int1 sc_int rfl T.b_int (by decide +kernel) (pda_cons (pdv 3) pda_nil)) pd_int) pd_int (pg_sub (pv 0) pe_int set_list))))))) dss_nil)
      (dss_cons (ds_if (pt_gt (pd_ix (pdv 0) pd_int (fun _ _ => rfl)) pd_int) (dss_cons (ds_set (i := 4) sc__law_take.nd (pd_mod (pd_callTy call_int1 sc_int rfl T.b_int (by decide +kernel) (pda_cons (pd_ix (pdv 0) pd_int (fun _ _ => rfl)) pda_nil)) (pdv 1)) (fixB (by decide)))
      (dss_cons (ds_setItem (i := 0) (pd_div (pd_callTy call_int1 sc_int rfl T.b_int (by decide +kernel) (pda_cons (pd_ix (pdv 0) pd_int (fun _ _ => rfl)) pda_nil)) (pdv 1)) pd_int (pg_sub (pv 0) pe_int set_list))
      (dss_one (ds_ret (pdv 4))))) dss_nil)
      (dss_cons (ds_set (i := 5) sc__law_take.nd (pd_mod (pd_callTy call_int1 sc_int rfl T.b_int (by decide +kernel) (pda_cons (pd_mul (pd_add (pd_ix (pdv 0) pd_int (fun _ _ => rfl)) pd_int) pd_int) pda_nil)) pd_int) (fixB (by decide)))
      (dss_cons (ds_set (i := 6) sc__law_take.nd (pd_mod (pd_callTy call_int1 sc_int rfl T.b_int (by decide +kernel) (pda_cons (pd_mul (pd_mod (pd_callTy call_int1 sc_int rfl T.b_int (by decide +kernel) (pda_cons (pd_mul (pdv 5) (pdv 5)) pda_nil)) pd_int) pd_int) pda_nil)) pd_int) (fixB (by decide)))
      (dss_one (ds_ret (pd_mod (pd_callTy call_int1 sc_int rfl T.b_int (by decide +kernel) (pda_cons (pd_div (pdv 6) pd_int) pda_nil)) (pdv 1)))))))), ?_⟩
  exact fun bag xs Q hl hS => rd_take hS
set_option maxHeartbeats 4000000 in
theorem ok__law_alike {f : Addr} {fd : FuncData} (W : Fun K "_law_alike" "_law_alike" s__law_alike f fd) (T : Bi mg) :
    FnG P w K mg base CX0 1 f fd ["_law_found", "_law_due"] (spP K [.ro, .ro] S__law_alike) := by
  refine fnP W sc__law_alike rfl fun cdv A out s H E Nn hr hgd => ⟨_, _, (dss_one (ds_ret (pd_and (pd_eq hr.units rfl (pdv 0) (pdv 1)) (pdn_one (pd_eqS (pd_callB (call_repr hgd hr.units) sc_repr rfl T.b_repr (by decide +kernel) (pda_cons (pdv 0) pda_nil)) (pd_callB (call_repr hgd hr.units) sc_repr rfl T.b_repr (by decide +kernel) (pda_cons (pdv 1) pda_nil))))))), ?_⟩
  exact fun xs Q hl hS => rd_alike hS
set_option maxHeartbeats 4000000 in
theorem ok__law_is_int {f : Addr} {fd : FuncData} (W : Fun K "_law_is_int" "_law_is_int" s__law_is_int f fd) (T : Bi mg) :
    FnG P w K mg base CX0 1 f fd ["_law_thing"] (spP K [.d] S__law_is_int) := by
  refine fnP W sc__law_is_int rfl fun cdv A out s H E Nn hr hgd => ⟨_, _, (dss_one (ds_ret (pd_and (pd_isinst (n := "int") (pdv 0) rfl T.b_isinstance rfl T.b_int (by decide +kernel)) (pdn_one (pd_not (pd_isinst (n := "bool") (pdv 0) rfl T.b_isinstance rfl T.b_bool (by decide +kernel))))))), ?_⟩
  intro xs Q hl hS
  unfold S__law_is_int at hS
  split at hS
  · rename_i n
    have e : rhoP nm__law_is_int.length [Kd.d] [.int n] = [some (.d (.int n))] := rfl
    rw [e]
    simp only [dSeq, dAsg, dCB, dCons, dNil, dVar, onVs, vals, val, slot, setR, fGcd, dIfS, dTV, dOp, dBin, onV2, fLt, fLe, fGt, fGe, fAdd, fSub, fMul, fDiv, fMod, fI0, dC, dUn, onV, fNeg, dNext, dRet, dTup, onD, dats, fDivZ, fI, fPow, Few, retP, fAbs, fInt, fMax, fMin, fLen, fSqrt, fEq, fNe, dNot, dAnd, dOr, dAndV, dOrV, dNotV, dIfE, dDrop, dRetN, dPar, noO, dSetL, dLst, dOfL, dOwnM, onOwn, onDat, kAppend, kInsert, dSetItem, dAddItem, dIx, onItems, items, onInt, dNoPart, dPart, dSlice, onL, litems, dSlL, dCat, onM, mitems, dTupOf, dSeqI, dRng1, dRng2, dCallP, dCallB, dCallF, noSelf, onArgs, dats2, dIsi, tyName, dYes, dgTup, dgCons, dgNil, retB, dBreak, dCont, ne_eq, not_false_eq_true, true_and, and_true, List.getElem?_cons_zero, List.getElem?_cons_succ, List.set_cons_zero, List.set_cons_succ, Option.map, List.length_cons, List.length_nil, show kitB "int" "int" = some true from rfl, show kitB "int" "bool" = some false from rfl, if_pos, Bool.not_false]
    exact hS
  · exact hS.elim
set_option maxHeartbeats 4000000 in
theorem ok__law_lowest {f : Addr} {fd : FuncData} (W : Fun K "_law_lowest" "_law_lowest" s__law_lowest f fd) (T : Bi mg) :
    FnG P w K mg base CX0 1 f fd ["_law_n", "_law_d"] (spP K [.d, .d] S__law_lowest) := by
  refine fnP W sc__law_lowest rfl fun cdv A out s H E Nn hr hgd => ⟨_, _, (dss_cons (ds_par (i := 2) (j := 3) rfl sc__law_lowest.nd (pda_cons (pd_callB call_abs sc_abs rfl T.b_abs (by decide +kernel) (pda_cons (pdv 0) pda_nil)) (pda_cons (pd_callB call_abs sc_abs rfl T.b_abs (by decide +kernel) (pda_cons (pdv 1) pda_nil)) pda_nil)) fixP fixP)
      (dss_cons (ds_while PassesOwn.never (pt_ne hr.units rfl (pdv 3) pd_int) (dss_one (ds_par (i := 2) (j := 3) rfl sc__law_lowest.nd (pda_cons (pdv 3) (pda_cons (pd_mod (pd_callTy call_int1 sc_int rfl T.b_int (by decide +kernel) (pda_cons (pdv 2) pda_nil)) (pd_callTy call_int1 sc_int rfl T.b_int (by decide +kernel) (pda_cons (pdv 3) pda_nil))) pda_nil)) fixP fixP)))
      (dss_cons (ds_set (i := 4) sc__law_lowest.nd (pd_ifExp (pt_lt (pdv 1) pd_int) (pd_neg pd_int) pd_int) fixP)
      (dss_one (ds_ret (pd_tup (pda_cons (pd_div (pd_mul (pdv 4) (pdv 0)) (pdv 2)) (pda_cons (pd_div (pd_callB call_abs sc_abs rfl T.b_abs (by decide +kernel) (pda_cons (pdv 1) pda_nil)) (pdv 2)) pda_nil)))))))), ?_⟩
  intro xs Q hl hS
  unfold S__law_lowest S_reduced at hS
  split at hS
  · rename_i n d
    obtain ⟨⟨h0, hn, hd⟩, q⟩ := hS
    have e : rhoP nm__law_lowest.length [Kd.d, Kd.d] [.int n, .int d] = [some (.d (.int n)), some (.d (.int d)), none, none, none] := rfl
    rw [e]
    simp only [dSeq, dAsg, dCB, dCons, dNil, dVar, onVs, vals, val, slot, setR, fGcd, dIfS, dTV, dOp, dBin, onV2, fLt, fLe, fGt, fGe, fAdd, fSub, fMul, fDiv, fMod, fI0, dC, dUn, onV, fNeg, dNext, dRet, dTup, onD, dats, fDivZ, fI, fPow, Few, retP, fAbs, fInt, fMax, fMin, fLen, fSqrt, fEq, fNe, dNot, dAnd, dOr, dAndV, dOrV, dNotV, dIfE, dDrop, dRetN, dPar, noO, dSetL, dLst, dOfL, dOwnM, onOwn, onDat, kAppend, kInsert, dSetItem, dAddItem, dIx, onItems, items, onInt, dNoPart, dPart, dSlice, onL, litems, dSlL, dCat, onM, mitems, dTupOf, dSeqI, dRng1, dRng2, dCallP, dCallB, dCallF, noSelf, onArgs, dats2, dIsi, tyName, dYes, dgTup, dgCons, dgNil, retB, dBreak, dCont, ne_eq, not_false_eq_true, true_and, and_true, List.getElem?_cons_zero, List.getElem?_cons_succ, List.set_cons_zero, List.set_cons_succ, Option.map, List.length_cons, List.length_nil, dWhile, show ∀ x : Int, (if x < 0 then -x else x) = ((x.natAbs : Nat) : Int) from fun x => by split <;> omega]
    refine ⟨fun ρ => ∃ x y : Nat, 0 < x + y ∧ Nat.gcd x y = gg n d ∧ ρ = [some (.d (.int n)), some (.d (.int d)), some (.d (.int (x : Int))), some (.d (.int (y : Int))), none],
      fun ρ => match slot ρ 3 with | some (.int y) => y.toNat | _ => 0, ⟨n.natAbs, d.natAbs, by omega, rfl, rfl⟩, ?_⟩
    rintro ρ ⟨x, y, hxy, hg, rfl⟩
    simp only [dSeq, dAsg, dCB, dCons, dNil, dVar, onVs, vals, val, slot, setR, fGcd, dIfS, dTV, dOp, dBin, onV2, fLt, fLe, fGt, fGe, fAdd, fSub, fMul, fDiv, fMod, fI0, dC, dUn, onV, fNeg, dNext, dRet, dTup, onD, dats, fDivZ, fI, fPow, Few, retP, fAbs, fInt, fMax, fMin, fLen, fSqrt, fEq, fNe, dNot, dAnd, dOr, dAndV, dOrV, dNotV, dIfE, dDrop, dRetN, dPar, noO, dSetL, dLst, dOfL, dOwnM, onOwn, onDat, kAppend, kInsert, dSetItem, dAddItem, dIx, onItems, items, onInt, dNoPart, dPart, dSlice, onL, litems, dSlL, dCat, onM, mitems, dTupOf, dSeqI, dRng1, dRng2, dCallP, dCallB, dCallF, noSelf, onArgs, dats2, dIsi, tyName, dYes, dgTup, dgCons, dgNil, retB, dBreak, dCont, ne_eq, not_false_eq_true, true_and, and_true, List.getElem?_cons_zero, List.getElem?_cons_succ, List.set_cons_zero, List.set_cons_succ, Option.map, List.length_cons, List.length_nil, sh_int, eqv_int]
    refine ite_n (c := ((y : Int) = 0)) (fun hy => ?_) fun hy => ?_
    · refine ⟨by omega, ⟨y, x % y, by omega, ?_, by rw [Int.natCast_emod]⟩, ?_⟩
      · rw [← hg, Nat.gcd_comm y, ← Nat.gcd_rec, Nat.gcd_comm]
      · have := Nat.mod_lt x (show 0 < y by omega)
        rw [← Int.natCast_emod]
        omega
    · have hy0 : y = 0 := by omega
      subst hy0
      rw [Nat.gcd_zero_right] at hg
      subst hg
      have hg := gg_pos (n := n) h0
      have hle := gg_le (n := n) h0
      have hb : Bd 200 ((gg n d : Nat) : Int) := by unfold Bd at *; rw [Int.natAbs_natCast]; omega
      refine ite_b (fun hd0 => ?_) fun hd0 => ?_
      · refine ⟨cmb (j := 2) (by unfold Bd; decide) hn, cdwB (by omega) hb, cdwB (by omega) hb, few2, ?_⟩
        unfold fr fnu fde at q
        rw [if_pos hd0, if_pos hd0] at q
        rw [show ((d.natAbs : Nat) : Int) = -d by omega]
        exact q
      · refine ⟨cmb (j := 2) (by unfold Bd; decide) hn, cdwB (by omega) hb, cdwB (by omega) hb, few2, ?_⟩
        unfold fr fnu fde at q
        rw [if_neg hd0, if_neg hd0] at q
        rw [show ((d.natAbs : Nat) : Int) = d by omega]
        exact q
  · exact hS.elim
set_option maxHeartbeats 4000000 in
theorem ok__law_sign {f : Addr} {fd : FuncData} (W : Fun K "_law_sign" "_law_sign" s__law_sign f fd) (T : Bi mg) :
    FnG P w K mg base CX0 1 f fd ["_law_one", "_law_other"] (spP K [.d, .d] S__law_sign) := by
  refine fnP W sc__law_sign rfl fun cdv A out s H E Nn hr hgd => ⟨_, _, (dss_cons (ds_par (i := 2) (j := 3) rfl sc__law_sign.nd (pda_cons (pd_mul (pd_ix (pdv 0) pd_int (fun _ _ => rfl)) (pd_ix (pdv 1) pd_int (fun _ _ => rfl))) (pda_cons (pd_mul (pd_ix (pdv 1) pd_int (fun _ _ => rfl)) (pd_ix (pdv 0) pd_int (fun _ _ => rfl))) pda_nil)) fixP fixP)
      (dss_one (ds_ret (pd_sub (pd_callTy call_int1 sc_int rfl T.b_int (by decide +kernel) (pda_cons (pd_gt (pdv 2) (pdv 3)) pda_nil)) (pd_callTy call_int1 sc_int rfl T.b_int (by decide +kernel) (pda_cons (pd_lt (pdv 2) (pdv 3)) pda_nil)))))), ?_⟩
  rintro xs Q hl ⟨⟨a, b⟩, ⟨c, d⟩, rfl, hp, hq, hc, q⟩
  have e : rhoP nm__law_sign.length [Kd.d, Kd.d] [enc (a, b), enc (c, d)] = [some (.d (.tuple [.int a, .int b])), some (.d (.tuple [.int c, .int d])), none, none] := rfl
  rw [e]
  simp only [dSeq, dAsg, dCB, dCons, dNil, dVar, onVs, vals, val, slot, setR, fGcd, dIfS, dTV, dOp, dBin, onV2, fLt, fLe, fGt, fGe, fAdd, fSub, fMul, fDiv, fMod, fI0, dC, dUn, onV, fNeg, dNext, dRet, dTup, onD, dats, fDivZ, fI, fPow, Few, retP, fAbs, fInt, fMax, fMin, fLen, fSqrt, fEq, fNe, dNot, dAnd, dOr, dAndV, dOrV, dNotV, dIfE, dDrop, dRetN, dPar, noO, dSetL, dLst, dOfL, dOwnM, onOwn, onDat, kAppend, kInsert, dSetItem, dAddItem, dIx, onItems, items, onInt, dNoPart, dPart, dSlice, onL, litems, dSlL, dCat, onM, mitems, dTupOf, dSeqI, dRng1, dRng2, dCallP, dCallB, dCallF, noSelf, onArgs, dats2, dIsi, tyName, dYes, dgTup, dgCons, dgNil, retB, dBreak, dCont, ne_eq, not_false_eq_true, true_and, and_true, List.getElem?_cons_zero, List.getElem?_cons_succ, List.set_cons_zero, List.set_cons_succ, Option.map, List.length_cons, List.length_nil, on0, on1]
  have ha : Bd 61 a := hp.n
  have hb : Bd 61 b := hp.d
  have hc2 : Bd 61 c := hq.n
  have hd : Bd 61 d := hq.d
  have q : Q (.int (cmp3 (a * d) (c * b))) := q
  unfold cmp3 at q
  refine ⟨cmb ha hd, cmb hc2 hb, ?_⟩
  by_cases h : a * d < c * b
  · rw [if_pos h] at q
    rw [decide_eq_true h, decide_eq_false (show ¬ c * b < a * d by omega)]
    exact q
  · by_cases h2 : c * b < a * d
    · rw [if_neg h, if_pos h2] at q
      rw [decide_eq_false h, decide_eq_true h2]
      exact q
    · rw [if_neg h, if_neg h2] at q
      rw [decide_eq_false h, decide_eq_false h2]
      exact q
set_option maxHeartbeats 4000000 in
theorem ok_added {f : Addr} {fd : FuncData} (W : Fun K "added" "added" s_added f fd) (T : Bi mg)
    {f_reduced : Addr} {fd_reduced : FuncData} (G_reduced : FnG P w K mg base CX0 1 f_reduced fd_reduced ["n", "d"] (spP K [.d, .d] S_reduced)) (g_reduced : mg "reduced" = some (.ref f_reduced)) (k_reduced : PySem.W.keepIn K (.ref f_reduced) = true) (b_reduced : Binds K fd_reduced ["n", "d"] []) :
    FnG P w K mg base CX0 2 f fd ["one", "other"] (spP K [.d, .d] S_added) := by
  refine fnP W sc_added rfl fun cdv A out s H E Nn hr hgd => ⟨_, _, (dss_one (ds_ret (pd_callP G_reduced m_reduced (hr.mono (by decide)) hgd rfl g_reduced k_reduced b_reduced (pda_cons (pd_add (pd_mul (pd_ix (pdv 0) pd_int (fun _ _ => rfl)) (pd_ix (pdv 1) pd_int (fun _ _ => rfl))) (pd_mul (pd_ix (pdv 1) pd_int (fun _ _ => rfl)) (pd_ix (pdv 0) pd_int (fun _ _ => rfl)))) (pda_cons (pd_mul (pd_ix (pdv 0) pd_int (fun _ _ => rfl)) (pd_ix (pdv 1) pd_int (fun _ _ => rfl))) pda_nil))))), ?_⟩
  rintro xs Q hl ⟨⟨a, b⟩, ⟨c, d⟩, rfl, hp, hq, hc, q⟩
  have e : rhoP nm_added.length [Kd.d, Kd.d] [enc (a, b), enc (c, d)] = [some (.d (.tuple [.int a, .int b])), some (.d (.tuple [.int c, .int d]))] := rfl
  rw [e]
  simp only [dSeq, dAsg, dCB, dCons, dNil, dVar, onVs, vals, val, slot, setR, fGcd, dIfS, dTV, dOp, dBin, onV2, fLt, fLe, fGt, fGe, fAdd, fSub, fMul, fDiv, fMod, fI0, dC, dUn, onV, fNeg, dNext, dRet, dTup, onD, dats, fDivZ, fI, fPow, Few, retP, fAbs, fInt, fMax, fMin, fLen, fSqrt, fEq, fNe, dNot, dAnd, dOr, dAndV, dOrV, dNotV, dIfE, dDrop, dRetN, dPar, noO, dSetL, dLst, dOfL, dOwnM, onOwn, onDat, kAppend, kInsert, dSetItem, dAddItem, dIx, onItems, items, onInt, dNoPart, dPart, dSlice, onL, litems, dSlL, dCat, onM, mitems, dTupOf, dSeqI, dRng1, dRng2, dCallP, dCallB, dCallF, noSelf, onArgs, dats2, dIsi, tyName, dYes, dgTup, dgCons, dgNil, retB, dBreak, dCont, ne_eq, not_false_eq_true, true_and, and_true, List.getElem?_cons_zero, List.getElem?_cons_succ, List.set_cons_zero, List.set_cons_succ, Option.map, List.length_cons, List.length_nil, on0, on1, S_reduced]
  have ha : Bd 61 a := hp.n
  have hb : Bd 61 b := hp.d
  have hc2 : Bd 61 c := hq.n
  have hd : Bd 61 d := hq.d
  have pb : 0 < b := hp.pos
  have pd : 0 < d := hq.pos
  refine ⟨cmb ha hd, cmb hc2 hb, cmb hb hd, ⟨Int.ne_of_gt (Int.mul_pos pb pd), ((ha.mul hd).add (hc2.mul hb)).up (by decide), (hb.mul hd).up (by decide)⟩, q⟩
set_option maxHeartbeats 4000000 in
theorem ok_lessened {f : Addr} {fd : FuncData} (W : Fun K "lessened" "lessened" s_lessened f fd) (T : Bi mg)
    {f_reduced : Addr} {fd_reduced : FuncData} (G_reduced : FnG P w K mg base CX0 1 f_reduced fd_reduced ["n", "d"] (spP K [.d, .d] S_reduced)) (g_reduced : mg "reduced" = some (.ref f_reduced)) (k_reduced : PySem.W.keepIn K (.ref f_reduced) = true) (b_reduced : Binds K fd_reduced ["n", "d"] []) :
    FnG P w K mg base CX0 2 f fd ["one", "other"] (spP K [.d, .d] S_lessened) := by
  refine fnP W sc_lessened rfl fun cdv A out s H E Nn hr hgd => ⟨_, _, (dss_one (ds_ret (pd_callP G_reduced m_reduced (hr.mono (by decide)) hgd rfl g_reduced k_reduced b_reduced (pda_cons (pd_sub (pd_mul (pd_ix (pdv 0) pd_int (fun _ _ => rfl)) (pd_ix (pdv 1) pd_int (fun _ _ => rfl))) (pd_mul (pd_ix (pdv 1) pd_int (fun _ _ => rfl)) (pd_ix (pdv 0) pd_int (fun _ _ => rfl)))) (pda_cons (pd_mul (pd_ix (pdv 0) pd_int (fun _ _ => rfl)) (pd_ix (pdv 1) pd_int (fun _ _ => rfl))) pda_nil))))), ?_⟩
  rintro xs Q hl ⟨⟨a, b⟩, ⟨c, d⟩, rfl, hp, hq, hc, q⟩
  have e : rhoP nm_lessened.length [Kd.d, Kd.d] [enc (a, b), enc (c, d)] = [some (.d (.tuple [.int a, .int b])), some (.d (.tuple [.int c, .int d]))] := rfl
  rw [e]
  simp only [dSeq, dAsg, dCB, dCons, dNil, dVar, onVs, vals, val, slot, setR, fGcd, dIfS, dTV, dOp, dBin, onV2, fLt, fLe, fGt, fGe, fAdd, fSub, fMul, fDiv, fMod, fI0, dC, dUn, onV, fNeg, dNext, dRet, dTup, onD, dats, fDivZ, fI, fPow, Few, retP, fAbs, fInt, fMax, fMin, fLen, fSqrt, fEq, fNe, dNot, dAnd, dOr, dAndV, dOrV, dNotV, dIfE, dDrop, dRetN, dPar, noO, dSetL, dLst, dOfL, dOwnM, onOwn, onDat, kAppend, kInsert, dSetItem, dAddItem, dIx, onItems, items, onInt, dNoPart, dPart, dSlice, onL, litems, dSlL, dCat, onM, mitems, dTupOf, dSeqI, dRng1, dRng2, dCallP, dCallB, dCallF, noSelf, onArgs, dats2, dIsi, tyName, dYes, dgTup, dgCons, dgNil, retB, dBreak, dCont, ne_eq, not_false_eq_true, true_and, and_true, List.getElem?_cons_zero, List.getElem?_cons_succ, List.set_cons_zero, List.set_cons_succ, Option.map, List.length_cons, List.length_nil, on0, on1, S_reduced]
  have ha : Bd 61 a := hp.n
  have hb : Bd 61 b := hp.d
  have hc2 : Bd 61 c := hq.n
  have hd : Bd 61 d := hq.d
  have pb : 0 < b := hp.pos
  have pd : 0 < d := hq.pos
  refine ⟨cmb ha hd, cmb hc2 hb, cmb hb hd, ⟨Int.ne_of_gt (Int.mul_pos pb pd), ((ha.mul hd).sub (hc2.mul hb)).up (by decide), (hb.mul hd).up (by decide)⟩, q⟩
set_option maxHeartbeats 4000000 in
theorem ok_times {f : Addr} {fd : FuncData} (W : Fun K "times" "times" s_times f fd) (T : Bi mg)
    {f_reduced : Addr} {fd_reduced : FuncData} (G_reduced : FnG P w K mg base CX0 1 f_reduced fd_reduced ["n", "d"] (spP K [.d, .d] S_reduced)) (g_reduced : mg "reduced" = some (.ref f_reduced)) (k_reduced : PySem.W.keepIn K (.ref f_reduced) = true) (b_reduced : Binds K fd_reduced ["n", "d"] []) :
    FnG P w K mg base CX0 2 f fd ["one", "other"] (spP K [.d, .d] S_times) := by
  refine fnP W sc_times rfl fun cdv A out s H E Nn hr hgd => ⟨_, _, (dss_one (ds_ret (pd_callP G_reduced m_reduced (hr.mono (by decide)) hgd rfl g_reduced k_reduced b_reduced (pda_cons (pd_mul (pd_ix (pdv 0) pd_int (fun _ _ => rfl)) (pd_ix (pdv 1) pd_int (fun _ _ => rfl))) (pda_cons (pd_mul (pd_ix (pdv 0) pd_int (fun _ _ => rfl)) (pd_ix (pdv 1) pd_int (fun _ _ => rfl))) pda_nil))))), ?_⟩
  rintro xs Q hl ⟨⟨a, b⟩, ⟨c, d⟩, rfl, hp, hq, hc, q⟩
  have e : rhoP nm_times.length [Kd.d, Kd.d] [enc (a, b), enc (c, d)] = [some (.d (.tuple [.int a, .int b])), some (.d (.tuple [.int c, .int d]))] := rfl
  rw [e]
  simp only [dSeq, dAsg, dCB, dCons, dNil, dVar, onVs, vals, val, slot, setR, fGcd, dIfS, dTV, dOp, dBin, onV2, fLt, fLe, fGt, fGe, fAdd, fSub, fMul, fDiv, fMod, fI0, dC, dUn, onV, fNeg, dNext, dRet, dTup, onD, dats, fDivZ, fI, fPow, Few, retP, fAbs, fInt, fMax, fMin, fLen, fSqrt, fEq, fNe, dNot, dAnd, dOr, dAndV, dOrV, dNotV, dIfE, dDrop, dRetN, dPar, noO, dSetL, dLst, dOfL, dOwnM, onOwn, onDat, kAppend, kInsert, dSetItem, dAddItem, dIx, onItems, items, onInt, dNoPart, dPart, dSlice, onL, litems, dSlL, dCat, onM, mitems, dTupOf, dSeqI, dRng1, dRng2, dCallP, dCallB, dCallF, noSelf, onArgs, dats2, dIsi, tyName, dYes, dgTup, dgCons, dgNil, retB, dBreak, dCont, ne_eq, not_false_eq_true, true_and, and_true, List.getElem?_cons_zero, List.getElem?_cons_succ, List.set_cons_zero, List.set_cons_succ, Option.map, List.length_cons, List.length_nil, on0, on1, S_reduced]
  have ha : Bd 61 a := hp.n
  have hb : Bd 61 b := hp.d
  have hc2 : Bd 61 c := hq.n
  have hd : Bd 61 d := hq.d
  have pb : 0 < b := hp.pos
  have pd : 0 < d := hq.pos
  refine ⟨cmb ha hc2, cmb hb hd, ⟨Int.ne_of_gt (Int.mul_pos pb pd), (ha.mul hc2).up (by decide), (hb.mul hd).up (by decide)⟩, q⟩
set_option maxHeartbeats 4000000 in
theorem ok_over {f : Addr} {fd : FuncData} (W : Fun K "over" "over" s_over f fd) (T : Bi mg)
    {f_reduced : Addr} {fd_reduced : FuncData} (G_reduced : FnG P w K mg base CX0 1 f_reduced fd_reduced ["n", "d"] (spP K [.d, .d] S_reduced)) (g_reduced : mg "reduced" = some (.ref f_reduced)) (k_reduced : PySem.W.keepIn K (.ref f_reduced) = true) (b_reduced : Binds K fd_reduced ["n", "d"] []) :
    FnG P w K mg base CX0 2 f fd ["one", "other"] (spP K [.d, .d] S_over) := by
  refine fnP W sc_over rfl fun cdv A out s H E Nn hr hgd => ⟨_, _, (dss_one (ds_ret (pd_callP G_reduced m_reduced (hr.mono (by decide)) hgd rfl g_reduced k_reduced b_reduced (pda_cons (pd_mul (pd_ix (pdv 0) pd_int (fun _ _ => rfl)) (pd_ix (pdv 1) pd_int (fun _ _ => rfl))) (pda_cons (pd_mul (pd_ix (pdv 0) pd_int (fun _ _ => rfl)) (pd_ix (pdv 1) pd_int (fun _ _ => rfl))) pda_nil))))), ?_⟩
  rintro xs Q hl ⟨⟨a, b⟩, ⟨c, d⟩, rfl, hp, hq, hc, q⟩
  have e : rhoP nm_over.length [Kd.d, Kd.d] [enc (a, b), enc (c, d)] = [some (.d (.tuple [.int a, .int b])), some (.d (.tuple [.int c, .int d]))] := rfl
  rw [e]
  simp only [dSeq, dAsg, dCB, dCons, dNil, dVar, onVs, vals, val, slot, setR, fGcd, dIfS, dTV, dOp, dBin, onV2, fLt, fLe, fGt, fGe, fAdd, fSub, fMul, fDiv, fMod, fI0, dC, dUn, onV, fNeg, dNext, dRet, dTup, onD, dats, fDivZ, fI, fPow, Few, retP, fAbs, fInt, fMax, fMin, fLen, fSqrt, fEq, fNe, dNot, dAnd, dOr, dAndV, dOrV, dNotV, dIfE, dDrop, dRetN, dPar, noO, dSetL, dLst, dOfL, dOwnM, onOwn, onDat, kAppend, kInsert, dSetItem, dAddItem, dIx, onItems, items, onInt, dNoPart, dPart, dSlice, onL, litems, dSlL, dCat, onM, mitems, dTupOf, dSeqI, dRng1, dRng2, dCallP, dCallB, dCallF, noSelf, onArgs, dats2, dIsi, tyName, dYes, dgTup, dgCons, dgNil, retB, dBreak, dCont, ne_eq, not_false_eq_true, true_and, and_true, List.getElem?_cons_zero, List.getElem?_cons_succ, List.set_cons_zero, List.set_cons_succ, Option.map, List.length_cons, List.length_nil, on0, on1, S_reduced]
  have ha : Bd 61 a := hp.n
  have hb : Bd 61 b := hp.d
  have hc2 : Bd 61 c := hq.n
  have hd : Bd 61 d := hq.d
  have pb : 0 < b := hp.pos
  have pd : 0 < d := hq.pos
  have hc0 : c ≠ 0 := hc
  refine ⟨cmb ha hd, cmb hb hc2, ⟨Int.mul_ne_zero (by omega) hc0, (ha.mul hd).up (by decide), (hb.mul hc2).up (by decide)⟩, q⟩
set_option maxHeartbeats 4000000 in
theorem ok_least_of {f : Addr} {fd : FuncData} (W : Fun K "least_of" "least_of" s_least_of f fd) (T : Bi mg)
    {f_compared : Addr} {fd_compared : FuncData} (G_compared : FnG P w K mg base CX0 1 f_compared fd_compared ["one", "other"] (spP K [.d, .d] S_compared)) (g_compared : mg "compared" = some (.ref f_compared)) (k_compared : PySem.W.keepIn K (.ref f_compared) = true) (b_compared : Binds K fd_compared ["one", "other"] []) :
    FnG P w K mg base CX0 2 f fd ["fractions"] (spP K [.d] S_least_of) := by
  refine fnP W sc_least_of rfl fun cdv A out s H E Nn hr hgd => ⟨_, _, (dss_cons (ds_set (i := 1) sc_least_of.nd (pd_ix (pdv 0) pd_int (fun _ _ => rfl)) fixP)
      (dss_cons (ds_for PassesOwn.never rfl (pdi_seq (pdv 0)) (pgd_name (i := 2) sc_least_of.nd) (dss_one (ds_if (pt_lt (pd_callP G_compared m_compared (hr.mono (by decide)) hgd rfl g_compared k_compared b_compared (pda_cons (pdv 2) (pda_cons (pdv 1) pda_nil))) pd_int) (dss_one (ds_set (i := 1) sc_least_of.nd (pdv 2) fixP)) dss_nil)) nofixP)
      (dss_one (ds_ret (pdv 1))))), ?_⟩
  rintro xs Q hl ⟨ps, hx, hne, hok, q⟩
  cases ps with
  | nil => exact absurd rfl hne
  | cons p0 ps0 =>
  have turn : ∀ (i : Nat) (x : PyData) (pre post : List Fr2), p0 :: ps0 = pre ++ post → i = pre.length → ((p0 :: ps0).map enc)[i]? = some x → ∃ p post', post = p :: post' ∧ x = enc p := fun i x pre post e1 e2 e3 => by
    rw [e1, e2, List.map_append, List.getElem?_append_right (by rw [List.length_map]; exact Nat.le_refl _), List.length_map, Nat.sub_self] at e3
    cases post with
    | nil => cases e3
    | cons p post' => cases e3; exact ⟨p, post', rfl, rfl⟩
  have okf : ∀ pre post : List Fr2, p0 :: ps0 = pre ++ post → Ok2 (pre.foldl (better (-1)) p0) := fun pre post e1 => by
    rcases pick_mem (s := (-1)) (ps := pre) (b := p0) with z | z
    · rw [z]; exact hok _ (List.mem_cons_self ..)
    · exact hok _ (by rw [e1]; exact List.mem_append_left _ z)
  rcases hx with rfl | rfl
  all_goals
    simp only [rhoP, entOf, List.zip_cons_cons, List.zip_nil_left, List.zip_nil_right, List.map_cons, List.map_nil, List.replicate, List.cons_append, List.nil_append, List.length_cons, List.length_nil, Nat.reduceAdd, Nat.reduceSub]
    simp only [dSeq, dAsg, dCB, dCons, dNil, dVar, onVs, vals, val, slot, setR, fGcd, dIfS, dTV, dOp, dBin, onV2, fLt, fLe, fGt, fGe, fAdd, fSub, fMul, fDiv, fMod, fI0, dC, dUn, onV, fNeg, dNext, dRet, dTup, onD, dats, fDivZ, fI, fPow, Few, retP, fAbs, fInt, fMax, fMin, fLen, fSqrt, fEq, fNe, dNot, dAnd, dOr, dAndV, dOrV, dNotV, dIfE, dDrop, dRetN, dPar, noO, dSetL, dLst, dOfL, dOwnM, onOwn, onDat, kAppend, kInsert, dSetItem, dAddItem, dIx, onItems, items, onInt, dNoPart, dPart, dSlice, onL, litems, dSlL, dCat, onM, mitems, dTupOf, dSeqI, dRng1, dRng2, dCallP, dCallB, dCallF, noSelf, onArgs, dats2, dIsi, tyName, dYes, dgTup, dgCons, dgNil, retB, dBreak, dCont, ne_eq, not_false_eq_true, true_and, and_true, List.getElem?_cons_zero, List.getElem?_cons_succ, List.set_cons_zero, List.set_cons_succ, Option.map, List.length_cons, List.length_nil, dFor, List.map_cons, on0]
    refine ⟨fun i ρ => ∃ w pre post u, p0 :: ps0 = pre ++ post ∧ i = pre.length ∧ ρ = [w, some (.d (enc (pre.foldl (better (-1)) p0))), u], ⟨_, [], p0 :: ps0, none, rfl, rfl, rfl⟩, ?_, ?_⟩
    · rintro i x ρ hx' ⟨w, pre, post, u, e1, e2, rfl⟩
      obtain ⟨p, post', rfl, rfl⟩ := turn i x pre post e1 e2 hx'
      have hp : Ok2 p := hok p (by rw [e1]; exact List.mem_append_right _ (List.mem_cons_self ..))
      simp only [dSeq, dAsg, dCB, dCons, dNil, dVar, onVs, vals, val, slot, setR, fGcd, dIfS, dTV, dOp, dBin, onV2, fLt, fLe, fGt, fGe, fAdd, fSub, fMul, fDiv, fMod, fI0, dC, dUn, onV, fNeg, dNext, dRet, dTup, onD, dats, fDivZ, fI, fPow, Few, retP, fAbs, fInt, fMax, fMin, fLen, fSqrt, fEq, fNe, dNot, dAnd, dOr, dAndV, dOrV, dNotV, dIfE, dDrop, dRetN, dPar, noO, dSetL, dLst, dOfL, dOwnM, onOwn, onDat, kAppend, kInsert, dSetItem, dAddItem, dIx, onItems, items, onInt, dNoPart, dPart, dSlice, onL, litems, dSlL, dCat, onM, mitems, dTupOf, dSeqI, dRng1, dRng2, dCallP, dCallB, dCallF, noSelf, onArgs, dats2, dIsi, tyName, dYes, dgTup, dgCons, dgNil, retB, dBreak, dCont, ne_eq, not_false_eq_true, true_and, and_true, List.getElem?_cons_zero, List.getElem?_cons_succ, List.set_cons_zero, List.set_cons_succ, Option.map, List.length_cons, List.length_nil, sh_int, eqv_int]
      refine ⟨p, pre.foldl (better (-1)) p0, rfl, hp, okf pre _ e1, trivial, ?_⟩
      have fe : (pre ++ [p]).foldl (better (-1)) p0 = better (-1) (pre.foldl (better (-1)) p0) p := by rw [List.foldl_append]; rfl
      have cv : cmpF p (pre.foldl (better (-1)) p0) = -1 ∨ cmpF p (pre.foldl (better (-1)) p0) = 0 ∨ cmpF p (pre.foldl (better (-1)) p0) = 1 := by
        unfold cmpF cmp3; split
        · exact .inl rfl
        · split
          · exact .inr (.inr rfl)
          · exact .inr (.inl rfl)
      refine ite_b (fun h => ?_) fun h => ?_
      · refine ⟨w, pre ++ [p], post', some (.d (enc p)), by rw [e1, List.append_assoc]; rfl, by rw [List.length_append, e2]; rfl, ?_⟩
        rw [fe, better_t (by omega)]
      · refine ⟨w, pre ++ [p], post', some (.d (enc p)), by rw [e1, List.append_assoc]; rfl, by rw [List.length_append, e2]; rfl, ?_⟩
        rw [fe, better_f (by omega)]
    · rintro ρ ⟨w, pre, post, u, e1, e2, rfl⟩
      have hpost : post = [] := by
        have z := congrArg List.length e1
        simp only [List.length_append, List.length_cons, List.length_map] at z e2
        exact List.length_eq_zero_iff.mp (by omega)
      subst hpost
      rw [List.append_nil] at e1
      subst e1
      simp only [dSeq, dAsg, dCB, dCons, dNil, dVar, onVs, vals, val, slot, setR, fGcd, dIfS, dTV, dOp, dBin, onV2, fLt, fLe, fGt, fGe, fAdd, fSub, fMul, fDiv, fMod, fI0, dC, dUn, onV, fNeg, dNext, dRet, dTup, onD, dats, fDivZ, fI, fPow, Few, retP, fAbs, fInt, fMax, fMin, fLen, fSqrt, fEq, fNe, dNot, dAnd, dOr, dAndV, dOrV, dNotV, dIfE, dDrop, dRetN, dPar, noO, dSetL, dLst, dOfL, dOwnM, onOwn, onDat, kAppend, kInsert, dSetItem, dAddItem, dIx, onItems, items, onInt, dNoPart, dPart, dSlice, onL, litems, dSlL, dCat, onM, mitems, dTupOf, dSeqI, dRng1, dRng2, dCallP, dCallB, dCallF, noSelf, onArgs, dats2, dIsi, tyName, dYes, dgTup, dgCons, dgNil, retB, dBreak, dCont, ne_eq, not_false_eq_true, true_and, and_true, List.getElem?_cons_zero, List.getElem?_cons_succ, List.set_cons_zero, List.set_cons_succ, Option.map, List.length_cons, List.length_nil]
      exact q
set_option maxHeartbeats 4000000 in
theorem ok_greatest_of {f : Addr} {fd : FuncData} (W : Fun K "greatest_of" "greatest_of" s_greatest_of f fd) (T : Bi mg)
    {f_compared : Addr} {fd_compared : FuncData} (G_compared : FnG P w K mg base CX0 1 f_compared fd_compared ["one", "other"] (spP K [.d, .d] S_compared)) (g_compared : mg "compared" = some (.ref f_compared)) (k_compared : PySem.W.keepIn K (.ref f_compared) = true) (b_compared : Binds K fd_compared ["one", "other"] []) :
    FnG P w K mg base CX0 2 f fd ["fractions"] (spP K [.d] S_greatest_of) := by
  refine fnP W sc_greatest_of rfl fun cdv A out s H E Nn hr hgd => ⟨_, _, (dss_cons (ds_set (i := 1) sc_greatest_of.nd (pd_ix (pdv 0) pd_int (fun _ _ => rfl)) fixP)
      (dss_cons (ds_for PassesOwn.never rfl (pdi_seq (pdv 0)) (pgd_name (i := 2) sc_greatest_of.nd) (dss_one (ds_if (pt_gt (pd_callP G_compared m_compared (hr.mono (by decide)) hgd rfl g_compared k_compared b_compared (pda_cons (pdv 2) (pda_cons (pdv 1) pda_nil))) pd_int) (dss_one (ds_set (i := 1) sc_greatest_of.nd (pdv 2) fixP)) dss_nil)) nofixP)
      (dss_one (ds_ret (pdv 1))))), ?_⟩
  rintro xs Q hl ⟨ps, hx, hne, hok, q⟩
  cases ps with
  | nil => exact absurd rfl hne
  | cons p0 ps0 =>
  have turn : ∀ (i : Nat) (x : PyData) (pre post : List Fr2), p0 :: ps0 = pre ++ post → i = pre.length → ((p0 :: ps0).map enc)[i]? = some x → ∃ p post', post = p :: post' ∧ x = enc p := fun i x pre post e1 e2 e3 => by
    rw [e1, e2, List.map_append, List.getElem?_append_right (by rw [List.length_map]; exact Nat.le_refl _), List.length_map, Nat.sub_self] at e3
    cases post with
    | nil => cases e3
    | cons p post' => cases e3; exact ⟨p, post', rfl, rfl⟩
  have okf : ∀ pre post : List Fr2, p0 :: ps0 = pre ++ post → Ok2 (pre.foldl (better (1)) p0) := fun pre post e1 => by
    rcases pick_mem (s := (1)) (ps := pre) (b := p0) with z | z
    · rw [z]; exact hok _ (List.mem_cons_self ..)
    · exact hok _ (by rw [e1]; exact List.mem_append_left _ z)
  rcases hx with rfl | rfl
  all_goals
    simp only [rhoP, entOf, List.zip_cons_cons, List.zip_nil_left, List.zip_nil_right, List.map_cons, List.map_nil, List.replicate, List.cons_append, List.nil_append, List.length_cons, List.length_nil, Nat.reduceAdd, Nat.reduceSub]
    simp only [dSeq, dAsg, dCB, dCons, dNil, dVar, onVs, vals, val, slot, setR, fGcd, dIfS, dTV, dOp, dBin, onV2, fLt, fLe, fGt, fGe, fAdd, fSub, fMul, fDiv, fMod, fI0, dC, dUn, onV, fNeg, dNext, dRet, dTup, onD, dats, fDivZ, fI, fPow, Few, retP, fAbs, fInt, fMax, fMin, fLen, fSqrt, fEq, fNe, dNot, dAnd, dOr, dAndV, dOrV, dNotV, dIfE, dDrop, dRetN, dPar, noO, dSetL, dLst, dOfL, dOwnM, onOwn, onDat, kAppend, kInsert, dSetItem, dAddItem, dIx, onItems, items, onInt, dNoPart, dPart, dSlice, onL, litems, dSlL, dCat, onM, mitems, dTupOf, dSeqI, dRng1, dRng2, dCallP, dCallB, dCallF, noSelf, onArgs, dats2, dIsi, tyName, dYes, dgTup, dgCons, dgNil, retB, dBreak, dCont, ne_eq, not_false_eq_true, true_and, and_true, List.getElem?_cons_zero, List.getElem?_cons_succ, List.set_cons_zero, List.set_cons_succ, Option.map, List.length_cons, List.length_nil, dFor, List.map_cons, on0]
    refine ⟨fun i ρ => ∃ w pre post u, p0 :: ps0 = pre ++ post ∧ i = pre.length ∧ ρ = [w, some (.d (enc (pre.foldl (better 1) p0))), u], ⟨_, [], p0 :: ps0, none, rfl, rfl, rfl⟩, ?_, ?_⟩
    · rintro i x ρ hx' ⟨w, pre, post, u, e1, e2, rfl⟩
      obtain ⟨p, post', rfl, rfl⟩ := turn i x pre post e1 e2 hx'
      have hp : Ok2 p := hok p (by rw [e1]; exact List.mem_append_right _ (List.mem_cons_self ..))
      simp only [dSeq, dAsg, dCB, dCons, dNil, dVar, onVs, vals, val, slot, setR, fGcd, dIfS, dTV, dOp, dBin, onV2, fLt, fLe, fGt, fGe, fAdd, fSub, fMul, fDiv, fMod, fI0, dC, dUn, onV, fNeg, dNext, dRet, dTup, onD, dats, fDivZ, fI, fPow, Few, retP, fAbs, fInt, fMax, fMin, fLen, fSqrt, fEq, fNe, dNot, dAnd, dOr, dAndV, dOrV, dNotV, dIfE, dDrop, dRetN, dPar, noO, dSetL, dLst, dOfL, dOwnM, onOwn, onDat, kAppend, kInsert, dSetItem, dAddItem, dIx, onItems, items, onInt, dNoPart, dPart, dSlice, onL, litems, dSlL, dCat, onM, mitems, dTupOf, dSeqI, dRng1, dRng2, dCallP, dCallB, dCallF, noSelf, onArgs, dats2, dIsi, tyName, dYes, dgTup, dgCons, dgNil, retB, dBreak, dCont, ne_eq, not_false_eq_true, true_and, and_true, List.getElem?_cons_zero, List.getElem?_cons_succ, List.set_cons_zero, List.set_cons_succ, Option.map, List.length_cons, List.length_nil, sh_int, eqv_int]
      refine ⟨p, pre.foldl (better (1)) p0, rfl, hp, okf pre _ e1, trivial, ?_⟩
      have fe : (pre ++ [p]).foldl (better (1)) p0 = better (1) (pre.foldl (better (1)) p0) p := by rw [List.foldl_append]; rfl
      have cv : cmpF p (pre.foldl (better (1)) p0) = -1 ∨ cmpF p (pre.foldl (better (1)) p0) = 0 ∨ cmpF p (pre.foldl (better (1)) p0) = 1 := by
        unfold cmpF cmp3; split
        · exact .inl rfl
        · split
          · exact .inr (.inr rfl)
          · exact .inr (.inl rfl)
      refine ite_b (fun h => ?_) fun h => ?_
      · refine ⟨w, pre ++ [p], post', some (.d (enc p)), by rw [e1, List.append_assoc]; rfl, by rw [List.length_append, e2]; rfl, ?_⟩
        rw [fe, better_t (by omega)]
      · refine ⟨w, pre ++ [p], post', some (.d (enc p)), by rw [e1, List.append_assoc]; rfl, by rw [List.length_append, e2]; rfl, ?_⟩
        rw [fe, better_f (by omega)]
    · rintro ρ ⟨w, pre, post, u, e1, e2, rfl⟩
      have hpost : post = [] := by
        have z := congrArg List.length e1
        simp only [List.length_append, List.length_cons, List.length_map] at z e2
        exact List.length_eq_zero_iff.mp (by omega)
      subst hpost
      rw [List.append_nil] at e1
      subst e1
      simp only [dSeq, dAsg, dCB, dCons, dNil, dVar, onVs, vals, val, slot, setR, fGcd, dIfS, dTV, dOp, dBin, onV2, fLt, fLe, fGt, fGe, fAdd, fSub, fMul, fDiv, fMod, fI0, dC, dUn, onV, fNeg, dNext, dRet, dTup, onD, dats, fDivZ, fI, fPow, Few, retP, fAbs, fInt, fMax, fMin, fLen, fSqrt, fEq, fNe, dNot, dAnd, dOr, dAndV, dOrV, dNotV, dIfE, dDrop, dRetN, dPar, noO, dSetL, dLst, dOfL, dOwnM, onOwn, onDat, kAppend, kInsert, dSetItem, dAddItem, dIx, onItems, items, onInt, dNoPart, dPart, dSlice, onL, litems, dSlL, dCat, onM, mitems, dTupOf, dSeqI, dRng1, dRng2, dCallP, dCallB, dCallF, noSelf, onArgs, dats2, dIsi, tyName, dYes, dgTup, dgCons, dgNil, retB, dBreak, dCont, ne_eq, not_false_eq_true, true_and, and_true, List.getElem?_cons_zero, List.getElem?_cons_succ, List.set_cons_zero, List.set_cons_succ, Option.map, List.length_cons, List.length_nil]
      exact q
set_option maxHeartbeats 4000000 in
theorem ok__law_some {f : Addr} {fd : FuncData} (W : Fun K "_law_some" "_law_some" s__law_some f fd) (T : Bi mg)
    {f__law_take : Addr} {fd__law_take : FuncData} (G__law_take : FnG P w K mg base CX0 1 f__law_take fd__law_take ["_law_bag_here", "_law_many"] (spB K [.d] S__law_take)) (g__law_take : mg "_law_take" = some (.ref f__law_take)) (k__law_take : PySem.W.keepIn K (.ref f__law_take) = true) (b__law_take : Binds K fd__law_take ["_law_bag_here", "_law_many"] []) :
    FnG P w K mg base CX0 2 f fd ["_law_bag_here", "_law_things"] (spB K [.d] S__law_some) := by
  refine fnB W sc__law_some rfl fun cdv A out s H E Nn B hr hgd => ⟨_, _, (dss_one (ds_ret (pd_ix (pdv 1) (pd_callBag G__law_take m__law_take (hr.mono (by decide)) hgd rfl g__law_take k__law_take b__law_take (pda_cons (pdv 0) (pda_cons (pd_callB call_len_seq sc_len rfl T.b_len (by decide +kernel) (pda_cons (pdv 1) pda_nil)) pda_nil))) (fun _ _ => rfl)))), ?_⟩
  exact fun bag xs Q hl hS => rd_some hS
set_option maxHeartbeats 4000000 in
theorem ok__law_most {f : Addr} {fd : FuncData} (W : Fun K "_law_most" "_law_most" s__law_most f fd) (T : Bi mg)
    {f__law_sign : Addr} {fd__law_sign : FuncData} (G__law_sign : FnG P w K mg base CX0 1 f__law_sign fd__law_sign ["_law_one", "_law_other"] (spP K [.d, .d] S__law_sign)) (g__law_sign : mg "_law_sign" = some (.ref f__law_sign)) (k__law_sign : PySem.W.keepIn K (.ref f__law_sign) = true) (b__law_sign : Binds K fd__law_sign ["_law_one", "_law_other"] []) :
    FnG P w K mg base CX0 2 f fd ["_law_some_here", "_law_sign_here"] (spP K [.d, .d] S__law_most) := by
  refine fnP W sc__law_most rfl fun cdv A out s H E Nn hr hgd => ⟨_, _, (dss_cons (ds_set (i := 2) sc__law_most.nd (pd_ix (pdv 0) pd_int (fun _ _ => rfl)) fixP)
      (dss_cons (ds_for PassesOwn.never rfl (pdi_seq (pdv 0)) (pgd_name (i := 3) sc__law_most.nd) (dss_one (ds_set (i := 2) sc__law_most.nd (pd_ifExp (pt_eq hr.units rfl (pd_callP G__law_sign m__law_sign (hr.mono (by decide)) hgd rfl g__law_sign k__law_sign b__law_sign (pda_cons (pdv 3) (pda_cons (pdv 2) pda_nil))) (pdv 1)) (pdv 3) (pdv 2)) fixP)) nofixP)
      (dss_one (ds_ret (pdv 2))))), ?_⟩
  rintro xs Q hl ⟨ps, s, rfl, hne, hok, q⟩
  cases ps with
  | nil => exact absurd rfl hne
  | cons p0 ps0 =>
  have turn : ∀ (i : Nat) (x : PyData) (pre post : List Fr2), p0 :: ps0 = pre ++ post → i = pre.length → ((p0 :: ps0).map enc)[i]? = some x → ∃ p post', post = p :: post' ∧ x = enc p := fun i x pre post e1 e2 e3 => by
    rw [e1, e2, List.map_append, List.getElem?_append_right (by rw [List.length_map]; exact Nat.le_refl _), List.length_map, Nat.sub_self] at e3
    cases post with
    | nil => cases e3
    | cons p post' => cases e3; exact ⟨p, post', rfl, rfl⟩
  have okf : ∀ pre post : List Fr2, p0 :: ps0 = pre ++ post → Ok2 (pre.foldl (better (s)) p0) := fun pre post e1 => by
    rcases pick_mem (s := (s)) (ps := pre) (b := p0) with z | z
    · rw [z]; exact hok _ (List.mem_cons_self ..)
    · exact hok _ (by rw [e1]; exact List.mem_append_left _ z)
  skip
  all_goals
    simp only [rhoP, entOf, List.zip_cons_cons, List.zip_nil_left, List.zip_nil_right, List.map_cons, List.map_nil, List.replicate, List.cons_append, List.nil_append, List.length_cons, List.length_nil, Nat.reduceAdd, Nat.reduceSub]
    simp only [dSeq, dAsg, dCB, dCons, dNil, dVar, onVs, vals, val, slot, setR, fGcd, dIfS, dTV, dOp, dBin, onV2, fLt, fLe, fGt, fGe, fAdd, fSub, fMul, fDiv, fMod, fI0, dC, dUn, onV, fNeg, dNext, dRet, dTup, onD, dats, fDivZ, fI, fPow, Few, retP, fAbs, fInt, fMax, fMin, fLen, fSqrt, fEq, fNe, dNot, dAnd, dOr, dAndV, dOrV, dNotV, dIfE, dDrop, dRetN, dPar, noO, dSetL, dLst, dOfL, dOwnM, onOwn, onDat, kAppend, kInsert, dSetItem, dAddItem, dIx, onItems, items, onInt, dNoPart, dPart, dSlice, onL, litems, dSlL, dCat, onM, mitems, dTupOf, dSeqI, dRng1, dRng2, dCallP, dCallB, dCallF, noSelf, onArgs, dats2, dIsi, tyName, dYes, dgTup, dgCons, dgNil, retB, dBreak, dCont, ne_eq, not_false_eq_true, true_and, and_true, List.getElem?_cons_zero, List.getElem?_cons_succ, List.set_cons_zero, List.set_cons_succ, Option.map, List.length_cons, List.length_nil, dFor, List.map_cons, on0]
    refine ⟨fun i ρ => ∃ w pre post u, p0 :: ps0 = pre ++ post ∧ i = pre.length ∧ ρ = [w, some (.d (.int s)), some (.d (enc (pre.foldl (better s) p0))), u], ⟨_, [], p0 :: ps0, none, rfl, rfl, rfl⟩, ?_, ?_⟩
    · rintro i x ρ hx' ⟨w, pre, post, u, e1, e2, rfl⟩
      obtain ⟨p, post', rfl, rfl⟩ := turn i x pre post e1 e2 hx'
      have hp : Ok2 p := hok p (by rw [e1]; exact List.mem_append_right _ (List.mem_cons_self ..))
      simp only [dSeq, dAsg, dCB, dCons, dNil, dVar, onVs, vals, val, slot, setR, fGcd, dIfS, dTV, dOp, dBin, onV2, fLt, fLe, fGt, fGe, fAdd, fSub, fMul, fDiv, fMod, fI0, dC, dUn, onV, fNeg, dNext, dRet, dTup, onD, dats, fDivZ, fI, fPow, Few, retP, fAbs, fInt, fMax, fMin, fLen, fSqrt, fEq, fNe, dNot, dAnd, dOr, dAndV, dOrV, dNotV, dIfE, dDrop, dRetN, dPar, noO, dSetL, dLst, dOfL, dOwnM, onOwn, onDat, kAppend, kInsert, dSetItem, dAddItem, dIx, onItems, items, onInt, dNoPart, dPart, dSlice, onL, litems, dSlL, dCat, onM, mitems, dTupOf, dSeqI, dRng1, dRng2, dCallP, dCallB, dCallF, noSelf, onArgs, dats2, dIsi, tyName, dYes, dgTup, dgCons, dgNil, retB, dBreak, dCont, ne_eq, not_false_eq_true, true_and, and_true, List.getElem?_cons_zero, List.getElem?_cons_succ, List.set_cons_zero, List.set_cons_succ, Option.map, List.length_cons, List.length_nil, sh_int, eqv_int]
      refine ⟨p, pre.foldl (better (s)) p0, rfl, hp, okf pre _ e1, trivial, ?_⟩
      have fe : (pre ++ [p]).foldl (better (s)) p0 = better (s) (pre.foldl (better (s)) p0) p := by rw [List.foldl_append]; rfl
      have cv : cmpF p (pre.foldl (better (s)) p0) = -1 ∨ cmpF p (pre.foldl (better (s)) p0) = 0 ∨ cmpF p (pre.foldl (better (s)) p0) = 1 := by
        unfold cmpF cmp3; split
        · exact .inl rfl
        · split
          · exact .inr (.inr rfl)
          · exact .inr (.inl rfl)
      simp only [sh_int, eqv_int, true_and]
      refine ite_b (c := cmpF p (pre.foldl (better s) p0) = s) (fun h => ?_) fun h => ?_
      · refine ⟨w, pre ++ [p], post', some (.d (enc p)), by rw [e1, List.append_assoc]; rfl, by rw [List.length_append, e2]; rfl, ?_⟩
        rw [fe, better_t (by omega)]
      · refine ⟨w, pre ++ [p], post', some (.d (enc p)), by rw [e1, List.append_assoc]; rfl, by rw [List.length_append, e2]; rfl, ?_⟩
        rw [fe, better_f (by omega)]
    · rintro ρ ⟨w, pre, post, u, e1, e2, rfl⟩
      have hpost : post = [] := by
        have z := congrArg List.length e1
        simp only [List.length_append, List.length_cons, List.length_map] at z e2
        exact List.length_eq_zero_iff.mp (by omega)
      subst hpost
      rw [List.append_nil] at e1
      subst e1
      simp only [dSeq, dAsg, dCB, dCons, dNil, dVar, onVs, vals, val, slot, setR, fGcd, dIfS, dTV, dOp, dBin, onV2, fLt, fLe, fGt, fGe, fAdd, fSub, fMul, fDiv, fMod, fI0, dC, dUn, onV, fNeg, dNext, dRet, dTup, onD, dats, fDivZ, fI, fPow, Few, retP, fAbs, fInt, fMax, fMin, fLen, fSqrt, fEq, fNe, dNot, dAnd, dOr, dAndV, dOrV, dNotV, dIfE, dDrop, dRetN, dPar, noO, dSetL, dLst, dOfL, dOwnM, onOwn, onDat, kAppend, kInsert, dSetItem, dAddItem, dIx, onItems, items, onInt, dNoPart, dPart, dSlice, onL, litems, dSlL, dCat, onM, mitems, dTupOf, dSeqI, dRng1, dRng2, dCallP, dCallB, dCallF, noSelf, onArgs, dats2, dIsi, tyName, dYes, dgTup, dgCons, dgNil, retB, dBreak, dCont, ne_eq, not_false_eq_true, true_and, and_true, List.getElem?_cons_zero, List.getElem?_cons_succ, List.set_cons_zero, List.set_cons_succ, Option.map, List.length_cons, List.length_nil]
      exact q
set_option maxHeartbeats 4000000 in
theorem ok__law_number {f : Addr} {fd : FuncData} (W : Fun K "_law_number" "_law_number" s__law_number f fd) (T : Bi mg)
    {f__law_some : Addr} {fd__law_some : FuncData} (G__law_some : FnG P w K mg base CX0 2 f__law_some fd__law_some ["_law_bag_here", "_law_things"] (spB K [.d] S__law_some)) (g__law_some : mg "_law_some" = some (.ref f__law_some)) (k__law_some : PySem.W.keepIn K (.ref f__law_some) = true) (b__law_some : Binds K fd__law_some ["_law_bag_here", "_law_things"] [])
    {f__law_take : Addr} {fd__law_take : FuncData} (G__law_take : FnG P w K mg base CX0 1 f__law_take fd__law_take ["_law_bag_here", "_law_many"] (spB K [.d] S__law_take)) (g__law_take : mg "_law_take" = some (.ref f__law_take)) (k__law_take : PySem.W.keepIn K (.ref f__law_take) = true) (b__law_take : Binds K fd__law_take ["_law_bag_here", "_law_many"] []) :
    FnG P w K mg base CX0 3 f fd ["_law_bag_here"] (spB K [] S__law_number) := by
  refine fnB W sc__law_number rfl fun cdv A out s H E Nn B hr hgd => ⟨_, _, (dss_cons (ds_set (i := 1) sc__law_number.nd (pd_callBag G__law_some m__law_some (hr.mono (by decide)) hgd rfl g__law_some k__law_some b__law_some (pda_cons (pdv 0) (pda_cons (pd_l (pl_lst (pda_cons pd_int (pda_cons pd_int (pda_cons pd_int (pda_cons (pd_pow pd_int pd_int) (pda_cons (pd_pow pd_int pd_int) (pda_cons pd_int pda_nil)))))))) pda_nil))) (fixB (by decide)))
      (dss_one (ds_ret (pd_sub (pd_callBag G__law_take m__law_take (hr.mono (by decide)) hgd rfl g__law_take k__law_take b__law_take (pda_cons (pdv 0) (pda_cons (pd_add (pd_mul pd_int (pdv 1)) pd_int) pda_nil))) (pdv 1))))), ?_⟩
  rintro bag xs Q hl ⟨m, hb, hm, rfl, q⟩
  have e : (some (.own bag) :: rhoP (nm__law_number.length - 1) [] [] : Rho) = [some (.own bag), none] := rfl
  rw [e]
  simp only [dSeq, dAsg, dCB, dCons, dNil, dVar, onVs, vals, val, slot, setR, fGcd, dIfS, dTV, dOp, dBin, onV2, fLt, fLe, fGt, fGe, fAdd, fSub, fMul, fDiv, fMod, fI0, dC, dUn, onV, fNeg, dNext, dRet, dTup, onD, dats, fDivZ, fI, fPow, Few, retP, fAbs, fInt, fMax, fMin, fLen, fSqrt, fEq, fNe, dNot, dAnd, dOr, dAndV, dOrV, dNotV, dIfE, dDrop, dRetN, dPar, noO, dSetL, dLst, dOfL, dOwnM, onOwn, onDat, kAppend, kInsert, dSetItem, dAddItem, dIx, onItems, items, onInt, dNoPart, dPart, dSlice, onL, litems, dSlL, dCat, onM, mitems, dTupOf, dSeqI, dRng1, dRng2, dCallP, dCallB, dCallF, noSelf, onArgs, dats2, dIsi, tyName, dYes, dgTup, dgCons, dgNil, retB, dBreak, dCont, ne_eq, not_false_eq_true, true_and, and_true, List.getElem?_cons_zero, List.getElem?_cons_succ, List.set_cons_zero, List.set_cons_succ, Option.map, List.length_cons, List.length_nil]
  refine ⟨⟨by decide, by decide, by decide⟩, ⟨by decide, by decide, by decide⟩, few_le (by decide), m, _, hb, by omega, .inl rfl, by decide, by simp, fun y bag' hy hb' => ?_⟩
  have hs : ∃ s : Int, y = .int s ∧ 0 < s ∧ s ≤ 10 ^ 18 := by
    simp only [List.mem_cons, List.not_mem_nil, or_false] at hy
    rcases hy with rfl | rfl | rfl | rfl | rfl | rfl
    all_goals exact ⟨_, rfl, by decide, by decide⟩
  obtain ⟨s, rfl, h1, h2⟩ := hs
  refine ⟨cmb (j := 2) (k := 60) (by unfold Bd; decide) (by unfold Bd; omega), m + 1, _, hb', by omega, rfl, by omega, Nat.lt_of_lt_of_le (show (2 * s + 1).natAbs < 2 ^ 64 by omega) (Nat.pow_le_pow_right (by decide) (by decide)), fun v bag2 a1 a2 a3 => ?_⟩
  exact q _ _ (by unfold Bd; omega) a3
set_option maxHeartbeats 4000000 in
theorem ok__law_fraction {f : Addr} {fd : FuncData} (W : Fun K "_law_fraction" "_law_fraction" s__law_fraction f fd) (T : Bi mg)
    {f__law_number : Addr} {fd__law_number : FuncData} (G__law_number : FnG P w K mg base CX0 3 f__law_number fd__law_number ["_law_bag_here"] (spB K [] S__law_number)) (g__law_number : mg "_law_number" = some (.ref f__law_number)) (k__law_number : PySem.W.keepIn K (.ref f__law_number) = true) (b__law_number : Binds K fd__law_number ["_law_bag_here"] [])
    {f__law_lowest : Addr} {fd__law_lowest : FuncData} (G__law_lowest : FnG P w K mg base CX0 1 f__law_lowest fd__law_lowest ["_law_n", "_law_d"] (spP K [.d, .d] S__law_lowest)) (g__law_lowest : mg "_law_lowest" = some (.ref f__law_lowest)) (k__law_lowest : PySem.W.keepIn K (.ref f__law_lowest) = true) (b__law_lowest : Binds K fd__law_lowest ["_law_n", "_law_d"] []) :
    FnG P w K mg base CX0 4 f fd ["_law_bag_here"] (spB K [] S__law_fraction) := by
  refine fnB W sc__law_fraction rfl fun cdv A out s H E Nn B hr hgd => ⟨_, _, (dss_cons (ds_set (i := 1) sc__law_fraction.nd (pd_callBag G__law_number m__law_number (hr.mono (by decide)) hgd rfl g__law_number k__law_number b__law_number (pda_cons (pdv 0) pda_nil)) (fixB (by decide)))
      (dss_one (ds_ret (pd_callP G__law_lowest m__law_lowest (hr.mono (by decide)) hgd rfl g__law_lowest k__law_lowest b__law_lowest (pda_cons (pd_callBag G__law_number m__law_number (hr.mono (by decide)) hgd rfl g__law_number k__law_number b__law_number (pda_cons (pdv 0) pda_nil)) (pda_cons (pd_ifExp (pt_ne hr.units rfl (pdv 1) pd_int) (pdv 1) pd_int) pda_nil)))))), ?_⟩
  rintro bag xs Q hl ⟨m, hb, hm, rfl, q⟩
  have e : (some (.own bag) :: rhoP (nm__law_fraction.length - 1) [] [] : Rho) = [some (.own bag), none] := rfl
  rw [e]
  simp only [dSeq, dAsg, dCB, dCons, dNil, dVar, onVs, vals, val, slot, setR, fGcd, dIfS, dTV, dOp, dBin, onV2, fLt, fLe, fGt, fGe, fAdd, fSub, fMul, fDiv, fMod, fI0, dC, dUn, onV, fNeg, dNext, dRet, dTup, onD, dats, fDivZ, fI, fPow, Few, retP, fAbs, fInt, fMax, fMin, fLen, fSqrt, fEq, fNe, dNot, dAnd, dOr, dAndV, dOrV, dNotV, dIfE, dDrop, dRetN, dPar, noO, dSetL, dLst, dOfL, dOwnM, onOwn, onDat, kAppend, kInsert, dSetItem, dAddItem, dIx, onItems, items, onInt, dNoPart, dPart, dSlice, onL, litems, dSlL, dCat, onM, mitems, dTupOf, dSeqI, dRng1, dRng2, dCallP, dCallB, dCallF, noSelf, onArgs, dats2, dIsi, tyName, dYes, dgTup, dgCons, dgNil, retB, dBreak, dCont, ne_eq, not_false_eq_true, true_and, and_true, List.getElem?_cons_zero, List.getElem?_cons_succ, List.set_cons_zero, List.set_cons_succ, Option.map, List.length_cons, List.length_nil]
  refine ⟨m, hb, by omega, rfl, fun v bag1 hv hb1 => ?_⟩
  refine ⟨m + 2, hb1, by omega, rfl, fun u bag2 hu hb2 => ?_⟩
  simp only [dSeq, dAsg, dCB, dCons, dNil, dVar, onVs, vals, val, slot, setR, fGcd, dIfS, dTV, dOp, dBin, onV2, fLt, fLe, fGt, fGe, fAdd, fSub, fMul, fDiv, fMod, fI0, dC, dUn, onV, fNeg, dNext, dRet, dTup, onD, dats, fDivZ, fI, fPow, Few, retP, fAbs, fInt, fMax, fMin, fLen, fSqrt, fEq, fNe, dNot, dAnd, dOr, dAndV, dOrV, dNotV, dIfE, dDrop, dRetN, dPar, noO, dSetL, dLst, dOfL, dOwnM, onOwn, onDat, kAppend, kInsert, dSetItem, dAddItem, dIx, onItems, items, onInt, dNoPart, dPart, dSlice, onL, litems, dSlL, dCat, onM, mitems, dTupOf, dSeqI, dRng1, dRng2, dCallP, dCallB, dCallF, noSelf, onArgs, dats2, dIsi, tyName, dYes, dgTup, dgCons, dgNil, retB, dBreak, dCont, ne_eq, not_false_eq_true, true_and, and_true, List.getElem?_cons_zero, List.getElem?_cons_succ, List.set_cons_zero, List.set_cons_succ, Option.map, List.length_cons, List.length_nil, sh_int, eqv_int, S_reduced]
  have fin : ∀ d : Int, d ≠ 0 → Bd 60 d → (d ≠ 0 ∧ Bd 200 u ∧ Bd 200 d) ∧ Q (fr u d) bag2 := fun d h0 hd =>
    ⟨⟨h0, hu.up (by decide), hd.up (by decide)⟩, q (fnu u d, fde u d) bag2 ⟨(fnu_bd h0 hu).up (by decide), (fde_bd h0 hd).up (by decide), fde_pos h0⟩ hb2⟩
  refine ite_n (fun h => fin v h hv) fun h => fin 1 (by decide) (by unfold Bd; decide)
set_option maxHeartbeats 4000000 in
theorem ok_law {f : Addr} {fd : FuncData} (W : Fun K "law" "law" s_law f fd) (T : Bi mg)
    {f__law_bag : Addr} {fd__law_bag : FuncData} (G__law_bag : FnG P w K mg base CX0 1 f__law_bag fd__law_bag ["_law_script"] (spF K [.ro] S__law_bag)) (g__law_bag : mg "_law_bag" = some (.ref f__law_bag)) (k__law_bag : PySem.W.keepIn K (.ref f__law_bag) = true) (b__law_bag : Binds K fd__law_bag ["_law_script"] [])
    {f__law_some : Addr} {fd__law_some : FuncData} (G__law_some : FnG P w K mg base CX0 2 f__law_some fd__law_some ["_law_bag_here", "_law_things"] (spB K [.d] S__law_some)) (g__law_some : mg "_law_some" = some (.ref f__law_some)) (k__law_some : PySem.W.keepIn K (.ref f__law_some) = true) (b__law_some : Binds K fd__law_some ["_law_bag_here", "_law_things"] [])
    {f_root_floor : Addr} {fd_root_floor : FuncData} (G_root_floor : FnG P w K mg base CX0 1 f_root_floor fd_root_floor ["n"] (spP K [.d] S_root_floor)) (g_root_floor : mg "root_floor" = some (.ref f_root_floor)) (k_root_floor : PySem.W.keepIn K (.ref f_root_floor) = true) (b_root_floor : Binds K fd_root_floor ["n"] [])
    {f__law_fraction : Addr} {fd__law_fraction : FuncData} (G__law_fraction : FnG P w K mg base CX0 4 f__law_fraction fd__law_fraction ["_law_bag_here"] (spB K [] S__law_fraction)) (g__law_fraction : mg "_law_fraction" = some (.ref f__law_fraction)) (k__law_fraction : PySem.W.keepIn K (.ref f__law_fraction) = true) (b__law_fraction : Binds K fd__law_fraction ["_law_bag_here"] [])
    {f__law_number : Addr} {fd__law_number : FuncData} (G__law_number : FnG P w K mg base CX0 3 f__law_number fd__law_number ["_law_bag_here"] (spB K [] S__law_number)) (g__law_number : mg "_law_number" = some (.ref f__law_number)) (k__law_number : PySem.W.keepIn K (.ref f__law_number) = true) (b__law_number : Binds K fd__law_number ["_law_bag_here"] [])
    {f_added : Addr} {fd_added : FuncData} (G_added : FnG P w K mg base CX0 2 f_added fd_added ["one", "other"] (spP K [.d, .d] S_added)) (g_added : mg "added" = some (.ref f_added)) (k_added : PySem.W.keepIn K (.ref f_added) = true) (b_added : Binds K fd_added ["one", "other"] [])
    {f_lessened : Addr} {fd_lessened : FuncData} (G_lessened : FnG P w K mg base CX0 2 f_lessened fd_lessened ["one", "other"] (spP K [.d, .d] S_lessened)) (g_lessened : mg "lessened" = some (.ref f_lessened)) (k_lessened : PySem.W.keepIn K (.ref f_lessened) = true) (b_lessened : Binds K fd_lessened ["one", "other"] [])
    {f_times : Addr} {fd_times : FuncData} (G_times : FnG P w K mg base CX0 2 f_times fd_times ["one", "other"] (spP K [.d, .d] S_times)) (g_times : mg "times" = some (.ref f_times)) (k_times : PySem.W.keepIn K (.ref f_times) = true) (b_times : Binds K fd_times ["one", "other"] [])
    {f_compared : Addr} {fd_compared : FuncData} (G_compared : FnG P w K mg base CX0 1 f_compared fd_compared ["one", "other"] (spP K [.d, .d] S_compared)) (g_compared : mg "compared" = some (.ref f_compared)) (k_compared : PySem.W.keepIn K (.ref f_compared) = true) (b_compared : Binds K fd_compared ["one", "other"] [])
    {f__law_lowest : Addr} {fd__law_lowest : FuncData} (G__law_lowest : FnG P w K mg base CX0 1 f__law_lowest fd__law_lowest ["_law_n", "_law_d"] (spP K [.d, .d] S__law_lowest)) (g__law_lowest : mg "_law_lowest" = some (.ref f__law_lowest)) (k__law_lowest : PySem.W.keepIn K (.ref f__law_lowest) = true) (b__law_lowest : Binds K fd__law_lowest ["_law_n", "_law_d"] [])
    {f_clipped : Addr} {fd_clipped : FuncData} (G_clipped : FnG P w K mg base CX0 1 f_clipped fd_clipped ["one"] (spP K [.d] S_clipped)) (g_clipped : mg "clipped" = some (.ref f_clipped)) (k_clipped : PySem.W.keepIn K (.ref f_clipped) = true) (b_clipped : Binds K fd_clipped ["one"] [])
    {f__law_take : Addr} {fd__law_take : FuncData} (G__law_take : FnG P w K mg base CX0 1 f__law_take fd__law_take ["_law_bag_here", "_law_many"] (spB K [.d] S__law_take)) (g__law_take : mg "_law_take" = some (.ref f__law_take)) (k__law_take : PySem.W.keepIn K (.ref f__law_take) = true) (b__law_take : Binds K fd__law_take ["_law_bag_here", "_law_many"] [])
    {f__law_sign : Addr} {fd__law_sign : FuncData} (G__law_sign : FnG P w K mg base CX0 1 f__law_sign fd__law_sign ["_law_one", "_law_other"] (spP K [.d, .d] S__law_sign)) (g__law_sign : mg "_law_sign" = some (.ref f__law_sign)) (k__law_sign : PySem.W.keepIn K (.ref f__law_sign) = true) (b__law_sign : Binds K fd__law_sign ["_law_one", "_law_other"] [])
    {f_reduced : Addr} {fd_reduced : FuncData} (G_reduced : FnG P w K mg base CX0 1 f_reduced fd_reduced ["n", "d"] (spP K [.d, .d] S_reduced)) (g_reduced : mg "reduced" = some (.ref f_reduced)) (k_reduced : PySem.W.keepIn K (.ref f_reduced) = true) (b_reduced : Binds K fd_reduced ["n", "d"] [])
    {f_over : Addr} {fd_over : FuncData} (G_over : FnG P w K mg base CX0 2 f_over fd_over ["one", "other"] (spP K [.d, .d] S_over)) (g_over : mg "over" = some (.ref f_over)) (k_over : PySem.W.keepIn K (.ref f_over) = true) (b_over : Binds K fd_over ["one", "other"] [])
    {f_least_of : Addr} {fd_least_of : FuncData} (G_least_of : FnG P w K mg base CX0 2 f_least_of fd_least_of ["fractions"] (spP K [.d] S_least_of)) (g_least_of : mg "least_of" = some (.ref f_least_of)) (k_least_of : PySem.W.keepIn K (.ref f_least_of) = true) (b_least_of : Binds K fd_least_of ["fractions"] [])
    {f_greatest_of : Addr} {fd_greatest_of : FuncData} (G_greatest_of : FnG P w K mg base CX0 2 f_greatest_of fd_greatest_of ["fractions"] (spP K [.d] S_greatest_of)) (g_greatest_of : mg "greatest_of" = some (.ref f_greatest_of)) (k_greatest_of : PySem.W.keepIn K (.ref f_greatest_of) = true) (b_greatest_of : Binds K fd_greatest_of ["fractions"] [])
    {f_floor_of : Addr} {fd_floor_of : FuncData} (G_floor_of : FnG P w K mg base CX0 1 f_floor_of fd_floor_of ["one"] (spP K [.d] S_floor_of)) (g_floor_of : mg "floor_of" = some (.ref f_floor_of)) (k_floor_of : PySem.W.keepIn K (.ref f_floor_of) = true) (b_floor_of : Binds K fd_floor_of ["one"] [])
    {f__law_most : Addr} {fd__law_most : FuncData} (G__law_most : FnG P w K mg base CX0 2 f__law_most fd__law_most ["_law_some_here", "_law_sign_here"] (spP K [.d, .d] S__law_most)) (g__law_most : mg "_law_most" = some (.ref f__law_most)) (k__law_most : PySem.W.keepIn K (.ref f__law_most) = true) (b__law_most : Binds K fd__law_most ["_law_some_here", "_law_sign_here"] [])
    {f__law_alike : Addr} {fd__law_alike : FuncData} (G__law_alike : FnG P w K mg base CX0 1 f__law_alike fd__law_alike ["_law_found", "_law_due"] (spP K [.ro, .ro] S__law_alike)) (g__law_alike : mg "_law_alike" = some (.ref f__law_alike)) (k__law_alike : PySem.W.keepIn K (.ref f__law_alike) = true) (b__law_alike : Binds K fd__law_alike ["_law_found", "_law_due"] [])
    {f__law_is_int : Addr} {fd__law_is_int : FuncData} (G__law_is_int : FnG P w K mg base CX0 1 f__law_is_int fd__law_is_int ["_law_thing"] (spP K [.d] S__law_is_int)) (g__law_is_int : mg "_law_is_int" = some (.ref f__law_is_int)) (k__law_is_int : PySem.W.keepIn K (.ref f__law_is_int) = true) (b__law_is_int : Binds K fd__law_is_int ["_law_thing"] []) :
    FnG P w K mg base CX0 5 f fd ["_law_script"] (spP K [.ro] S_law) := by
  refine fnP W sc_law rfl fun cdv A out s H E Nn hr hgd => ⟨_, _, (dss_cons (ds_setL (i := 1) sc_law.nd (pl_callF G__law_bag m__law_bag (hr.mono (by decide)) hgd rfl g__law_bag k__law_bag b__law_bag (pda_cons (pdv 0) pda_nil)) fixP)
      (dss_cons (ds_for PassesOwn.never rfl (pdi_range1 rfl T.b_range (pda_cons pd_int pda_nil)) (pgd_name (i := 2) sc_law.nd) (dss_cons (ds_par (i := 3) (j := 4) rfl sc_law.nd (pda_cons (pd_callBag G__law_fraction m__law_fraction (hr.mono (by decide)) hgd rfl g__law_fraction k__law_fraction b__law_fraction (pda_cons (pdv 1) pda_nil)) (pda_cons (pd_callBag G__law_fraction m__law_fraction (hr.mono (by decide)) hgd rfl g__law_fraction k__law_fraction b__law_fraction (pda_cons (pdv 1) pda_nil)) pda_nil)) fixP fixP)
      (dss_cons (ds_set (i := 4) sc_law.nd (pd_ifExp (pt_eq hr.units rfl (pd_callBag G__law_take m__law_take (hr.mono (by decide)) hgd rfl g__law_take k__law_take b__law_take (pda_cons (pdv 1) (pda_cons pd_int pda_nil))) pd_int) (pdv 3) (pdv 4)) fixP)
      (dss_cons (ds_par (i := 5) (j := 6) rfl sc_law.nd (pda_cons (pd_callBag G__law_number m__law_number (hr.mono (by decide)) hgd rfl g__law_number k__law_number b__law_number (pda_cons (pdv 1) pda_nil)) (pda_cons (pd_callBag G__law_number m__law_number (hr.mono (by decide)) hgd rfl g__law_number k__law_number b__law_number (pda_cons (pdv 1) pda_nil)) pda_nil)) fixP fixP)
      (dss_cons (ds_setL (i := 7) sc_law.nd (pl_lst (pda_cons (pd_callP G_added m_added (hr.mono (by decide)) hgd rfl g_added k_added b_added (pda_cons (pdv 3) (pda_cons (pdv 4) pda_nil))) (pda_cons (pd_callP G_lessened m_lessened (hr.mono (by decide)) hgd rfl g_lessened k_lessened b_lessened (pda_cons (pdv 3) (pda_cons (pdv 4) pda_nil))) (pda_cons (pd_callP G_times m_times (hr.mono (by decide)) hgd rfl g_times k_times b_times (pda_cons (pdv 3) (pda_cons (pdv 4) pda_nil))) (pda_cons (pd_callP G_compared m_compared (hr.mono (by decide)) hgd rfl g_compared k_compared b_compared (pda_cons (pdv 3) (pda_cons (pdv 4) pda_nil))) pda_nil))))) fixP)
      (dss_cons (ds_setL (i := 8) sc_law.nd (pl_lst (pda_cons (pd_callP G__law_lowest m__law_lowest (hr.mono (by decide)) hgd rfl g__law_lowest k__law_lowest b__law_lowest (pda_cons (pd_add (pd_mul (pd_ix (pdv 3) pd_int (fun _ _ => rfl)) (pd_ix (pdv 4) pd_int (fun _ _ => rfl))) (pd_mul (pd_ix (pdv 4) pd_int (fun _ _ => rfl)) (pd_ix (pdv 3) pd_int (fun _ _ => rfl)))) (pda_cons (pd_mul (pd_ix (pdv 3) pd_int (fun _ _ => rfl)) (pd_ix (pdv 4) pd_int (fun _ _ => rfl))) pda_nil))) pda_nil)) fixP)
      (dss_cons (ds_expr (pd_append (i := 8) (pda_cons (pd_callP G__law_lowest m__law_lowest (hr.mono (by decide)) hgd rfl g__law_lowest k__law_lowest b__law_lowest (pda_cons (pd_sub (pd_mul (pd_ix (pdv 3) pd_int (fun _ _ => rfl)) (pd_ix (pdv 4) pd_int (fun _ _ => rfl))) (pd_mul (pd_ix (pdv 4) pd_int (fun _ _ => rfl)) (pd_ix (pdv 3) pd_int (fun _ _ => rfl)))) (pda_cons (pd_mul (pd_ix (pdv 3) pd_int (fun _ _ => rfl)) (pd_ix (pdv 4) pd_int (fun _ _ => rfl))) pda_nil))) pda_nil)))
      (dss_cons (ds_setL (i := 8) sc_law.nd (pl_cat (pdv 8) (pd_l (pl_lst (pda_cons (pd_callP G__law_lowest m__law_lowest (hr.mono (by decide)) hgd rfl g__law_lowest k__law_lowest b__law_lowest (pda_cons (pd_mul (pd_ix (pdv 3) pd_int (fun _ _ => rfl)) (pd_ix (pdv 4) pd_int (fun _ _ => rfl))) (pda_cons (pd_mul (pd_ix (pdv 3) pd_int (fun _ _ => rfl)) (pd_ix (pdv 4) pd_int (fun _ _ => rfl))) pda_nil))) (pda_cons (pd_callP G__law_sign m__law_sign (hr.mono (by decide)) hgd rfl g__law_sign k__law_sign b__law_sign (pda_cons (pdv 3) (pda_cons (pdv 4) pda_nil))) pda_nil))))) fixP)
      (dss_cons (ds_if (pt_ne hr.units rfl (pdv 6) pd_int) (dss_cons (ds_expr (pd_append (i := 7) (pda_cons (pd_callP G_reduced m_reduced (hr.mono (by decide)) hgd rfl g_reduced k_reduced b_reduced (pda_cons (pdv 5) (pda_cons (pdv 6) pda_nil))) pda_nil)))
      (dss_one (ds_expr (pd_append (i := 8) (pda_cons (pd_callP G__law_lowest m__law_lowest (hr.mono (by decide)) hgd rfl g__law_lowest k__law_lowest b__law_lowest (pda_cons (pdv 5) (pda_cons (pdv 6) pda_nil))) pda_nil))))) dss_nil)
      (dss_cons (ds_if (pt_ne hr.units rfl (pd_ix (pdv 4) pd_int (fun _ _ => rfl)) pd_int) (dss_cons (ds_expr (pd_append (i := 7) (pda_cons (pd_callP G_over m_over (hr.mono (by decide)) hgd rfl g_over k_over b_over (pda_cons (pdv 3) (pda_cons (pdv 4) pda_nil))) pda_nil)))
      (dss_one (ds_expr (pd_append (i := 8) (pda_cons (pd_callP G__law_lowest m__law_lowest (hr.mono (by decide)) hgd rfl g__law_lowest k__law_lowest b__law_lowest (pda_cons (pd_mul (pd_ix (pdv 3) pd_int (fun _ _ => rfl)) (pd_ix (pdv 4) pd_int (fun _ _ => rfl))) (pda_cons (pd_mul (pd_ix (pdv 3) pd_int (fun _ _ => rfl)) (pd_ix (pdv 4) pd_int (fun _ _ => rfl))) pda_nil))) pda_nil))))) dss_nil)
      (dss_cons (ds_set (i := 9) sc_law.nd (pd_l (pl_cat (pd_l (pl_lc (own := [("_law_more", 10)]) rfl sc_law.nd (pdi_range1 rfl T.b_range (pda_cons (pd_callBag G__law_some m__law_some (hr.mono (by decide)) hgd rfl g__law_some k__law_some b__law_some (pda_cons (pdv 1) (pda_cons (pd_l (pl_lst (pda_cons pd_int (pda_cons pd_int (pda_cons pd_int pda_nil))))) pda_nil))) pda_nil)) (blkOk_by (own := [("_law_more", 10)]) (N := nm_law) (sc := defScope s_law) (by decide +kernel)) (fun _ _ _ _ _ => (pgd_name (i := 10) sc_law.nd)) (fun _ _ _ _ _ => dts_nil) (fun _ _ _ _ _ => (pd_callBag G__law_fraction m__law_fraction (hr.mono (by decide)) hgd rfl g__law_fraction k__law_fraction b__law_fraction (pda_cons (pdv 1) pda_nil))))) (pd_l (pl_lst (pda_cons (pdv 3) (pda_cons (pdv 4) pda_nil)))))) fixP)
      (dss_cons (ds_setL (i := 7) sc_law.nd (pl_cat (pdv 7) (pd_l (pl_lst (pda_cons (pd_callP G_least_of m_least_of (hr.mono (by decide)) hgd rfl g_least_of k_least_of b_least_of (pda_cons (pdv 9) pda_nil)) (pda_cons (pd_callP G_greatest_of m_greatest_of (hr.mono (by decide)) hgd rfl g_greatest_of k_greatest_of b_greatest_of (pda_cons (pd_tupleOf rfl T.b_tuple (pda_cons (pdv 9) pda_nil)) pda_nil)) (pda_cons (pd_callP G_floor_of m_floor_of (hr.mono (by decide)) hgd rfl g_floor_of k_floor_of b_floor_of (pda_cons (pdv 3) pda_nil)) pda_nil)))))) fixP)
      (dss_cons (ds_setL (i := 8) sc_law.nd (pl_cat (pdv 8) (pd_l (pl_lst (pda_cons (pd_callP G__law_most m__law_most (hr.mono (by decide)) hgd rfl g__law_most k__law_most b__law_most (pda_cons (pdv 9) (pda_cons (pd_neg pd_int) pda_nil))) (pda_cons (pd_callP G__law_most m__law_most (hr.mono (by decide)) hgd rfl g__law_most k__law_most b__law_most (pda_cons (pdv 9) (pda_cons pd_int pda_nil))) (pda_cons (pd_div (pd_ix (pdv 3) pd_int (fun _ _ => rfl)) (pd_ix (pdv 3) pd_int (fun _ _ => rfl))) pda_nil)))))) fixP)
      (dss_cons (ds_expr (pd_append (i := 7) (pda_cons (pd_callP G_clipped m_clipped (hr.mono (by decide)) hgd rfl g_clipped k_clipped b_clipped (pda_cons (pdv 3) pda_nil)) pda_nil)))
      (dss_cons (ds_expr (pd_append (i := 8) (pda_cons (pd_ifExp (pt_lt (pd_ix (pdv 3) pd_int (fun _ _ => rfl)) pd_int) (pd_tup (pda_cons pd_int (pda_cons pd_int pda_nil))) (pd_ifExp (pt_gt (pd_ix (pdv 3) pd_int (fun _ _ => rfl)) (pd_ix (pdv 3) pd_int (fun _ _ => rfl))) (pd_tup (pda_cons pd_int (pda_cons pd_int pda_nil))) (pdv 3))) pda_nil)))
      (dss_cons (ds_set (i := 11) sc_law.nd (pd_callBag G__law_some m__law_some (hr.mono (by decide)) hgd rfl g__law_some k__law_some b__law_some (pda_cons (pdv 1) (pda_cons (pd_l (pl_lst (pda_cons (pd_callB call_abs sc_abs rfl T.b_abs (by decide +kernel) (pda_cons (pdv 5) pda_nil)) (pda_cons (pd_mul (pdv 5) (pdv 5)) (pda_cons (pd_add (pd_mul (pdv 5) (pdv 5)) pd_int) (pda_cons (pd_callB (call_max2 rfl) sc_max rfl T.b_max (by decide +kernel) (pda_cons pd_int (pda_cons (pd_sub (pd_mul (pdv 5) (pdv 5)) pd_int) pda_nil))) (pda_cons pd_int (pda_cons pd_int (pda_cons pd_int (pda_cons pd_int pda_nil)))))))))) pda_nil))) fixP)
      (dss_cons (ds_set (i := 12) sc_law.nd (pd_callP G_root_floor m_root_floor (hr.mono (by decide)) hgd rfl g_root_floor k_root_floor b_root_floor (pda_cons (pdv 11) pda_nil)) fixP)
      (dss_cons (ds_if (pt_w (pwd_or (pt_no (pt_v (pd_callP G__law_alike m__law_alike (hr.mono (by decide)) hgd rfl g__law_alike k__law_alike b__law_alike (pda_cons (pdv 7) (pda_cons (pdv 8) pda_nil))))) (pwd_or1 (pt_no (pt_v (pd_callP G__law_is_int m__law_is_int (hr.mono (by decide)) hgd rfl g__law_is_int k__law_is_int b__law_is_int (pda_cons (pdv 12) pda_nil))))))) (dss_one (ds_ret pd_bl)) dss_nil)
      (dss_one (ds_if (pt_w (pwd_or (pt_lt (pdv 12) pd_int) (pwd_or (pt_gt (pd_mul (pdv 12) (pdv 12)) (pdv 11)) (pwd_or1 (pt_le (pd_mul (pd_add (pdv 12) pd_int) (pd_add (pdv 12) pd_int)) (pdv 11)))))) (dss_one (ds_ret pd_bl)) dss_nil))))))))))))))))))) nofixP)
      (dss_one (ds_ret pd_bl)))), ?_⟩
  rintro xs Q hl ⟨ns, rfl, q⟩
  have e : rhoP nm_law.length [Kd.ro] [.list (ns.map .int)] = [some (.ro (.list (ns.map .int))), none, none, none, none, none, none, none, none, none, none, none, none] := rfl
  rw [e]
  refine seqI fun k hk => ?_
  simp only [dSeq, dAsg, dCB, dCons, dNil, dVar, onVs, vals, val, slot, setR, fGcd, dIfS, dTV, dOp, dBin, onV2, fLt, fLe, fGt, fGe, fAdd, fSub, fMul, fDiv, fMod, fI0, dC, dUn, onV, fNeg, dNext, dRet, dTup, onD, dats, fDivZ, fI, fPow, Few, retP, fAbs, fInt, fMax, fMin, fLen, fSqrt, fEq, fNe, dNot, dAnd, dOr, dAndV, dOrV, dNotV, dIfE, dDrop, dRetN, dPar, noO, dSetL, dLst, dOfL, dOwnM, onOwn, onDat, kAppend, kInsert, dSetItem, dAddItem, dIx, onItems, items, onInt, dNoPart, dPart, dSlice, onL, litems, dSlL, dCat, onM, mitems, dTupOf, dSeqI, dRng1, dRng2, dCallP, dCallB, dCallF, noSelf, onArgs, dats2, dIsi, tyName, dYes, dgTup, dgCons, dgNil, retB, dBreak, dCont, ne_eq, not_false_eq_true, true_and, and_true, List.getElem?_cons_zero, List.getElem?_cons_succ, List.set_cons_zero, List.set_cons_succ, Option.map, List.length_cons, List.length_nil]
  refine ⟨ns, rfl, fun bag hb => ?_⟩
  rw [hk]
  refine seqI fun k2 hk2 => ?_
  simp only [dFor, dRng1, dCons, dC, dNil]
  refine ⟨⟨by decide, by decide⟩, ?_⟩
  refine ⟨fun i ρ => ∃ (m : Nat) (bag : List PyData) (x2 x3 x4 x5 x6 x7 x8 x9 x11 x12 : Option Ent), Bag m bag ∧ m ≤ i * 1000 ∧ ρ = [some (.ro (.list (ns.map .int))), some (.own bag), x2, x3, x4, x5, x6, x7, x8, x9, none, x11, x12], ⟨0, bag, none, none, none, none, none, none, none, none, none, none, hb, by omega, rfl⟩, ?_, ?_⟩
  · rintro i x ρ hx ⟨m, bag, x2, x3, x4, x5, x6, x7, x8, x9, x11, x12, hb, hm, rfl⟩
    have hi : i < 12 := by
      have := (List.getElem?_eq_some_iff.mp hx).1
      rw [rng_len] at this
      exact this
    simp only [setR, List.set_cons_succ, List.set_cons_zero]
    -- one, other
    refine seqI fun k1 hk1 => ?_
    simp only [dSeq, dAsg, dCB, dCons, dNil, dVar, onVs, vals, val, slot, setR, fGcd, dIfS, dTV, dOp, dBin, onV2, fLt, fLe, fGt, fGe, fAdd, fSub, fMul, fDiv, fMod, fI0, dC, dUn, onV, fNeg, dNext, dRet, dTup, onD, dats, fDivZ, fI, fPow, Few, retP, fAbs, fInt, fMax, fMin, fLen, fSqrt, fEq, fNe, dNot, dAnd, dOr, dAndV, dOrV, dNotV, dIfE, dDrop, dRetN, dPar, noO, dSetL, dLst, dOfL, dOwnM, onOwn, onDat, kAppend, kInsert, dSetItem, dAddItem, dIx, onItems, items, onInt, dNoPart, dPart, dSlice, onL, litems, dSlL, dCat, onM, mitems, dTupOf, dSeqI, dRng1, dRng2, dCallP, dCallB, dCallF, noSelf, onArgs, dats2, dIsi, tyName, dYes, dgTup, dgCons, dgNil, retB, dBreak, dCont, ne_eq, not_false_eq_true, true_and, and_true, List.getElem?_cons_zero, List.getElem?_cons_succ, List.set_cons_zero, List.set_cons_succ, Option.map, List.length_cons, List.length_nil]
    refine ⟨m, hb, by omega, rfl, fun p bag1 hp hb1 => ⟨m + 4, hb1, by omega, rfl, fun r bag2 hr hb2 => ?_⟩⟩
    rw [hk1]
    -- other = one, at times
    refine seqI fun k2 hk2 => ?_
    have c2 : ∀ (r : Fr2) (bag : List PyData), Ok2 r → Bag (m + 9) bag → k2 [some (.ro (.list (ns.map .int))), some (.own bag), some (.d x), some (.d (enc p)), some (.d (enc r)), x5, x6, x7, x8, x9, none, x11, x12] := by
      intro r bag hr hb
      rw [hk2]
      -- n, d
      refine seqI fun k3 hk3 => ?_
      simp only [dSeq, dAsg, dCB, dCons, dNil, dVar, onVs, vals, val, slot, setR, fGcd, dIfS, dTV, dOp, dBin, onV2, fLt, fLe, fGt, fGe, fAdd, fSub, fMul, fDiv, fMod, fI0, dC, dUn, onV, fNeg, dNext, dRet, dTup, onD, dats, fDivZ, fI, fPow, Few, retP, fAbs, fInt, fMax, fMin, fLen, fSqrt, fEq, fNe, dNot, dAnd, dOr, dAndV, dOrV, dNotV, dIfE, dDrop, dRetN, dPar, noO, dSetL, dLst, dOfL, dOwnM, onOwn, onDat, kAppend, kInsert, dSetItem, dAddItem, dIx, onItems, items, onInt, dNoPart, dPart, dSlice, onL, litems, dSlL, dCat, onM, mitems, dTupOf, dSeqI, dRng1, dRng2, dCallP, dCallB, dCallF, noSelf, onArgs, dats2, dIsi, tyName, dYes, dgTup, dgCons, dgNil, retB, dBreak, dCont, ne_eq, not_false_eq_true, true_and, and_true, List.getElem?_cons_zero, List.getElem?_cons_succ, List.set_cons_zero, List.set_cons_succ, Option.map, List.length_cons, List.length_nil]
      refine ⟨m + 9, hb, by omega, rfl, fun n bag1 hn hb1 => ⟨m + 11, hb1, by omega, rfl, fun d bag2 hd hb2 => ?_⟩⟩
      rw [hk3]
      obtain ⟨a, b⟩ := p
      obtain ⟨c, d'⟩ := r
      -- told
      refine seqI fun k4 hk4 => ?_
      simp only [dSeq, dAsg, dCB, dCons, dNil, dVar, onVs, vals, val, slot, setR, fGcd, dIfS, dTV, dOp, dBin, onV2, fLt, fLe, fGt, fGe, fAdd, fSub, fMul, fDiv, fMod, fI0, dC, dUn, onV, fNeg, dNext, dRet, dTup, onD, dats, fDivZ, fI, fPow, Few, retP, fAbs, fInt, fMax, fMin, fLen, fSqrt, fEq, fNe, dNot, dAnd, dOr, dAndV, dOrV, dNotV, dIfE, dDrop, dRetN, dPar, noO, dSetL, dLst, dOfL, dOwnM, onOwn, onDat, kAppend, kInsert, dSetItem, dAddItem, dIx, onItems, items, onInt, dNoPart, dPart, dSlice, onL, litems, dSlL, dCat, onM, mitems, dTupOf, dSeqI, dRng1, dRng2, dCallP, dCallB, dCallF, noSelf, onArgs, dats2, dIsi, tyName, dYes, dgTup, dgCons, dgNil, retB, dBreak, dCont, ne_eq, not_false_eq_true, true_and, and_true, List.getElem?_cons_zero, List.getElem?_cons_succ, List.set_cons_zero, List.set_cons_succ, Option.map, List.length_cons, List.length_nil]
      refine ⟨(a, b), (c, d'), rfl, hp, hr, trivial, (a, b), (c, d'), rfl, hp, hr, trivial, (a, b), (c, d'), rfl, hp, hr, trivial, (a, b), (c, d'), rfl, hp, hr, trivial, few_le (by decide), ?_⟩
      rw [hk4]
      have ha : Bd 61 a := hp.n
      have hbb : Bd 61 b := hp.d
      have hc : Bd 61 c := hr.n
      have hdd : Bd 61 d' := hr.d
      have pb : 0 < b := hp.pos
      have pd : 0 < d' := hr.pos
      have nz : b * d' ≠ 0 := Int.ne_of_gt (Int.mul_pos pb pd)
      -- due
      refine seqI fun k5 hk5 => ?_
      simp only [dSeq, dAsg, dCB, dCons, dNil, dVar, onVs, vals, val, slot, setR, fGcd, dIfS, dTV, dOp, dBin, onV2, fLt, fLe, fGt, fGe, fAdd, fSub, fMul, fDiv, fMod, fI0, dC, dUn, onV, fNeg, dNext, dRet, dTup, onD, dats, fDivZ, fI, fPow, Few, retP, fAbs, fInt, fMax, fMin, fLen, fSqrt, fEq, fNe, dNot, dAnd, dOr, dAndV, dOrV, dNotV, dIfE, dDrop, dRetN, dPar, noO, dSetL, dLst, dOfL, dOwnM, onOwn, onDat, kAppend, kInsert, dSetItem, dAddItem, dIx, onItems, items, onInt, dNoPart, dPart, dSlice, onL, litems, dSlL, dCat, onM, mitems, dTupOf, dSeqI, dRng1, dRng2, dCallP, dCallB, dCallF, noSelf, onArgs, dats2, dIsi, tyName, dYes, dgTup, dgCons, dgNil, retB, dBreak, dCont, ne_eq, not_false_eq_true, true_and, and_true, List.getElem?_cons_zero, List.getElem?_cons_succ, List.set_cons_zero, List.set_cons_succ, Option.map, List.length_cons, List.length_nil, on0, on1, enc, S_reduced]
      refine ⟨cmb ha hdd, cmb hc hbb, cmb hbb hdd, ⟨nz, ((ha.mul hdd).add (hc.mul hbb)).up (by decide), (hbb.mul hdd).up (by decide)⟩, few_le (by decide), ?_⟩
      rw [hk5]
      refine seqI fun k6 hk6 => ?_
      simp only [dSeq, dAsg, dCB, dCons, dNil, dVar, onVs, vals, val, slot, setR, fGcd, dIfS, dTV, dOp, dBin, onV2, fLt, fLe, fGt, fGe, fAdd, fSub, fMul, fDiv, fMod, fI0, dC, dUn, onV, fNeg, dNext, dRet, dTup, onD, dats, fDivZ, fI, fPow, Few, retP, fAbs, fInt, fMax, fMin, fLen, fSqrt, fEq, fNe, dNot, dAnd, dOr, dAndV, dOrV, dNotV, dIfE, dDrop, dRetN, dPar, noO, dSetL, dLst, dOfL, dOwnM, onOwn, onDat, kAppend, kInsert, dSetItem, dAddItem, dIx, onItems, items, onInt, dNoPart, dPart, dSlice, onL, litems, dSlL, dCat, onM, mitems, dTupOf, dSeqI, dRng1, dRng2, dCallP, dCallB, dCallF, noSelf, onArgs, dats2, dIsi, tyName, dYes, dgTup, dgCons, dgNil, retB, dBreak, dCont, ne_eq, not_false_eq_true, true_and, and_true, List.getElem?_cons_zero, List.getElem?_cons_succ, List.set_cons_zero, List.set_cons_succ, Option.map, List.length_cons, List.length_nil, on0, on1, enc, S_reduced]
      refine ⟨cmb ha hdd, cmb hc hbb, cmb hbb hdd, ⟨nz, ((ha.mul hdd).sub (hc.mul hbb)).up (by decide), (hbb.mul hdd).up (by decide)⟩, few_le (by decide), ?_⟩
      rw [hk6]
      refine seqI fun k7 hk7 => ?_
      simp only [dSeq, dAsg, dCB, dCons, dNil, dVar, onVs, vals, val, slot, setR, fGcd, dIfS, dTV, dOp, dBin, onV2, fLt, fLe, fGt, fGe, fAdd, fSub, fMul, fDiv, fMod, fI0, dC, dUn, onV, fNeg, dNext, dRet, dTup, onD, dats, fDivZ, fI, fPow, Few, retP, fAbs, fInt, fMax, fMin, fLen, fSqrt, fEq, fNe, dNot, dAnd, dOr, dAndV, dOrV, dNotV, dIfE, dDrop, dRetN, dPar, noO, dSetL, dLst, dOfL, dOwnM, onOwn, onDat, kAppend, kInsert, dSetItem, dAddItem, dIx, onItems, items, onInt, dNoPart, dPart, dSlice, onL, litems, dSlL, dCat, onM, mitems, dTupOf, dSeqI, dRng1, dRng2, dCallP, dCallB, dCallF, noSelf, onArgs, dats2, dIsi, tyName, dYes, dgTup, dgCons, dgNil, retB, dBreak, dCont, ne_eq, not_false_eq_true, true_and, and_true, List.getElem?_cons_zero, List.getElem?_cons_succ, List.set_cons_zero, List.set_cons_succ, Option.map, List.length_cons, List.length_nil, on0, on1, enc, S_reduced]
      refine ⟨cmb ha hc, cmb hbb hdd, ⟨nz, (ha.mul hc).up (by decide), (hbb.mul hdd).up (by decide)⟩, (a, b), (c, d'), rfl, hp, hr, trivial, few_le (by decide), few_le (by simp), ?_⟩
      rw [hk7]
      have W0 : ∀ y ∈ [fr (a * d' + c * b) (b * d'), fr (a * d' - c * b) (b * d'), fr (a * c) (b * d'), PyData.int (cmpF (a, b) (c, d'))], Itm y := by
        intro y hy
        have hbd := (hbb.mul hdd).up (show 61 + 61 ≤ 200 by decide)
        simp only [List.mem_cons, List.not_mem_nil, or_false] at hy
        rcases hy with rfl | rfl | rfl | rfl
        · exact itm_fr nz (((ha.mul hdd).add (hc.mul hbb)).up (by decide)) hbd
        · exact itm_fr nz (((ha.mul hdd).sub (hc.mul hbb)).up (by decide)) hbd
        · exact itm_fr nz ((ha.mul hc).up (by decide)) hbd
        · exact itm_int (cmp_bd _ _)
      show dSeq _ _ _ [some (Ent.ro (PyData.list (List.map PyData.int ns))), some (Ent.own bag2), some (Ent.d x), some (Ent.d (enc (a, b))), some (Ent.d (enc (c, d'))), some (Ent.d (PyData.int n)), some (Ent.d (PyData.int d)),
        some (Ent.own [fr (a * d' + c * b) (b * d'), fr (a * d' - c * b) (b * d'), fr (a * c) (b * d'), PyData.int (cmpF (a, b) (c, d'))]), some (Ent.own [fr (a * d' + c * b) (b * d'), fr (a * d' - c * b) (b * d'), fr (a * c) (b * d'), PyData.int (cmpF (a, b) (c, d'))]), x9, none, x11, x12]
      have Wl : [fr (a * d' + c * b) (b * d'), fr (a * d' - c * b) (b * d'), fr (a * c) (b * d'), PyData.int (cmpF (a, b) (c, d'))].length ≤ 4 := by simp
      generalize [fr (a * d' + c * b) (b * d'), fr (a * d' - c * b) (b * d'), fr (a * c) (b * d'), PyData.int (cmpF (a, b) (c, d'))] = W at W0 Wl ⊢
      -- if d != 0
      refine seqI fun k8 hk8 => ?_
      have c8 : ∀ W : List PyData, (∀ y ∈ W, Itm y) → W.length ≤ 5 → k8 [some (Ent.ro (PyData.list (List.map PyData.int ns))), some (Ent.own bag2), some (Ent.d x), some (Ent.d (enc (a, b))), some (Ent.d (enc (c, d'))), some (Ent.d (PyData.int n)), some (Ent.d (PyData.int d)), some (Ent.own W), some (Ent.own W), x9, none, x11, x12] := by
        intro W W0 Wl
        rw [hk8]
        -- if other[0] != 0
        refine seqI fun k9 hk9 => ?_
        have c9 : ∀ W : List PyData, (∀ y ∈ W, Itm y) → W.length ≤ 6 → k9 [some (Ent.ro (PyData.list (List.map PyData.int ns))), some (Ent.own bag2), some (Ent.d x), some (Ent.d (enc (a, b))), some (Ent.d (enc (c, d'))), some (Ent.d (PyData.int n)), some (Ent.d (PyData.int d)), some (Ent.own W), some (Ent.own W), x9, none, x11, x12] := by
          intro W W0 Wl
          rw [hk9]
          -- some_here
          refine seqI fun k10 hk10 => ?_
          have c10 : ∀ (ps : List Fr2) (bag3 : List PyData), ps ≠ [] → (∀ p ∈ ps, Ok2 p) → Bag (m + 100) bag3 → k10 [some (Ent.ro (PyData.list (List.map PyData.int ns))), some (Ent.own bag3), some (Ent.d x), some (Ent.d (enc (a, b))), some (Ent.d (enc (c, d'))), some (Ent.d (PyData.int n)), some (Ent.d (PyData.int d)), some (Ent.own W), some (Ent.own W), some (Ent.d (.list (ps.map enc))), none, x11, x12] := by
            intro ps bag3 hne hps hb3
            have okp : ∀ s : Int, Ok2 (pick s ps) := fun s => by
              cases ps with
              | nil => exact absurd rfl hne
              | cons p0 ps0 =>
                rcases pick_mem (s := s) (ps := p0 :: ps0) (b := p0) with z | z
                · show Ok2 ((p0 :: ps0).foldl (better s) p0); rw [z]; exact hps _ (List.mem_cons_self ..)
                · exact hps _ z
            rw [hk10]
            refine seqI fun k11 hk11 => ?_
            simp only [dSeq, dAsg, dCB, dCons, dNil, dVar, onVs, vals, val, slot, setR, fGcd, dIfS, dTV, dOp, dBin, onV2, fLt, fLe, fGt, fGe, fAdd, fSub, fMul, fDiv, fMod, fI0, dC, dUn, onV, fNeg, dNext, dRet, dTup, onD, dats, fDivZ, fI, fPow, Few, retP, fAbs, fInt, fMax, fMin, fLen, fSqrt, fEq, fNe, dNot, dAnd, dOr, dAndV, dOrV, dNotV, dIfE, dDrop, dRetN, dPar, noO, dSetL, dLst, dOfL, dOwnM, onOwn, onDat, kAppend, kInsert, dSetItem, dAddItem, dIx, onItems, items, onInt, dNoPart, dPart, dSlice, onL, litems, dSlL, dCat, onM, mitems, dTupOf, dSeqI, dRng1, dRng2, dCallP, dCallB, dCallF, noSelf, onArgs, dats2, dIsi, tyName, dYes, dgTup, dgCons, dgNil, retB, dBreak, dCont, ne_eq, not_false_eq_true, true_and, and_true, List.getElem?_cons_zero, List.getElem?_cons_succ, List.set_cons_zero, List.set_cons_succ, Option.map, List.length_cons, List.length_nil]
            refine ⟨ps, .inl rfl, hne, hps, ps, .inr rfl, hne, hps, (a, b), rfl, hp, few_le (by decide), few_le (by omega), ?_⟩
            rw [hk11]
            refine seqI fun k12 hk12 => ?_
            simp only [dSeq, dAsg, dCB, dCons, dNil, dVar, onVs, vals, val, slot, setR, fGcd, dIfS, dTV, dOp, dBin, onV2, fLt, fLe, fGt, fGe, fAdd, fSub, fMul, fDiv, fMod, fI0, dC, dUn, onV, fNeg, dNext, dRet, dTup, onD, dats, fDivZ, fI, fPow, Few, retP, fAbs, fInt, fMax, fMin, fLen, fSqrt, fEq, fNe, dNot, dAnd, dOr, dAndV, dOrV, dNotV, dIfE, dDrop, dRetN, dPar, noO, dSetL, dLst, dOfL, dOwnM, onOwn, onDat, kAppend, kInsert, dSetItem, dAddItem, dIx, onItems, items, onInt, dNoPart, dPart, dSlice, onL, litems, dSlL, dCat, onM, mitems, dTupOf, dSeqI, dRng1, dRng2, dCallP, dCallB, dCallF, noSelf, onArgs, dats2, dIsi, tyName, dYes, dgTup, dgCons, dgNil, retB, dBreak, dCont, ne_eq, not_false_eq_true, true_and, and_true, List.getElem?_cons_zero, List.getElem?_cons_succ, List.set_cons_zero, List.set_cons_succ, Option.map, List.length_cons, List.length_nil, on0, on1, enc]
            refine ⟨ps, -1, rfl, hne, hps, ps, 1, rfl, hne, hps, cdwB pb hbb, few_le (by decide), few_le (by omega), ?_⟩
            rw [hk12]
            refine seqI fun k13 hk13 => ?_
            simp only [dSeq, dAsg, dCB, dCons, dNil, dVar, onVs, vals, val, slot, setR, fGcd, dIfS, dTV, dOp, dBin, onV2, fLt, fLe, fGt, fGe, fAdd, fSub, fMul, fDiv, fMod, fI0, dC, dUn, onV, fNeg, dNext, dRet, dTup, onD, dats, fDivZ, fI, fPow, Few, retP, fAbs, fInt, fMax, fMin, fLen, fSqrt, fEq, fNe, dNot, dAnd, dOr, dAndV, dOrV, dNotV, dIfE, dDrop, dRetN, dPar, noO, dSetL, dLst, dOfL, dOwnM, onOwn, onDat, kAppend, kInsert, dSetItem, dAddItem, dIx, onItems, items, onInt, dNoPart, dPart, dSlice, onL, litems, dSlL, dCat, onM, mitems, dTupOf, dSeqI, dRng1, dRng2, dCallP, dCallB, dCallF, noSelf, onArgs, dats2, dIsi, tyName, dYes, dgTup, dgCons, dgNil, retB, dBreak, dCont, ne_eq, not_false_eq_true, true_and, and_true, List.getElem?_cons_zero, List.getElem?_cons_succ, List.set_cons_zero, List.set_cons_succ, Option.map, List.length_cons, List.length_nil]
            refine ⟨(a, b), rfl, few_le (by simp; omega), ?_⟩
            rw [hk13]
            refine seqI fun k14 hk14 => ?_
            have hfl : Bd 61 (a / b) := by
              have h1 : -(a.natAbs : Int) ≤ a / b := by
                refine (Int.le_ediv_iff_mul_le pb).mpr ?_
                have : (a.natAbs : Int) * 1 ≤ (a.natAbs : Int) * b := Int.mul_le_mul_of_nonneg_left (by omega) (by omega)
                rw [Int.neg_mul]; omega
              have h2 : a / b ≤ (a.natAbs : Int) := by
                refine Int.ediv_le_of_le_mul pb ?_
                have : (a.natAbs : Int) * 1 ≤ (a.natAbs : Int) * b := Int.mul_le_mul_of_nonneg_left (by omega) (by omega)
                omega
              unfold Bd at *; omega
            have okc : Ok2 (clip (a, b)) := by
              unfold clip; split
              · exact ⟨by unfold Bd; decide, by unfold Bd; decide, by decide⟩
              · split
                · exact ⟨by unfold Bd; decide, by unfold Bd; decide, by decide⟩
                · exact hp
            -- what is compared
            have W1 : ∀ y ∈ W ++ [enc (pick (-1) ps), enc (pick 1 ps), PyData.int (a / b)] ++ [enc (clip (a, b))], Itm y := by
              intro y hy
              rcases List.mem_append.mp hy with hy | hy
              · rcases List.mem_append.mp hy with hy | hy
                · exact W0 y hy
                · simp only [List.mem_cons, List.not_mem_nil, or_false] at hy
                  rcases hy with rfl | rfl | rfl
                  · exact itm_enc (okp _)
                  · exact itm_enc (okp _)
                  · exact itm_int hfl
              · obtain rfl : y = enc (clip (a, b)) := by simpa using hy
                exact itm_enc okc
            have c14 : k14 [some (Ent.ro (PyData.list (List.map PyData.int ns))), some (Ent.own bag3), some (Ent.d x), some (Ent.d (enc (a, b))), some (Ent.d (enc (c, d'))), some (Ent.d (PyData.int n)), some (Ent.d (PyData.int d)),
                some (Ent.own (W ++ [enc (pick (-1) ps), enc (pick 1 ps), PyData.int (a / b)] ++ [enc (clip (a, b))])), some (Ent.own (W ++ [enc (pick (-1) ps), enc (pick 1 ps), PyData.int (a / b)] ++ [enc (clip (a, b))])), some (Ent.d (.list (ps.map enc))), none, x11, x12] := by
              have Wl1 : (W ++ [enc (pick (-1) ps), enc (pick 1 ps), PyData.int (a / b)] ++ [enc (clip (a, b))]).length ≤ 20 := by simp; omega
              generalize W ++ [enc (pick (-1) ps), enc (pick 1 ps), PyData.int (a / b)] ++ [enc (clip (a, b))] = U at W1 Wl1 ⊢
              rw [hk14]
              refine seqI fun k15 hk15 => ?_
              have hnn : Bd 120 (n * n) := hn.mul hn
              have n0 : 0 ≤ n * n := by
                rcases Int.le_total 0 n with z | z
                · exact Int.mul_nonneg z z
                · exact Int.mul_nonneg_of_nonpos_of_nonpos z z
              simp only [dSeq, dAsg, dCB, dCons, dNil, dVar, onVs, vals, val, slot, setR, fGcd, dIfS, dTV, dOp, dBin, onV2, fLt, fLe, fGt, fGe, fAdd, fSub, fMul, fDiv, fMod, fI0, dC, dUn, onV, fNeg, dNext, dRet, dTup, onD, dats, fDivZ, fI, fPow, Few, retP, fAbs, fInt, fMax, fMin, fLen, fSqrt, fEq, fNe, dNot, dAnd, dOr, dAndV, dOrV, dNotV, dIfE, dDrop, dRetN, dPar, noO, dSetL, dLst, dOfL, dOwnM, onOwn, onDat, kAppend, kInsert, dSetItem, dAddItem, dIx, onItems, items, onInt, dNoPart, dPart, dSlice, onL, litems, dSlL, dCat, onM, mitems, dTupOf, dSeqI, dRng1, dRng2, dCallP, dCallB, dCallF, noSelf, onArgs, dats2, dIsi, tyName, dYes, dgTup, dgCons, dgNil, retB, dBreak, dCont, ne_eq, not_false_eq_true, true_and, and_true, List.getElem?_cons_zero, List.getElem?_cons_succ, List.set_cons_zero, List.set_cons_succ, Option.map, List.length_cons, List.length_nil]
              refine ⟨cmb hn hn, cmb hn hn, cmb hn hn, few_le (by decide), m + 100, _, hb3, by omega, .inl rfl, by simp, by simp, fun y bag4 hy hb4 => ?_⟩
              have hy1 : ∃ N : Int, y = .int N ∧ 0 ≤ N ∧ Bd 121 N := by
                have b1 := hnn.up (show 120 ≤ 121 by decide)
                simp only [List.mem_cons, List.not_mem_nil, or_false] at hy
                rcases hy with rfl | rfl | rfl | rfl | rfl | rfl | rfl | rfl
                · refine ⟨_, rfl, by split <;> omega, ?_⟩
                  have := hn.up (show 60 ≤ 121 by decide)
                  unfold Bd at *
                  split <;> omega
                · exact ⟨_, rfl, n0, b1⟩
                · refine ⟨_, rfl, by omega, ?_⟩
                  unfold Bd at *
                  have : (n * n + 1).natAbs ≤ (n * n).natAbs + 1 := by omega
                  rw [Nat.pow_succ]; omega
                · refine ⟨_, rfl, by split <;> omega, ?_⟩
                  unfold Bd at *
                  split <;> omega
                all_goals exact ⟨_, rfl, by decide, by unfold Bd; decide⟩
              obtain ⟨N, rfl, hN0, hN⟩ := hy1
              rw [hk15]
              refine seqI fun k16 hk16 => ?_
              simp only [dSeq, dAsg, dCB, dCons, dNil, dVar, onVs, vals, val, slot, setR, fGcd, dIfS, dTV, dOp, dBin, onV2, fLt, fLe, fGt, fGe, fAdd, fSub, fMul, fDiv, fMod, fI0, dC, dUn, onV, fNeg, dNext, dRet, dTup, onD, dats, fDivZ, fI, fPow, Few, retP, fAbs, fInt, fMax, fMin, fLen, fSqrt, fEq, fNe, dNot, dAnd, dOr, dAndV, dOrV, dNotV, dIfE, dDrop, dRetN, dPar, noO, dSetL, dLst, dOfL, dOwnM, onOwn, onDat, kAppend, kInsert, dSetItem, dAddItem, dIx, onItems, items, onInt, dNoPart, dPart, dSlice, onL, litems, dSlL, dCat, onM, mitems, dTupOf, dSeqI, dRng1, dRng2, dCallP, dCallB, dCallF, noSelf, onArgs, dats2, dIsi, tyName, dYes, dgTup, dgCons, dgNil, retB, dBreak, dCont, ne_eq, not_false_eq_true, true_and, and_true, List.getElem?_cons_zero, List.getElem?_cons_succ, List.set_cons_zero, List.set_cons_succ, Option.map, List.length_cons, List.length_nil, S_root_floor]
              refine ⟨⟨hN0, hN.up (by decide)⟩, ?_⟩
              rw [hk16]
              obtain ⟨s1, s2⟩ := Float64.isqrt_spec N.toNat
              generalize Float64.isqrt N.toNat = r at s1 s2 ⊢
              have hr1 : r ≤ N.toNat := Nat.le_trans (Nat.le_mul_self r) s1
              have hrb : Bd 121 (r : Int) := by unfold Bd at *; omega
              have hrb1 : Bd 122 ((r : Int) + 1) := hrb.add (by unfold Bd; decide)
              refine seqI fun k17 hk17 => ?_
              simp only [dSeq, dAsg, dCB, dCons, dNil, dVar, onVs, vals, val, slot, setR, fGcd, dIfS, dTV, dOp, dBin, onV2, fLt, fLe, fGt, fGe, fAdd, fSub, fMul, fDiv, fMod, fI0, dC, dUn, onV, fNeg, dNext, dRet, dTup, onD, dats, fDivZ, fI, fPow, Few, retP, fAbs, fInt, fMax, fMin, fLen, fSqrt, fEq, fNe, dNot, dAnd, dOr, dAndV, dOrV, dNotV, dIfE, dDrop, dRetN, dPar, noO, dSetL, dLst, dOfL, dOwnM, onOwn, onDat, kAppend, kInsert, dSetItem, dAddItem, dIx, onItems, items, onInt, dNoPart, dPart, dSlice, onL, litems, dSlL, dCat, onM, mitems, dTupOf, dSeqI, dRng1, dRng2, dCallP, dCallB, dCallF, noSelf, onArgs, dats2, dIsi, tyName, dYes, dgTup, dgCons, dgNil, retB, dBreak, dCont, ne_eq, not_false_eq_true, true_and, and_true, List.getElem?_cons_zero, List.getElem?_cons_succ, List.set_cons_zero, List.set_cons_succ, Option.map, List.length_cons, List.length_nil, S_alike, S__law_is_int]
              refine ⟨fine_list W1 (by omega), ?_⟩
              rw [hk17]
              simp only [dSeq, dAsg, dCB, dCons, dNil, dVar, onVs, vals, val, slot, setR, fGcd, dIfS, dTV, dOp, dBin, onV2, fLt, fLe, fGt, fGe, fAdd, fSub, fMul, fDiv, fMod, fI0, dC, dUn, onV, fNeg, dNext, dRet, dTup, onD, dats, fDivZ, fI, fPow, Few, retP, fAbs, fInt, fMax, fMin, fLen, fSqrt, fEq, fNe, dNot, dAnd, dOr, dAndV, dOrV, dNotV, dIfE, dDrop, dRetN, dPar, noO, dSetL, dLst, dOfL, dOwnM, onOwn, onDat, kAppend, kInsert, dSetItem, dAddItem, dIx, onItems, items, onInt, dNoPart, dPart, dSlice, onL, litems, dSlL, dCat, onM, mitems, dTupOf, dSeqI, dRng1, dRng2, dCallP, dCallB, dCallF, noSelf, onArgs, dats2, dIsi, tyName, dYes, dgTup, dgCons, dgNil, retB, dBreak, dCont, ne_eq, not_false_eq_true, true_and, and_true, List.getElem?_cons_zero, List.getElem?_cons_succ, List.set_cons_zero, List.set_cons_succ, Option.map, List.length_cons, List.length_nil]
              have e1 : ((r * r : Nat) : Int) ≤ N := by omega
              have e2 : N < (((r + 1) * (r + 1) : Nat) : Int) := by omega
              rw [Int.natCast_mul] at e1
              rw [Int.natCast_mul, Int.natCast_add] at e2
              rw [if_neg (show ¬ ((!true) = true) by decide), if_neg (show ¬ ((!true) = true) by decide)]
              refine ite_f (by omega) ?_
              refine ⟨cmb hrb hrb, ?_⟩
              refine ite_f (Int.not_lt.mpr e1) ?_
              refine ⟨cmb hrb1 hrb1, ?_⟩
              refine ite_f (Int.not_le.mpr e2) ?_
              exact ⟨m + 101, bag4, _, _, _, _, _, _, _, _, _, _, hb4, by omega, rfl⟩
            simp only [dSeq, dAsg, dCB, dCons, dNil, dVar, onVs, vals, val, slot, setR, fGcd, dIfS, dTV, dOp, dBin, onV2, fLt, fLe, fGt, fGe, fAdd, fSub, fMul, fDiv, fMod, fI0, dC, dUn, onV, fNeg, dNext, dRet, dTup, onD, dats, fDivZ, fI, fPow, Few, retP, fAbs, fInt, fMax, fMin, fLen, fSqrt, fEq, fNe, dNot, dAnd, dOr, dAndV, dOrV, dNotV, dIfE, dDrop, dRetN, dPar, noO, dSetL, dLst, dOfL, dOwnM, onOwn, onDat, kAppend, kInsert, dSetItem, dAddItem, dIx, onItems, items, onInt, dNoPart, dPart, dSlice, onL, litems, dSlL, dCat, onM, mitems, dTupOf, dSeqI, dRng1, dRng2, dCallP, dCallB, dCallF, noSelf, onArgs, dats2, dIsi, tyName, dYes, dgTup, dgCons, dgNil, retB, dBreak, dCont, ne_eq, not_false_eq_true, true_and, and_true, List.getElem?_cons_zero, List.getElem?_cons_succ, List.set_cons_zero, List.set_cons_succ, Option.map, List.length_cons, List.length_nil, on0, on1, enc]
            refine ite_b (fun h => ⟨few2, few_le (by simp; omega), ?_⟩) fun h => ite_b (fun h2 => ⟨few2, few_le (by simp; omega), ?_⟩) fun h2 => ⟨few_le (by simp; omega), ?_⟩
            · have e : clip (a, b) = (0, 1) := if_pos h
              rw [e] at c14 ⊢; exact c14
            · have e : clip (a, b) = (1, 1) := by unfold clip; rw [if_neg h, if_pos h2]
              rw [e] at c14 ⊢; exact c14
            · have e : clip (a, b) = (a, b) := by unfold clip; rw [if_neg h, if_neg h2]
              rw [e] at c14 ⊢; exact c14
          simp only [dSeq, dAsg, dCB, dCons, dNil, dVar, onVs, vals, val, slot, setR, fGcd, dIfS, dTV, dOp, dBin, onV2, fLt, fLe, fGt, fGe, fAdd, fSub, fMul, fDiv, fMod, fI0, dC, dUn, onV, fNeg, dNext, dRet, dTup, onD, dats, fDivZ, fI, fPow, Few, retP, fAbs, fInt, fMax, fMin, fLen, fSqrt, fEq, fNe, dNot, dAnd, dOr, dAndV, dOrV, dNotV, dIfE, dDrop, dRetN, dPar, noO, dSetL, dLst, dOfL, dOwnM, onOwn, onDat, kAppend, kInsert, dSetItem, dAddItem, dIx, onItems, items, onInt, dNoPart, dPart, dSlice, onL, litems, dSlL, dCat, onM, mitems, dTupOf, dSeqI, dRng1, dRng2, dCallP, dCallB, dCallF, noSelf, onArgs, dats2, dIsi, tyName, dYes, dgTup, dgCons, dgNil, retB, dBreak, dCont, ne_eq, not_false_eq_true, true_and, and_true, List.getElem?_cons_zero, List.getElem?_cons_succ, List.set_cons_zero, List.set_cons_succ, Option.map, List.length_cons, List.length_nil, dLc, List.map_cons, List.map_nil]
          refine ⟨few_le (by decide), m + 13, _, hb2, by omega, .inl rfl, by decide, by decide, fun y bag3 hy hb3 => ?_⟩
          have hj : ∃ j : Int, y = .int j ∧ 0 ≤ j ∧ j ≤ 3 := by
            simp only [List.mem_cons, List.not_mem_nil, or_false] at hy
            rcases hy with rfl | rfl | rfl
            all_goals exact ⟨_, rfl, by decide, by decide⟩
          obtain ⟨j, rfl, hj0, hj3⟩ := hj
          simp only [dSeq, dAsg, dCB, dCons, dNil, dVar, onVs, vals, val, slot, setR, fGcd, dIfS, dTV, dOp, dBin, onV2, fLt, fLe, fGt, fGe, fAdd, fSub, fMul, fDiv, fMod, fI0, dC, dUn, onV, fNeg, dNext, dRet, dTup, onD, dats, fDivZ, fI, fPow, Few, retP, fAbs, fInt, fMax, fMin, fLen, fSqrt, fEq, fNe, dNot, dAnd, dOr, dAndV, dOrV, dNotV, dIfE, dDrop, dRetN, dPar, noO, dSetL, dLst, dOfL, dOwnM, onOwn, onDat, kAppend, kInsert, dSetItem, dAddItem, dIx, onItems, items, onInt, dNoPart, dPart, dSlice, onL, litems, dSlL, dCat, onM, mitems, dTupOf, dSeqI, dRng1, dRng2, dCallP, dCallB, dCallF, noSelf, onArgs, dats2, dIsi, tyName, dYes, dgTup, dgCons, dgNil, retB, dBreak, dCont, ne_eq, not_false_eq_true, true_and, and_true, List.getElem?_cons_zero, List.getElem?_cons_succ, List.set_cons_zero, List.set_cons_succ, Option.map, List.length_cons, List.length_nil]
          refine ⟨⟨by omega, by omega⟩, fun i hi => ?_, fun i acc ρ => ∃ (qs : List Fr2) (bag : List PyData), acc = qs.map enc ∧ qs.length = i ∧ i ≤ 3 ∧ (∀ q ∈ qs, Ok2 q) ∧ Bag (m + 14 + 4 * i) bag ∧
            ρ = [some (Ent.ro (PyData.list (List.map PyData.int ns))), some (Ent.own bag), some (Ent.d x), some (Ent.d (enc (a, b))), some (Ent.d (enc (c, d'))), some (Ent.d (PyData.int n)), some (Ent.d (PyData.int d)), some (Ent.own W), some (Ent.own W), x9, none, x11, x12],
            ⟨[], bag3, rfl, rfl, Nat.zero_le _, (by intro q hq; cases hq), (by simpa using hb3), rfl⟩, ?_, ?_⟩
          · obtain rfl : i = 10 := by simpa using hi
            rfl
          · rintro i z acc ρ hz ⟨qs, bag, rfl, hql, hi3, hqs, hb, rfl⟩
            have hi : i < 3 := by
              have := (List.getElem?_eq_some_iff.mp hz).1
              rw [rng_len] at this
              omega
            simp only [dSeq, dAsg, dCB, dCons, dNil, dVar, onVs, vals, val, slot, setR, fGcd, dIfS, dTV, dOp, dBin, onV2, fLt, fLe, fGt, fGe, fAdd, fSub, fMul, fDiv, fMod, fI0, dC, dUn, onV, fNeg, dNext, dRet, dTup, onD, dats, fDivZ, fI, fPow, Few, retP, fAbs, fInt, fMax, fMin, fLen, fSqrt, fEq, fNe, dNot, dAnd, dOr, dAndV, dOrV, dNotV, dIfE, dDrop, dRetN, dPar, noO, dSetL, dLst, dOfL, dOwnM, onOwn, onDat, kAppend, kInsert, dSetItem, dAddItem, dIx, onItems, items, onInt, dNoPart, dPart, dSlice, onL, litems, dSlL, dCat, onM, mitems, dTupOf, dSeqI, dRng1, dRng2, dCallP, dCallB, dCallF, noSelf, onArgs, dats2, dIsi, tyName, dYes, dgTup, dgCons, dgNil, retB, dBreak, dCont, ne_eq, not_false_eq_true, true_and, and_true, List.getElem?_cons_zero, List.getElem?_cons_succ, List.set_cons_zero, List.set_cons_succ, Option.map, List.length_cons, List.length_nil, wipeR, if_pos]
            refine ⟨m + 14 + 4 * i, hb, by omega, rfl, fun q bag2 hq hb2 => ⟨few_le (by rw [List.length_map]; omega), qs ++ [q], bag2, by rw [List.map_append]; rfl, by rw [List.length_append, hql]; rfl, by omega, fun w hw => ?_, hb2.up (by omega), rfl⟩⟩
            rcases List.mem_append.mp hw with hw | hw
            · exact hqs w hw
            · obtain rfl : w = q := by simpa using hw
              exact hq
          · rintro acc ρ ⟨qs, bag, rfl, hql, hi3, hqs, hb, rfl⟩
            simp only [dSeq, dAsg, dCB, dCons, dNil, dVar, onVs, vals, val, slot, setR, fGcd, dIfS, dTV, dOp, dBin, onV2, fLt, fLe, fGt, fGe, fAdd, fSub, fMul, fDiv, fMod, fI0, dC, dUn, onV, fNeg, dNext, dRet, dTup, onD, dats, fDivZ, fI, fPow, Few, retP, fAbs, fInt, fMax, fMin, fLen, fSqrt, fEq, fNe, dNot, dAnd, dOr, dAndV, dOrV, dNotV, dIfE, dDrop, dRetN, dPar, noO, dSetL, dLst, dOfL, dOwnM, onOwn, onDat, kAppend, kInsert, dSetItem, dAddItem, dIx, onItems, items, onInt, dNoPart, dPart, dSlice, onL, litems, dSlL, dCat, onM, mitems, dTupOf, dSeqI, dRng1, dRng2, dCallP, dCallB, dCallF, noSelf, onArgs, dats2, dIsi, tyName, dYes, dgTup, dgCons, dgNil, retB, dBreak, dCont, ne_eq, not_false_eq_true, true_and, and_true, List.getElem?_cons_zero, List.getElem?_cons_succ, List.set_cons_zero, List.set_cons_succ, Option.map, List.length_cons, List.length_nil, wipeR]
            refine ⟨few2, few_le (by rw [List.length_map]; omega), ?_⟩
            have := c10 (qs ++ [(a, b), (c, d')]) bag (by simp) (fun p hp' => ?_) (hb.up (by rw [rng_len] at hql; omega))
            · rw [List.map_append] at this
              exact this
            · rcases List.mem_append.mp hp' with h | h
              · exact hqs p h
              · simp only [List.mem_cons, List.not_mem_nil, or_false] at h
                rcases h with rfl | rfl
                · exact hp
                · exact hr
        simp only [dSeq, dAsg, dCB, dCons, dNil, dVar, onVs, vals, val, slot, setR, fGcd, dIfS, dTV, dOp, dBin, onV2, fLt, fLe, fGt, fGe, fAdd, fSub, fMul, fDiv, fMod, fI0, dC, dUn, onV, fNeg, dNext, dRet, dTup, onD, dats, fDivZ, fI, fPow, Few, retP, fAbs, fInt, fMax, fMin, fLen, fSqrt, fEq, fNe, dNot, dAnd, dOr, dAndV, dOrV, dNotV, dIfE, dDrop, dRetN, dPar, noO, dSetL, dLst, dOfL, dOwnM, onOwn, onDat, kAppend, kInsert, dSetItem, dAddItem, dIx, onItems, items, onInt, dNoPart, dPart, dSlice, onL, litems, dSlL, dCat, onM, mitems, dTupOf, dSeqI, dRng1, dRng2, dCallP, dCallB, dCallF, noSelf, onArgs, dats2, dIsi, tyName, dYes, dgTup, dgCons, dgNil, retB, dBreak, dCont, ne_eq, not_false_eq_true, true_and, and_true, List.getElem?_cons_zero, List.getElem?_cons_succ, List.set_cons_zero, List.set_cons_succ, Option.map, List.length_cons, List.length_nil, on0, on1, sh_int, eqv_int, enc, S_reduced]
        refine ite_n (c := c = 0) (fun h0 => ?_) fun h0 => c9 W W0 (by omega)
        have nz2 : b * c ≠ 0 := Int.mul_ne_zero (by omega) h0
        refine ⟨(a, b), (c, d'), rfl, hp, hr, h0, few_le (by omega), cmb ha hdd, cmb hbb hc, ⟨nz2, (ha.mul hdd).up (by decide), (hbb.mul hc).up (by decide)⟩, few_le (by omega), ?_⟩
        refine c9 (W ++ [fr (a * d') (b * c)]) (fun y hy => ?_) (by rw [List.length_append]; exact Nat.succ_le_succ Wl)
        rcases List.mem_append.mp hy with hy | hy
        · exact W0 y hy
        · obtain rfl : y = fr (a * d') (b * c) := by simpa using hy
          exact itm_fr nz2 ((ha.mul hdd).up (by decide)) ((hbb.mul hc).up (by decide))
      simp only [dSeq, dAsg, dCB, dCons, dNil, dVar, onVs, vals, val, slot, setR, fGcd, dIfS, dTV, dOp, dBin, onV2, fLt, fLe, fGt, fGe, fAdd, fSub, fMul, fDiv, fMod, fI0, dC, dUn, onV, fNeg, dNext, dRet, dTup, onD, dats, fDivZ, fI, fPow, Few, retP, fAbs, fInt, fMax, fMin, fLen, fSqrt, fEq, fNe, dNot, dAnd, dOr, dAndV, dOrV, dNotV, dIfE, dDrop, dRetN, dPar, noO, dSetL, dLst, dOfL, dOwnM, onOwn, onDat, kAppend, kInsert, dSetItem, dAddItem, dIx, onItems, items, onInt, dNoPart, dPart, dSlice, onL, litems, dSlL, dCat, onM, mitems, dTupOf, dSeqI, dRng1, dRng2, dCallP, dCallB, dCallF, noSelf, onArgs, dats2, dIsi, tyName, dYes, dgTup, dgCons, dgNil, retB, dBreak, dCont, ne_eq, not_false_eq_true, true_and, and_true, List.getElem?_cons_zero, List.getElem?_cons_succ, List.set_cons_zero, List.set_cons_succ, Option.map, List.length_cons, List.length_nil, sh_int, eqv_int, S_reduced]
      refine ite_n (c := d = 0) (fun h0 => ?_) fun h0 => c8 W W0 (by omega)
      refine ⟨⟨h0, hn.up (by decide), hd.up (by decide)⟩, few_le (by omega), ⟨h0, hn.up (by decide), hd.up (by decide)⟩, few_le (by omega), ?_⟩
      refine c8 (W ++ [fr n d]) (fun y hy => ?_) (by rw [List.length_append]; exact Nat.succ_le_succ Wl)
      rcases List.mem_append.mp hy with hy | hy
      · exact W0 y hy
      · obtain rfl : y = fr n d := by simpa using hy
        exact itm_fr h0 (hn.up (by decide)) (hd.up (by decide))
    simp only [dSeq, dAsg, dCB, dCons, dNil, dVar, onVs, vals, val, slot, setR, fGcd, dIfS, dTV, dOp, dBin, onV2, fLt, fLe, fGt, fGe, fAdd, fSub, fMul, fDiv, fMod, fI0, dC, dUn, onV, fNeg, dNext, dRet, dTup, onD, dats, fDivZ, fI, fPow, Few, retP, fAbs, fInt, fMax, fMin, fLen, fSqrt, fEq, fNe, dNot, dAnd, dOr, dAndV, dOrV, dNotV, dIfE, dDrop, dRetN, dPar, noO, dSetL, dLst, dOfL, dOwnM, onOwn, onDat, kAppend, kInsert, dSetItem, dAddItem, dIx, onItems, items, onInt, dNoPart, dPart, dSlice, onL, litems, dSlL, dCat, onM, mitems, dTupOf, dSeqI, dRng1, dRng2, dCallP, dCallB, dCallF, noSelf, onArgs, dats2, dIsi, tyName, dYes, dgTup, dgCons, dgNil, retB, dBreak, dCont, ne_eq, not_false_eq_true, true_and, and_true, List.getElem?_cons_zero, List.getElem?_cons_succ, List.set_cons_zero, List.set_cons_succ, Option.map, List.length_cons, List.length_nil, sh_int, eqv_int]
    refine ⟨m + 8, _, hb2, by omega, rfl, by decide, Nat.lt_of_lt_of_le (show (6 : Int).natAbs < 2 ^ 3 by decide) (Nat.pow_le_pow_right (by decide) (by decide)), fun v bag3 a1 a2 hb3 => ?_⟩
    simp only [sh_int, eqv_int, true_and]
    exact ite_b (fun h => c2 p bag3 hp hb3) fun h => c2 r bag3 hr hb3
  · rintro ρ ⟨m, bag, x2, x3, x4, x5, x6, x7, x8, x9, x11, x12, hb, hm, rfl⟩
    rw [hk2]
    exact q
end
theorem all_mk {l : PySem.W.OpenLaw} {w : World} {K : PySem.W.Frag} {h : Heap} {mg : Str → Option Value} {fa : Addr} (X : K.In h) (G : h.Ns mainGlobals mg) (hfa : mg "law" = some (.ref fa))
    {od1 an1 : Option Addr} {sl1 : Array (Option Value)} {oc1 kV1 dc1 pm1 cd1 ct1 : Value} {f1 : Addr}
    (a1 : PySem.W.nsIn K mainGlobals "reduced" = some (some (.ref f1))) (l1 : K.lookup f1 = some ⟨oc1, od1, .func (PySem.W.fnOf "reduced" "reduced" (defArgs s_reduced) (defBody s_reduced) (defScope s_reduced) .none kV1 dc1 pm1 an1 cd1 ct1), sl1⟩) (c1 : PySem.W.codeIn K cd1 "reduced" = true) (k1 : PySem.W.keepIn K (.ref f1) = true)
    {od2 an2 : Option Addr} {sl2 : Array (Option Value)} {oc2 kV2 dc2 pm2 cd2 ct2 : Value} {f2 : Addr}
    (a2 : PySem.W.nsIn K mainGlobals "added" = some (some (.ref f2))) (l2 : K.lookup f2 = some ⟨oc2, od2, .func (PySem.W.fnOf "added" "added" (defArgs s_added) (defBody s_added) (defScope s_added) .none kV2 dc2 pm2 an2 cd2 ct2), sl2⟩) (c2 : PySem.W.codeIn K cd2 "added" = true) (k2 : PySem.W.keepIn K (.ref f2) = true)
    {od3 an3 : Option Addr} {sl3 : Array (Option Value)} {oc3 kV3 dc3 pm3 cd3 ct3 : Value} {f3 : Addr}
    (a3 : PySem.W.nsIn K mainGlobals "lessened" = some (some (.ref f3))) (l3 : K.lookup f3 = some ⟨oc3, od3, .func (PySem.W.fnOf "lessened" "lessened" (defArgs s_lessened) (defBody s_lessened) (defScope s_lessened) .none kV3 dc3 pm3 an3 cd3 ct3), sl3⟩) (c3 : PySem.W.codeIn K cd3 "lessened" = true) (k3 : PySem.W.keepIn K (.ref f3) = true)
    {od4 an4 : Option Addr} {sl4 : Array (Option Value)} {oc4 kV4 dc4 pm4 cd4 ct4 : Value} {f4 : Addr}
    (a4 : PySem.W.nsIn K mainGlobals "times" = some (some (.ref f4))) (l4 : K.lookup f4 = some ⟨oc4, od4, .func (PySem.W.fnOf "times" "times" (defArgs s_times) (defBody s_times) (defScope s_times) .none kV4 dc4 pm4 an4 cd4 ct4), sl4⟩) (c4 : PySem.W.codeIn K cd4 "times" = true) (k4 : PySem.W.keepIn K (.ref f4) = true)
    {od5 an5 : Option Addr} {sl5 : Array (Option Value)} {oc5 kV5 dc5 pm5 cd5 ct5 : Value} {f5 : Addr}
    (a5 : PySem.W.nsIn K mainGlobals "over" = some (some (.ref f5))) (l5 : K.lookup f5 = some ⟨oc5, od5, .func (PySem.W.fnOf "over" "over" (defArgs s_over) (defBody s_over) (defScope s_over) .none kV5 dc5 pm5 an5 cd5 ct5), sl5⟩) (c5 : PySem.W.codeIn K cd5 "over" = true) (k5 : PySem.W.keepIn K (.ref f5) = true)
    {od6 an6 : Option Addr} {sl6 : Array (Option Value)} {oc6 kV6 dc6 pm6 cd6 ct6 : Value} {f6 : Addr}
    (a6 : PySem.W.nsIn K mainGlobals "compared" = some (some (.ref f6))) (l6 : K.lookup f6 = some ⟨oc6, od6, .func (PySem.W.fnOf "compared" "compared" (defArgs s_compared) (defBody s_compared) (defScope s_compared) .none kV6 dc6 pm6 an6 cd6 ct6), sl6⟩) (c6 : PySem.W.codeIn K cd6 "compared" = true) (k6 : PySem.W.keepIn K (.ref f6) = true)
    {od7 an7 : Option Addr} {sl7 : Array (Option Value)} {oc7 kV7 dc7 pm7 cd7 ct7 : Value} {f7 : Addr}
    (a7 : PySem.W.nsIn K mainGlobals "least_of" = some (some (.ref f7))) (l7 : K.lookup f7 = some ⟨oc7, od7, .func (PySem.W.fnOf "least_of" "least_of" (defArgs s_least_of) (defBody s_least_of) (defScope s_least_of) .none kV7 dc7 pm7 an7 cd7 ct7), sl7⟩) (c7 : PySem.W.codeIn K cd7 "least_of" = true) (k7 : PySem.W.keepIn K (.ref f7) = true)
    {od8 an8 : Option Addr} {sl8 : Array (Option Value)} {oc8 kV8 dc8 pm8 cd8 ct8 : Value} {f8 : Addr}
    (a8 : PySem.W.nsIn K mainGlobals "greatest_of" = some (some (.ref f8))) (l8 : K.lookup f8 = some ⟨oc8, od8, .func (PySem.W.fnOf "greatest_of" "greatest_of" (defArgs s_greatest_of) (defBody s_greatest_of) (defScope s_greatest_of) .none kV8 dc8 pm8 an8 cd8 ct8), sl8⟩) (c8 : PySem.W.codeIn K cd8 "greatest_of" = true) (k8 : PySem.W.keepIn K (.ref f8) = true)
    {od9 an9 : Option Addr} {sl9 : Array (Option Value)} {oc9 kV9 dc9 pm9 cd9 ct9 : Value} {f9 : Addr}
    (a9 : PySem.W.nsIn K mainGlobals "clipped" = some (some (.ref f9))) (l9 : K.lookup f9 = some ⟨oc9, od9, .func (PySem.W.fnOf "clipped" "clipped" (defArgs s_clipped) (defBody s_clipped) (defScope s_clipped) .none kV9 dc9 pm9 an9 cd9 ct9), sl9⟩) (c9 : PySem.W.codeIn K cd9 "clipped" = true) (k9 : PySem.W.keepIn K (.ref f9) = true)
    {od10 an10 : Option Addr} {sl10 : Array (Option Value)} {oc10 kV10 dc10 pm10 cd10 ct10 : Value} {f10 : Addr}
    (a10 : PySem.W.nsIn K mainGlobals "floor_of" = some (some (.ref f10))) (l10 : K.lookup f10 = some ⟨oc10, od10, .func (PySem.W.fnOf "floor_of" "floor_of" (defArgs s_floor_of) (defBody s_floor_of) (defScope s_floor_of) .none kV10 dc10 pm10 an10 cd10 ct10), sl10⟩) (c10 : PySem.W.codeIn K cd10 "floor_of" = true) (k10 : PySem.W.keepIn K (.ref f10) = true)
    {od11 an11 : Option Addr} {sl11 : Array (Option Value)} {oc11 kV11 dc11 pm11 cd11 ct11 : Value} {f11 : Addr}
    (a11 : PySem.W.nsIn K mainGlobals "root_floor" = some (some (.ref f11))) (l11 : K.lookup f11 = some ⟨oc11, od11, .func (PySem.W.fnOf "root_floor" "root_floor" (defArgs s_root_floor) (defBody s_root_floor) (defScope s_root_floor) .none kV11 dc11 pm11 an11 cd11 ct11), sl11⟩) (c11 : PySem.W.codeIn K cd11 "root_floor" = true) (k11 : PySem.W.keepIn K (.ref f11) = true)
    {od12 an12 : Option Addr} {sl12 : Array (Option Value)} {oc12 kV12 dc12 pm12 cd12 ct12 : Value} {f12 : Addr}
    (a12 : PySem.W.nsIn K mainGlobals "_law_bag" = some (some (.ref f12))) (l12 : K.lookup f12 = some ⟨oc12, od12, .func (PySem.W.fnOf "_law_bag" "_law_bag" (defArgs s__law_bag) (defBody s__law_bag) (defScope s__law_bag) .none kV12 dc12 pm12 an12 cd12 ct12), sl12⟩) (c12 : PySem.W.codeIn K cd12 "_law_bag" = true) (k12 : PySem.W.keepIn K (.ref f12) = true)
    {od13 an13 : Option Addr} {sl13 : Array (Option Value)} {oc13 kV13 dc13 pm13 cd13 ct13 : Value} {f13 : Addr}
    (a13 : PySem.W.nsIn K mainGlobals "_law_take" = some (some (.ref f13))) (l13 : K.lookup f13 = some ⟨oc13, od13, .func (PySem.W.fnOf "_law_take" "_law_take" (defArgs s__law_take) (defBody s__law_take) (defScope s__law_take) .none kV13 dc13 pm13 an13 cd13 ct13), sl13⟩) (c13 : PySem.W.codeIn K cd13 "_law_take" = true) (k13 : PySem.W.keepIn K (.ref f13) = true)
    {od14 an14 : Option Addr} {sl14 : Array (Option Value)} {oc14 kV14 dc14 pm14 cd14 ct14 : Value} {f14 : Addr}
    (a14 : PySem.W.nsIn K mainGlobals "_law_some" = some (some (.ref f14))) (l14 : K.lookup f14 = some ⟨oc14, od14, .func (PySem.W.fnOf "_law_some" "_law_some" (defArgs s__law_some) (defBody s__law_some) (defScope s__law_some) .none kV14 dc14 pm14 an14 cd14 ct14), sl14⟩) (c14 : PySem.W.codeIn K cd14 "_law_some" = true) (k14 : PySem.W.keepIn K (.ref f14) = true)
    {od15 an15 : Option Addr} {sl15 : Array (Option Value)} {oc15 kV15 dc15 pm15 cd15 ct15 : Value} {f15 : Addr}
    (a15 : PySem.W.nsIn K mainGlobals "_law_alike" = some (some (.ref f15))) (l15 : K.lookup f15 = some ⟨oc15, od15, .func (PySem.W.fnOf "_law_alike" "_law_alike" (defArgs s__law_alike) (defBody s__law_alike) (defScope s__law_alike) .none kV15 dc15 pm15 an15 cd15 ct15), sl15⟩) (c15 : PySem.W.codeIn K cd15 "_law_alike" = true) (k15 : PySem.W.keepIn K (.ref f15) = true)
    {od16 an16 : Option Addr} {sl16 : Array (Option Value)} {oc16 kV16 dc16 pm16 cd16 ct16 : Value} {f16 : Addr}
    (a16 : PySem.W.nsIn K mainGlobals "_law_is_int" = some (some (.ref f16))) (l16 : K.lookup f16 = some ⟨oc16, od16, .func (PySem.W.fnOf "_law_is_int" "_law_is_int" (defArgs s__law_is_int) (defBody s__law_is_int) (defScope s__law_is_int) .none kV16 dc16 pm16 an16 cd16 ct16), sl16⟩) (c16 : PySem.W.codeIn K cd16 "_law_is_int" = true) (k16 : PySem.W.keepIn K (.ref f16) = true)
    {od17 an17 : Option Addr} {sl17 : Array (Option Value)} {oc17 kV17 dc17 pm17 cd17 ct17 : Value} {f17 : Addr}
    (a17 : PySem.W.nsIn K mainGlobals "_law_lowest" = some (some (.ref f17))) (l17 : K.lookup f17 = some ⟨oc17, od17, .func (PySem.W.fnOf "_law_lowest" "_law_lowest" (defArgs s__law_lowest) (defBody s__law_lowest) (defScope s__law_lowest) .none kV17 dc17 pm17 an17 cd17 ct17), sl17⟩) (c17 : PySem.W.codeIn K cd17 "_law_lowest" = true) (k17 : PySem.W.keepIn K (.ref f17) = true)
    {od18 an18 : Option Addr} {sl18 : Array (Option Value)} {oc18 kV18 dc18 pm18 cd18 ct18 : Value} {f18 : Addr}
    (a18 : PySem.W.nsIn K mainGlobals "_law_number" = some (some (.ref f18))) (l18 : K.lookup f18 = some ⟨oc18, od18, .func (PySem.W.fnOf "_law_number" "_law_number" (defArgs s__law_number) (defBody s__law_number) (defScope s__law_number) .none kV18 dc18 pm18 an18 cd18 ct18), sl18⟩) (c18 : PySem.W.codeIn K cd18 "_law_number" = true) (k18 : PySem.W.keepIn K (.ref f18) = true)
    {od19 an19 : Option Addr} {sl19 : Array (Option Value)} {oc19 kV19 dc19 pm19 cd19 ct19 : Value} {f19 : Addr}
    (a19 : PySem.W.nsIn K mainGlobals "_law_fraction" = some (some (.ref f19))) (l19 : K.lookup f19 = some ⟨oc19, od19, .func (PySem.W.fnOf "_law_fraction" "_law_fraction" (defArgs s__law_fraction) (defBody s__law_fraction) (defScope s__law_fraction) .none kV19 dc19 pm19 an19 cd19 ct19), sl19⟩) (c19 : PySem.W.codeIn K cd19 "_law_fraction" = true) (k19 : PySem.W.keepIn K (.ref f19) = true)
    {od20 an20 : Option Addr} {sl20 : Array (Option Value)} {oc20 kV20 dc20 pm20 cd20 ct20 : Value} {f20 : Addr}
    (a20 : PySem.W.nsIn K mainGlobals "_law_sign" = some (some (.ref f20))) (l20 : K.lookup f20 = some ⟨oc20, od20, .func (PySem.W.fnOf "_law_sign" "_law_sign" (defArgs s__law_sign) (defBody s__law_sign) (defScope s__law_sign) .none kV20 dc20 pm20 an20 cd20 ct20), sl20⟩) (c20 : PySem.W.codeIn K cd20 "_law_sign" = true) (k20 : PySem.W.keepIn K (.ref f20) = true)
    {od21 an21 : Option Addr} {sl21 : Array (Option Value)} {oc21 kV21 dc21 pm21 cd21 ct21 : Value} {f21 : Addr}
    (a21 : PySem.W.nsIn K mainGlobals "_law_most" = some (some (.ref f21))) (l21 : K.lookup f21 = some ⟨oc21, od21, .func (PySem.W.fnOf "_law_most" "_law_most" (defArgs s__law_most) (defBody s__law_most) (defScope s__law_most) .none kV21 dc21 pm21 an21 cd21 ct21), sl21⟩) (c21 : PySem.W.codeIn K cd21 "_law_most" = true) (k21 : PySem.W.keepIn K (.ref f21) = true)
    {od22 an22 : Option Addr} {sl22 : Array (Option Value)} {oc22 kV22 dc22 pm22 cd22 ct22 : Value} {f22 : Addr}
    (a22 : PySem.W.nsIn K mainGlobals "law" = some (some (.ref f22))) (l22 : K.lookup f22 = some ⟨oc22, od22, .func (PySem.W.fnOf "law" "law" (defArgs s_law) (defBody s_law) (defScope s_law) .none kV22 dc22 pm22 an22 cd22 ct22), sl22⟩) (c22 : PySem.W.codeIn K cd22 "law" = true) (k22 : PySem.W.keepIn K (.ref f22) = true)
    (z_abs : PySem.W.nsIn K mainGlobals "abs" = some none)
    (z_int : PySem.W.nsIn K mainGlobals "int" = some none)
    (z_len : PySem.W.nsIn K mainGlobals "len" = some none)
    (z_repr : PySem.W.nsIn K mainGlobals "repr" = some none)
    (z_isinstance : PySem.W.nsIn K mainGlobals "isinstance" = some none)
    (z_bool : PySem.W.nsIn K mainGlobals "bool" = some none)
    (z_range : PySem.W.nsIn K mainGlobals "range" = some none)
    (z_max : PySem.W.nsIn K mainGlobals "max" = some none)
    (z_tuple : PySem.W.nsIn K mainGlobals "tuple" = some none)
    (y_gcd : PySem.W.nsIn K mainGlobals "gcd" = some (some (.builtin "math.gcd")))
    (y_isqrt : PySem.W.nsIn K mainGlobals "isqrt" = some (some (.builtin "math.isqrt"))) :
    ∃ fd : FuncData, (∀ (s : Shared) (v : Value), BindsTo s fd ⟨[v], []⟩ [("_law_script", v)]) ∧ ∀ base : Heap, K.In base → base.Ns mainGlobals mg → FnG l.prog w K mg base CX0 5 fa fd ["_law_script"] (spP K [.ro] S_law) := by
  have e := hfa.symm.trans (PySem.W.mg_of X G a22)
  cases e
  have T : Bi mg := ⟨PySem.W.mg_none_of X G z_abs, PySem.W.mg_none_of X G z_int, PySem.W.mg_none_of X G z_len, PySem.W.mg_none_of X G z_repr, PySem.W.mg_none_of X G z_isinstance, PySem.W.mg_none_of X G z_bool, PySem.W.mg_none_of X G z_range, PySem.W.mg_none_of X G z_max, PySem.W.mg_none_of X G z_tuple, PySem.W.mg_of X G y_gcd, PySem.W.mg_of X G y_isqrt⟩
  have F1 := fun_mk (st := s_reduced) l1 c1 k1
  have b1 := F1.binds (ps := ["n", "d"]) fun _ _ _ _ _ _ us hl => match us, hl with | [_, _], _ => rfl
  have F2 := fun_mk (st := s_added) l2 c2 k2
  have b2 := F2.binds (ps := ["one", "other"]) fun _ _ _ _ _ _ us hl => match us, hl with | [_, _], _ => rfl
  have F3 := fun_mk (st := s_lessened) l3 c3 k3
  have b3 := F3.binds (ps := ["one", "other"]) fun _ _ _ _ _ _ us hl => match us, hl with | [_, _], _ => rfl
  have F4 := fun_mk (st := s_times) l4 c4 k4
  have b4 := F4.binds (ps := ["one", "other"]) fun _ _ _ _ _ _ us hl => match us, hl with | [_, _], _ => rfl
  have F5 := fun_mk (st := s_over) l5 c5 k5
  have b5 := F5.binds (ps := ["one", "other"]) fun _ _ _ _ _ _ us hl => match us, hl with | [_, _], _ => rfl
  have F6 := fun_mk (st := s_compared) l6 c6 k6
  have b6 := F6.binds (ps := ["one", "other"]) fun _ _ _ _ _ _ us hl => match us, hl with | [_, _], _ => rfl
  have F7 := fun_mk (st := s_least_of) l7 c7 k7
  have b7 := F7.binds (ps := ["fractions"]) fun _ _ _ _ _ _ us hl => match us, hl with | [_], _ => rfl
  have F8 := fun_mk (st := s_greatest_of) l8 c8 k8
  have b8 := F8.binds (ps := ["fractions"]) fun _ _ _ _ _ _ us hl => match us, hl with | [_], _ => rfl
  have F9 := fun_mk (st := s_clipped) l9 c9 k9
  have b9 := F9.binds (ps := ["one"]) fun _ _ _ _ _ _ us hl => match us, hl with | [_], _ => rfl
  have F10 := fun_mk (st := s_floor_of) l10 c10 k10
  have b10 := F10.binds (ps := ["one"]) fun _ _ _ _ _ _ us hl => match us, hl with | [_], _ => rfl
  have F11 := fun_mk (st := s_root_floor) l11 c11 k11
  have b11 := F11.binds (ps := ["n"]) fun _ _ _ _ _ _ us hl => match us, hl with | [_], _ => rfl
  have F12 := fun_mk (st := s__law_bag) l12 c12 k12
  have b12 := F12.binds (ps := ["_law_script"]) fun _ _ _ _ _ _ us hl => match us, hl with | [_], _ => rfl
  have F13 := fun_mk (st := s__law_take) l13 c13 k13
  have b13 := F13.binds (ps := ["_law_bag_here", "_law_many"]) fun _ _ _ _ _ _ us hl => match us, hl with | [_, _], _ => rfl
  have F14 := fun_mk (st := s__law_some) l14 c14 k14
  have b14 := F14.binds (ps := ["_law_bag_here", "_law_things"]) fun _ _ _ _ _ _ us hl => match us, hl with | [_, _], _ => rfl
  have F15 := fun_mk (st := s__law_alike) l15 c15 k15
  have b15 := F15.binds (ps := ["_law_found", "_law_due"]) fun _ _ _ _ _ _ us hl => match us, hl with | [_, _], _ => rfl
  have F16 := fun_mk (st := s__law_is_int) l16 c16 k16
  have b16 := F16.binds (ps := ["_law_thing"]) fun _ _ _ _ _ _ us hl => match us, hl with | [_], _ => rfl
  have F17 := fun_mk (st := s__law_lowest) l17 c17 k17
  have b17 := F17.binds (ps := ["_law_n", "_law_d"]) fun _ _ _ _ _ _ us hl => match us, hl with | [_, _], _ => rfl
  have F18 := fun_mk (st := s__law_number) l18 c18 k18
  have b18 := F18.binds (ps := ["_law_bag_here"]) fun _ _ _ _ _ _ us hl => match us, hl with | [_], _ => rfl
  have F19 := fun_mk (st := s__law_fraction) l19 c19 k19
  have b19 := F19.binds (ps := ["_law_bag_here"]) fun _ _ _ _ _ _ us hl => match us, hl with | [_], _ => rfl
  have F20 := fun_mk (st := s__law_sign) l20 c20 k20
  have b20 := F20.binds (ps := ["_law_one", "_law_other"]) fun _ _ _ _ _ _ us hl => match us, hl with | [_, _], _ => rfl
  have F21 := fun_mk (st := s__law_most) l21 c21 k21
  have b21 := F21.binds (ps := ["_law_some_here", "_law_sign_here"]) fun _ _ _ _ _ _ us hl => match us, hl with | [_, _], _ => rfl
  have F22 := fun_mk (st := s_law) l22 c22 k22
  have b22 := F22.binds (ps := ["_law_script"]) fun _ _ _ _ _ _ us hl => match us, hl with | [_], _ => rfl
  refine ⟨PySem.W.fnOf "law" "law" (defArgs s_law) (defBody s_law) (defScope s_law) .none kV22 dc22 pm22 an22 cd22 ct22, fun s v => .of_eq rfl, fun base _ _ => ?_⟩
  have G1 := ok_reduced (P := l.prog) (w := w) (base := base) F1 T 
  have G6 := ok_compared (P := l.prog) (w := w) (base := base) F6 T 
  have G9 := ok_clipped (P := l.prog) (w := w) (base := base) F9 T 
  have G10 := ok_floor_of (P := l.prog) (w := w) (base := base) F10 T 
  have G11 := ok_root_floor (P := l.prog) (w := w) (base := base) F11 T 
  have G12 := ok__law_bag (P := l.prog) (w := w) (base := base) F12 T 
  have G13 := ok__law_take (P := l.prog) (w := w) (base := base) F13 T 
  have G15 := ok__law_alike (P := l.prog) (w := w) (base := base) F15 T 
  have G16 := ok__law_is_int (P := l.prog) (w := w) (base := base) F16 T 
  have G17 := ok__law_lowest (P := l.prog) (w := w) (base := base) F17 T 
  have G20 := ok__law_sign (P := l.prog) (w := w) (base := base) F20 T 
  have G2 := ok_added (P := l.prog) (w := w) (base := base) F2 T G1 (PySem.W.mg_of X G a1) k1 b1
  have G3 := ok_lessened (P := l.prog) (w := w) (base := base) F3 T G1 (PySem.W.mg_of X G a1) k1 b1
  have G4 := ok_times (P := l.prog) (w := w) (base := base) F4 T G1 (PySem.W.mg_of X G a1) k1 b1
  have G5 := ok_over (P := l.prog) (w := w) (base := base) F5 T G1 (PySem.W.mg_of X G a1) k1 b1
  have G7 := ok_least_of (P := l.prog) (w := w) (base := base) F7 T G6 (PySem.W.mg_of X G a6) k6 b6
  have G8 := ok_greatest_of (P := l.prog) (w := w) (base := base) F8 T G6 (PySem.W.mg_of X G a6) k6 b6
  have G14 := ok__law_some (P := l.prog) (w := w) (base := base) F14 T G13 (PySem.W.mg_of X G a13) k13 b13
  have G21 := ok__law_most (P := l.prog) (w := w) (base := base) F21 T G20 (PySem.W.mg_of X G a20) k20 b20
  have G18 := ok__law_number (P := l.prog) (w := w) (base := base) F18 T G14 (PySem.W.mg_of X G a14) k14 b14 G13 (PySem.W.mg_of X G a13) k13 b13
  have G19 := ok__law_fraction (P := l.prog) (w := w) (base := base) F19 T G18 (PySem.W.mg_of X G a18) k18 b18 G17 (PySem.W.mg_of X G a17) k17 b17
  exact ok_law F22 T G12 (PySem.W.mg_of X G a12) k12 b12 G14 (PySem.W.mg_of X G a14) k14 b14 G11 (PySem.W.mg_of X G a11) k11 b11 G19 (PySem.W.mg_of X G a19) k19 b19 G18 (PySem.W.mg_of X G a18) k18 b18 G2 (PySem.W.mg_of X G a2) k2 b2 G3 (PySem.W.mg_of X G a3) k3 b3 G4 (PySem.W.mg_of X G a4) k4 b4 G6 (PySem.W.mg_of X G a6) k6 b6 G17 (PySem.W.mg_of X G a17) k17 b17 G9 (PySem.W.mg_of X G a9) k9 b9 G13 (PySem.W.mg_of X G a13) k13 b13 G20 (PySem.W.mg_of X G a20) k20 b20 G1 (PySem.W.mg_of X G a1) k1 b1 G5 (PySem.W.mg_of X G a5) k5 b5 G7 (PySem.W.mg_of X G a7) k7 b7 G8 (PySem.W.mg_of X G a8) k8 b8 G10 (PySem.W.mg_of X G a10) k10 b10 G21 (PySem.W.mg_of X G a21) k21 b21 G15 (PySem.W.mg_of X G a15) k15 b15 G16 (PySem.W.mg_of X G a16) k16 b16
theorem walk {l : PySem.W.OpenLaw} {q : Program} {loose : List Str} {XP : (Str → Option Value) → Heap → Prop} {YP : World → Heap → Prop} {d : DefRec} {K : Params → PySem.W.Frag} (hn : l.most = some 63) (hdf : d.params.defaults = [])
    (hY : ∀ (w : World) (h : Heap), YP w h → (K w.params).In h)
    (F : ∀ (w : World) (mg : Str → Option Value) (fa : Addr) (h : Heap), (K w.params).In h → h.Ns mainGlobals mg → mg d.name = some (.ref fa) →
      ∃ fd : FuncData, (∀ (s : Shared) (u : Value), BindsTo s fd ⟨[u], []⟩ [("_law_script", u)]) ∧ ∀ base : Heap, (K w.params).In base → base.Ns mainGlobals mg → FnG l.prog w (K w.params) mg base CX0 5 fa fd ["_law_script"] (spP (K w.params) [.ro] S_law)) :
    PySem.W.WalkO q loose XP YP l.row.toRowW d [] (fun f vs => PySem.call f vs) :=
  walk_goes (n := 63) (k := 5) (x := "_law_script") (sp := fun K => spP K [.ro] S_law) hn (by decide) hdf ⟨rfl, by decide, by decide⟩ hY F fun K H a ns hl hS => law_args hl hS m_law law_spec
end K01
open PySem PySem.W PyProof.Rows
set_option maxRecDepth 100000 in
set_option maxHeartbeats 0 in
theorem PySem.Challenge.cw_lampsaloft_k01_fractions_holds : PySem.Challenge.rw_lampsaloft_k01_fractions.Holds := by
  w_on; o_law; k_head; (case hw => w_witness2)
  k_fill
  refine K01.walk (l := PySem.Challenge.rw_lampsaloft_k01_fractions) rfl rfl (fun w h Y => PySem.W.kIn_of Y) ?F
  case F =>
    intro w mg fa h KX G hmg
    refine' K01.all_mk KX G hmg ?a1 ?l1 ?c1 ?k1 ?a2 ?l2 ?c2 ?k2 ?a3 ?l3 ?c3 ?k3 ?a4 ?l4 ?c4 ?k4 ?a5 ?l5 ?c5 ?k5 ?a6 ?l6 ?c6 ?k6 ?a7 ?l7 ?c7 ?k7 ?a8 ?l8 ?c8 ?k8 ?a9 ?l9 ?c9 ?k9 ?a10 ?l10 ?c10 ?k10 ?a11 ?l11 ?c11 ?k11 ?a12 ?l12 ?c12 ?k12 ?a13 ?l13 ?c13 ?k13 ?a14 ?l14 ?c14 ?k14 ?a15 ?l15 ?c15 ?k15 ?a16 ?l16 ?c16 ?k16 ?a17 ?l17 ?c17 ?k17 ?a18 ?l18 ?c18 ?k18 ?a19 ?l19 ?c19 ?k19 ?a20 ?l20 ?c20 ?k20 ?a21 ?l21 ?c21 ?k21 ?a22 ?l22 ?c22 ?k22 ?z_abs ?z_int ?z_len ?z_repr ?z_isinstance ?z_bool ?z_range ?z_max ?z_tuple ?y_gcd ?y_isqrt
    (case a1 => k_is)
    (case l1 => k_is)
    (case c1 => k_is)
    (case k1 => k_is)
    (case a2 => k_is)
    (case l2 => k_is)
    (case c2 => k_is)
    (case k2 => k_is)
    (case a3 => k_is)
    (case l3 => k_is)
    (case c3 => k_is)
    (case k3 => k_is)
    (case a4 => k_is)
    (case l4 => k_is)
    (case c4 => k_is)
    (case k4 => k_is)
    (case a5 => k_is)
    (case l5 => k_is)
    (case c5 => k_is)
    (case k5 => k_is)
    (case a6 => k_is)
    (case l6 => k_is)
    (case c6 => k_is)
    (case k6 => k_is)
    (case a7 => k_is)
    (case l7 => k_is)
    (case c7 => k_is)
    (case k7 => k_is)
    (case a8 => k_is)
    (case l8 => k_is)
    (case c8 => k_is)
    (case k8 => k_is)
    (case a9 => k_is)
    (case l9 => k_is)
    (case c9 => k_is)
    (case k9 => k_is)
    (case a10 => k_is)
    (case l10 => k_is)
    (case c10 => k_is)
    (case k10 => k_is)
    (case a11 => k_is)
    (case l11 => k_is)
    (case c11 => k_is)
    (case k11 => k_is)
    (case a12 => k_is)
    (case l12 => k_is)
    (case c12 => k_is)
    (case k12 => k_is)
    (case a13 => k_is)
    (case l13 => k_is)
    (case c13 => k_is)
    (case k13 => k_is)
    (case a14 => k_is)
    (case l14 => k_is)
    (case c14 => k_is)
    (case k14 => k_is)
    (case a15 => k_is)
    (case l15 => k_is)
    (case c15 => k_is)
    (case k15 => k_is)
    (case a16 => k_is)
    (case l16 => k_is)
    (case c16 => k_is)
    (case k16 => k_is)
    (case a17 => k_is)
    (case l17 => k_is)
    (case c17 => k_is)
    (case k17 => k_is)
    (case a18 => k_is)
    (case l18 => k_is)
    (case c18 => k_is)
    (case k18 => k_is)
    (case a19 => k_is)
    (case l19 => k_is)
    (case c19 => k_is)
    (case k19 => k_is)
    (case a20 => k_is)
    (case l20 => k_is)
    (case c20 => k_is)
    (case k20 => k_is)
    (case a21 => k_is)
    (case l21 => k_is)
    (case c21 => k_is)
    (case k21 => k_is)
    (case a22 => k_is)
    (case l22 => k_is)
    (case c22 => k_is)
    (case k22 => k_is)
    (case z_abs => k_is)
    (case z_int => k_is)
    (case z_len => k_is)
    (case z_repr => k_is)
    (case z_isinstance => k_is)
    (case z_bool => k_is)
    (case z_range => k_is)
    (case z_max => k_is)
    (case z_tuple => k_is)
    (case y_gcd => k_is)
    (case y_isqrt => k_is)
