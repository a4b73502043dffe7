/- The math of a store of asks: tight entries, what is asked for a set, what a put makes of them. No program is spoken of. -/
import Derived.Test.YtpcbdjdmhemjdaaSlices
namespace Go.Proofs.Ytpcbdjdmhemjdaa
set_option linter.unusedVariables false

/-- Sets in an order, and which lies within which. -/
structure SOrd (lt wi : Nat → Nat → Bool) (ok : Nat → Prop) : Prop where
  irr : ∀ a, lt a a = false
  trans : ∀ a b c, lt a b = true → lt b c = true → lt a c = true
  total : ∀ a b, a ≠ b → lt a b = false → lt b a = true
  refl : ∀ a, wi a a = true
  wtrans : ∀ a b c, wi a b = true → wi b c = true → wi a c = true
  wlt : ∀ a b, ok a → ok b → wi a b = true → a = b ∨ lt a b = true
abbrev Ent := Nat × Int
section
variable (lt wi : Nat → Nat → Bool) (ok : Nat → Prop) (most : Int)
/-- What entries ask for a set. -/
def askL (es : List Ent) (s : Nat) : Int := es.foldr (fun e m => if wi e.1 s = true then max m e.2 else m) 0
/-- Entries in order, right ones, none of them idle. -/
structure Tight (es : List Ent) : Prop where
  inc : es.Pairwise fun x y => lt x.1 y.1 = true
  right : ∀ x ∈ es, ok x.1 ∧ x.1 ≠ 0 ∧ 1 ≤ x.2 ∧ x.2 ≤ most
  need : ∀ x ∈ es, ∀ y ∈ es, x ≠ y → wi x.1 y.1 = true → x.2 < y.2
/-- An entry asks what may be asked, and more than is asked. -/
def rises (es : List Ent) (e : Ent) : Bool := decide (e.1 ≠ 0) && decide (e.2 ≤ most) && decide (askL wi es e.1 < e.2)
/-- An entry is put among others where it belongs. -/
def insE (e : Ent) : List Ent → List Ent
  | [] => [e]
  | x :: r => if lt e.1 x.1 = true then e :: x :: r else x :: insE e r
def dropE (e : Ent) (es : List Ent) : List Ent := es.filter fun x => !(wi e.1 x.1 && decide (x.2 ≤ e.2))
def putE (es : List Ent) (e : Ent) : List Ent := if rises wi most es e = true then insE lt e (dropE wi e es) else es
def ofE (es : List Ent) : List Ent := es.foldl (putE lt wi most) []
variable {lt wi ok most}
theorem askL_nil (s : Nat) : askL wi [] s = 0 := rfl
theorem askL_cons (e : Ent) (es : List Ent) (s : Nat) : askL wi (e :: es) s = if wi e.1 s = true then max (askL wi es s) e.2 else askL wi es s := rfl
theorem askL_nonneg (es : List Ent) (s : Nat) : 0 ≤ askL wi es s := by
  induction es with
  | nil => exact Int.le_refl _
  | cons e es ih =>
    rw [askL_cons]
    split
    · omega
    · exact ih
theorem askL_ge {es : List Ent} {s : Nat} {x : Ent} (h : x ∈ es) (hw : wi x.1 s = true) : x.2 ≤ askL wi es s := by
  induction es with
  | nil => cases h
  | cons e es ih =>
    rw [askL_cons]
    rcases List.mem_cons.1 h with rfl | h
    · rw [if_pos hw]; omega
    · have := ih h
      split <;> omega
theorem askL_is (es : List Ent) (s : Nat) : askL wi es s = 0 ∨ ∃ x ∈ es, wi x.1 s = true ∧ x.2 = askL wi es s := by
  induction es with
  | nil => exact .inl rfl
  | cons e es ih =>
    rw [askL_cons]
    split
    · rename_i hw
      rcases Int.le_total (askL wi es s) e.2 with h | h
      · rw [Int.max_eq_right h]; exact .inr ⟨e, List.mem_cons_self, hw, rfl⟩
      · rw [Int.max_eq_left h]
        rcases ih with h2 | ⟨x, hx, h3⟩
        · exact .inl h2
        · exact .inr ⟨x, List.mem_cons_of_mem _ hx, h3⟩
    · rcases ih with h2 | ⟨x, hx, h3⟩
      · exact .inl h2
      · exact .inr ⟨x, List.mem_cons_of_mem _ hx, h3⟩
theorem askL_le {es : List Ent} {s : Nat} {b : Int} (hb : 0 ≤ b) (h : ∀ x ∈ es, wi x.1 s = true → x.2 ≤ b) : askL wi es s ≤ b := by
  rcases askL_is (wi := wi) es s with e | ⟨x, hx, hw, e⟩
  · rw [e]; exact hb
  · rw [← e]; exact h x hx hw
/-- What is asked hangs on which entries there are. -/
theorem askL_eq {es fs : List Ent} {s : Nat} (h : ∀ x ∈ es, wi x.1 s = true → x.2 ≤ askL wi fs s) (h' : ∀ x ∈ fs, wi x.1 s = true → x.2 ≤ askL wi es s) : askL wi es s = askL wi fs s :=
  Int.le_antisymm (askL_le (askL_nonneg _ _) h) (askL_le (askL_nonneg _ _) h')
theorem mem_insE {e x : Ent} : ∀ {es : List Ent}, x ∈ insE lt e es ↔ x = e ∨ x ∈ es
  | [] => by simp [insE]
  | y :: r => by
    unfold insE
    split
    · simp
    · simp only [List.mem_cons]
      rw [mem_insE]
      constructor
      · rintro (h | h | h) <;> simp [h]
      · rintro (h | h | h) <;> simp [h]
variable (ho : SOrd lt wi ok)
include ho
theorem SOrd.asym {a b : Nat} (h : lt a b = true) : lt b a = false := by
  cases h2 : lt b a with
  | false => rfl
  | true => have := ho.trans a b a h h2; rw [ho.irr] at this; cases this
theorem SOrd.ne {a b : Nat} (h : lt a b = true) : a ≠ b := fun e => by subst e; rw [ho.irr] at h; cases h
theorem ins_inc {e : Ent} : ∀ {es : List Ent}, (es.Pairwise fun x y => lt x.1 y.1 = true) → (∀ x ∈ es, x.1 ≠ e.1) → (insE lt e es).Pairwise fun x y => lt x.1 y.1 = true
  | [], _, _ => by simp [insE]
  | y :: r, h, hne => by
    obtain ⟨h1, h2⟩ := List.pairwise_cons.1 h
    unfold insE
    split
    · rename_i hl
      refine List.pairwise_cons.2 ⟨fun z hz => ?_, h⟩
      rcases List.mem_cons.1 hz with rfl | hz
      · exact hl
      · exact ho.trans _ _ _ hl (h1 z hz)
    · rename_i hl
      refine List.pairwise_cons.2 ⟨fun z hz => ?_, ins_inc h2 (fun x hx => hne x (List.mem_cons_of_mem _ hx))⟩
      rcases mem_insE.1 hz with rfl | hz
      · exact ho.total _ _ (fun e2 => hne y List.mem_cons_self e2.symm) (by simpa using hl)
      · exact h1 z hz
/-- What a put makes of tight entries is tight. -/
theorem put_tight {es : List Ent} {e : Ent} (h : Tight lt wi ok most es) (hok : ok e.1) : Tight lt wi ok most (putE lt wi most es e) := by
  unfold putE
  split
  · rename_i hr
    unfold rises at hr
    simp only [Bool.and_eq_true, decide_eq_true_eq] at hr
    obtain ⟨⟨h0, hm⟩, ha⟩ := hr
    have hd : ∀ x ∈ dropE wi e es, x ∈ es ∧ (wi e.1 x.1 = true → e.2 < x.2) := fun x hx => by
      unfold dropE at hx
      rw [List.mem_filter] at hx
      refine ⟨hx.1, fun hw => ?_⟩
      have h2 := hx.2
      rw [hw] at h2
      simp at h2
      omega
    have hnn := askL_nonneg (wi := wi) es e.1
    refine ⟨ins_inc ho (List.Pairwise.sublist List.filter_sublist h.inc) (fun x hx e2 => ?_), fun x hx => ?_, fun x hx y hy hne hw => ?_⟩
    · obtain ⟨h1, h2⟩ := hd x hx
      have h3 := h2 (by rw [e2]; exact ho.refl _)
      have h4 := askL_ge (wi := wi) h1 (s := e.1) (by rw [e2]; exact ho.refl _)
      omega
    · rcases mem_insE.1 hx with rfl | hx
      · exact ⟨hok, h0, by omega, hm⟩
      · exact h.right x (hd x hx).1
    · rcases mem_insE.1 hx with rfl | hx
      · rcases mem_insE.1 hy with rfl | hy
        · exact absurd rfl hne
        · exact (hd y hy).2 hw
      · rcases mem_insE.1 hy with rfl | hy
        · have := askL_ge (wi := wi) (hd x hx).1 hw
          omega
        · exact h.need x (hd x hx).1 y (hd y hy).1 hne hw
  · exact h
/-- What is asked behind a put. -/
theorem ask_put {es : List Ent} {e : Ent} (s : Nat) : askL wi (putE lt wi most es e) s = if rises wi most es e = true ∧ wi e.1 s = true then max (askL wi es s) e.2 else askL wi es s := by
  unfold putE
  by_cases hr : rises wi most es e = true
  · rw [if_pos hr]
    have hd : ∀ x ∈ es, x ∈ dropE wi e es ∨ (wi e.1 x.1 = true ∧ x.2 ≤ e.2) := fun x hx => by
      unfold dropE
      rw [List.mem_filter]
      cases hw : wi e.1 x.1 with
      | false => exact .inl ⟨hx, by simp⟩
      | true =>
        rcases Int.lt_or_le e.2 x.2 with h | h
        · exact .inl ⟨hx, by simp; omega⟩
        · exact .inr ⟨rfl, h⟩
    have hs : ∀ x ∈ dropE wi e es, x ∈ es := fun x hx => (List.mem_filter.1 hx).1
    have hnn := askL_nonneg (wi := wi) es s
    by_cases hw : wi e.1 s = true
    · rw [if_pos ⟨hr, hw⟩]
      apply Int.le_antisymm
      · refine askL_le (by omega) (fun x hx hxs => ?_)
        rcases mem_insE.1 hx with rfl | hx
        · omega
        · have := askL_ge (wi := wi) (hs x hx) hxs
          omega
      · have h1 : e.2 ≤ askL wi (insE lt e (dropE wi e es)) s := askL_ge (mem_insE.2 (.inl rfl)) hw
        refine Int.max_le.2 ⟨?_, h1⟩
        refine askL_le (askL_nonneg _ _) (fun x hx hxs => ?_)
        rcases hd x hx with h | ⟨_, h⟩
        · exact askL_ge (mem_insE.2 (.inr h)) hxs
        · omega
    · rw [if_neg (fun h => hw h.2)]
      refine askL_eq (fun x hx hxs => ?_) (fun x hx hxs => ?_)
      · rcases mem_insE.1 hx with rfl | hx
        · exact absurd hxs hw
        · exact askL_ge (hs x hx) hxs
      · rcases hd x hx with h | ⟨h, _⟩
        · exact askL_ge (mem_insE.2 (.inr h)) hxs
        · exact absurd (ho.wtrans _ _ _ h hxs) hw
  · rw [if_neg hr, if_neg (fun h => hr h.1)]
/-- A tight entry asks just that for its set. -/
theorem ask_own {es : List Ent} (h : Tight lt wi ok most es) {x : Ent} (hx : x ∈ es) : askL wi es x.1 = x.2 := by
  apply Int.le_antisymm
  · refine askL_le (by have := (h.right x hx).2.2.1; omega) (fun y hy hw => ?_)
    by_cases e : y = x
    · rw [e]; omega
    · have := h.need y hy x hx e hw
      omega
  · exact askL_ge hx (ho.refl _)
/-- Who asks the same for all sets has the same entries. -/
theorem tight_mem {es fs : List Ent} (h : Tight lt wi ok most es) (h' : Tight lt wi ok most fs) (ha : ∀ s, ok s → askL wi es s = askL wi fs s) {x : Ent} (hx : x ∈ es) : x ∈ fs := by
  obtain ⟨k1, k2, k3, k4⟩ := h.right x hx
  have h1 := ask_own ho h hx
  rw [ha _ k1] at h1
  rcases askL_is (wi := wi) fs x.1 with e | ⟨y, hy, hw, e⟩
  · omega
  · have hya := ask_own ho h' hy
    have hok := (h'.right y hy).1
    rw [← ha _ hok] at hya
    rcases askL_is (wi := wi) es y.1 with e2 | ⟨z, hz, hzw, e2⟩
    · have := (h'.right y hy).2.2.1; omega
    · have hzx : z = x := by
        apply Decidable.byContradiction
        intro hne
        have := h.need z hz x hx hne (ho.wtrans _ _ _ hzw hw)
        omega
      subst hzx
      -- the two sets lie within each other
      have hy1 : y.1 = z.1 := by
        rcases ho.wlt _ _ hok k1 hw with e3 | e3
        · exact e3
        · rcases ho.wlt _ _ k1 hok hzw with e4 | e4
          · exact e4.symm
          · have := ho.asym e3; rw [e4] at this; cases this
      have hy2 : y.2 = z.2 := by omega
      have : y = z := Prod.ext hy1 hy2
      rw [← this]; exact hy
theorem inc_ext : ∀ {es fs : List Ent}, (es.Pairwise fun x y => lt x.1 y.1 = true) → (fs.Pairwise fun x y => lt x.1 y.1 = true) → (∀ x, x ∈ es ↔ x ∈ fs) → es = fs
  | [], [], _, _, _ => rfl
  | [], y :: r, _, _, h => by have := (h y).2 List.mem_cons_self; cases this
  | x :: r, [], _, _, h => by have := (h x).1 List.mem_cons_self; cases this
  | x :: r, y :: q, h1, h2, h => by
    obtain ⟨a1, a2⟩ := List.pairwise_cons.1 h1
    obtain ⟨b1, b2⟩ := List.pairwise_cons.1 h2
    have hxy : x = y := by
      rcases List.mem_cons.1 ((h x).1 List.mem_cons_self) with e | e
      · exact e
      · rcases List.mem_cons.1 ((h y).2 List.mem_cons_self) with e2 | e2
        · exact e2.symm
        · have := ho.asym (b1 x e); rw [a1 y e2] at this; cases this
    subst hxy
    rw [inc_ext a2 b2 (fun z => ?_)]
    constructor
    · intro hz
      rcases List.mem_cons.1 ((h z).1 (List.mem_cons_of_mem _ hz)) with e | e
      · subst e; have := a1 z hz; rw [ho.irr] at this; cases this
      · exact e
    · intro hz
      rcases List.mem_cons.1 ((h z).2 (List.mem_cons_of_mem _ hz)) with e | e
      · subst e; have := b1 z hz; rw [ho.irr] at this; cases this
      · exact e
theorem tight_ext {es fs : List Ent} (h : Tight lt wi ok most es) (h' : Tight lt wi ok most fs) (ha : ∀ s, ok s → askL wi es s = askL wi fs s) : es = fs :=
  inc_ext ho h.inc h'.inc (fun x => ⟨fun hx => tight_mem ho h h' ha hx, fun hx => tight_mem ho h' h (fun s hs => (ha s hs).symm) hx⟩)
end
end Go.Proofs.Ytpcbdjdmhemjdaa
