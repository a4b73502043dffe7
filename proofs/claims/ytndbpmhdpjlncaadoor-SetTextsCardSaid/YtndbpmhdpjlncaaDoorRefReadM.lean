/- Plain facts of the document's reader of texts: digits that come one by one tell the words between the commas. No program is spoken of. -/
import Derived.Test.YtndbpmhdpjlncaaDoorSetBackM
namespace Go.Proofs.YtndbpmhdpjlncaaDoor

def isDig (c : UInt8) : Bool := decide (48 ≤ c.toNat) && decide (c.toNat ≤ 57)
/-- The number that digits tell. -/
def valW (w : List UInt8) : Nat := w.foldl (fun n c => n * 10 + (c.toNat - 48)) 0
/-- What the rest of a text makes of what is got. -/
def goOn (g : Nat) (t : List UInt8) : Option Nat := (splitC t).foldl rdStep (some g)
theorem valW_snoc (w : List UInt8) (c : UInt8) : valW (w ++ [c]) = valW w * 10 + (c.toNat - 48) := by simp [valW]
theorem fold_none (ls : List (List UInt8)) : ls.foldl rdStep none = none := by
  induction ls with
  | nil => rfl
  | cons x r ih => exact ih

def readW (l : List UInt8) : Option Nat :=
  match Lib.atoiAll l with
  | .ok v => if itemB v = true ∧ decW v.toNat = l then some v.toNat else none
  | _ => none
theorem readL_two : ∀ d e : Fin 10, readW [UInt8.ofNat (48 + d.val), UInt8.ofNat (48 + e.val)] = (if 63 < d.val * 10 + e.val ∨ d.val * 10 + e.val < 10 then none else some (d.val * 10 + e.val)) := by decide +kernel
theorem readL_one : ∀ d : Fin 10, readW [UInt8.ofNat (48 + d.val)] = some d.val := by decide +kernel
theorem readL_nil : readL [] = none := by
  cases h : readL [] with
  | none => rfl
  | some i => exact absurd (readL_dig h) (dec_ne i (readL_lt h))
theorem readL_W (l : List UInt8) : readL l = readW l := by
  unfold readL readW
  by_cases hok : ∃ v, Lib.atoiAll l = .ok v
  · obtain ⟨v, hv⟩ := hok
    rw [hv]
    by_cases h : itemB v = true
    · obtain ⟨h1, h2⟩ := itemB_t h
      simp only [dec_eq (show v.toNat < 64 by omega)]
    · simp [h]
  · split
    · rename_i v hv; exact absurd ⟨v, hv⟩ hok
    · split
      · rename_i v hv; exact absurd ⟨v, hv⟩ hok
      · rfl
theorem dig_of {c : UInt8} (h : isDig c = true) : ∃ d : Fin 10, c = UInt8.ofNat (48 + d.val) ∧ c.toNat - 48 = d.val := by
  unfold isDig at h
  simp only [Bool.and_eq_true, decide_eq_true_eq] at h
  refine ⟨⟨c.toNat - 48, by omega⟩, ?_, rfl⟩
  apply UInt8.toNat_inj.1
  rw [UInt8.toNat_ofNat']
  show c.toNat = (48 + (c.toNat - 48)) % 256
  omega
/-- What a word of at most two digits tells. -/
theorem readL_word (w : List UInt8) (hd : ∀ c ∈ w, isDig c = true) (hl : w.length ≤ 2) :
    readL w = if w.length = 0 ∨ 63 < valW w ∨ (w.length = 2 ∧ valW w < 10) then none else some (valW w) := by
  match w, hd, hl with
  | [], _, _ => rw [readL_nil]; rfl
  | [c], hd, _ =>
    obtain ⟨d, rfl, e⟩ := dig_of (hd c (by simp))
    have hv : valW [UInt8.ofNat (48 + d.val)] = d.val := by simp only [valW, List.foldl_cons, List.foldl_nil]; omega
    rw [readL_W, readL_one d, hv, if_neg (by simp; omega)]
  | [c1, c2], hd, _ =>
    obtain ⟨d, rfl, e1⟩ := dig_of (hd c1 (by simp))
    obtain ⟨f, rfl, e2⟩ := dig_of (hd c2 (by simp))
    have hv : valW [UInt8.ofNat (48 + d.val), UInt8.ofNat (48 + f.val)] = d.val * 10 + f.val := by simp only [valW, List.foldl_cons, List.foldl_nil]; omega
    rw [readL_W, readL_two d f, hv]
    simp

theorem dec_short : ∀ i : Fin 64, (decW i).length ≤ 2 ∧ (decW i).all isDig = true := by decide +kernel
theorem readL_shape {l : List UInt8} {i : Nat} (h : readL l = some i) : l.length ≤ 2 ∧ ∀ c ∈ l, isDig c = true := by
  have hi := readL_lt h
  have e := readL_dig h
  have := dec_short ⟨i, hi⟩
  rw [dec_eq hi] at e
  rw [← e]
  exact ⟨this.1, fun c hc => List.all_eq_true.1 this.2 c hc⟩

theorem dig_no {w : List UInt8} (hd : ∀ c ∈ w, isDig c = true) : ∀ c ∈ w, c ≠ 44 := by
  rintro c hc rfl
  have := hd 44 hc
  revert this
  decide
theorem splitC_app (w r : List UInt8) (h : ∀ c ∈ w, c ≠ 44) : ∃ x xs, splitC r = x :: xs ∧ splitC (w ++ r) = (w ++ x) :: xs := by
  induction w with
  | nil =>
    cases hr : splitC r with
    | nil => exact absurd hr (splitC_ne r)
    | cons x xs => exact ⟨x, xs, rfl, hr⟩
  | cons c w ih =>
    obtain ⟨x, xs, h1, h2⟩ := ih (fun d hd => h d (by simp [hd]))
    refine ⟨x, xs, h1, ?_⟩
    rw [List.cons_append, splitC, if_neg (h c (by simp)), h2]
    rfl
/-- A comma ends a word. -/
theorem goOn_comma (g : Nat) (w r : List UInt8) (hd : ∀ c ∈ w, isDig c = true) : goOn g (w ++ 44 :: r) = (rdStep (some g) w).bind fun g' => goOn g' r := by
  unfold goOn
  rw [splitC_at _ _ (dig_no hd), List.foldl_cons]
  cases rdStep (some g) w with
  | none => rw [fold_none]; rfl
  | some g' => rfl
theorem goOn_end (g : Nat) (w : List UInt8) (hd : ∀ c ∈ w, isDig c = true) : goOn g w = rdStep (some g) w := by
  unfold goOn
  rw [splitC_none _ (dig_no hd)]; rfl
/-- What no word may hold leaves nothing to read. -/
theorem goOn_bad (g : Nat) (w r : List UInt8) (c : UInt8) (hd : ∀ c ∈ w, isDig c = true) (hc : c ≠ 44) (hbad : isDig c = false ∨ w.length = 2) : goOn g (w ++ c :: r) = none := by
  have hno : ∀ d ∈ w ++ [c], d ≠ 44 := by
    intro d hdm
    rcases List.mem_append.1 hdm with h | h
    · exact dig_no hd d h
    · rw [List.mem_singleton.1 h]; exact hc
  obtain ⟨x, xs, _, h2⟩ := splitC_app (w ++ [c]) r hno
  rw [List.append_assoc, List.cons_append, List.nil_append] at h2
  unfold goOn
  rw [h2, List.foldl_cons]
  have hn : readL (w ++ [c] ++ x) = none := by
    cases hr : readL (w ++ [c] ++ x) with
    | none => rfl
    | some i =>
      obtain ⟨s1, s2⟩ := readL_shape hr
      rcases hbad with h | h
      · have := s2 c (by simp)
        rw [h] at this; cases this
      · simp at s1; omega
  rw [show rdStep (some g) (w ++ [c] ++ x) = none from by unfold rdStep; rw [Option.bind_some, hn]; rfl]
  exact fold_none xs

theorem div_zero {g n : Nat} : g / 2 ^ n = 0 ↔ g < 2 ^ n := by
  constructor
  · intro h
    rcases Nat.lt_or_ge g (2 ^ n) with h1 | h1
    · exact h1
    · have := Nat.div_pos h1 (Nat.two_pow_pos n); omega
  · exact Nat.div_eq_of_lt
/-- The items told are below n: so is the set. -/
theorem lt_of_last {g n : Nat} (hg : g < 18446744073709551616) : g < 2 ^ n ↔ ∀ x ∈ items g, x < n := by
  constructor
  · intro h x hx
    obtain ⟨_, h2⟩ := items_mem.1 hx
    rcases Nat.lt_or_ge x n with h1 | h1
    · exact h1
    · rw [Nat.testBit_lt_two_pow (Nat.lt_of_lt_of_le h (Nat.pow_le_pow_right (by decide) h1))] at h2; cases h2
  · intro h
    apply Nat.lt_pow_two_of_testBit
    intro i hi
    cases hb : g.testBit i with
    | false => rfl
    | true =>
      have hi64 : i < 64 := by
        rcases Nat.lt_or_ge i 64 with h1 | h1
        · exact h1
        · rw [Nat.testBit_lt_two_pow (Nat.lt_of_lt_of_le (show g < 2 ^ 64 from hg) (Nat.pow_le_pow_right (by decide) h1))] at hb; cases hb
      have := h i (items_mem.2 ⟨hi64, hb⟩)
      omega
theorem items_sorted (g : Nat) : (items g).Pairwise (· < ·) := by
  unfold items
  exact List.Pairwise.filter _ List.pairwise_lt_range
/-- A word ends: an error, or one item more. L: the last item told, or -1. -/
theorem rd_word (g : Nat) (w : List UInt8) (hg : g < 18446744073709551616) (hd : ∀ c ∈ w, isDig c = true) (hl : w.length ≤ 2) :
    (w.length = 0 ∨ 63 < valW w ∨ (w.length = 2 ∧ valW w < 10) ∨ (∃ x, (items g)[(items g).length - 1]? = some x ∧ valW w ≤ x)) ∧ rdStep (some g) w = none ∨
    (w.length ≠ 0 ∧ valW w ≤ 63 ∧ ¬ (w.length = 2 ∧ valW w < 10) ∧ (∀ x, (items g)[(items g).length - 1]? = some x → x < valW w)) ∧
      ∃ g', rdStep (some g) w = some g' ∧ g' < 18446744073709551616 ∧ items g' = items g ++ [valW w] := by
  have hr := readL_word w hd hl
  by_cases h1 : w.length = 0 ∨ 63 < valW w ∨ (w.length = 2 ∧ valW w < 10)
  · rw [if_pos h1] at hr
    refine .inl ⟨?_, by unfold rdStep; rw [Option.bind_some, hr]; rfl⟩
    rcases h1 with h | h | h
    · exact .inl h
    · exact .inr (.inl h)
    · exact .inr (.inr (.inl h))
  · rw [if_neg h1] at hr
    have hle : valW w ≤ 63 := by omega
    by_cases h2 : g / 2 ^ valW w = 0
    · have hlt := div_zero.1 h2
      refine .inr ⟨⟨by omega, hle, by omega, fun x hx => (lt_of_last hg).1 hlt x (List.mem_of_getElem? hx)⟩, g ||| 2 ^ valW w, ?_, or_lt hg (by omega), items_or hlt (by omega)⟩
      unfold rdStep
      rw [Option.bind_some, hr, Option.bind_some, if_pos h2]
    · refine .inl ⟨.inr (.inr (.inr ?_)), by unfold rdStep; rw [Option.bind_some, hr, Option.bind_some, if_neg h2]⟩
      have h3 : ¬ ∀ x ∈ items g, x < valW w := fun h => h2 (div_zero.2 ((lt_of_last hg).2 h))
      have : ∃ x ∈ items g, valW w ≤ x := by
        apply Classical.byContradiction
        intro hn
        exact h3 fun x hx => Nat.lt_of_not_le fun hle => hn ⟨x, hx, hle⟩
      obtain ⟨y, hy, hyw⟩ := this
      obtain ⟨j, hj⟩ := List.getElem?_of_mem hy
      have hjl := (List.getElem?_eq_some_iff.1 hj).1
      have hlast : (items g).length - 1 < (items g).length := by omega
      refine ⟨(items g)[(items g).length - 1], List.getElem?_eq_getElem hlast, ?_⟩
      rcases Nat.lt_or_ge j ((items g).length - 1) with h | h
      · have := List.pairwise_iff_getElem.1 (items_sorted g) j _ hjl hlast h
        rw [(List.getElem?_eq_some_iff.1 hj).2] at this
        omega
      · have hje : j = (items g).length - 1 := by omega
        subst hje
        rw [(List.getElem?_eq_some_iff.1 hj).2]
        exact hyw

/-- A text between braces is read by its inside. -/
theorem readS_in (m : List UInt8) : readS (123 :: (m ++ [125])) = if m = [] then some 0 else goOn 0 m := by
  unfold readS
  rw [inner1_cons, inner2_of (inner1_cons _), if_pos ⟨pre_cons _, suf_snoc _⟩]
  rfl
/-- Any other text is not read. -/
theorem readS_out (l : List UInt8) (h : ¬ ∃ m, l = 123 :: (m ++ [125])) : readS l = none := by
  cases hr : readS l with
  | none => rfl
  | some c =>
    have := (text_read hr).1
    exact absurd ⟨Lib.join ((items c).map Lib.decDigits) [44], by rw [← this]; simp [textL]⟩ h

end Go.Proofs.YtndbpmhdpjlncaaDoor
