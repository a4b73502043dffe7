/- The sum of bytes, as numbers: one bit, one byte, all bytes; by a table as bit by bit. -/
namespace Go.Proofs.YtocmfdahnekboaaDoor.SumM

def pol : Nat := 2197175160
/-- One turn of a register. -/
def bit1 (r : Nat) : Nat := (r >>> 1) ^^^ ((r &&& 1) * pol)
def turnN : Nat → Nat → Nat
  | 0, r => r
  | k + 1, r => bit1 (turnN k r)
/-- What eight turns make of a register. -/
def turn8 (r : Nat) : Nat := turnN 8 r
/-- One byte more, by the table. -/
def upd (r b : Nat) : Nat := (r >>> 8) ^^^ turn8 ((r % 256) ^^^ b)
def updAll (r : Nat) (l : List Nat) : Nat := l.foldl upd r

theorem xlc (x y z : Nat) : x ^^^ (y ^^^ z) = y ^^^ (x ^^^ z) := by rw [← Nat.xor_assoc, Nat.xor_comm x y, Nat.xor_assoc]
theorem xor_back {a b : Nat} : a ^^^ (a ^^^ b) = b := by rw [← Nat.xor_assoc, Nat.xor_self, Nat.zero_xor]
theorem and1_cases (x : Nat) : x &&& 1 = 0 ∨ x &&& 1 = 1 := by
  rw [Nat.and_one_is_mod]; omega
theorem bit1_xor (x y : Nat) : bit1 (x ^^^ y) = bit1 x ^^^ bit1 y := by
  unfold bit1
  rw [Nat.shiftRight_xor_distrib, Nat.and_xor_distrib_right]
  rcases and1_cases x with hx | hx <;> rcases and1_cases y with hy | hy <;> rw [hx, hy] <;> simp [Nat.xor_comm, xlc, xor_back]
theorem turnN_xor (k x y : Nat) : turnN k (x ^^^ y) = turnN k x ^^^ turnN k y := by
  induction k with
  | zero => rfl
  | succ k ih => show bit1 _ = bit1 _ ^^^ bit1 _; rw [ih, bit1_xor]
theorem turn8_xor (x y : Nat) : turn8 (x ^^^ y) = turn8 x ^^^ turn8 y := turnN_xor 8 x y
theorem bit1_even (h : Nat) : bit1 (2 * h) = h := by
  unfold bit1
  rw [Nat.and_one_is_mod, Nat.shiftRight_eq_div_pow]
  have h1 : 2 * h % 2 = 0 := by omega
  have h2 : 2 * h / 2 ^ 1 = h := by omega
  rw [h1, h2]; simp
theorem turn8_shift (h : Nat) : turn8 (256 * h) = h := by
  have e : turn8 (256 * h) = bit1 (bit1 (bit1 (bit1 (bit1 (bit1 (bit1 (bit1 (256 * h)))))))) := rfl
  rw [e, show 256 * h = 2 * (128 * h) from by omega, bit1_even, show 128 * h = 2 * (64 * h) from by omega, bit1_even, show 64 * h = 2 * (32 * h) from by omega, bit1_even,
    show 32 * h = 2 * (16 * h) from by omega, bit1_even, show 16 * h = 2 * (8 * h) from by omega, bit1_even, show 8 * h = 2 * (4 * h) from by omega, bit1_even, show 4 * h = 2 * (2 * h) from by omega, bit1_even, bit1_even]
theorem split256 (r : Nat) : (256 * (r / 256)) ^^^ (r % 256) = r := by
  have h : 256 * (r / 256) ||| (r % 256) = 256 * (r / 256) + r % 256 := by
    have := Nat.two_pow_add_eq_or_of_lt (i := 8) (b := r % 256) (by omega) (r / 256)
    exact this.symm
  apply Nat.eq_of_testBit_eq
  intro i
  have hr : r = 256 * (r / 256) + r % 256 := by omega
  conv => rhs; rw [hr, ← h]
  rw [Nat.testBit_xor, Nat.testBit_or]
  by_cases hi : i < 8
  · have : (256 * (r / 256)).testBit i = false := by
      have := Nat.testBit_two_pow_mul (i := 8) (a := r / 256) (j := i)
      rw [show (2:Nat)^8 = 256 from rfl] at this
      rw [this]; simp; omega
    rw [this]; simp
  · have : (r % 256).testBit i = false := by
      apply Nat.testBit_lt_two_pow
      have h2 : r % 256 < 2 ^ 8 := by omega
      exact Nat.lt_of_lt_of_le h2 (Nat.pow_le_pow_right (by omega) (by omega))
    rw [this]; simp
/-- By the table it is eight turns of the register held against the byte. -/
theorem upd_eq (r b : Nat) : upd r b = turn8 (r ^^^ b) := by
  unfold upd
  conv => rhs; rw [← split256 r, Nat.xor_assoc, turn8_xor, turn8_shift]
  rw [Nat.shiftRight_eq_div_pow]

/-- The document's way: a bit of the byte is held against the lowest one. -/
def refBit (r c : Nat) : Nat := if c ≠ r % 2 then (r / 2) ^^^ pol else r / 2
def refN (b : Nat) : Nat → Nat → Nat
  | 0, r => r
  | k + 1, r => refBit (refN b k r) (b / 2 ^ k % 2)
theorem refBit_eq (x y : Nat) : refBit (x ^^^ y) (y % 2) = bit1 x ^^^ (y / 2) := by
  unfold refBit bit1
  have h1 : (x ^^^ y) % 2 = (x % 2 + y % 2) % 2 := by
    have := Nat.xor_mod_two_pow (a := x) (b := y) (n := 1)
    rw [show (2:Nat)^1 = 2 from rfl] at this
    rw [this]
    rcases Nat.mod_two_eq_zero_or_one x with hx | hx <;> rcases Nat.mod_two_eq_zero_or_one y with hy | hy <;> rw [hx, hy] <;> rfl
  have h2 : (x ^^^ y) / 2 = (x / 2) ^^^ (y / 2) := by
    have := Nat.shiftRight_xor_distrib (a := x) (b := y) (i := 1)
    simpa [Nat.shiftRight_eq_div_pow] using this
  rw [h1, h2, Nat.and_one_is_mod, Nat.shiftRight_eq_div_pow]
  rcases Nat.mod_two_eq_zero_or_one x with hx | hx <;> rcases Nat.mod_two_eq_zero_or_one y with hy | hy <;> rw [hx, hy] <;> simp [Nat.xor_comm, xlc]
theorem refN_eq (b r : Nat) (k : Nat) : refN b k r = turnN k (r ^^^ b) ^^^ (b / 2 ^ k) := by
  induction k with
  | zero => show r = (r ^^^ b) ^^^ (b / 1); rw [Nat.div_one, Nat.xor_assoc, Nat.xor_self, Nat.xor_zero]
  | succ k ih =>
    show refBit (refN b k r) (b / 2 ^ k % 2) = bit1 (turnN k (r ^^^ b)) ^^^ _
    rw [ih, refBit_eq, Nat.pow_succ, Nat.div_div_eq_div_mul]
theorem refN_upd (r b : Nat) (hb : b < 256) : refN b 8 r = upd r b := by
  rw [refN_eq, upd_eq, show b / 2 ^ 8 = 0 from by omega, Nat.xor_zero]; rfl

theorem xor_lt {a b : Nat} (ha : a < 4294967296) (hb : b < 4294967296) : a ^^^ b < 4294967296 := Nat.xor_lt_two_pow (n := 32) ha hb
theorem bit1_lt {r : Nat} (h : r < 4294967296) : bit1 r < 4294967296 := by
  unfold bit1
  apply xor_lt
  · rw [Nat.shiftRight_eq_div_pow]; omega
  · rcases and1_cases r with e | e <;> rw [e] <;> simp [pol]
theorem turnN_lt {r : Nat} (h : r < 4294967296) (k : Nat) : turnN k r < 4294967296 := by
  induction k with
  | zero => exact h
  | succ k ih => exact bit1_lt ih
theorem upd_lt {r b : Nat} (h : r < 4294967296) (hb : b < 256) : upd r b < 4294967296 := by
  rw [upd_eq]; exact turnN_lt (xor_lt h (by omega)) 8
theorem refBit_lt {r c : Nat} (h : r < 4294967296) : refBit r c < 4294967296 := by
  unfold refBit
  split
  · exact xor_lt (by omega) (by decide)
  · omega
theorem refN_lt {r : Nat} (b : Nat) (h : r < 4294967296) (k : Nat) : refN b k r < 4294967296 := by
  induction k with
  | zero => exact h
  | succ k ih => exact refBit_lt ih
theorem updAll_lt {r : Nat} (l : List Nat) (h : r < 4294967296) (hl : ∀ b ∈ l, b < 256) : updAll r l < 4294967296 := by
  induction l generalizing r with
  | nil => exact h
  | cons b l ih => exact ih (upd_lt h (hl b (by simp))) (fun c hc => hl c (by simp [hc]))
theorem updAll_append (r : Nat) (l m : List Nat) : updAll r (l ++ m) = updAll (updAll r l) m := by simp [updAll]
theorem updAll_snoc (r : Nat) (l : List Nat) (b : Nat) : updAll r (l ++ [b]) = upd (updAll r l) b := by simp [updAll]

/-- The sum of more bytes. -/
def ext (s : Nat) (l : List Nat) : Nat := 4294967295 - updAll (4294967295 - s) l
theorem ext_lt (s : Nat) (l : List Nat) : ext s l < 4294967296 := by unfold ext; omega
theorem ext_append (s : Nat) (hs : s < 4294967296) (l m : List Nat) (hl : ∀ b ∈ l, b < 256) : ext s (l ++ m) = ext (ext s l) m := by
  unfold ext
  have h := updAll_lt l (r := 4294967295 - s) (by omega) hl
  rw [updAll_append, show 4294967295 - (4294967295 - updAll (4294967295 - s) l) = updAll (4294967295 - s) l from by omega]

/-- Held against each other. -/
def xorL (l m : List Nat) : List Nat := List.zipWith (· ^^^ ·) l m
theorem upd_xor (r s b c : Nat) : upd (r ^^^ s) (b ^^^ c) = upd r b ^^^ upd s c := by
  rw [upd_eq, upd_eq, upd_eq, ← turn8_xor]
  congr 1
  rw [Nat.xor_assoc, Nat.xor_assoc, xlc s]
theorem updAll_xor (l m : List Nat) (h : l.length = m.length) (r s : Nat) : updAll (r ^^^ s) (xorL l m) = updAll r l ^^^ updAll s m := by
  induction l generalizing m r s with
  | nil => cases m with
    | nil => rfl
    | cons => simp at h
  | cons b l ih => cases m with
    | nil => simp at h
    | cons c m =>
      show updAll (upd (r ^^^ s) (b ^^^ c)) (xorL l m) = _
      rw [upd_xor, ih m (by simpa using h)]; rfl
theorem xor_zeros (l : List Nat) : xorL l (List.replicate l.length 0) = l := by
  induction l with
  | nil => rfl
  | cons b l ih => show (b ^^^ 0) :: xorL l (List.replicate l.length 0) = _; rw [ih, Nat.xor_zero]
theorem not_xor {a : Nat} (h : a < 4294967296) : 4294967295 - a = 4294967295 ^^^ a := by
  have h2 : ∀ i, (2 ^ 32 - (a + 1)).testBit i = (decide (i < 32) && !a.testBit i) := fun i => Nat.testBit_two_pow_sub_succ (n := 32) h i
  apply Nat.eq_of_testBit_eq
  intro i
  rw [Nat.testBit_xor, show (4294967295 : Nat) - a = 2 ^ 32 - (a + 1) from by omega, h2 i, show (4294967295 : Nat) = 2 ^ 32 - 1 from rfl, Nat.testBit_two_pow_sub_one]
  by_cases hi : i < 32
  · simp [hi]
  · have : a.testBit i = false := Nat.testBit_lt_two_pow (Nat.lt_of_lt_of_le h (Nat.pow_le_pow_right (n := 2) (by omega) (by omega : 32 ≤ i)))
    simp [hi, this]
theorem not_not {a : Nat} (h : a < 4294967296) : 4294967295 - (4294967295 - a) = a := by omega

/-- The sum of bytes that are held against each other. -/
theorem ext_linear (l m : List Nat) (h : l.length = m.length) (hl : ∀ b ∈ l, b < 256) (hm : ∀ b ∈ m, b < 256) :
    ext 0 (xorL l m) = ext 0 l ^^^ ext 0 m ^^^ ext 0 (List.replicate l.length 0) := by
  have hz : ∀ b ∈ List.replicate l.length 0, b < 256 := by intro b hb; rw [List.eq_of_mem_replicate hb]; decide
  have hx : ∀ b ∈ xorL l m, b < 256 := by
    intro b hb
    unfold xorL at hb
    rw [List.zipWith_eq_zipWith_take_min] at hb
    obtain ⟨i, hi, rfl⟩ := List.getElem_of_mem hb
    rw [List.getElem_zipWith]
    exact Nat.xor_lt_two_pow (n := 8) (hl _ (List.mem_of_mem_take (List.getElem_mem _))) (hm _ (List.mem_of_mem_take (List.getElem_mem _)))
  have hlt : ∀ (k : List Nat), (∀ b ∈ k, b < 256) → updAll 4294967295 k < 4294967296 := fun k hk => updAll_lt k (by decide) hk
  have e : ∀ (k : List Nat), (∀ b ∈ k, b < 256) → ext 0 k = 4294967295 ^^^ updAll 4294967295 k := fun k hk => not_xor (hlt k hk)
  rw [e _ hx, e _ hl, e _ hm, e _ hz]
  have h1 : xorL l m = xorL (xorL l m) (List.replicate (xorL l m).length 0) := (xor_zeros _).symm
  have hlen : (xorL l m).length = l.length := by unfold xorL; simp [h]
  have h2 : updAll 4294967295 (xorL l m) = updAll 4294967295 l ^^^ updAll 4294967295 m ^^^ updAll 4294967295 (List.replicate l.length 0) := by
    conv => lhs; rw [h1, hlen, show (4294967295 : Nat) = (4294967295 ^^^ 4294967295) ^^^ 4294967295 from by decide]
    rw [updAll_xor _ _ (by simp [hlen]), updAll_xor _ _ h]
  rw [h2]
  generalize updAll 4294967295 l = a
  generalize updAll 4294967295 m = b
  generalize updAll 4294967295 (List.replicate l.length 0) = c
  simp only [Nat.xor_assoc, xlc, Nat.xor_comm]
  rw [xor_back]

/-- The number whose digits are bytes, the least first. -/
def num : List Nat → Nat
  | [] => 0
  | b :: l => b + 256 * num l
theorem num_lt (l : List Nat) (hl : ∀ b ∈ l, b < 256) : num l < 256 ^ l.length := by
  induction l with
  | nil => exact Nat.one_pos
  | cons b l ih =>
    have h1 := ih (fun c hc => hl c (by simp [hc]))
    have h2 := hl b (by simp)
    rw [List.length_cons, Nat.pow_succ]
    show b + 256 * num l < _
    omega
theorem xor_add (b : Nat) (n : Nat) (hb : b < 256) : b + 256 * n = (256 * n) ^^^ b := by
  have := split256 (b + 256 * n)
  rw [show (b + 256 * n) / 256 = n from by omega, show (b + 256 * n) % 256 = b from by omega] at this
  exact this.symm
theorem turnN_add (j k r : Nat) : turnN (j + k) r = turnN j (turnN k r) := by
  induction j with
  | zero => rw [Nat.zero_add]; rfl
  | succ j ih => rw [Nat.add_right_comm]; show bit1 _ = bit1 _; rw [ih]
theorem updAll_num (r : Nat) (l : List Nat) (hl : ∀ b ∈ l, b < 256) : updAll r l = turnN (8 * l.length) (r ^^^ num l) := by
  induction l generalizing r with
  | nil => show r = r ^^^ 0; rw [Nat.xor_zero]
  | cons b l ih =>
    have hb := hl b (by simp)
    show updAll (upd r b) l = turnN _ (r ^^^ (b + 256 * num l))
    rw [ih _ (fun c hc => hl c (by simp [hc])), List.length_cons, Nat.mul_succ, turnN_add, xor_add b _ hb, upd_eq]
    show turnN _ (turn8 (r ^^^ b) ^^^ num l) = turnN _ (turn8 (r ^^^ (256 * num l ^^^ b)))
    rw [xlc r (256 * num l) b, turn8_xor (256 * num l), turn8_shift, Nat.xor_comm (num l)]
theorem turnN_pow (k m : Nat) : turnN k (2 ^ k * m) = m := by
  induction k generalizing m with
  | zero => show 2 ^ 0 * m = m; omega
  | succ k ih =>
    show bit1 (turnN k _) = m
    rw [Nat.pow_succ, Nat.mul_assoc, ih (2 * m), bit1_even]
theorem bit1_pos {x : Nat} (h0 : x ≠ 0) (hx : x < 4294967296) : bit1 x ≠ 0 := by
  intro h
  unfold bit1 at h
  rw [Nat.and_one_is_mod, Nat.shiftRight_eq_div_pow] at h
  rcases Nat.mod_two_eq_zero_or_one x with e | e
  · rw [e, Nat.zero_mul, Nat.xor_zero] at h; omega
  · rw [e, Nat.one_mul] at h
    have h3 : x / 2 ^ 1 = pol := by
      have h4 : x / 2 ^ 1 ^^^ (x / 2 ^ 1 ^^^ pol) = x / 2 ^ 1 ^^^ 0 := by rw [h]
      rw [xor_back, Nat.xor_zero] at h4
      exact h4.symm
    unfold pol at h3; omega
theorem turnN_pos {x : Nat} (h0 : x ≠ 0) (hx : x < 4294967296) (k : Nat) : turnN k x ≠ 0 := by
  induction k with
  | zero => exact h0
  | succ k ih => exact bit1_pos ih (turnN_lt hx k)
/-- Bits turned within a run of 32 turn the sum. -/
theorem turns_differ (l d : List Nat) (hl : ∀ b ∈ l, b < 256) (hd : ∀ b ∈ d, b < 256) (hlen : l.length = d.length) (at' m : Nat) (hm : m < 4294967296) (hm0 : m ≠ 0) (hnum : num d = 2 ^ at' * m) (hat : at' ≤ 8 * l.length) :
    ext 0 (xorL l d) ≠ ext 0 l := by
  intro h
  have hx : ∀ b ∈ xorL l d, b < 256 := by
    intro b hb
    unfold xorL at hb
    obtain ⟨i, hi, rfl⟩ := List.getElem_of_mem hb
    rw [List.getElem_zipWith]
    exact Nat.xor_lt_two_pow (n := 8) (hl _ (List.getElem_mem _)) (hd _ (List.getElem_mem _))
  have h1 := updAll_lt (xorL l d) (r := 4294967295) (by decide) hx
  have h2 := updAll_lt l (r := 4294967295) (by decide) hl
  have h3 : updAll 4294967295 (xorL l d) = updAll 4294967295 l := by
    unfold ext at h
    simp only [Nat.sub_zero] at h
    omega
  have h4 : updAll 4294967295 (xorL l d) = updAll 4294967295 l ^^^ updAll 0 d := by
    conv => lhs; rw [show (4294967295 : Nat) = 4294967295 ^^^ 0 from by decide]
    exact updAll_xor l d hlen _ _
  rw [h3] at h4
  have h5 : updAll 0 d = 0 := by
    have h6 : updAll 4294967295 l ^^^ (updAll 4294967295 l ^^^ updAll 0 d) = updAll 4294967295 l ^^^ updAll 4294967295 l := by rw [← h4]
    rw [xor_back, Nat.xor_self] at h6
    exact h6
  rw [updAll_num 0 d hd, Nat.zero_xor, hnum, ← hlen, show 8 * l.length = (8 * l.length - at') + at' from by omega, turnN_add, turnN_pow] at h5
  exact turnN_pos hm0 hm _ h5
end Go.Proofs.YtocmfdahnekboaaDoor.SumM
