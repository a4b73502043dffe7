/- Facts for law JournalLooks. -/
import Derived.Test.YtocmfdahnekboaaDoorLookC
import Derived.Test.YtocmfdahnekboaaDoorLookG
import Derived.Test.YtocmfdahnekboaaDoorRefFS
import Derived.Test.YtocmfdahnekboaaDoorJrnAl
import Derived.Lib.LaidTab
import Derived.LaidLaws
import Derived.MakeChecks
import Derived.Stop.LaidErr
namespace Go.Proofs.YtocmfdahnekboaaDoor
open Go.RowKit Go.Shelf
set_option linter.unusedVariables false

abbrev Env (w : World) : Prop := Tens w
theorem env_of {W : World} (h : laidMetH Tryd.prog Rows.journalLooksRow.laid W) : Env W := by
  rw [Go.MakeChecks.laidMetH_plain Tryd.prog Rows.journalLooksRow.laid W (by kernel_rfl)] at h
  exact Go.Lib.tabIs_of_head (k := .u64) (zs := Lib.pow10Tab) (show Tryd.prog.globalNamed "internal/strconv.uint64pow10" = some 0 by kernel_rfl) (show (Tryd.prog.globals[0]?).map (·.type) = some 112 by kernel_rfl) Tryd.underlying112 Tryd.underlying44 (by kernel_rfl) (by kernel_rfl) (Go.laidMet.tail (Go.laidMet.tail h))
theorem bool_res6 (tmps : Array Value) (w : World) (b : Nat) (v : Value) (hp : tmps.getD 6 undef = .pointer (some ⟨b, 0, none⟩)) (c : w.cell? ⟨b, 0, none⟩ = some v) : (results Tryd.f3 tmps).run Tryd.prog w = .ok v w := by
  have hp' : tmps[6]?.getD undef = .pointer (some ⟨b, 0, none⟩) := by simpa using hp
  have k1 : (loadVar 4 ⟨b, 0, none⟩).run Tryd.prog w = .ok v w := by simp [go_sem, c]
  simp [results, hp', asAddr, k1]
/-- What stays while the law goes over what is told. -/
def lcI (w8 : World) (q : Nat) (pre : List LX) (W : World) : Prop := Boxed W w8.heap.size 3 (.int .i64 (pre.length : Nat)) ∧ pre.length < q ∧ Below w8.heap.size w8 W
def lcX (w8 : World) (q : Nat) (c : Code) (pre : List LX) (W : World) : Prop := c = .exit 2 ∧ Boxed W w8.heap.size 3 (.int .i64 (pre.length : Nat)) ∧ pre.length = q ∧ Below w8.heap.size w8 W
theorem lcI_own {w8 : World} {q B : Nat} (hB : w8.heap.size < B) : OwnFrom B (lcI w8 q) := fun s W W' row ⟨h1, h0, h2⟩ hg hr =>
  ⟨h1.kept hg (fun e => by have := (hr _ e.symm).1; omega), h0, ownFrom_below (β := Unit) (Nat.le_refl _) (show w8.heap.size ≤ B by omega) () W W' row h2 hg hr⟩
theorem lcX_own {w8 : World} {q B : Nat} (hB : w8.heap.size < B) (c : Code) : OwnFrom B (lcX w8 q c) := fun s W W' row ⟨hc, h1, h0, h2⟩ hg hr =>
  ⟨hc, h1.kept hg (fun e => by have := (hr _ e.symm).1; omega), h0, ownFrom_below (β := Unit) (Nat.le_refl _) (show w8.heap.size ≤ B by omega) () W W' row h2 hg hr⟩
theorem scanW_pos (L : List Nat) : ∀ (n a : Nat), L.length - a ≤ n → scanE L a < L.length → readE (L.drop (scanE L a)) ≠ 0
  | 0, a, h, hl => by rw [scanE_end (by omega)] at hl; omega
  | n + 1, a, h, hl => by
    by_cases hlt : a < L.length
    · by_cases hz : readE (L.drop a) = 0
      · have hs := step_le hlt hz
        rw [scanE_step hlt hz] at hl ⊢
        exact scanW_pos L n _ (by omega) hl
      · rw [scanE_bad hz]; exact hz
    · rw [scanE_end (by omega)] at hl; omega
theorem scanW_iff (L : List Nat) : scanW L = 0 ↔ ¬ scanE L 0 < L.length := by
  have hle := (scanE_le L L.length 0 (by omega) (Nat.zero_le _)).2
  unfold scanW
  constructor
  · intro h hl
    rw [if_neg (by omega)] at h
    exact scanW_pos L L.length 0 (by omega) hl h
  · intro h
    rw [if_pos (by omega)]
theorem scan_few (L : List Nat) : ∀ (n a : Nat), L.length - a ≤ n → (scanL L a).length ≤ L.length - a
  | 0, a, h => by rw [scanL_end (by omega)]; exact Nat.zero_le _
  | n + 1, a, h => by
    by_cases hlt : a < L.length
    · by_cases hz : readE (L.drop a) = 0
      · have hs := step_le hlt hz
        have ih := scan_few L n (a + readN (L.drop a)) (by omega)
        rw [scanL_step hlt hz, List.length_cons]
        omega
      · rw [scanL_bad hz]; exact Nat.zero_le _
    · rw [scanL_end (by omega)]; exact Nat.zero_le _
/-- Places and words as values. -/
def atV (x : LX) : Value := .int .i64 (x.1 : Nat)
def txV (x : LX) : Value := .string x.2
/-- The two lists, each in a box. -/
structure Two (w4 : World) (b7 b8 : Nat) (xs : List LX) (W : World) : Prop where
  it : ∃ v, Boxed W b7 30 v ∧ W.ownsRow w4.heap.size 3 1 v xs.length (xs.map atV)
  tx : ∃ v, Boxed W b8 31 v ∧ W.ownsRow w4.heap.size 9 1 v xs.length (xs.map txV)
  b : Below w4.heap.size w4 W
theorem Two.below {w4 A C : World} {b7 b8 : Nat} {xs : List LX} (h : Two w4 b7 b8 xs A) (hb : Below A.heap.size A C) : Two w4 b7 b8 xs C := by
  obtain ⟨v1, h1, h2⟩ := h.it
  obtain ⟨v2, h3, h4⟩ := h.tx
  exact ⟨⟨v1, boxed_below h1 hb h1.lt, own_below h2 hb (Nat.le_refl _)⟩, ⟨v2, boxed_below h3 hb h3.lt, own_below h4 hb (Nat.le_refl _)⟩, h.b.trans (hb.mono h.b.size)⟩
theorem Two.start (w4 : World) : Two w4 (w4.heap.size + 1 + 1) (w4.heap.size + 1 + 1 + 1) [] ((((w4.alloc (.cells #[] 3)).alloc (.cells #[] 9)).alloc (.cells #[.slice (some ⟨w4.heap.size, 0, none⟩) 0 0] 30)).alloc (.cells #[.slice (some ⟨w4.heap.size + 1, 0, none⟩) 0 0] 31)) := by
  obtain ⟨A1, e1⟩ : ∃ A1, w4.alloc (.cells #[] 3) = A1 := ⟨_, rfl⟩
  have z1 : A1.heap.size = w4.heap.size + 1 := by rw [← e1]; simp
  have r1 : A1.ownsRow w4.heap.size 3 1 (.slice (some ⟨w4.heap.size, 0, none⟩) 0 0) 0 [] := by rw [← e1]; exact ownsRow_empty w4 3
  have b1 : Below w4.heap.size w4 A1 := by rw [← e1]; exact (Below.refl _ _).alloc (Nat.le_refl _) _
  rw [e1]
  obtain ⟨A2, e2⟩ : ∃ A2, A1.alloc (.cells #[] 9) = A2 := ⟨_, rfl⟩
  have z2 : A2.heap.size = w4.heap.size + 1 + 1 := by rw [← e2]; simp; omega
  have r2 : A2.ownsRow w4.heap.size 9 1 (.slice (some ⟨w4.heap.size + 1, 0, none⟩) 0 0) 0 [] := by rw [← e2, ← z1]; exact own_base (ownsRow_empty A1 9) (by omega)
  have r1' : A2.ownsRow w4.heap.size 3 1 (.slice (some ⟨w4.heap.size, 0, none⟩) 0 0) 0 [] := by rw [← e2]; exact own_grown r1 (World.grownBy_alloc A1 _ none) (fun _ _ h => by cases h)
  have b2 : Below w4.heap.size w4 A2 := by rw [← e2]; exact b1.alloc b1.size _
  rw [e2]
  obtain ⟨A3, e3⟩ : ∃ A3, A2.alloc (.cells #[.slice (some ⟨w4.heap.size, 0, none⟩) 0 0] 30) = A3 := ⟨_, rfl⟩
  have z3 : A3.heap.size = w4.heap.size + 1 + 1 + 1 := by rw [← e3]; simp; omega
  have x3 : Boxed A3 (w4.heap.size + 1 + 1) 30 (.slice (some ⟨w4.heap.size, 0, none⟩) 0 0) := by rw [← e3, ← z2]; exact Boxed.new A2 _ _
  have r13 : A3.ownsRow w4.heap.size 3 1 (.slice (some ⟨w4.heap.size, 0, none⟩) 0 0) 0 [] := by rw [← e3]; exact own_grown r1' (World.grownBy_alloc A2 _ none) (fun _ _ h => by cases h)
  have r23 : A3.ownsRow w4.heap.size 9 1 (.slice (some ⟨w4.heap.size + 1, 0, none⟩) 0 0) 0 [] := by rw [← e3]; exact own_grown r2 (World.grownBy_alloc A2 _ none) (fun _ _ h => by cases h)
  have b3 : Below w4.heap.size w4 A3 := by rw [← e3]; exact b2.alloc b2.size _
  rw [e3]
  have x4 : Boxed (A3.alloc (.cells #[.slice (some ⟨w4.heap.size + 1, 0, none⟩) 0 0] 31)) (w4.heap.size + 1 + 1 + 1) 31 (.slice (some ⟨w4.heap.size + 1, 0, none⟩) 0 0) := by rw [← z3]; exact Boxed.new A3 _ _
  exact ⟨⟨_, x3.alloc _, own_grown r13 (World.grownBy_alloc A3 _ none) (fun _ _ h => by cases h)⟩, ⟨_, x4, own_grown r23 (World.grownBy_alloc A3 _ none) (fun _ _ h => by cases h)⟩, b3.alloc b3.size _⟩
theorem regB_row {D : DevS} {i : Int} {l : List Nat} (hi : i = 0 ∨ i = 1) (h : l.length ≤ D.cap) : (loadS D i l).row i = l := by
  rcases hi with rfl | rfl
  · show l.take (min l.length D.cap) = l
    rw [Nat.min_eq_left h, List.take_length]
  · show l.take (min l.length D.cap) = l
    rw [Nat.min_eq_left h, List.take_length]
theorem regB_row0 {n : Int} {i : Int} {l : List Nat} (hi : ¬ (i = 0 ∨ i = 1)) : (loadS (newD n) i l).row i = [] := by
  have h0 : i ≠ 0 := fun h => hi (.inl h)
  have h1 : i ≠ 1 := fun h => hi (.inr h)
  unfold DevS.row
  rw [if_neg h0, if_neg h1]
end Go.Proofs.YtocmfdahnekboaaDoor
