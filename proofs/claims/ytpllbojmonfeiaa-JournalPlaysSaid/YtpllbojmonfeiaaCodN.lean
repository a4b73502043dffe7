/- The document's own Uint, Int, Bytes. -/
import Derived.Test.YtpllbojmonfeiaaCodM
import Derived.Test.YtpllbojmonfeiaaSumD
import Derived.Test.YtpllbojmonfeiaaRefJ
namespace Go.Proofs.Ytpllbojmonfeiaa
open Go.RowKit
set_option linter.unusedVariables false

theorem own_one (w3 : World) (x : Nat) : (w3.alloc (.cells #[Value.int .u8 (x : Int)] 5)).ownsRow w3.heap.size 5 1 (.slice (some ⟨w3.heap.size, 0, none⟩) 1 1) 1 ([x].map encY) :=
  ⟨rfl, .inr ⟨w3.heap.size, 1, _, rfl, Nat.le_refl _, World.alloc_heap_new w3 _, Nat.le_refl _, by decide, rfl, by simp [encY]⟩⟩

def RefU (N : Nat) (w : World) : Prop := Calls Try.prog 66 #[.int .u64 (N : Nat)] w fun e w' => ∃ v, e = .returned v ∧ w'.ownsRow w.heap.size 5 1 v (uv N).length ((uv N).map encY) ∧ Below w.heap.size w w'

set_option maxRecDepth 100000 in
set_option maxHeartbeats 1000000 in
theorem refUint_any (N : Nat) : N < 18446744073709551616 → ∀ w, RefU N w := by
  induction N using Nat.strongRecOn with
  | _ N ih =>
    intro hN w
    unfold RefU
    by_cases h : N < 128
    · rw [uv_lt h]
      clear ih
      have HO := Lib.hid (own_one w N)
      go_enter Try.func66, Try.ntmps66
      go_wp2
      go_ret
      exact ⟨_, rfl, HO.out, (Below.refl _ _).alloc (Nat.le_refl _) _⟩
    · have h1 := ih (N / 128) (by omega) (by omega)
      unfold RefU at h1
      rw [show (((N / 128 : Nat)) : Int) = (N : Int) / 128 from by omega] at h1
      have h10 := uv_len10 (n := N / 128) (by omega)
      have HE := Lib.hid (uv_ge (n := N) (by omega))
      obtain ⟨u, hu⟩ : ∃ u, uv (N / 128) = u := ⟨_, rfl⟩
      rw [hu] at h1 h10 HE
      rw [HE.out]
      have H1 := Lib.hid h1
      have hge : 128 ≤ N := by omega
      obtain ⟨y, hy⟩ : ∃ y, 128 + N % 128 = y := ⟨_, rfl⟩
      have hy2 : y < 256 := by omega
      have hyi : 128 + (N : Int) % 128 = (y : Int) := by omega
      rw [hy]
      clear ih h1 hu h hy HE
      have HO := Lib.hid (own_one w y)
      go_enter Try.func66, Try.ntmps66
      go_wp2_with fail
      refine (H1.out _).mono ?_
      rintro e w1 ⟨v, rfl, hown, hb⟩
      obtain ⟨p2, n2, c2, rfl⟩ := ownsRow_form hown
      have HP := Lib.hid (Parts.two w1 (.slice (some ⟨w.heap.size, 0, none⟩) 1 1) (.slice p2 n2 c2) [y] u 22 (((Sl.of_owns HO.out).below hb).mono hb.size) (Sl.of_owns hown))
      have HB : Hid (Below w.heap.size w w1) := Lib.hid (((Below.refl _ w).alloc (Nat.le_refl _) _).trans (hb.mono (by simp)))
      clear hown hb H1 HO hyi
      go_wp2_with fail
      refine (joinY_any _ _ _ [[y], u] (by simp; omega) (by simp) _ HP.out).mono ?_
      rintro e w2 ⟨v2, rfl, hown2, hb2⟩
      have HR : Hid (w2.ownsRow w.heap.size 5 1 v2 (y :: u).length ((y :: u).map encY)) := Lib.hid (by
        have h2 := row_base (base' := w.heap.size) hown2 (by have := HB.out.size; simp; omega)
        simpa using h2)
      have HB2 : Hid (Below w.heap.size w w2) := Lib.hid ((HB.out.alloc HB.out.size _).trans (hb2.mono (by have := HB.out.size; simp; omega)))
      clear hown2 hb2
      go_wp2
      go_ret
      exact ⟨_, rfl, HR.out, HB2.out⟩

end Go.Proofs.Ytpllbojmonfeiaa
namespace Go.Proofs.Ytpllbojmonfeiaa
open Go.RowKit
set_option linter.unusedVariables false
/-- Numbers with a sign, one behind the other. -/
def uvs (xs : List Int) : List Nat := (xs.map fun m => uv (zig m)).flatten
def In64 (m : Int) : Prop := -9223372036854775808 ≤ m ∧ m ≤ 9223372036854775807
theorem uvs_snoc (xs : List Int) (m : Int) : uvs (xs ++ [m]) = uvs xs ++ uv (zig m) := by simp [uvs]
theorem uvs_len : ∀ (xs : List Int), (∀ m ∈ xs, In64 m) → (uvs xs).length ≤ 10 * xs.length
  | [], _ => by simp [uvs]
  | m :: xs, h => by
    have h1 := uvs_len xs (fun x hx => h x (List.mem_cons_of_mem _ hx))
    have h2 := uv_len10 (zig_lt (h m (List.mem_cons_self ..)).1 (h m (List.mem_cons_self ..)).2)
    have e : uvs (m :: xs) = uv (zig m) ++ uvs xs := by simp [uvs]
    rw [e, List.length_append, List.length_cons]; omega
def listL (xs : List Int) : List Nat := uv xs.length ++ uvs xs
def encN (m : Int) : Value := .int .i64 m

end Go.Proofs.Ytpllbojmonfeiaa