/- The document's own Uint, Int, Bytes. -/
import Derived.Test.YtbdigpfeedcgaaaCodM
import Derived.Test.YtbdigpfeedcgaaaSumD
import Derived.Test.YtbdigpfeedcgaaaRefJ
namespace Go.Proofs.Ytbdigpfeedcgaaa
open Go.RowKit
set_option linter.unusedVariables false

theorem own_one (w3 : World) (x : Nat) : (w3.alloc (.cells #[Value.int .u8 (x : Int)] 5)).ownsRow w3.heap.size 5 1 (.slice (some ⟨w3.heap.size, 0, none⟩) 1 1) 1 ([x].map encY) :=
  ⟨rfl, .inr ⟨w3.heap.size, 1, _, rfl, Nat.le_refl _, World.alloc_heap_new w3 _, Nat.le_refl _, by decide, rfl, by simp [encY]⟩⟩

def RefU (N : Nat) (w : World) : Prop := Calls Try.prog 37 #[.int .u64 (N : Nat)] w fun e w' => ∃ v, e = .returned v ∧ w'.ownsRow w.heap.size 5 1 v (uv N).length ((uv N).map encY) ∧ Below w.heap.size w w'

set_option maxRecDepth 100000 in
set_option maxHeartbeats 1000000 in
theorem refUint_any (N : Nat) : N < 18446744073709551616 → ∀ w, RefU N w := by
  induction N using Nat.strongRecOn with
  | _ N ih =>
    intro hN w
    unfold RefU
    by_cases h : N < 128
    · rw [uv_lt h]
      clear ih
      have HO := Lib.hid (own_one w N)
      go_enter Try.func37, Try.ntmps37
      go_wp2
      go_ret
      exact ⟨_, rfl, HO.out, (Below.refl _ _).alloc (Nat.le_refl _) _⟩
    · have h1 := ih (N / 128) (by omega) (by omega)
      unfold RefU at h1
      rw [show (((N / 128 : Nat)) : Int) = (N : Int) / 128 from by omega] at h1
      have h10 := uv_len10 (n := N / 128) (by omega)
      have HE := Lib.hid (uv_ge (n := N) (by omega))
      obtain ⟨u, hu⟩ : ∃ u, uv (N / 128) = u := ⟨_, rfl⟩
      rw [hu] at h1 h10 HE
      rw [HE.out]
      have H1 := Lib.hid h1
      have hge : 128 ≤ N := by omega
      obtain ⟨y, hy⟩ : ∃ y, 128 + N % 128 = y := ⟨_, rfl⟩
      have hy2 : y < 256 := by omega
      have hyi : 128 + (N : Int) % 128 = (y : Int) := by omega
      rw [hy]
      clear ih h1 hu h hy HE
      have HO := Lib.hid (own_one w y)
      go_enter Try.func37, Try.ntmps37
      go_wp2_with fail
      refine (H1.out _).mono ?_
      rintro e w1 ⟨v, rfl, hown, hb⟩
      obtain ⟨p2, n2, c2, rfl⟩ := ownsRow_form hown
      have HP := Lib.hid (Parts.two w1 (.slice (some ⟨w.heap.size, 0, none⟩) 1 1) (.slice p2 n2 c2) [y] u 22 (((Sl.of_owns HO.out).below hb).mono hb.size) (Sl.of_owns hown))
      have HB : Hid (Below w.heap.size w w1) := Lib.hid (((Below.refl _ w).alloc (Nat.le_refl _) _).trans (hb.mono (by simp)))
      clear hown hb H1 HO hyi
      go_wp2_with fail
      refine (joinY_any _ _ _ [[y], u] (by simp; omega) (by simp) _ HP.out).mono ?_
      rintro e w2 ⟨v2, rfl, hown2, hb2⟩
      have HR : Hid (w2.ownsRow w.heap.size 5 1 v2 (y :: u).length ((y :: u).map encY)) := Lib.hid (by
        have h2 := row_base (base' := w.heap.size) hown2 (by have := HB.out.size; simp; omega)
        simpa using h2)
      have HB2 : Hid (Below w.heap.size w w2) := Lib.hid ((HB.out.alloc HB.out.size _).trans (hb2.mono (by have := HB.out.size; simp; omega)))
      clear hown2 hb2
      go_wp2
      go_ret
      exact ⟨_, rfl, HR.out, HB2.out⟩

set_option maxRecDepth 100000 in
set_option maxHeartbeats 1000000 in
theorem refInt_any (m : Int) (h1 : -9223372036854775808 ≤ m) (h2 : m ≤ 9223372036854775807) (w : World) :
    Calls Try.prog 38 #[.int .i64 m] w fun e w' => ∃ v, e = .returned v ∧ w'.ownsRow w.heap.size 5 1 v (uv (zig m)).length ((uv (zig m)).map encY) ∧ Below w.heap.size w w' := by
  have hu := refUint_any (zig m) (zig_lt h1 h2) w
  unfold RefU at hu
  by_cases h0 : m < 0
  · have hz3 : ((zig m : Nat) : Int) = -(m + 1) * 2 + 1 := by
      have hz : zig m = (-(2 * m) - 1).toNat := if_pos h0
      omega
    obtain ⟨u, hu2⟩ : ∃ u, uv (zig m) = u := ⟨_, rfl⟩
    rw [hz3, hu2] at hu
    rw [hu2]
    have HU := Lib.hid hu
    clear hu hz3 hu2
    go_enter Try.func38, Try.ntmps38
    go_wp2_with fail
    refine HU.out.mono ?_
    rintro e w1 ⟨v, rfl, hown, hb⟩
    go_wp2
    go_ret
    exact ⟨_, rfl, hown, hb⟩
  · have hz3 : ((zig m : Nat) : Int) = m * 2 := by
      have hz : zig m = (2 * m).toNat := if_neg h0
      omega
    obtain ⟨u, hu2⟩ : ∃ u, uv (zig m) = u := ⟨_, rfl⟩
    rw [hz3, hu2] at hu
    rw [hu2]
    have HU := Lib.hid hu
    clear hu hz3 hu2
    go_enter Try.func38, Try.ntmps38
    go_wp2_with fail
    refine HU.out.mono ?_
    rintro e w1 ⟨v, rfl, hown, hb⟩
    go_wp2
    go_ret
    exact ⟨_, rfl, hown, hb⟩

set_option maxRecDepth 100000 in
set_option maxHeartbeats 1000000 in
theorem refBytes_any (pa : Option Addr) (n c : Nat) (s : List Nat) (hs : s.length ≤ 1000000) (w : World) (hS : Sl encY w.heap.size w (.slice pa n c) s) :
    Calls Try.prog 39 #[.slice pa n c] w fun e w' => ∃ v, e = .returned v ∧ w'.ownsRow w.heap.size 5 1 v (uv s.length ++ s).length ((uv s.length ++ s).map encY) ∧ Below w.heap.size w w' := by
  obtain rfl := hS.len
  have hU := uv_len10 (n := s.length) (by omega)
  have hu := refUint_any s.length (by omega) w
  unfold RefU at hu
  obtain ⟨u, hu2⟩ : ∃ u, uv s.length = u := ⟨_, rfl⟩
  rw [hu2] at hu hU ⊢
  have HS := Lib.hid hS
  obtain ⟨n, hn⟩ : ∃ n, s.length = n := ⟨_, rfl⟩
  rw [hn] at hu HS hs ⊢
  have HN := Lib.hid hn
  have HU := Lib.hid hu
  clear hu hu2 hS hn
  go_enter Try.func39, Try.ntmps39
  go_wp2_with fail
  refine HU.out.mono ?_
  rintro e w1 ⟨v, rfl, hown, hb⟩
  obtain ⟨p2, n2, c2, rfl⟩ := ownsRow_form hown
  have HP := Lib.hid (Parts.two w1 (.slice p2 n2 c2) (.slice pa n c) u s 22 (Sl.of_owns hown) ((HS.out.below hb).mono hb.size))
  have HB := Lib.hid hb
  clear hown hb HU HS
  go_wp2_with fail
  refine (joinY_any _ _ _ [u, s] (by simp; have := HN.out; omega) (by simp) _ HP.out).mono ?_
  rintro e w2 ⟨v2, rfl, hown2, hb2⟩
  have HR : Hid (w2.ownsRow w.heap.size 5 1 v2 (u ++ s).length ((u ++ s).map encY)) := Lib.hid (by
    have h2 := row_base (base' := w.heap.size) hown2 (by have := HB.out.size; simp; omega)
    simpa using h2)
  have HB2 : Hid (Below w.heap.size w w2) := Lib.hid ((HB.out.alloc HB.out.size _).trans (hb2.mono (by have := HB.out.size; simp; omega)))
  clear hown2 hb2
  go_wp2
  go_ret
  exact ⟨_, rfl, HR.out, HB2.out⟩

end Go.Proofs.Ytbdigpfeedcgaaa

/- The document's own Nums. -/
namespace Go.Proofs.Ytbdigpfeedcgaaa
open Go.RowKit
set_option linter.unusedVariables false

/-- Numbers with a sign, one behind the other. -/
def uvs (xs : List Int) : List Nat := (xs.map fun m => uv (zig m)).flatten
def In64 (m : Int) : Prop := -9223372036854775808 ≤ m ∧ m ≤ 9223372036854775807
theorem uvs_snoc (xs : List Int) (m : Int) : uvs (xs ++ [m]) = uvs xs ++ uv (zig m) := by simp [uvs]
theorem uvs_len : ∀ (xs : List Int), (∀ m ∈ xs, In64 m) → (uvs xs).length ≤ 10 * xs.length
  | [], _ => by simp [uvs]
  | m :: xs, h => by
    have h1 := uvs_len xs (fun x hx => h x (List.mem_cons_of_mem _ hx))
    have h2 := uv_len10 (zig_lt (h m (List.mem_cons_self ..)).1 (h m (List.mem_cons_self ..)).2)
    have e : uvs (m :: xs) = uv (zig m) ++ uvs xs := by simp [uvs]
    rw [e, List.length_append, List.length_cons]; omega
def listL (xs : List Int) : List Nat := uv xs.length ++ uvs xs
def encN (m : Int) : Value := .int .i64 m

set_option maxRecDepth 100000 in
set_option maxHeartbeats 1000000 in
theorem refNums_any (pa : Option Addr) (n c : Nat) (xs : List Int) (hx : ∀ m ∈ xs, In64 m) (hn : xs.length ≤ 10000) (w : World) (hS : Sl encN w.heap.size w (.slice pa n c) xs) :
    Calls Try.prog 40 #[.slice pa n c] w fun e w' => ∃ v, e = .returned v ∧ w'.ownsRow w.heap.size 5 1 v (listL xs).length ((listL xs).map encY) ∧ Below w.heap.size w w' := by
  obtain rfl := hS.len
  have hu := refUint_any xs.length (by omega) w
  unfold RefU at hu
  have h10 := uv_len10 (n := xs.length) (by omega)
  have HX := Lib.hid hx
  obtain ⟨u, hu2⟩ : ∃ u, uv xs.length = u := ⟨_, rfl⟩
  have HL : Hid (listL xs = u ++ uvs xs) := Lib.hid (by rw [← hu2]; rfl)
  rw [hu2] at hu h10
  have HS := Lib.hid hS
  obtain ⟨n, hn2⟩ : ∃ n, xs.length = n := ⟨_, rfl⟩
  rw [hn2] at hu HS hn ⊢
  have HN := Lib.hid hn2
  have HU := Lib.hid hu
  clear hu hu2 hS hn2 hx
  go_enter Try.func40, Try.ntmps40
  go_wp2_with fail
  refine HU.out.mono ?_
  rintro e w1 ⟨v, rfl, hown, hb⟩
  have HO := Lib.hid hown
  have HB := Lib.hid hb
  clear hown hb HU
  go_wp2_with fail
  go_loopw [3, 4] (fun v i wr => ∃ k : Nat, k ≤ n ∧ i = .int .i64 k ∧ wr.ownsRow w.heap.size 5 1 v (u ++ uvs (xs.take k)).length ((u ++ uvs (xs.take k)).map encY) ∧ Below w.heap.size w wr) (fun _ i _ => n - (intOf i).toNat)
  case atStart => exact ⟨0, Nat.zero_le _, rfl, by simpa [uvs] using HO.out, HB.out⟩
  case round =>
    obtain ⟨k, hk, rfl, hown, hb⟩ := hrel
    by_cases hlt : k < n
    · obtain ⟨x, hx⟩ : ∃ x, xs[k]? = some x := ⟨xs[k]'(by rw [HN.out]; exact hlt), List.getElem?_eq_getElem _⟩
      obtain ⟨b, off, rfl, hbl, hc⟩ := HS.out.at_ hx
      have hc' : wr.cell? ⟨b, off + k, none⟩ = some (.int .i64 x) := (hb.cell (p := ⟨b, off + k, none⟩) hbl).trans hc
      have hxi := HX.out x (List.mem_of_getElem? hx)
      have HT : Hid (u ++ uvs (xs.take (k + 1)) = (u ++ uvs (xs.take k)) ++ uv (zig x)) := Lib.hid (by rw [take_one _ _ _ hx, uvs_snoc, List.append_assoc])
      have hlen := uvs_len (xs.take k) (fun m hm => HX.out m (List.mem_of_mem_take hm))
      have hlen2 : (u ++ uvs (xs.take k)).length ≤ 100010 := by rw [List.length_append]; rw [List.length_take] at hlen; omega
      have h10x := uv_len10 (zig_lt hxi.1 hxi.2)
      have HI := Lib.hid (refInt_any x hxi.1 hxi.2 wr)
      obtain ⟨lp, hlp⟩ : ∃ lp, u ++ uvs (xs.take k) = lp := ⟨_, rfl⟩
      obtain ⟨ux, hux⟩ : ∃ ux, uv (zig x) = ux := ⟨_, rfl⟩
      rw [hlp] at hown HT hlen2
      rw [hux] at HI HT h10x
      obtain ⟨pa2, n2, c2, rfl⟩ := ownsRow_form hown
      have HV := Lib.hid (Sl.of_owns hown)
      have HBR := Lib.hid hb
      clear hx hc hlen hlp hux hown hb HO HB
      go_wp2_with fail
      refine HI.out.mono ?_
      rintro e w2 ⟨v2, rfl, hown2, hb2⟩
      obtain ⟨p3, n3, c3, rfl⟩ := ownsRow_form hown2
      have HP := Lib.hid (Parts.two w2 (.slice pa2 n2 c2) (.slice p3 n3 c3) lp ux 22 ((HV.out.below hb2).mono hb2.size) (Sl.of_owns hown2))
      have HB2 : Hid (Below w.heap.size w w2) := Lib.hid (HBR.out.trans (hb2.mono HBR.out.size))
      clear hown2 hb2 HI HV
      go_wp2_with fail
      refine (joinY_any _ _ _ [lp, ux] (by simp; omega) (by simp) _ HP.out).mono ?_
      rintro e w3 ⟨v3, rfl, hown3, hb3⟩
      have HR : Hid (w3.ownsRow w.heap.size 5 1 v3 (u ++ uvs (xs.take (k + 1))).length ((u ++ uvs (xs.take (k + 1))).map encY)) := Lib.hid (by
        have h2 := row_base (base' := w.heap.size) hown3 (by have := HB2.out.size; simp; omega)
        rw [HT.out]
        simpa using h2)
      have HB3 : Hid (Below w.heap.size w w3) := Lib.hid ((HB2.out.alloc HB2.out.size _).trans (hb3.mono (by have := HB2.out.size; simp; omega)))
      clear hown3 hb3 HP HT HB2
      go_wp2
      go_roundw
      case rel => exact ⟨k + 1, by omega, by go_num, HR.out, HB3.out⟩
      case measure => simp [intOf]; omega
    · obtain rfl : k = n := by omega
      rw [List.take_of_length_le (by rw [HN.out]; omega)] at hown
      clear HO HB
      go_wp2
      go_ret
      exact ⟨_, rfl, by rw [HL.out]; exact hown, hb⟩

end Go.Proofs.Ytbdigpfeedcgaaa
