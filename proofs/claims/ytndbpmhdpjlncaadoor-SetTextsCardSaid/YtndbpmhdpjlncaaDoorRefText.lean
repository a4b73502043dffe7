/- The contract of the document's text of a set. -/
import Derived.Test.YtndbpmhdpjlncaaDoorSetBackC
import Derived.Test.YtndbpmhdpjlncaaDoorSetE
namespace Go.Proofs.YtndbpmhdpjlncaaDoor
open Go.RowKit Go.Shelf

/-- The text of a set's first items, as far as it is told. -/
def textTo (s k : Nat) : ByteArray := ⟨(123 :: Lib.join (((items s).take k).map Lib.decDigits) [44]).toArray⟩
theorem join_snoc (xs : List (List UInt8)) (y : List UInt8) (h : xs ≠ []) : Lib.join (xs ++ [y]) [44] = Lib.join xs [44] ++ 44 :: y := by
  induction xs with
  | nil => exact absurd rfl h
  | cons x xs ih =>
    cases xs with
    | nil => rw [List.cons_append, List.nil_append, join_two, Lib.join_one, Lib.join_one]
    | cons z zs =>
      rw [List.cons_append, List.cons_append, join_two, ← List.cons_append, ih (by simp), join_two, List.append_assoc, List.cons_append]
theorem textTo_one (s i : Nat) (h : (items s)[0]? = some i) : textTo s 0 ++ digB i = textTo s 1 := by
  cases hi : items s with
  | nil => rw [hi] at h; cases h
  | cons x xs =>
    rw [hi] at h
    simp at h
    subst h
    apply ByteArray.ext
    simp [textTo, hi, digB, Lib.join_nil, Lib.join_one]
theorem textTo_succ (s k i : Nat) (h : (items s)[k + 1]? = some i) : textTo s (k + 1) ++ ⟨#[44]⟩ ++ digB i = textTo s (k + 1 + 1) := by
  have hlt := (List.getElem?_eq_some_iff.1 h).1
  apply ByteArray.ext
  have e : ((items s).take (k + 1 + 1)).map Lib.decDigits = ((items s).take (k + 1)).map Lib.decDigits ++ [Lib.decDigits i] := by
    rw [List.take_add_one, h, List.map_append]; rfl
  have hne : ((items s).take (k + 1)).map Lib.decDigits ≠ [] := by
    intro h0
    have := congrArg List.length h0
    rw [List.length_map, List.length_take, List.length_nil] at this
    omega
  simp only [textTo, digB]
  rw [e, join_snoc _ _ hne]
  simp
theorem textTo_all (s : Nat) : textTo s (items s).length ++ ⟨#[125]⟩ = textB s := by
  apply ByteArray.ext
  simp [textTo, textB, textL]
theorem textTo_zero (s : Nat) : textTo s 0 = ⟨#[123]⟩ := by simp [textTo, Lib.join_nil]

theorem textTo_size (s k : Nat) : (textTo s k).size ≤ 400 := by
  have h := join_len (((items s).take k).map Lib.decDigits) (fun x hx => by obtain ⟨i, hi, rfl⟩ := List.mem_map.1 hx; exact dig_len i (items_lt (List.mem_of_mem_take hi)))
  have := cnt_le s
  unfold cnt at this
  rw [List.length_map, List.length_take] at h
  show (123 :: Lib.join (((items s).take k).map Lib.decDigits) [44]).toArray.size ≤ 400
  rw [List.size_toArray, List.length_cons]
  omega
theorem digB_size (i : Nat) (h : i < 64) : (digB i).size ≤ 2 := by
  have := dig_len i h
  show (Lib.decDigits i).toArray.size ≤ 2
  rw [List.size_toArray]; exact this

set_option maxRecDepth 100000 in
set_option maxHeartbeats 1000000 in
theorem refText_any (s : Nat) (w : World) (hs : s < 18446744073709551616) :
    Calls Tryd.prog 30 #[.int .u64 s] w fun e w' => e = .returned (.string (textB s)) ∧ Below w.heap.size w w' := by
  have HL := Lib.hid (refList_any s w hs)
  obtain ⟨N, hN⟩ : ∃ N, (items s).length = N := ⟨_, rfl⟩
  have hN64 : N ≤ 64 := by have := cnt_le s; unfold cnt at this; omega
  have HA := Lib.hid (textTo_all s)
  rw [hN] at HA HL
  have H1 := Lib.hid (fun i h => textTo_one s i h)
  have H2 := Lib.hid (fun k i h => textTo_succ s k i h)
  have HZ := Lib.hid (textTo_zero s)
  have HN := Lib.hid hN
  have HI := Lib.hid (fun i (h : i ∈ items s) (W : World) => itoa_any i (items_lt h) W)
  obtain ⟨T, hT⟩ : ∃ T, textB s = T := ⟨_, rfl⟩
  rw [hT] at HA ⊢
  clear hT
  have HB := Lib.hid (fun k => textTo_size s k)
  have HD := Lib.hid (fun i (h : i ∈ items s) => digB_size i (items_lt h))
  obtain ⟨F, hF⟩ : ∃ F : Nat → ByteArray, textTo s = F := ⟨_, rfl⟩
  rw [hF] at H1 H2 HA HZ HB
  clear hF hN
  go_enter Tryd.func30, Tryd.ntmps30
  go_wp2_with fail
  refine HL.out.mono ?_
  rintro e w1 ⟨v, rfl, hown, hb⟩
  rw [← HN.out] at hown
  have hS := Sl.of_owns (enc := encI) hown
  clear hown
  rcases hS with ⟨rfl, he⟩ | ⟨b, off, cap, rfl, _, _, hc⟩
  · have h0 : N = 0 := by rw [← HN.out, he]; rfl
    subst h0
    have HA0 := Lib.hid (show (⟨#[123]⟩ : ByteArray) ++ ⟨#[125]⟩ = T by rw [← HZ.out, HA.out])
    clear HN he H1 H2 HI HA
    go_wp2
    go_loop [4, 5] (fun o i => o = .string ⟨#[123]⟩ ∧ i = .int .i64 0) (fun _ _ => 0)
    case atStart => exact ⟨rfl, rfl⟩
    case round =>
      obtain ⟨rfl, rfl⟩ := hrel
      go_wp2
      go_ret
      exact ⟨ret_str HA0.out, hb⟩
  · rw [HN.out]
    have HC := Lib.hid hc
    clear hc
    go_wp2
    go_loop [4, 5] (fun o i => ∃ k : Nat, k ≤ N ∧ o = .string (F k) ∧ i = .int .i64 k) (fun _ i => N - (intOf i).toNat)
    case atStart => exact ⟨0, by omega, by rw [HZ.out], rfl⟩
    case round =>
      obtain ⟨k, hk, rfl, rfl⟩ := hrel
      by_cases hlt : k < N
      · obtain ⟨x, hx⟩ : ∃ x, (items s)[k]? = some x := ⟨(items s)[k]'(by rw [HN.out]; exact hlt), List.getElem?_eq_getElem _⟩
        have hcell := HC.out k x hx
        have hcell : w1.cell? ⟨b, off + k, none⟩ = some (.int .i64 x) := hcell
        have HX := Lib.hid (HI.out x (List.mem_of_getElem? hx))
        by_cases hk0 : k = 0
        · subst hk0
          have HS := Lib.hid (H1.out x hx)
          have hsz := HB.out 0
          have hdz := HD.out x (List.mem_of_getElem? hx)
          obtain ⟨d, hd⟩ : ∃ d, digB x = d := ⟨_, rfl⟩
          rw [hd] at HX HS hdz
          have hcell : w1.cell? ⟨b, off, none⟩ = some (.int .i64 x) := hcell
          clear hx hd
          go_wp2_with (go_at_call 51; refine (HX.out _).mono ?_; rintro e w' ⟨rfl, rfl⟩)
          go_round
          case rel => exact ⟨1, by omega, by rw [← HS.out], rfl⟩
          case measure => simp [intOf]; omega
        · have HS := Lib.hid (show F k ++ ⟨#[44]⟩ ++ digB x = F (k + 1) by
            obtain ⟨j, rfl⟩ : ∃ j, k = j + 1 := ⟨k - 1, by omega⟩
            exact H2.out j x hx)
          have hpos : (0 : Int) < (k : Int) := by omega
          have hsz := HB.out k
          have hdz := HD.out x (List.mem_of_getElem? hx)
          obtain ⟨d, hd⟩ : ∃ d, digB x = d := ⟨_, rfl⟩
          rw [hd] at HX HS hdz
          clear hx hd hk0
          go_wp2_with (go_at_call 51; refine (HX.out _).mono ?_; rintro e w' ⟨rfl, rfl⟩)
          go_round
          case rel => exact ⟨k + 1, by omega, by rw [← HS.out], by go_num⟩
          case measure => simp [intOf]; omega
      · obtain rfl : k = N := by omega
        have hsz := HB.out k
        go_wp2
        go_ret
        exact ⟨ret_str HA.out, hb⟩

end Go.Proofs.YtndbpmhdpjlncaaDoor
