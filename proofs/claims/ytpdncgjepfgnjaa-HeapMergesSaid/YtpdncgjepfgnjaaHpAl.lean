/- The document's examples of a heap. -/
import Derived.Test.YtpdncgjepfgnjaaHpTI
namespace Go.Proofs.Ytpdncgjepfgnjaa
open Go.RowKit
set_option linter.unusedVariables false

theorem ord1I : OrdI 29 (fun x => x) := by
  refine ⟨enters_of Try.func29 (by kernel_rfl) rfl, fun x y w => ?_⟩
  unfold valI
  go_enter Try.func29, Try.ntmps29
  go_wp2
  go_ret
  exact ⟨rfl, Below.refl _ _⟩
theorem ord3I : OrdI 39 (fun x => x) := by
  refine ⟨enters_of Try.func39 (by kernel_rfl) rfl, fun x y w => ?_⟩
  unfold valI
  go_enter Try.func39, Try.ntmps39
  go_wp2
  go_ret
  exact ⟨rfl, Below.refl _ _⟩
theorem ord4I : OrdI 41 (fun x => x) := by
  refine ⟨enters_of Try.func41 (by kernel_rfl) rfl, fun x y w => ?_⟩
  unfold valI
  go_enter Try.func41, Try.ntmps41
  go_wp2
  go_ret
  exact ⟨rfl, Below.refl _ _⟩
theorem ord2I : OrdI 36 (fun x => -x) := by
  refine ⟨enters_of Try.func36 (by kernel_rfl) rfl, fun x y w => ?_⟩
  unfold valI
  rw [show decide (-x < -y) = decide (y < x) from decide_eq_decide.2 (by omega)]
  go_enter Try.func36, Try.ntmps36
  go_wp2
  go_ret
  exact ⟨rfl, Below.refl _ _⟩

/-- A heap of numbers with what comes out of it. -/
structure HpI (key : Int → Int) (of : Nat) (w0 : World) (b : Nat) (xs : List Int) (own : List Nat) (W : World) : Prop where
  heap : ∃ v, HeapI own W b (.func (.func of) #[] #[]) v (heapS key xs) xs.length
  own : ∀ k ∈ own, w0.heap.size ≤ k
theorem HpI.put {key : Int → Int} {of : Nat} (ho : OrdI of key) {w0 : World} {b : Nat} {xs : List Int} {own : List Nat} {W : World} (h : HpI key of w0 b xs own W) (hx : xs.length < 1073741824) (hz : w0.heap.size ≤ W.heap.size) (x : Int) :
    Calls Try.prog 30 #[.pointer (some ⟨b, 0, none⟩), .int .i64 x] W fun e W' => e = .returned (.tuple #[]) ∧ ∃ own', HpI key of w0 b (xs ++ [x]) own' W' ∧ Below w0.heap.size W W' := by
  obtain ⟨v, hv⟩ := h.heap
  refine (putI ho x (by rw [heapS_len]; exact hx) (by omega) (by omega) W hv).mono ?_
  rintro e W' ⟨rfl, g, v', h1, h2, h3⟩
  refine ⟨rfl, g :: own, ⟨⟨v', by rw [heapS_snoc, List.length_append, List.length_singleton]; push_cast; exact h1⟩, fun k hk => ?_⟩, h2.below h.own hz⟩
  rcases List.mem_cons.1 hk with rfl | hk
  · rcases h3 with h3 | h3
    · exact h.own _ h3
    · omega
  · exact h.own _ hk
theorem HpI.below {key : Int → Int} {of : Nat} {w0 : World} {b : Nat} {xs : List Int} {own : List Nat} {W W' : World} (h : HpI key of w0 b xs own W) (hb : Below W.heap.size W W') : HpI key of w0 b xs own W' := by
  obtain ⟨v, hv⟩ := h.heap
  exact ⟨⟨v, hv.below hb (Nat.le_refl _)⟩, h.own⟩
theorem prs_two (w : World) (x y : Int) : PrsI (w.alloc (.cells #[.int .i64 x, .int .i64 y] 3)).heap.size (w.alloc (.cells #[.int .i64 x, .int .i64 y] 3)) (.slice (some ⟨w.heap.size, 0, none⟩) 2 2) [x, y] := by
  refine .inr ⟨w.heap.size, 0, 2, rfl, by simp, Nat.le_refl _, fun j z hj => ?_⟩
  rw [cell_new_row, Nat.zero_add]
  match j, hj with
  | 0, hj => simp at hj; subst hj; rfl
  | 1, hj => simp at hj; subst hj; rfl
  | j + 2, hj => simp at hj

theorem PrsI.form {n : Nat} {W : World} {v : Value} {xs : List Int} (h : PrsI n W v xs) (hx : 0 < xs.length) : ∃ b off cap, v = .slice (some ⟨b, off, none⟩) xs.length cap ∧ ∀ j x, xs[j]? = some x → W.cell? ⟨b, off + j, none⟩ = some (.int .i64 x) := by
  rcases h with ⟨rfl, _⟩ | ⟨b, off, cap, e, _, _, hc⟩
  · simp at hx
  · exact ⟨b, off, cap, e, hc⟩
theorem two_vals (w w2 : World) (x y : Int) (h : w2 = (w.alloc (.cells #[.int .i64 x, .int .i64 y] 3)).alloc (.cells #[.slice (some ⟨w.heap.size, 0, none⟩) 2 2] 66)) :
    w2.cell? ⟨w.heap.size + 1, 0, none⟩ = some (.slice (some ⟨w.heap.size, 0, none⟩) 2 2) ∧ PrsI w2.heap.size w2 (.slice (some ⟨w.heap.size, 0, none⟩) 2 2) [x, y] ∧ Below w.heap.size w w2 := by
  subst h
  refine ⟨?_, ?_, ((Below.refl _ _).alloc (Nat.le_refl _) _).alloc (by simp) _⟩
  · exact cell_new_at (by simp) _ _ 0
  · exact ((prs_two w x y).below ((Below.refl _ _).alloc (Nat.le_refl _) _) (Nat.le_refl _)).mono (by simp)
theorem off_row {W : World} {base e size n : Nat} {v : Value} {xs : List Value} (h : W.ownsRow base e size v n xs) {own : List Nat} (ho : ∀ k ∈ own, k < base) : OffI own v := fun ad m c e h0 hk => by
  have := (World.ownsRow.lt h ad.block (by rw [e]; rfl)).1
  have := ho _ hk
  omega

set_option maxRecDepth 100000 in
set_option maxHeartbeats 4000000 in
theorem heapAlive_any (w : World) : Calls Try.prog 7 #[] w fun e w' => e = .returned (.bool true) ∧ Below w.heap.size w w' := by
  have HN := Lib.hid (newI (.func (.func 29) #[] #[]) w ⟨_, rfl⟩)
  go_enter Try.func7, Try.ntmps7
  go_wp2_with (go_at_call 28; refine HN.out.mono ?_; rintro e w1 ⟨rfl, h1, b1⟩; have H1 : Hid (HpI (fun x => x) 29 w w.heap.size [] [w.heap.size] w1) := Lib.hid ⟨⟨_, h1⟩, fun k hk => by simp at hk; omega⟩; have B1 := Lib.hid b1; clear h1 b1)
  have z1 := B1.out.size
  refine (H1.out.put ord1I (by decide) z1 3).mono ?_
  rintro e w2 ⟨rfl, o2, h2, b2⟩
  have H2 := Lib.hid h2
  have B2 := Lib.hid b2
  have Z2 : Hid (w.heap.size ≤ w2.heap.size) := Lib.hid (by have := b2.size; omega)
  clear h2 b2
  go_wp2_with fail
  refine (H2.out.put ord1I (by decide) Z2.out 1).mono ?_
  rintro e w3 ⟨rfl, o3, h3, b3⟩
  have H3 := Lib.hid h3
  have B3 := Lib.hid (B2.out.trans b3)
  have Z3 : Hid (w.heap.size ≤ w3.heap.size) := Lib.hid (by have := b3.size; have := Z2.out; omega)
  clear h3 b3
  go_wp2_with fail
  refine (H3.out.put ord1I (by decide) Z3.out 2).mono ?_
  rintro e w4 ⟨rfl, o4, h4, b4⟩
  have B4 := Lib.hid (B1.out.trans (B3.out.trans b4))
  have Z4 : Hid (w.heap.size ≤ w4.heap.size) := Lib.hid (by have := b4.size; have := Z3.out; omega)
  have h4 : HpI (fun x => x) 29 w w.heap.size [3, 1, 2] o4 w4 := h4
  have hS : ofS (fun x : Int => x) [3, 1, 2] = [(1, 2), (2, 3), (3, 1)] := by decide +kernel
  have hR := heapS_rep (fun x : Int => x) 3 [3, 1, 2] rfl
  rw [hS] at hR
  obtain ⟨v4, hv4⟩ := h4.heap
  have hl : (heapS (fun x : Int => x) [3, 1, 2]).length = 3 := heapS_len _ _
  have ht : at' (heapS (fun x : Int => x) [3, 1, 2]) 0 = (1, 2) := hR.take.1
  have HT : Hid (Calls Try.prog 31 #[.pointer (some ⟨w.heap.size, 0, none⟩)] w4 fun e w' => e = .returned (.tuple #[.int .i64 1, .bool true]) ∧ w4 = w') := Lib.hid (by
    have := topI w4 hv4
    rw [hl, ht] at this
    exact this)
  have HV4 := Lib.hid hv4
  have HR := Lib.hid hR
  have HO4 := Lib.hid h4.own
  clear b4 h4 hS hR hv4 hl ht
  go_wp2_with fail
  refine HT.out.mono ?_
  rintro e w' ⟨rfl, rfl⟩
  go_wp2_with fail
  refine (drainI w.heap.size w4).mono ?_
  rintro e w5 ⟨rfl, hw5⟩
  have hb5 : Below w4.heap.size w4 w5 := by rw [hw5]; exact (Below.refl _ _).alloc (Nat.le_refl _) _
  have HC := Lib.hid (collectI ord1I (own := o4) (b := w.heap.size) (Bh := w4.heap.size) (S := [(1, 2), (2, 3), (3, 1)]) (by decide) w5 ⟨v4, HV4.out.below hb5 (Nat.le_refl _)⟩ HR.out (by rw [hw5]; exact World.alloc_heap_new w4 _) (fun hk => by have := HV4.out.lt _ hk; omega))
  have Z45 : Hid (w4.heap.size ≤ w5.heap.size) := Lib.hid hb5.size
  have Z5 : Hid (w.heap.size ≤ w5.heap.size) := Lib.hid (by have := hb5.size; have := Z4.out; omega)
  have B5 := Lib.hid (B4.out.trans (hb5.mono Z4.out))
  clear hb5 hw5
  go_wp2_with fail
  refine HC.out.mono ?_
  rintro e w6 ⟨v6, rfl, hr6, ⟨u6, h6⟩, b6⟩
  have B6 := Lib.hid (B5.out.trans (b6.below HO4.out Z5.out))
  have Z6 : Hid (w.heap.size ≤ w6.heap.size) := Lib.hid (by have := b6.size; have := Z5.out; omega)
  have hp6 : PrsI w6.heap.size w6 v6 [1, 2, 3] := PrsI.of_owns (xs := [1, 2, 3]) hr6
  have hP := popI ord1I (l := []) (by decide) w6 h6
  have hoff : OffI o4 v6 := off_row hr6 (fun k hk => by have := HV4.out.lt k hk; have := Z45.out; omega)
  have HOFF := Lib.hid hoff
  clear hoff
  have HP6 := Lib.hid hp6
  have HP := Lib.hid hP
  clear b6 hr6 h6 hp6 hP
  go_wp2_with fail
  refine HP.out.mono ?_
  rintro e w7 ⟨rfl, ⟨u7, h7⟩, b7⟩
  have B7 := Lib.hid (B6.out.trans (b7.below HO4.out Z6.out))
  have Z7 : Hid (w.heap.size ≤ w7.heap.size) := Lib.hid (by have := b7.size; have := Z6.out; omega)
  have HH7 : Hid (HeapI o4 w7 w.heap.size (.func (.func 29) #[] #[]) u7 [] 3) := Lib.hid h7
  have HP7 := Lib.hid (HP6.out.but b7 HOFF.out (Nat.le_refl _))
  have Z67 : Hid (w6.heap.size ≤ w7.heap.size) := Lib.hid b7.size
  clear h7 b7
  go_wp2_with fail
  refine (valuesI _ _ _ _).mono ?_
  rintro e w8 ⟨rfl, hw8⟩
  obtain ⟨c8, p8, b8⟩ := two_vals w7 w8 1 2 hw8
  have HF := Lib.hid (fromI ord2I _ _ _ _ [1, 2] (by decide) w8 c8 p8)
  have hz8 : w7.heap.size ≤ w8.heap.size := b8.size
  have B8 := Lib.hid (B7.out.trans (b8.mono Z7.out))
  have Z8 : Hid (w.heap.size ≤ w8.heap.size) := Lib.hid (by have := Z7.out; omega)
  have HP8 := Lib.hid (HP7.out.below b8 Z67.out)
  have HH8 := Lib.hid (HH7.out.below b8 (Nat.le_refl _))
  have Z68 : Hid (w6.heap.size ≤ w8.heap.size) := Lib.hid (by have := Z67.out; omega)
  simp only [World.size_alloc] at HF ⊢
  clear c8 p8 b8 hw8 hz8
  go_wp2_with fail
  refine HF.out.mono ?_
  rintro e w9 ⟨f, of, v9, rfl, h9, o9, b9⟩
  have HP9 := Lib.hid (HP8.out.below b9 Z68.out)
  have HH9 := Lib.hid (HH8.out.below b9 (Nat.le_refl _))
  have B9 := Lib.hid (B8.out.trans (b9.mono Z8.out))
  have hz9 : w8.heap.size ≤ w9.heap.size := b9.size
  have Z69 : Hid (w6.heap.size ≤ w9.heap.size) := Lib.hid (by have := Z68.out; omega)
  have Z9 : Hid (w.heap.size ≤ w9.heap.size) := Lib.hid (by have := Z8.out; omega)
  have O9 : Hid (∀ k ∈ of, w8.heap.size ≤ k) := Lib.hid o9
  have hSf : ofS (fun x : Int => -x) [1, 2] = [(2, 2), (1, 1)] := by decide +kernel
  have hRf := heapS_rep (fun x : Int => -x) 2 [1, 2] rfl
  rw [hSf] at hRf
  have hlf : (heapS (fun x : Int => -x) [1, 2]).length = 2 := heapS_len _ _
  have hff : firstI (heapS (fun x : Int => -x) [1, 2]) = 2 := by unfold firstI; rw [hlf, hRf.take.1]; rfl
  have hPf := popI ord2I (by rw [hlf]; decide) w9 h9
  rw [hff, hlf] at hPf
  have hrf : (restI (fun x : Int => -x) (heapS (fun x : Int => -x) [1, 2])).length = 1 := by
    unfold restI
    rw [if_neg (by rw [hlf]; decide)]
    exact hRf.take.2.len.symm
  have HRF := Lib.hid hrf
  have HPF := Lib.hid hPf
  clear h9 o9 b9 hSf hRf hlf hff hPf hrf hz9
  unfold valI at HPF
  go_wp2_with fail
  refine HPF.out.mono ?_
  rintro e w10 ⟨rfl, ⟨u10, h10⟩, b10⟩
  have hsep : ∀ k ∈ of, w6.heap.size ≤ k ∧ k ∉ o4 := fun k hk => ⟨by have := O9.out k hk; have := Z68.out; omega, fun hk4 => by have := O9.out k hk; have := HH8.out.lt k hk4; omega⟩
  have HF10 := Lib.hid h10
  have HH10 := Lib.hid (HH9.out.but b10 (fun k hk hk2 => (hsep k hk2).2 hk))
  have HP10 := Lib.hid (HP9.out.below (b10.below (fun k hk => (hsep k hk).1) Z69.out) (Nat.le_refl _))
  have B10 := Lib.hid (B9.out.trans (b10.below (fun k hk => by have := O9.out k hk; have := Z8.out; omega) Z9.out))
  have hz10 : w9.heap.size ≤ w10.heap.size := b10.size
  have Z10 : Hid (w.heap.size ≤ w10.heap.size) := Lib.hid (by have := Z9.out; omega)
  have Z610 : Hid (w6.heap.size ≤ w10.heap.size) := Lib.hid (by have := Z69.out; omega)
  clear h10 b10 hz10 hsep
  go_wp2_with fail
  refine (valuesI _ _ _ _).mono ?_
  rintro e w11 ⟨rfl, hw11⟩
  obtain ⟨c11, p11, b11⟩ := two_vals w10 w11 2 1 hw11
  have HSO := Lib.hid (sortedI ord3I _ _ _ _ [2, 1] (by decide) w11 c11 p11)
  have B11 := Lib.hid (B10.out.trans (b11.mono Z10.out))
  have HP11 := Lib.hid (HP10.out.below b11 Z610.out)
  have HH11 := Lib.hid (HH10.out.below b11 (Nat.le_refl _))
  have HF11 := Lib.hid (HF10.out.below b11 (Nat.le_refl _))
  have hz11 : w10.heap.size ≤ w11.heap.size := b11.size
  have Z11 : Hid (w.heap.size ≤ w11.heap.size) := Lib.hid (by have := Z10.out; omega)
  have Z611 : Hid (w6.heap.size ≤ w11.heap.size) := Lib.hid (by have := Z610.out; omega)
  simp only [World.size_alloc] at HSO ⊢
  clear c11 p11 b11 hw11 hz11
  go_wp2_with fail
  refine HSO.out.mono ?_
  rintro e w12 ⟨v12, rfl, r12, b12⟩
  have hp12 : PrsI w12.heap.size w12 v12 [1, 2] := PrsI.of_owns (xs := [1, 2]) r12
  have B12 := Lib.hid (B11.out.trans (b12.mono Z11.out))
  have HP12 := Lib.hid (HP11.out.below b12 Z611.out)
  have HH12 := Lib.hid (HH11.out.below b12 (Nat.le_refl _))
  have HF12 := Lib.hid (HF11.out.below b12 (Nat.le_refl _))
  have HS12 := Lib.hid hp12
  have hz12 : w11.heap.size ≤ w12.heap.size := b12.size
  have Z12 : Hid (w.heap.size ≤ w12.heap.size) := Lib.hid (by have := Z11.out; omega)
  have Z612 : Hid (w6.heap.size ≤ w12.heap.size) := Lib.hid (by have := Z611.out; omega)
  clear r12 b12 hz12 hp12
  go_wp2_with fail
  refine (valuesI _ _ _ _).mono ?_
  rintro e w13 ⟨rfl, hw13⟩
  obtain ⟨c13, p13, b13⟩ := two_vals w12 w13 2 1 hw13
  have HFI := Lib.hid (firstOfI ord4I _ 1 (by decide) _ _ _ [2, 1] (by decide) w13 c13 p13)
  have B13 := Lib.hid (B12.out.trans (b13.mono Z12.out))
  have HP13 := Lib.hid (HP12.out.below b13 Z612.out)
  have HH13 := Lib.hid (HH12.out.below b13 (Nat.le_refl _))
  have HF13 := Lib.hid (HF12.out.below b13 (Nat.le_refl _))
  have HS13 := Lib.hid (HS12.out.below b13 (Nat.le_refl _))
  have hz13 : w12.heap.size ≤ w13.heap.size := b13.size
  have Z1213 : Hid (w12.heap.size ≤ w13.heap.size) := Lib.hid hz13
  have Z13 : Hid (w.heap.size ≤ w13.heap.size) := Lib.hid (by have := Z12.out; omega)
  have Z613 : Hid (w6.heap.size ≤ w13.heap.size) := Lib.hid (by have := Z612.out; omega)
  simp only [World.size_alloc] at HFI ⊢
  clear c13 p13 b13 hw13 hz13
  go_wp2_with fail
  refine HFI.out.mono ?_
  rintro e w14 ⟨v14, rfl, r14, b14⟩
  have hp14 : PrsI w14.heap.size w14 v14 [1] := PrsI.of_owns (xs := [1]) r14
  have B14 := Lib.hid (B13.out.trans (b14.mono Z13.out))
  have hP6 := HP13.out.below b14 Z613.out
  have hS12 := HS13.out.below b14 Z1213.out
  have hL1 := hlenI _ (HH13.out.below b14 (Nat.le_refl _))
  have hL2 := hlenI _ (HF13.out.below b14 (Nat.le_refl _))
  rw [HRF.out] at hL2
  have HL1 := Lib.hid hL1
  have HL2 := Lib.hid hL2
  clear r14 b14 hL1 hL2
  obtain ⟨a6, f6, k6, rfl, q6⟩ := hP6.form (by decide)
  obtain ⟨a12, f12, k12, rfl, q12⟩ := hS12.form (by decide)
  obtain ⟨a14, f14, k14, rfl, q14⟩ := hp14.form (by decide)
  have x6 := q6 2 3 rfl
  have x12 := q12 0 1 rfl
  have x14 := q14 0 1 rfl
  rw [Nat.add_zero] at x12 x14
  clear q6 q12 q14 hP6 hS12 hp14
  simp only [List.length_cons, List.length_nil, Nat.zero_add, Nat.reduceAdd]
  show _
  go_wp2_with (first | (go_at_call 42; refine HL1.out.mono ?_; rintro e w' ⟨rfl, rfl⟩) | (go_at_call 42; refine HL2.out.mono ?_; rintro e w' ⟨rfl, rfl⟩))
  go_ret
  exact ⟨rfl, B14.out⟩

end Go.Proofs.Ytpdncgjepfgnjaa
