/- For whatever numbers, bytes and list of numbers law CodecWrites answers true: they are written as the document says. No condition. -/
import Derived.Test.YtbdigpfeedcgaaaCodO
namespace Go.Proofs.Ytbdigpfeedcgaaa.codecWrites
open Go.ChangeShapes Go.WideShapes Go.ChangeAt Go.RowKit Go.Proofs.Ytbdigpfeedcgaaa Go.Proofs.Ytbdigpfeedcgaaa.SumM
set_option linter.unusedVariables false
attribute [local go_sem] Oper.semAt_some

set_option maxRecDepth 100000 in
set_option maxHeartbeats 2000000 in
theorem walk (w : World) (a0 : Int) (w0 : (Lit.int .u64 a0).wf = true) (a1 : Int) (w1 : (Lit.int .i64 a1).wf = true) (p2 : Option Addr) (n2 c2 : Nat) (l2 : List Nat) (S2 : Sl encY w.heap.size w (.slice p2 n2 c2) l2) (b2 : ∀ x ∈ l2, x < 256) (p3 : Option Addr) (n3 c3 : Nat) (l3 : List Int) (S3 : Sl encN w.heap.size w (.slice p3 n3 c3) l3) (b3 : ∀ m ∈ l3, In64 m) :
    Calls Try.prog 6 #[.int .u64 a0, .int .i64 a1, .slice p2 n2 c2, .slice p3 n3 c3] w fun e w' => e = .returned (.bool true) ∧ Below w.heap.size w w' := by
  obtain ⟨N, rfl, hN⟩ : ∃ N : Nat, a0 = (N : Int) ∧ N < 18446744073709551616 := by
    have := bounds_u64 w0
    exact ⟨a0.toNat, by omega, by omega⟩
  have hm : In64 a1 := bounds_i64 w1
  obtain rfl := S2.len
  obtain rfl := S3.len
  have HS2 := Lib.hid S2
  have HS3 := Lib.hid S3
  have HB2 := Lib.hid b2
  have HB3 := Lib.hid b3
  clear S2 S3 b2 b3 w0 w1
  obtain ⟨n2, hn2⟩ : ∃ n, l2.length = n := ⟨_, rfl⟩
  obtain ⟨n3, hn3⟩ : ∃ n, l3.length = n := ⟨_, rfl⟩
  have HN2 := Lib.hid hn2
  have HN3 := Lib.hid hn3
  rw [hn2] at HS2 ⊢
  rw [hn3] at HS3 ⊢
  clear hn2 hn3
  by_cases g2 : (n2 : Int) > 500
  · go_enter Try.func6, Try.ntmps6
    go_wp2_with (go_at_call 28; refine (codecAlive_any _).mono ?_; rintro e w1 ⟨rfl, hb1⟩)
    go_ret
    exact ⟨rfl, hb1⟩
  · by_cases g3 : (n3 : Int) > 50
    · go_enter Try.func6, Try.ntmps6
      go_wp2_with (go_at_call 28; refine (codecAlive_any _).mono ?_; rintro e w1 ⟨rfl, hb1⟩)
      go_ret
      exact ⟨rfl, hb1⟩
    · have hz : ∀ (w : World), (zeroValue 48).run Try.prog w = .ok (.agg #[.slice none 0 0]) w := fun w => by kernel_rfl
      have q1 := uv_len10 hN
      have q2 := uv_len10 (zig_lt hm.1 hm.2)
      have q3 := uv_len10 (n := n2) (by omega)
      have q4 := listL_len HB3.out (by rw [HN3.out]; omega)
      rw [HN3.out] at q4
      go_enter Try.func6, Try.ntmps6
      go_wp2_with (go_at_call 28; refine (codecAlive_any _).mono ?_; rintro e w1 ⟨rfl, hb1⟩)
      obtain ⟨B, hB⟩ : ∃ B, w1.heap.size = B := ⟨_, rfl⟩
      obtain ⟨w0, hw0⟩ : ∃ w0, w1.alloc (.cells #[.slice none 0 0] 48) = w0 := ⟨_, rfl⟩
      have ho := OutL.new w1
      rw [hw0, hB] at ho
      rw [hB, hw0]
      have hwB : w.heap.size ≤ B := by rw [← hB]; exact hb1.size
      have hb0 : Below w.heap.size w w0 := by rw [← hw0]; exact hb1.alloc hb1.size _
      have hwz := hb0.size
      have HB0 := Lib.hid hb0
      clear hw0 hb1 hB hb0
      refine (ho.uint hN (by simp)).mono ?_
      rintro e w2 ⟨rfl, ho2⟩
      have HI := Lib.hid (ho2.int hm (by simp; omega))
      clear ho ho2
      go_wp2_with fail
      refine HI.out.mono ?_
      rintro e w3 ⟨rfl, ho3⟩
      have hb3 : Below w.heap.size w w3 := HB0.out.trans (ho3.keeps hwB hwz)
      have HY := Lib.hid (ho3.bytes (s := l2) (by rw [HN2.out]; omega) (by simp; omega) (HS2.out.below hb3) hwB hwz)
      clear ho3 hb3 HI
      go_wp2_with fail
      refine HY.out.mono ?_
      rintro e w4 ⟨rfl, ho4⟩
      rw [HN2.out] at ho4
      have HO4 := Lib.hid ho4
      clear ho4 HY
      go_wp2_with fail
      refine (values_any _ _ _ _).mono ?_
      rintro e w5 ⟨rfl, hw5⟩
      have hb45 : Below w4.heap.size w4 w5 := by rw [hw5]; exact (Below.refl _ _).alloc (Nat.le_refl _) _
      have hc5 : w5.cell? ⟨w4.heap.size, 0, none⟩ = some (.slice p3 n3 c3) := by rw [hw5]; exact (Boxed.new _ _ _).cell
      have hz5 : w4.heap.size < w5.heap.size := by rw [hw5]; simp
      have ho5 := HO4.out.mono hb45
      have hb5 : Below w.heap.size w w5 := HB0.out.trans (ho5.keeps hwB hwz)
      have HP := Lib.hid (ho5.puts HB3.out (by rw [HN3.out]; omega) (by simp [HN2.out]; omega) hz5 hc5 ((HS3.out.below hb5).mono hb5.size))
      clear hw5 hb45 hc5 hz5 ho5 hb5 HO4
      go_wp2_with fail
      refine HP.out.mono ?_
      rintro e w6 ⟨rfl, ho6⟩
      obtain ⟨X, hX⟩ : ∃ X, [] ++ uv N ++ uv (zig a1) ++ (uv n2 ++ l2) ++ listL l3 = X := ⟨_, rfl⟩
      rw [hX] at ho6
      have hXl : X.length ≤ 2000 := by rw [← hX]; simp [HN2.out]; omega
      have HX := Lib.hid hX
      have HO6 := Lib.hid ho6
      have HD := Lib.hid (ho6.done (by omega))
      clear ho6 HP hX
      go_wp2_with fail
      refine HD.out.mono ?_
      rintro e w7 ⟨a7, c7, rfl, hS7, hb7⟩
      have hb07 : Below w.heap.size w w7 := (HB0.out.trans (HO6.out.keeps hwB hwz)).trans (hb7.mono (by have := (HB0.out.trans (HO6.out.keeps hwB hwz)).size; exact this))
      have HB7 := Lib.hid hb07
      have HS7 := Lib.hid hS7
      have HU := Lib.hid (refUint_any N hN w7)
      obtain ⟨xl, hxl⟩ : ∃ xl, X.length = xl := ⟨_, rfl⟩
      have HXL := Lib.hid hxl
      rw [hxl] at HS7 hXl
      rw [hxl]
      clear hb07 hS7 hb7 HD HO6 hxl
      go_wp2_with fail
      refine HU.out.mono ?_
      rintro e w8 ⟨v8, rfl, hr8, hb8⟩
      have hS8 := Sl.of_owns hr8
      obtain ⟨a8, m8, c8, rfl⟩ := Go.Proofs.Ytbdigpfeedcgaaa.ownsRow_form hr8
      have HB8 := Lib.hid (step_below HB7.out hb8)
      have HS78 := Lib.hid (hS_step HS7.out hb8)
      have HS8 := Lib.hid hS8
      have HI2 := Lib.hid (refInt_any a1 hm.1 hm.2 w8)
      clear hr8 hS8 hb8 HU HB7 HS7
      go_wp2_with fail
      refine HI2.out.mono ?_
      rintro e w9 ⟨v9, rfl, hr9, hb9⟩
      have hS9 := Sl.of_owns hr9
      obtain ⟨a9, m9, c9, rfl⟩ := Go.Proofs.Ytbdigpfeedcgaaa.ownsRow_form hr9
      have HB9 := Lib.hid (step_below HB8.out hb9)
      have HS79 := Lib.hid (hS_step HS78.out hb9)
      have HS89 := Lib.hid (hS_step HS8.out hb9)
      have HS9 := Lib.hid hS9
      have HY2 := Lib.hid (refBytes_any p2 n2 c2 l2 (by rw [HN2.out]; omega) w9 ((HS2.out.below HB9.out).mono HB9.out.size))
      clear hr9 hS9 hb9 HI2 HB8 HS78 HS8
      go_wp2_with fail
      refine HY2.out.mono ?_
      rintro e w10 ⟨v10, rfl, hr10, hb10⟩
      have hS10 := Sl.of_owns hr10
      obtain ⟨a10, m10, c10, rfl⟩ := Go.Proofs.Ytbdigpfeedcgaaa.ownsRow_form hr10
      have HB10 := Lib.hid (step_below HB9.out hb10)
      have HS710 := Lib.hid (hS_step HS79.out hb10)
      have HS810 := Lib.hid (hS_step HS89.out hb10)
      have HS910 := Lib.hid (hS_step HS9.out hb10)
      have HS10 := Lib.hid hS10
      have HN4 := Lib.hid (refNums_any p3 n3 c3 l3 HB3.out (by rw [HN3.out]; omega) w10 ((HS3.out.below HB10.out).mono HB10.out.size))
      clear hr10 hS10 hb10 HY2 HB9 HS79 HS89 HS9
      go_wp2_with fail
      refine HN4.out.mono ?_
      rintro e w11 ⟨v11, rfl, hr11, hb11⟩
      have hS11 := Sl.of_owns hr11
      obtain ⟨a11, m11, c11, rfl⟩ := Go.Proofs.Ytbdigpfeedcgaaa.ownsRow_form hr11
      have HB11 := Lib.hid (step_below HB10.out hb11)
      have HS711 := Lib.hid (hS_step HS710.out hb11)
      have hP := Parts.four w11 _ _ _ _ _ _ _ _ 22 (hS_step HS810.out hb11) (hS_step HS910.out hb11) (hS_step HS10.out hb11) hS11
      have hfl : [uv N, uv (zig a1), uv l2.length ++ l2, listL l3].flatten = X := by rw [← HX.out, HN2.out]; simp
      have hJ := joinY_any _ 4 4 _ (by rw [hfl, HXL.out]; omega) (by simp) _ hP
      rw [hfl] at hJ
      have HJ := Lib.hid hJ
      have hb11' : Below w11.heap.size w11 (w11.alloc (.cells #[.slice a8 m8 c8, .slice a9 m9 c9, .slice a10 m10 c10, .slice a11 m11 c11] 22)) := (Below.refl _ _).alloc (Nat.le_refl _) _
      have HB12 := Lib.hid (step_below HB11.out hb11')
      have HS712 := Lib.hid (hS_step HS711.out hb11')
      clear hr11 hS11 hb11 HN4 HB10 HS710 HS810 HS910 HS10 hP hJ hfl hb11' HB11 HS711
      go_wp2_with fail
      refine HJ.out.mono ?_
      rintro e w13 ⟨v13, rfl, hr13, hb13⟩
      have hS13 := Sl.of_owns hr13
      obtain ⟨a13, m13, c13, rfl⟩ := Go.Proofs.Ytbdigpfeedcgaaa.ownsRow_form hr13
      have HB13 := Lib.hid (step_below HB12.out hb13)
      have HQ := sameY_any _ _ _ _ _ _ X X w13 (by rw [HXL.out]; omega) (by rw [HXL.out]; omega) (hS_step HS712.out hb13) hS13
      rw [decide_eq_true rfl] at HQ
      have HQ := Lib.hid HQ
      clear hr13 hS13 hb13 HJ HB12 HS712
      go_wp2_with fail
      refine HQ.out.mono ?_
      rintro e w14 ⟨rfl, hb14⟩
      have hB14 := step_below HB13.out hb14
      clear hb14
      go_wp2
      go_ret
      exact ⟨rfl, hB14⟩

set_option maxRecDepth 100000 in
theorem lifted (os : Os) (started : os.Started) (H : Type) (enc : TypeId × Value → H) :
    ReturnsInHanded {} Try.checked os 6 .any (Rows.codecWritesSpec.pre6 enc Try.prog Try.f6 Rows.codecWritesRow.domain false) (Rows.codecWritesSpec.post enc Try.prog Try.f6 false true false false) := by
  refine returnsInHanded_of_change (C := Try.checked) own started (by kernel_rfl) Try.func6
    (ChangeSpec.witness6 (enc := enc) (C := Try.checked) false ⟨#[], #[.int .u64 0, .int .i64 0, .slice none 0 0, .slice none 0 0], []⟩ 8 (by kernel_rfl) (by kernel_rfl) (by kernel_rfl) (by kernel_rfl)) ?_
  intro W base args ds gs before hval0 hW hcnd _
  have hval : ∀ (j : Nat) t v, Try.f6.params[j]? = some t → args[j]? = some v → Value.okWide Try.prog W .any base t v := hval0
  have hW' := hW
  obtain ⟨p, q, hA0, hV, rfl, hfz, hnd⟩ := hW
  have hA : DataW.TrodAll enc Try.prog W 0 (fun _ => true) true Try.f6.params.toList args.toList ds p := hA0
  rw [Try.params6] at hA hval
  have hAk := hA
  obtain ⟨v0, vs0, d0, ds0, p0', q0, hargs, rfl, rfl, h0, r0⟩ := trodAll_cons hA
  obtain ⟨v1, vs1, d1, ds1, p1', q1, rfl, rfl, rfl, h1, r1⟩ := trodAll_cons r0
  obtain ⟨v2, vs2, d2, ds2, p2', q2, rfl, rfl, rfl, h2, r2⟩ := trodAll_cons r1
  obtain ⟨v3, vs3, d3, ds3, p3', q3, rfl, rfl, rfl, h3, r3⟩ := trodAll_cons r2
  obtain ⟨rfl, rfl, rfl⟩ := trodAll_nil r3
  obtain rfl : args = #[v0, v1, v2, v3] := by cases args; simp_all
  obtain ⟨rfl, rfl⟩ := trodVars_none hV
  simp only [List.append_nil] at hW' hAk
  have hlt := fun x hx => hW'.lt x hx
  clear hA0 hval0
  obtain ⟨a0, rfl, rfl, rfl, w0⟩ := open_int Try.underlying45 (hval 0 45 v0 rfl rfl) h0
  obtain ⟨a1, rfl, rfl, rfl, w1⟩ := open_int Try.underlying2 (hval 1 2 v1 rfl rfl) h1
  obtain ⟨p2, n2, c2, l2, rfl, S2, b2⟩ := open_bytes (okWide_slice Try.underlying22 (hval 2 22 v2 rfl rfl)) h2
  obtain ⟨p3, n3, c3, l3, rfl, S3, b3⟩ := open_nums (okWide_slice Try.underlying46 (hval 3 46 v3 rfl rfl)) h3
  refine (walk W a0 w0 a1 w1 p2 n2 c2 l2 S2 b2 p3 n3 c3 l3 S3 b3).mono fun e W' ⟨he, hg⟩ => ?_
  subst he
  have hargs := trodAll_below hg _ _ _ _ (by intro t ht; simp only [List.mem_cons, List.not_mem_nil, or_false] at ht; revert t; rintro t (rfl | rfl | rfl | rfl) <;> exact ⟨by kernel_rfl, of_decide_eq_true (by kernel_rfl)⟩) hAk (fun x hx => by simpa using hlt x hx)
  exact ⟨_, rfl, _, _, _, [], _, [], hW', (trodAll_cons_mk (shut_bool Try.underlying4 _) trodAll_mk0), hargs, rfl, hg.frame _, fun h => by cases h⟩

theorem over : Rows.codecWritesRow.holds Try.pinned (OpenSpec.ofChange Rows.codecWritesSpec) :=
  OpenClaim.holds_of_wide 6 Try.f6 rfl rfl rfl rfl rfl rfl rfl ⟨rfl, rfl, rfl, rfl, rfl⟩ rfl rfl rfl rfl rfl (by kernel_rfl) Try.func6 (by kernel_rfl)
    (of_decide_eq_true (by kernel_rfl)) (by unfold Func.isWrapper; first | (rw [if_pos (by decide +kernel)]; kernel_rfl) | (rw [if_neg (by decide +kernel)]; exact ⟨rfl, rfl⟩))
    (fun os started H enc _ => lifted os started H enc)

theorem proved : Rows.CodecWritesSaid :=
  over
end Go.Proofs.Ytbdigpfeedcgaaa.codecWrites
