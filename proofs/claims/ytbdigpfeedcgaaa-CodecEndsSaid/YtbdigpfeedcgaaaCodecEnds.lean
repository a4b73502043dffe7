/- For whatever bytes, list of numbers and cut law CodecEnds answers true: a proper beginning of what was written cannot be read to its end. No condition. -/
import Derived.Test.YtbdigpfeedcgaaaCodEn
namespace Go.Proofs.Ytbdigpfeedcgaaa.codecEnds
open Go.ChangeShapes Go.WideShapes Go.ChangeAt Go.RowKit Go.Proofs.Ytbdigpfeedcgaaa Go.Proofs.Ytbdigpfeedcgaaa.SumM
set_option linter.unusedVariables false
attribute [local go_sem] Oper.semAt_some

set_option maxRecDepth 100000 in
set_option maxHeartbeats 2000000 in
theorem walk (w : World) (p0 : Option Addr) (n0 c0 : Nat) (l0 : List Nat) (S0 : Sl encY w.heap.size w (.slice p0 n0 c0) l0) (b0 : ∀ x ∈ l0, x < 256) (p1 : Option Addr) (n1 c1 : Nat) (l1 : List Int) (S1 : Sl encN w.heap.size w (.slice p1 n1 c1) l1) (b1 : ∀ m ∈ l1, In64 m) (a2 : Int) (w2 : (Lit.int .i64 a2).wf = true) :
    Calls Try.prog 8 #[.slice p0 n0 c0, .slice p1 n1 c1, .int .i64 a2] w fun e w' => e = .returned (.bool true) ∧ Below w.heap.size w w' := by
  obtain rfl := S0.len
  obtain rfl := S1.len
  have HS2 := Lib.hid S0
  have HS3 := Lib.hid S1
  have HB2 := Lib.hid b0
  have HB3 := Lib.hid b1
  clear S0 S1 b0 b1 w2
  obtain ⟨n2, hn2⟩ : ∃ n, l0.length = n := ⟨_, rfl⟩
  obtain ⟨n3, hn3⟩ : ∃ n, l1.length = n := ⟨_, rfl⟩
  have HN2 := Lib.hid hn2
  have HN3 := Lib.hid hn3
  rw [hn2] at HS2 ⊢
  rw [hn3] at HS3 ⊢
  clear hn2 hn3
  by_cases g2 : (n2 : Int) > 200
  · go_enter Try.func8, Try.ntmps8
    go_wp2_with (go_at_call 28; refine (codecAlive_any _).mono ?_; rintro e w1 ⟨rfl, hb1⟩)
    go_ret
    exact ⟨rfl, hb1⟩
  · by_cases g3 : (n3 : Int) > 50
    · go_enter Try.func8, Try.ntmps8
      go_wp2_with (go_at_call 28; refine (codecAlive_any _).mono ?_; rintro e w1 ⟨rfl, hb1⟩)
      go_ret
      exact ⟨rfl, hb1⟩
    · have hz : ∀ (w : World), (zeroValue 48).run Try.prog w = .ok (.agg #[.slice none 0 0]) w := fun w => by kernel_rfl
      have q3 := uv_len10 (n := n2) (by omega)
      have q4 := listL_len HB3.out (by rw [HN3.out]; omega)
      rw [HN3.out] at q4
      obtain ⟨t, ht, ht2⟩ := and4095 a2
      have HT := Lib.hid ht
      go_enter Try.func8, Try.ntmps8
      go_wp2_with (go_at_call 28; refine (codecAlive_any _).mono ?_; rintro e w1 ⟨rfl, hb1⟩)
      obtain ⟨B, hB⟩ : ∃ B, w1.heap.size = B := ⟨_, rfl⟩
      obtain ⟨w0, hw0⟩ : ∃ w0, w1.alloc (.cells #[.slice none 0 0] 48) = w0 := ⟨_, rfl⟩
      have ho := OutL.new w1
      rw [hw0, hB] at ho
      rw [hB, hw0]
      have hwB : w.heap.size ≤ B := by rw [← hB]; exact hb1.size
      have hb0 : Below w.heap.size w w0 := by rw [← hw0]; exact hb1.alloc hb1.size _
      have hwz := hb0.size
      have HB0 := Lib.hid hb0
      clear hw0 hb1 hB hb0
      refine (ho.bytes (s := l0) (by rw [HN2.out]; omega) (by simp) (HS2.out.below HB0.out) hwB hwz).mono ?_
      rintro e w2 ⟨rfl, ho2⟩
      rw [HN2.out] at ho2
      have HO2 := Lib.hid ho2
      clear ho ho2
      go_wp2_with fail
      refine (values_any _ _ _ _).mono ?_
      rintro e w5 ⟨rfl, hw5⟩
      have hb45 : Below w2.heap.size w2 w5 := by rw [hw5]; exact (Below.refl _ _).alloc (Nat.le_refl _) _
      have hc5 : w5.cell? ⟨w2.heap.size, 0, none⟩ = some (.slice p1 n3 c1) := by rw [hw5]; exact (Boxed.new _ _ _).cell
      have hz5 : w2.heap.size < w5.heap.size := by rw [hw5]; simp
      have ho5 := HO2.out.mono hb45
      have hb5 : Below w.heap.size w w5 := HB0.out.trans (ho5.keeps hwB hwz)
      have HP := Lib.hid (ho5.puts HB3.out (by rw [HN3.out]; omega) (by simp [HN2.out]; omega) hz5 hc5 ((HS3.out.below hb5).mono hb5.size))
      clear hw5 hb45 hc5 hz5 ho5 hb5 HO2
      go_wp2_with fail
      refine HP.out.mono ?_
      rintro e w6 ⟨rfl, ho6⟩
      obtain ⟨X, hX⟩ : ∃ X, [] ++ (uv n2 ++ l0) ++ listL l1 = X := ⟨_, rfl⟩
      rw [hX] at ho6
      have hX2 : X = (uv l0.length ++ l0) ++ listL l1 := by rw [← hX, HN2.out]; simp
      have hXl : X.length ≤ 2000 := by rw [← hX]; simp [HN2.out]; omega
      have hX0 : 0 < X.length := by
        rw [hX2, List.length_append, List.length_append]
        have := List.length_pos_iff.2 (uv_ne l0.length)
        omega
      have hXb : Bytes X := ⟨by omega, by rw [hX2]; exact bytes_app (bytes_app (uv_byte _) HB2.out) (listL_byte _)⟩
      have HX := Lib.hid hX2
      have HXB := Lib.hid hXb
      have HO6 := Lib.hid ho6
      have HD := Lib.hid (ho6.done (by omega))
      clear ho6 HP hX hX2 hXb
      go_wp2_with fail
      refine HD.out.mono ?_
      rintro e w7 ⟨a7, c7, rfl, hS7, hb7⟩
      have hb07 : Below w.heap.size w w7 := (HB0.out.trans (HO6.out.keeps hwB hwz)).trans (hb7.mono (HB0.out.trans (HO6.out.keeps hwB hwz)).size)
      have HB7 := Lib.hid hb07
      have hKl : t % X.length < X.length := Nat.mod_lt _ hX0
      obtain ⟨K, hK⟩ : ∃ K, t % X.length = K := ⟨_, rfl⟩
      have hKi : ((t : Int) % (X.length : Int)) = (K : Int) := by rw [← hK]; rfl
      rw [hK] at hKl
      have hmath := ends (l := l0) (xs := l1) HB3.out (by rw [HN2.out]; omega) (by rw [HN3.out]; omega) (K := K) (by rw [← HX.out]; exact hKl)
      rw [← HX.out] at hmath
      have HM := Lib.hid hmath
      have hXK : Bytes (X.take K) := ⟨by have := HXB.out.1; rw [List.length_take]; omega, fun x hx => HXB.out.2 x (List.mem_of_mem_take hx)⟩
      have hST : Sl encY w7.heap.size w7 (.slice a7 K c7) (X.take K) := hS7.take (by omega)
      have HF := Lib.hid (from_any a7 K c7 _ hXK.1 w7 hST)
      have HXK := Lib.hid hXK
      have hcap := hS7.capb
      obtain ⟨xl, hxl⟩ : ∃ xl, X.length = xl := ⟨_, rfl⟩
      rw [hxl] at hXl hX0 hKl hKi hcap ⊢
      have ht' := HT.out
      clear hb07 hS7 hb7 HD HO6 hxl hmath hXK hST hK
      go_wp2_with fail
      refine HF.out.mono ?_
      rintro e w8 ⟨bi, rfl, hbi, hi8, hb8⟩
      have HB8 := Lib.hid (step_below HB7.out hb8)
      have hwbi : w.heap.size ≤ bi := Nat.le_trans HB7.out.size hbi
      have HY := Lib.hid (inBytes_any w8.heap.size bi 0 200 _ HXK.out (by decide) w8 hi8)
      have HR := Lib.hid (takeB_bytes HXK.out 0 200)
      obtain ⟨Y, hY⟩ : ∃ Y, takeB (X.take K) 0 200 = Y := ⟨_, rfl⟩
      rw [hY] at HY HR HM
      clear hi8 hb8 HF HB7 HXK hY hKi ht' ht hKl hcap
      go_wp2_with fail
      refine HY.out.mono ?_
      rintro e w9 ⟨v9, rfl, -, -, hi9, hb9⟩
      have HB9 := Lib.hid (HB8.out.trans (hb9.below (by intro k hk; simp at hk; omega) HB8.out.size))
      have hT := takeAll_any _ bi Y.2.2 50 Y.2.1 HR.out (by decide) w9 hi9
      rw [HM.out] at hT
      have HT2 := Lib.hid hT
      clear hi9 hb9 HY HB8 hT
      go_wp2_with fail
      refine HT2.out.mono ?_
      rintro e w10 ⟨v10, rfl, -, hi10, hb10⟩
      have HB10 := Lib.hid (HB9.out.trans (hb10.below (by intro k hk; simp at hk; omega) HB9.out.size))
      have HE := Lib.hid (err_any _ bi 21 [] w10 hi10)
      have HL := Lib.hid (left_any _ bi 21 [] (by decide) w10 hi10)
      have HU := Lib.hid (inUint_any _ bi 21 [] Bytes.nil_ w10 hi10)
      clear hi10 hb10 HT2 HB9
      go_wp2_with fail
      refine HE.out.mono ?_
      rintro e w11 ⟨rfl, rfl⟩
      go_wp2_with fail
      refine HL.out.mono ?_
      rintro e w12 ⟨rfl, rfl⟩
      go_wp2_with fail
      refine HU.out.mono ?_
      rintro e w13 ⟨rfl, -, hb13⟩
      have HB13 := Lib.hid (HB10.out.trans (hb13.below (by intro k hk; simp at hk; omega) HB10.out.size))
      rw [show (wholeR []).1 = 0 from rfl]
      clear hb13
      go_wp2
      go_ret
      exact ⟨rfl, HB13.out⟩

set_option maxRecDepth 100000 in
theorem lifted (os : Os) (started : os.Started) (H : Type) (enc : TypeId × Value → H) :
    ReturnsInHanded {} Try.checked os 8 .any (Rows.codecEndsSpec.pre6 enc Try.prog Try.f8 Rows.codecEndsRow.domain false) (Rows.codecEndsSpec.post enc Try.prog Try.f8 false true false false) := by
  refine returnsInHanded_of_change (C := Try.checked) own started (by kernel_rfl) Try.func8
    (ChangeSpec.witness6 (enc := enc) (C := Try.checked) false ⟨#[], #[.slice none 0 0, .slice none 0 0, .int .i64 0], []⟩ 8 (by kernel_rfl) (by kernel_rfl) (by kernel_rfl) (by kernel_rfl)) ?_
  intro W base args ds gs before hval0 hW hcnd _
  have hval : ∀ (j : Nat) t v, Try.f8.params[j]? = some t → args[j]? = some v → Value.okWide Try.prog W .any base t v := hval0
  have hW' := hW
  obtain ⟨p, q, hA0, hV, rfl, hfz, hnd⟩ := hW
  have hA : DataW.TrodAll enc Try.prog W 0 (fun _ => true) true Try.f8.params.toList args.toList ds p := hA0
  rw [Try.params8] at hA hval
  have hAk := hA
  obtain ⟨v0, vs0, d0, ds0, p0', q0, hargs, rfl, rfl, h0, r0⟩ := trodAll_cons hA
  obtain ⟨v1, vs1, d1, ds1, p1', q1, rfl, rfl, rfl, h1, r1⟩ := trodAll_cons r0
  obtain ⟨v2, vs2, d2, ds2, p2', q2, rfl, rfl, rfl, h2, r2⟩ := trodAll_cons r1
  obtain ⟨rfl, rfl, rfl⟩ := trodAll_nil r2
  obtain rfl : args = #[v0, v1, v2] := by cases args; simp_all
  obtain ⟨rfl, rfl⟩ := trodVars_none hV
  simp only [List.append_nil] at hW' hAk
  have hlt := fun x hx => hW'.lt x hx
  clear hA0 hval0
  obtain ⟨p0, n0, c0, l0, rfl, S0, b0⟩ := open_bytes (okWide_slice Try.underlying22 (hval 0 22 v0 rfl rfl)) h0
  obtain ⟨p1, n1, c1, l1, rfl, S1, b1⟩ := open_nums (okWide_slice Try.underlying46 (hval 1 46 v1 rfl rfl)) h1
  obtain ⟨a2, rfl, rfl, rfl, w2⟩ := open_int Try.underlying3 (hval 2 3 v2 rfl rfl) h2
  refine (walk W p0 n0 c0 l0 S0 b0 p1 n1 c1 l1 S1 b1 a2 w2).mono fun e W' ⟨he, hg⟩ => ?_
  subst he
  have hargs := trodAll_below hg _ _ _ _ (by intro t ht; simp only [List.mem_cons, List.not_mem_nil, or_false] at ht; revert t; rintro t (rfl | rfl | rfl) <;> exact ⟨by kernel_rfl, of_decide_eq_true (by kernel_rfl)⟩) hAk (fun x hx => by simpa using hlt x hx)
  exact ⟨_, rfl, _, _, _, [], _, [], hW', (trodAll_cons_mk (shut_bool Try.underlying4 _) trodAll_mk0), hargs, rfl, hg.frame _, fun h => by cases h⟩

theorem over : Rows.codecEndsRow.holds Try.pinned (OpenSpec.ofChange Rows.codecEndsSpec) :=
  OpenClaim.holds_of_wide 8 Try.f8 rfl rfl rfl rfl rfl rfl rfl ⟨rfl, rfl, rfl, rfl, rfl⟩ rfl rfl rfl rfl rfl (by kernel_rfl) Try.func8 (by kernel_rfl)
    (of_decide_eq_true (by kernel_rfl)) (by unfold Func.isWrapper; first | (rw [if_pos (by decide +kernel)]; kernel_rfl) | (rw [if_neg (by decide +kernel)]; exact ⟨rfl, rfl⟩))
    (fun os started H enc _ => lifted os started H enc)

theorem proved : Rows.CodecEndsSaid :=
  over
end Go.Proofs.Ytbdigpfeedcgaaa.codecEnds
