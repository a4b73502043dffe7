/- For whatever numbers, bytes and list of numbers law CodecBack answers true: what is written is read as it, and bytes that are read as a list are written as they were. No condition. -/
import Derived.Test.YtbdigpfeedcgaaaCodRd
namespace Go.Proofs.Ytbdigpfeedcgaaa.codecBack
open Go.ChangeShapes Go.WideShapes Go.ChangeAt Go.RowKit Go.Proofs.Ytbdigpfeedcgaaa Go.Proofs.Ytbdigpfeedcgaaa.SumM
set_option linter.unusedVariables false
attribute [local go_sem] Oper.semAt_some

set_option maxRecDepth 100000 in
set_option maxHeartbeats 2000000 in
theorem walk (w : World) (a0 : Int) (w0 : (Lit.int .u64 a0).wf = true) (a1 : Int) (w1 : (Lit.int .i64 a1).wf = true) (p2 : Option Addr) (n2 c2 : Nat) (l2 : List Nat) (S2 : Sl encY w.heap.size w (.slice p2 n2 c2) l2) (b2 : ∀ x ∈ l2, x < 256) (p3 : Option Addr) (n3 c3 : Nat) (l3 : List Int) (S3 : Sl encN w.heap.size w (.slice p3 n3 c3) l3) (b3 : ∀ m ∈ l3, In64 m) :
    Calls Try.prog 7 #[.int .u64 a0, .int .i64 a1, .slice p2 n2 c2, .slice p3 n3 c3] w fun e w' => e = .returned (.bool true) ∧ Below w.heap.size w w' := by
  obtain ⟨N, rfl, hN⟩ : ∃ N : Nat, a0 = (N : Int) ∧ N < 18446744073709551616 := by
    have := bounds_u64 w0
    exact ⟨a0.toNat, by omega, by omega⟩
  have hm : In64 a1 := bounds_i64 w1
  obtain rfl := S2.len
  obtain rfl := S3.len
  have HS2 := Lib.hid S2
  have HS3 := Lib.hid S3
  have HB2 := Lib.hid b2
  have HB3 := Lib.hid b3
  clear S2 S3 b2 b3 w0 w1
  obtain ⟨n2, hn2⟩ : ∃ n, l2.length = n := ⟨_, rfl⟩
  obtain ⟨n3, hn3⟩ : ∃ n, l3.length = n := ⟨_, rfl⟩
  have HN2 := Lib.hid hn2
  have HN3 := Lib.hid hn3
  rw [hn2] at HS2 ⊢
  rw [hn3] at HS3 ⊢
  clear hn2 hn3
  by_cases g2 : (n2 : Int) > 500
  · go_enter Try.func7, Try.ntmps7
    go_wp2_with (go_at_call 28; refine (codecAlive_any _).mono ?_; rintro e w1 ⟨rfl, hb1⟩)
    go_ret
    exact ⟨rfl, hb1⟩
  · by_cases g3 : (n3 : Int) > 50
    · go_enter Try.func7, Try.ntmps7
      go_wp2_with (go_at_call 28; refine (codecAlive_any _).mono ?_; rintro e w1 ⟨rfl, hb1⟩)
      go_ret
      exact ⟨rfl, hb1⟩
    · have hz : ∀ (w : World), (zeroValue 48).run Try.prog w = .ok (.agg #[.slice none 0 0]) w := fun w => by kernel_rfl
      have q1 := uv_len10 hN
      have q2 := uv_len10 (zig_lt hm.1 hm.2)
      have q3 := uv_len10 (n := n2) (by omega)
      have q4 := listL_len HB3.out (by rw [HN3.out]; omega)
      rw [HN3.out] at q4
      go_enter Try.func7, Try.ntmps7
      go_wp2_with (go_at_call 28; refine (codecAlive_any _).mono ?_; rintro e w1 ⟨rfl, hb1⟩)
      obtain ⟨B, hB⟩ : ∃ B, w1.heap.size = B := ⟨_, rfl⟩
      obtain ⟨w0, hw0⟩ : ∃ w0, w1.alloc (.cells #[.slice none 0 0] 48) = w0 := ⟨_, rfl⟩
      have ho := OutL.new w1
      rw [hw0, hB] at ho
      rw [hB, hw0]
      have hwB : w.heap.size ≤ B := by rw [← hB]; exact hb1.size
      have hb0 : Below w.heap.size w w0 := by rw [← hw0]; exact hb1.alloc hb1.size _
      have hwz := hb0.size
      have HB0 := Lib.hid hb0
      clear hw0 hb1 hB hb0
      refine (ho.int hm (by simp)).mono ?_
      rintro e w2 ⟨rfl, ho2⟩
      have HO2 := Lib.hid ho2
      clear ho ho2
      go_wp2_with fail
      refine (values_any _ _ _ _).mono ?_
      rintro e w5 ⟨rfl, hw5⟩
      have hb45 : Below w2.heap.size w2 w5 := by rw [hw5]; exact (Below.refl _ _).alloc (Nat.le_refl _) _
      have hc5 : w5.cell? ⟨w2.heap.size, 0, none⟩ = some (.slice p3 n3 c3) := by rw [hw5]; exact (Boxed.new _ _ _).cell
      have hz5 : w2.heap.size < w5.heap.size := by rw [hw5]; simp
      have ho5 := HO2.out.mono hb45
      have hb5 : Below w.heap.size w w5 := HB0.out.trans (ho5.keeps hwB hwz)
      have HP := Lib.hid (ho5.puts HB3.out (by rw [HN3.out]; omega) (by simp; omega) hz5 hc5 ((HS3.out.below hb5).mono hb5.size))
      clear hw5 hb45 hc5 hz5 ho5 hb5 HO2
      go_wp2_with fail
      refine HP.out.mono ?_
      rintro e w3 ⟨rfl, ho3⟩
      have hb3 : Below w.heap.size w w3 := HB0.out.trans (ho3.keeps hwB hwz)
      have HY := Lib.hid (ho3.bytes (s := l2) (by rw [HN2.out]; omega) (by simp; omega) (HS2.out.below hb3) hwB hwz)
      clear ho3 hb3 HP
      go_wp2_with fail
      refine HY.out.mono ?_
      rintro e w4 ⟨rfl, ho4⟩
      rw [HN2.out] at ho4
      have HU := Lib.hid (ho4.uint hN (by simp [HN2.out]; omega))
      clear ho4 HY
      go_wp2_with fail
      refine HU.out.mono ?_
      rintro e w6 ⟨rfl, ho6⟩
      obtain ⟨X, hX⟩ : ∃ X, [] ++ uv (zig a1) ++ listL l3 ++ (uv n2 ++ l2) ++ uv N = X := ⟨_, rfl⟩
      rw [hX] at ho6
      have hXl : X.length ≤ 2000 := by rw [← hX]; simp [HN2.out]; omega
      have hX2 : X = uv (zig a1) ++ (listL l3 ++ (uv l2.length ++ (l2 ++ uv N))) := by rw [← hX, HN2.out]; simp
      have hXb : Bytes X := ⟨by omega, by rw [hX2]; exact bytes_app (uv_byte _) (bytes_app (listL_byte _) (bytes_app (uv_byte _) (bytes_app HB2.out (uv_byte _))))⟩
      have HX := Lib.hid hX2
      have HXB := Lib.hid hXb
      have HO6 := Lib.hid ho6
      have HD := Lib.hid (ho6.done (by omega))
      clear ho6 HU hX hX2 hXb
      go_wp2_with fail
      refine HD.out.mono ?_
      rintro e w7 ⟨a7, c7, rfl, hS7, hb7⟩
      have hb07 : Below w.heap.size w w7 := (HB0.out.trans (HO6.out.keeps hwB hwz)).trans (hb7.mono (HB0.out.trans (HO6.out.keeps hwB hwz)).size)
      have HB7 := Lib.hid hb07
      have HF := Lib.hid (from_any a7 _ c7 X HXB.out.1 w7 hS7)
      obtain ⟨xl, hxl⟩ : ∃ xl, X.length = xl := ⟨_, rfl⟩
      rw [hxl] at HF hXl ⊢
      clear hb07 hS7 hb7 HD HO6 hxl
      go_wp2_with fail
      refine HF.out.mono ?_
      rintro e w8 ⟨bi, rfl, hbi, hi8, hb8⟩
      have HB8 := Lib.hid (step_below HB7.out hb8)
      have hwbi : w.heap.size ≤ bi := Nat.le_trans HB7.out.size hbi
      rw [HX.out] at hi8
      rw [HX.out] at HXB
      have HI := Lib.hid (inInt_ok _ bi a1 hm _ HXB.out w8 hi8)
      have HX1 := Lib.hid HXB.out.right
      clear hi8 hb8 HF HB7 HXB HX
      go_wp2_with fail
      refine HI.out.mono ?_
      rintro e w9 ⟨rfl, hi9, hb9⟩
      have HB9 := Lib.hid (HB8.out.trans (hb9.below (by intro k hk; simp at hk; omega) HB8.out.size))
      have HT := Lib.hid (inTake_ok _ bi l3 HB3.out (by rw [HN3.out]; omega) _ HX1.out w9 hi9)
      have HX2 := Lib.hid HX1.out.right
      rw [HN3.out] at HT
      have hself : (a1 != a1) = false := by simp
      clear hi9 hb9 HI HB8 HX1
      go_wp2_with fail
      refine HT.out.mono ?_
      rintro e w10 ⟨a10, c10, rfl, hS10, hi10, hb10⟩
      have HB10 := Lib.hid (HB9.out.trans (hb10.below (by intro k hk; simp at hk; omega) HB9.out.size))
      have hs1 := sameN_any a10 p3 n3 c10 n3 c3 l3 l3 w10 (by rw [HN3.out]; omega) (by rw [HN3.out]; omega) hS10 ((HS3.out.below HB10.out).mono HB10.out.size)
      rw [decide_eq_true rfl] at hs1
      have HQ1 := Lib.hid hs1
      have HI10 := Lib.hid hi10
      have hz10 := hi10.le
      have hbi10 := hi10.lt
      clear hs1 hS10 hi10 hb10 HT HB9
      go_wp2_with fail
      refine HQ1.out.mono ?_
      rintro e w11 ⟨rfl, hb11⟩
      have HB11 := Lib.hid (step_below HB10.out hb11)
      have HY := Lib.hid (inBytes_ok _ bi l2 (by rw [HN2.out]; omega) _ HX2.out w11 (HI10.out.below hb11 hz10 hbi10))
      have HX3 := Lib.hid (Bytes.right (Bytes.right HX2.out))
      rw [HN2.out] at HY
      clear hb11 HQ1 HB10 HI10 HX2 hbi10 hz10
      go_wp2_with fail
      refine HY.out.mono ?_
      rintro e w12 ⟨a12, c12, rfl, hS12, hi12, hb12⟩
      have HB12 := Lib.hid (HB11.out.trans (hb12.below (by intro k hk; simp at hk; omega) HB11.out.size))
      have hs2 := sameY_any a12 p2 n2 c12 n2 c2 l2 l2 w12 (by rw [HN2.out]; omega) (by rw [HN2.out]; omega) hS12 ((HS2.out.below HB12.out).mono HB12.out.size)
      rw [decide_eq_true rfl] at hs2
      have HQ2 := Lib.hid hs2
      have HI12 := Lib.hid hi12
      have hz12 := hi12.le
      have hbi12 := hi12.lt
      clear hs2 hS12 hi12 hb12 HY HB11
      go_wp2_with fail
      refine HQ2.out.mono ?_
      rintro e w13 ⟨rfl, hb13⟩
      have HB13 := Lib.hid (step_below HB12.out hb13)
      have hi13 := HI12.out.below hb13 hz12 hbi12
      have HUU := Lib.hid (inUint_ok _ bi N hN [] (by simpa using HX3.out) w13 (by simpa using hi13))
      clear hb13 HQ2 HB12 HI12 HX3 hbi12 hz12 hi13
      go_wp2_with fail
      refine HUU.out.mono ?_
      rintro e w14 ⟨rfl, hi14, hb14⟩
      have HB14 := Lib.hid (HB13.out.trans (hb14.below (by intro k hk; simp at hk; omega) HB13.out.size))
      have HE := Lib.hid (err_any _ bi 0 [] w14 hi14)
      have HL := Lib.hid (left_any _ bi 0 [] (by decide) w14 hi14)
      have hNN : ((N : Int) != (N : Int)) = false := by simp
      clear hi14 hb14 HUU HB13
      go_wp2_with fail
      refine HE.out.mono ?_
      rintro e w15 ⟨rfl, rfl⟩
      go_wp2_with fail
      refine HL.out.mono ?_
      rintro e w16 ⟨rfl, rfl⟩
      clear hself hNN HE HL
      have hlb : Bytes l2 := ⟨by rw [HN2.out]; omega, HB2.out⟩
      have hA := all_any p2 n2 c2 1000 l2 hlb (by decide) w16 ((HS2.out.below HB14.out).mono HB14.out.size)
      obtain ⟨⟨L, E⟩, hLE⟩ : ∃ r, allR l2 1000 = r := ⟨_, rfl⟩
      have hbad := allR_bad (l := l2) (most := 1000)
      have hgood := allR_good hlb (most := 1000)
      rw [hLE] at hA hbad hgood
      dsimp only at hA hbad hgood
      have HA := Lib.hid hA
      have HGOOD := Lib.hid hgood
      clear hA hgood hlb hLE
      by_cases hE : E = 0
      · subst hE
        obtain ⟨r1, r2, r3⟩ := HGOOD.out rfl
        have HL2 := Lib.hid r1
        have HI64 := Lib.hid r3
        clear r1 r3 HGOOD hbad
        go_wp2_with fail
        refine HA.out.mono ?_
        rintro e w17 ⟨v17, rfl, hv17, hb17⟩
        obtain ⟨a17, c17, rfl⟩ := hv17.form
        have HB17 := Lib.hid (step_below HB14.out hb17)
        obtain ⟨q, hq⟩ : ∃ q, L.length = q := ⟨_, rfl⟩
        have HQL := Lib.hid hq
        rw [hq] at hv17 r2 ⊢
        have HV17 := Lib.hid hv17
        clear hv17 hb17 HA HB14 hq
        go_wp2_with fail
        refine (values_any _ _ _ _).mono ?_
        rintro e w19 ⟨rfl, hw19⟩
        obtain ⟨w18, hw18⟩ : ∃ w18, w17.alloc (.cells #[.slice none 0 0] 48) = w18 := ⟨_, rfl⟩
        have ho18 := OutL.new w17
        rw [hw18] at ho18 hw19
        have hz18 : w18.heap.size = w17.heap.size + 1 := by rw [← hw18]; simp
        have hb1718 : Below w17.heap.size w17 w18 := by rw [← hw18]; exact (Below.refl _ _).alloc (Nat.le_refl _) _
        have hb1819 : Below w18.heap.size w18 w19 := by rw [hw19]; exact (Below.refl _ _).alloc (Nat.le_refl _) _
        have hc19 : w19.cell? ⟨w18.heap.size, 0, none⟩ = some (.slice a17 q c17) := by rw [hw19]; exact (Boxed.new _ _ _).cell
        have hz19 : w18.heap.size < w19.heap.size := by rw [hw19]; simp
        have ho19 := ho18.mono hb1819
        have hP := ho19.puts HI64.out (by rw [HQL.out]; omega) (by simp) hz19 hc19 (hS_step (hS_step HV17.out hb1718) hb1819)
        rw [hz18] at hP
        have HP2 := Lib.hid hP
        have hlow18 : w17.heap.size ≤ w18.heap.size := by omega
        rw [hw18]
        try rw [hz18]
        have HB18 := Lib.hid (step_below HB17.out hb1718)
        clear hw18 ho18 hw19 hb1718 hb1819 hc19 hz19 ho19 hP HV17
        go_wp2_with fail
        refine HP2.out.mono ?_
        rintro e w20 ⟨rfl, ho20⟩
        rw [List.nil_append, ← HL2.out] at ho20
        have HO20 := Lib.hid ho20
        have hB20 := HB18.out.trans (ho20.keeps (n := w.heap.size) (HB17.out.size) HB18.out.size)
        have HB20 := Lib.hid hB20
        have HD2 := Lib.hid (ho20.done (by rw [HN2.out]; omega))
        clear ho20 hB20 HP2 HO20 HB18
        go_wp2_with fail
        refine HD2.out.mono ?_
        rintro e w21 ⟨a21, c21, rfl, hS21, hb21⟩
        have HB21 := Lib.hid (step_below HB20.out hb21)
        rw [HN2.out] at hS21 ⊢
        have hs3 := sameY_any a21 p2 n2 c21 n2 c2 l2 l2 w21 (by rw [HN2.out]; omega) (by rw [HN2.out]; omega) hS21 ((HS2.out.below HB21.out).mono HB21.out.size)
        rw [decide_eq_true rfl] at hs3
        have HQ3 := Lib.hid hs3
        clear hs3 hS21 hb21 HD2 HB20
        go_wp2_with fail
        refine HQ3.out.mono ?_
        rintro e w22 ⟨rfl, hb22⟩
        have HB22 := Lib.hid (step_below HB21.out hb22)
        clear hb22
        go_wp2
        go_ret
        exact ⟨rfl, HB22.out⟩
      · obtain rfl := hbad hE
        have h0i : (((E : Nat) : Int) != 0) = true := by rw [bne_iff_ne]; omega
        go_wp2_with fail
        refine HA.out.mono ?_
        rintro e w17 ⟨v17, rfl, hv17, hb17⟩
        obtain ⟨a17, c17, rfl⟩ := hv17.form
        have HB17 := Lib.hid (step_below HB14.out hb17)
        rw [show ([] : List Int).length = 0 from rfl]
        clear hv17 hb17 HA
        go_wp2
        go_ret
        exact ⟨rfl, HB17.out⟩


set_option maxRecDepth 100000 in
theorem lifted (os : Os) (started : os.Started) (H : Type) (enc : TypeId × Value → H) :
    ReturnsInHanded {} Try.checked os 7 .any (Rows.codecBackSpec.pre6 enc Try.prog Try.f7 Rows.codecBackRow.domain false) (Rows.codecBackSpec.post enc Try.prog Try.f7 false true false false) := by
  refine returnsInHanded_of_change (C := Try.checked) own started (by kernel_rfl) Try.func7
    (ChangeSpec.witness6 (enc := enc) (C := Try.checked) false ⟨#[], #[.int .u64 0, .int .i64 0, .slice none 0 0, .slice none 0 0], []⟩ 8 (by kernel_rfl) (by kernel_rfl) (by kernel_rfl) (by kernel_rfl)) ?_
  intro W base args ds gs before hval0 hW hcnd _
  have hval : ∀ (j : Nat) t v, Try.f7.params[j]? = some t → args[j]? = some v → Value.okWide Try.prog W .any base t v := hval0
  have hW' := hW
  obtain ⟨p, q, hA0, hV, rfl, hfz, hnd⟩ := hW
  have hA : DataW.TrodAll enc Try.prog W 0 (fun _ => true) true Try.f7.params.toList args.toList ds p := hA0
  rw [Try.params7] at hA hval
  have hAk := hA
  obtain ⟨v0, vs0, d0, ds0, p0', q0, hargs, rfl, rfl, h0, r0⟩ := trodAll_cons hA
  obtain ⟨v1, vs1, d1, ds1, p1', q1, rfl, rfl, rfl, h1, r1⟩ := trodAll_cons r0
  obtain ⟨v2, vs2, d2, ds2, p2', q2, rfl, rfl, rfl, h2, r2⟩ := trodAll_cons r1
  obtain ⟨v3, vs3, d3, ds3, p3', q3, rfl, rfl, rfl, h3, r3⟩ := trodAll_cons r2
  obtain ⟨rfl, rfl, rfl⟩ := trodAll_nil r3
  obtain rfl : args = #[v0, v1, v2, v3] := by cases args; simp_all
  obtain ⟨rfl, rfl⟩ := trodVars_none hV
  simp only [List.append_nil] at hW' hAk
  have hlt := fun x hx => hW'.lt x hx
  clear hA0 hval0
  obtain ⟨a0, rfl, rfl, rfl, w0⟩ := open_int Try.underlying45 (hval 0 45 v0 rfl rfl) h0
  obtain ⟨a1, rfl, rfl, rfl, w1⟩ := open_int Try.underlying2 (hval 1 2 v1 rfl rfl) h1
  obtain ⟨p2, n2, c2, l2, rfl, S2, b2⟩ := open_bytes (okWide_slice Try.underlying22 (hval 2 22 v2 rfl rfl)) h2
  obtain ⟨p3, n3, c3, l3, rfl, S3, b3⟩ := open_nums (okWide_slice Try.underlying46 (hval 3 46 v3 rfl rfl)) h3
  refine (walk W a0 w0 a1 w1 p2 n2 c2 l2 S2 b2 p3 n3 c3 l3 S3 b3).mono fun e W' ⟨he, hg⟩ => ?_
  subst he
  have hargs := trodAll_below hg _ _ _ _ (by intro t ht; simp only [List.mem_cons, List.not_mem_nil, or_false] at ht; revert t; rintro t (rfl | rfl | rfl | rfl) <;> exact ⟨by kernel_rfl, of_decide_eq_true (by kernel_rfl)⟩) hAk (fun x hx => by simpa using hlt x hx)
  exact ⟨_, rfl, _, _, _, [], _, [], hW', (trodAll_cons_mk (shut_bool Try.underlying4 _) trodAll_mk0), hargs, rfl, hg.frame _, fun h => by cases h⟩

theorem over : Rows.codecBackRow.holds Try.pinned (OpenSpec.ofChange Rows.codecBackSpec) :=
  OpenClaim.holds_of_wide 7 Try.f7 rfl rfl rfl rfl rfl rfl rfl ⟨rfl, rfl, rfl, rfl, rfl⟩ rfl rfl rfl rfl rfl (by kernel_rfl) Try.func7 (by kernel_rfl)
    (of_decide_eq_true (by kernel_rfl)) (by unfold Func.isWrapper; first | (rw [if_pos (by decide +kernel)]; kernel_rfl) | (rw [if_neg (by decide +kernel)]; exact ⟨rfl, rfl⟩))
    (fun os started H enc _ => lifted os started H enc)

theorem proved : Rows.CodecBackSaid :=
  over
end Go.Proofs.Ytbdigpfeedcgaaa.codecBack
