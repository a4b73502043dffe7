/- The document's example of layer 6 is answered as it says. -/
import Derived.Test.YtdimjeppcfacdaaFrameE
import Derived.Test.YtdimjeppcfacdaaSumAlive
namespace Go.Proofs.Ytdimjeppcfacdaa
open Go.RowKit Go.Shelf SumM
set_option linter.unusedVariables false

attribute [local go_sem] Oper.semAt_some

theorem wpIn_act {F : Fence} {n : Nat} {P : Program} {c : Code} {Q : Exit → Act → World → Prop} {a : Act} {w : World} (h : ∀ A, A = a → c.wpIn F n P Q A w) : c.wpIn F n P Q a w := h a rfl

def fb : List Nat := frameL 7 [97, 98]
theorem fb_len : fb.length = 9 := frame_len 7 [97, 98]
theorem fb_bytes : Bytes fb := ⟨by rw [fb_len]; decide, frame_bytes (by decide) (by decide) (by decide)⟩
theorem fb_5 : fb.take 5 = [2, 0, 7, 97, 98] := rfl
theorem fb_read (m : List Nat) : readE (fb ++ m) = 0 ∧ readK (fb ++ m) = 7 ∧ readB (fb ++ m) = [97, 98] ∧ readN (fb ++ m) = 9 := read_frame 7 [97, 98] m (by decide) (by decide)
theorem fb_8 : readE (fb.take 8) = 21 := read_cut 7 [97, 98] 8 (by decide) (by decide)
theorem fb_drop (m : List Nat) : (fb ++ m).drop 9 = m := by rw [show (9 : Nat) = fb.length from fb_len.symm, List.drop_left]
theorem fb_scan : scanL (fb ++ fb) 0 = [(0, 7, [97, 98]), (9, 7, [97, 98])] := by
  have hl : (fb ++ fb).length = 18 := by rw [List.length_append, fb_len]
  obtain ⟨e, k, b, n⟩ := fb_read fb
  obtain ⟨e2, k2, b2, n2⟩ := fb_read []
  rw [List.append_nil] at e2 k2 b2 n2
  rw [scanL_step (a := 0) (by rw [hl]; decide) (by rw [List.drop_zero]; exact e), List.drop_zero, k, b, n, Nat.zero_add, scanL_step (a := 9) (by rw [hl]; decide) (by rw [fb_drop]; exact e2), fb_drop, k2, b2, n2, scanL_end (by rw [hl]; decide)]
theorem fb_end : scanE (fb ++ [1]) 0 = 9 ∧ scanW (fb ++ [1]) = 21 := by
  have hl : (fb ++ [1]).length = 10 := by rw [List.length_append, fb_len]; rfl
  obtain ⟨e, k, b, n⟩ := fb_read [1]
  have h1 : scanE (fb ++ [1]) 0 = 9 := by
    rw [scanE_step (a := 0) (by rw [hl]; decide) (by rw [List.drop_zero]; exact e), List.drop_zero, n, Nat.zero_add, scanE_bad (by rw [fb_drop]; decide)]
  refine ⟨h1, ?_⟩
  unfold scanW
  rw [h1, hl, if_neg (by decide), fb_drop]
  decide
theorem fb1_bytes : Bytes (fb ++ [1]) := ⟨by rw [List.length_append, fb_len]; decide, fun x hx => by rcases List.mem_append.1 hx with h | h; exact fb_bytes.2 x h; simp at h; omega⟩
theorem fb1_len : (fb ++ [1]).length = 10 := by rw [List.length_append, fb_len]; rfl
theorem fbfb_len : (fb ++ fb).length = 18 := by rw [List.length_append, fb_len]
theorem fb8_bytes : Bytes (fb.take 8) := ⟨by rw [List.length_take, fb_len]; decide, fun x hx => fb_bytes.2 x (List.mem_of_mem_take hx)⟩
theorem fbfb_bytes : Bytes (fb ++ fb) := ⟨by rw [List.length_append, fb_len]; decide, fun x hx => by rcases List.mem_append.1 hx with h | h <;> exact fb_bytes.2 x h⟩
theorem write_fb : writeE 7 [97, 98] = 0 ∧ writeL 7 [97, 98] = fb := ⟨by decide, rfl⟩

theorem two_cases {A B : Nat × Nat × List Nat} {pre : List FX} {x : FX} (h : (pre ++ [x]).map Prod.fst <+: [A, B]) : (pre = [] ∧ x.1 = A) ∨ (∃ y, pre = [y] ∧ y.1 = A ∧ x.1 = B) := by
  match pre, h with
  | [], h => exact .inl ⟨rfl, by simpa using h⟩
  | [y], h => exact .inr ⟨y, rfl, by simpa using h⟩
  | y :: z :: t, h => have := h.length_le; simp at this
def cntF (pre : List FX) : Nat := (pre.map fun x => x.1.1 + x.1.2.1).sum
def AlI (Bk : Nat) (w0 : World) (pre : List FX) (W : World) : Prop := Boxed W Bk 3 (.int .i64 (cntF pre : Nat)) ∧ Below Bk w0 W
theorem alI_own {Bk : Nat} {w0 : World} {B : Nat} (h0 : Bk ≤ w0.heap.size) (hB : Bk < B) : OwnFrom B (AlI Bk w0) := fun s W W' row ⟨h1, h2⟩ hg hr =>
  ⟨h1.kept hg (fun e => by have := (hr _ e.symm).1; omega), ownFrom_below (β := Unit) h0 (show Bk ≤ B by omega) () W W' row h2 hg hr⟩
def alA (A : Act) (z : Nat) (x : FX) (a' : Act) (W : World) : Prop :=
  ∃ Bx va vc, z ≤ Bx ∧ x.2 = .slice va x.1.2.2.length vc ∧ FrameAt W Bx x ∧ a' = { tmps := (((A.tmps.setIfInBounds 55 (.int .i64 x.1.1)).setIfInBounds 56 (.agg #[.int .i64 x.1.2.1, x.2])).setIfInBounds 10 (.int .i64 x.1.1)).setIfInBounds 11 (.pointer (some ⟨Bx, 0, none⟩)), defers := [] }

set_option maxRecDepth 100000 in
set_option maxHeartbeats 4000000 in
theorem frameAlive_any (w : World) : Calls Try.prog 52 #[] w fun e w' => e = .returned (.bool true) ∧ Below w.heap.size w w' := by
  have hB0 := Below.refl w.heap.size w
  have hz := zframe
  have hcv := fun (w : World) (C : Array Value) (n c : Nat) => Lib.run_convert_bytes_const (P := Try.prog) w 22 5 C n c Try.underlying22 Try.underlying5
  refine (callsIn_wide (n := 3)).1 ?_
  refine callsIn_of_wp_marks Try.func52 rfl trivial ?_ rfl
  simp only [Try.ntmps52, List.size_toArray, List.length_cons, List.length_nil, Nat.reduceAdd, Nat.reduceSub, Array.replicate_succ, Array.replicate_zero, List.push_toArray, List.append_toArray, List.nil_append, List.cons_append]
  refine wpIn_wide.2 ?_
  go_wp2_with fail
  have hB1 := below_lit hB0 (.cells #[.int .u8 97, .int .u8 98] 5 (2, 3))
  refine (write_any 7 _ 2 2 [97, 98] ⟨by decide, by decide⟩ _ (lit_at _ w rfl [97, 98] 2 rfl #[.int .u8 97, .int .u8 98] (2, 3) rfl)).mono ?_
  rintro e w1 ⟨v1, rfl, hS1, hb1⟩
  have hB2 := hB1.trans (hb1.mono hB1.size)
  rw [write_fb.2] at hS1
  rw [write_fb.1]
  obtain ⟨b1, o1, c1, rfl⟩ : ∃ b o c, v1 = .slice (some ⟨b, o, none⟩) 9 c := by
    obtain ⟨a1, c1, rfl⟩ := hS1.form
    obtain ⟨b, o, rfl, _⟩ := hS1.at_ (k := 0) (x := 2) rfl
    exact ⟨b, o, c1, by rw [fb_len]⟩
  have hc9 := hS1.capb
  have hS5 := hS1.take (k := 5) (by decide)
  have hstr : (convert 22 9 (.slice (some ⟨b1, o1, none⟩) 5 c1)).run Try.prog w1 = .ok (.string (strOfNums ([2, 0, 7, 97, 98].map Int.ofNat))) w1 := (bytesIn_of (fb_5 ▸ hS5)).convert (P := Try.prog) (by simp) c1 22 5 9 Try.underlying22 Try.underlying5 Try.underlying9
  have hsn : strOfNums ([2, 0, 7, 97, 98].map Int.ofNat) = ⟨#[2, 0, 7, 97, 98]⟩ := by decide +kernel
  rw [hsn] at hstr
  have H1 := Lib.hid hS1
  have hc5 : 5 ≤ c1 := by omega
  have hc8 : 8 ≤ c1 := by omega
  clear hb1 hB1 hB0 hS1 hS5 hsn
  show _
  go_wp2_with fail
  refine (copyY_any _ _ _ fb fb_bytes.1 _ H1.out).mono ?_
  rintro e w2 ⟨v2, rfl, hown2, hb2⟩
  rw [fb_len] at hown2
  have H12 := Lib.hid hb2
  have H2 := Lib.hid ((H1.out.below hb2).mono hb2.size)
  have HO2 := Lib.hid hown2
  have HQ2 := Lib.hid (Sl.lit encY w2 5 [1] #[.int .u8 1] rfl)
  clear hb2 hstr hown2
  have hz12 : w1.heap.size ≤ w2.heap.size := H12.out.size
  go_wp2_with (at_builtin; refine wpList_append_bytes _ rfl (.tmp 36) (.tmp 37) rfl w1.heap.size _ 9 (fb.map encY) rfl (HO2.out.alloc _) _ _ [1] rfl HQ2.out (by decide) (by simp; omega) ?_)
  intro v3 w3 hown3 hg3
  have hb3 : Below w1.heap.size w1 w3 := below_grown (HO2.out.alloc _) (by simp; omega) (H12.out.alloc hz12 _) hg3
  have hS3 : Sl encY w3.heap.size w3 v3 (fb ++ [1]) := Sl.of_owns (xs := fb ++ [1]) (by rw [List.map_append, fb1_len]; exact hown3)
  obtain ⟨a3, c3, rfl⟩ := hS3.form
  have hB4 := hB2.trans (hb3.mono hB2.size)
  have H3 := Lib.hid ((H1.out.below hb3).mono hb3.size)
  have HR3 : Hid (Calls Try.prog 53 #[.slice a3 (fb ++ [1]).length c3] w3 fun e w' => ∃ v, e = .returned (.tuple #[.agg #[.int .i64 7, v], .int .i64 9, .int .i64 0]) ∧ Sl encY w'.heap.size w' v [97, 98] ∧ Below w3.heap.size w3 w') := Lib.hid (read_go _ _ _ (fb ++ [1]) fb1_bytes 7 9 [97, 98] (fb_read [1]).1 (fb_read [1]).2.1 (fb_read [1]).2.2.2 (fb_read [1]).2.2.1 w3 hS3)
  rw [fb1_len] at HR3 ⊢
  clear hown3 hg3 hS3 HO2 HQ2 H2 H12 hz12 hb3 hB2
  go_wp2_with fail
  refine HR3.out.mono ?_
  rintro e w4 ⟨v4, rfl, hS4, hb4⟩
  obtain ⟨a4, c4, rfl⟩ := hS4.form
  rw [show [97, 98].length = 2 from rfl] at hS4 ⊢
  have hB5 := hB4.trans (hb4.mono hB4.size)
  have H4 := Lib.hid ((H3.out.below hb4).mono hb4.size)
  obtain ⟨W5, hW5⟩ : ∃ W5, w4.alloc (.cells #[.int .i64 7, .slice a4 2 c4] 78) = W5 := ⟨_, rfl⟩
  have z5 : W5.heap.size = w4.heap.size + 1 := by rw [← hW5]; simp
  have k5 : W5.heap[w4.heap.size]? = some (.cells #[.int .i64 7, .slice a4 2 c4] 78 (0, 0)) := by rw [← hW5]; exact World.alloc_heap_new _ _
  have b5 : Below w4.heap.size w4 W5 := by rw [← hW5]; exact (Below.refl _ _).alloc (Nat.le_refl _) _
  have hB6 := hB5.trans (b5.mono hB5.size)
  have HS5 := Lib.hid ((hS4.below b5).mono b5.size)
  have H5 := Lib.hid ((H4.out.below b5).mono b5.size)
  have HK5 := Lib.hid k5
  have HR5 : Hid (Calls Try.prog 53 #[.slice (some ⟨b1, o1, none⟩) 8 c1] W5 fun e w' => ∃ v, e = .returned (.tuple #[.agg #[.int .i64 0, v], .int .i64 0, .int .i64 21]) ∧ Sl encY w'.heap.size w' v [] ∧ Below W5.heap.size W5 w') := Lib.hid (read_stop _ _ _ (fb.take 8) fb8_bytes 21 fb_8 (by decide) W5 (H5.out.take (k := 8) (by decide)))
  clear hb4 hB4 hS4 H3 H4 HR3 b5 k5 hB5
  go_upto_region 5 with fail
  clear hW5
  go_wp2_with fail
  refine HR5.out.mono ?_
  rintro e w6 ⟨v6, rfl, hS6, hb6⟩
  obtain ⟨a6, c6, rfl⟩ := hS6.form
  rw [show ([] : List Nat).length = 0 from rfl]
  have hB7 := hB6.trans (hb6.mono hB6.size)
  have hz56 := hb6.size
  have hzw6 := hB7.size
  obtain ⟨W7, hW7⟩ : ∃ W7, (w6.alloc (.cells #[.int .i64 0, .slice a6 0 c6] 78)).alloc (.cells #[.int .i64 0] 3) = W7 := ⟨_, rfl⟩
  have z7 : W7.heap.size = w6.heap.size + 2 := by rw [← hW7]; simp
  have b7 : Below w6.heap.size w6 W7 := by rw [← hW7]; exact ((Below.refl _ _).alloc (Nat.le_refl _) _).alloc (by simp) _
  have y7 : Boxed W7 (w6.heap.size + 1) 3 (.int .i64 0) := by
    rw [← hW7]
    have := Boxed.new (w6.alloc (.cells #[.int .i64 0, .slice a6 0 c6] 78)) 3 (.int .i64 0)
    rw [World.size_alloc] at this; exact this
  have hB8 := hB7.trans (b7.mono hB7.size)
  have b57 : Below W5.heap.size W5 W7 := hb6.trans (b7.mono hz56)
  have H7 := Lib.hid ((H5.out.below b57).mono b57.size)
  have HL7 := Lib.hid (H5.out.below b57)
  have HLS7 := Lib.hid (HS5.out.below b57)
  have k7 := (b57.block w4.heap.size (by omega)).trans HK5.out
  have HK7 := Lib.hid k7
  have HY7 := Lib.hid y7
  clear hb6 hS6 HR5 b57 b7 hB7 hB6 k7 H5 HS5 HK5 y7
  have HW7 := Lib.hid hW7
  clear hW7
  go_upto_region 7 with fail
  rw [HW7.out]
  clear HW7
  go_wp2_with fail
  refine (copyY_any _ _ _ fb fb_bytes.1 _ H7.out).mono ?_
  rintro e w8 ⟨v8, rfl, hown8, hb8⟩
  rw [fb_len] at hown8
  have hz78 := hb8.size
  have H8 := Lib.hid ((H7.out.below hb8).mono hb8.size)
  have HO8 := Lib.hid hown8
  clear hown8
  go_wp2_with (at_builtin; refine wpList_append_bytes _ rfl (.tmp 51) (.tmp 52) rfl W7.heap.size _ 9 (fb.map encY) rfl HO8.out _ _ fb rfl H8.out (by rw [fb_len]; decide) hz78 ?_)
  intro v9 w9 hown9 hg9
  have hb9 : Below W7.heap.size W7 w9 := below_grown HO8.out hz78 hb8 hg9
  rw [fb_len] at hown9
  have hS9 : Sl encY w9.heap.size w9 v9 (fb ++ fb) := Sl.of_owns (xs := fb ++ fb) (by rw [List.map_append, fbfb_len]; exact hown9)
  obtain ⟨a9, c9, rfl⟩ := hS9.form
  have HSC := Lib.hid (scan_any _ _ _ (fb ++ fb) fbfb_bytes.1 w9 hS9)
  rw [fbfb_len] at HSC ⊢
  clear hown9 hg9 hS9 HO8 H8 hb8 hz78
  go_wp2_with fail
  refine HSC.out.mono ?_
  rintro e w10 ⟨Bs, g, va, vc, rfl, hB1, hB2, hg1, hg2, hcB, hSB, hkB, hb10⟩
  have hbA : Below W7.heap.size W7 w10 := hb9.trans (hb10.mono hb9.size)
  have hz9 := hb9.size
  clear hb9 hb10 HSC
  go_wp2_with fail
  have hkv : KeptV 0 [Bs, g] (.slice va 18 vc) := fun ad n c e h0 => by
    rcases hkB ad n c e h0 with h | h
    · exact .inl h
    · exact .inr (by simp at h; simp [h])
  obtain ⟨Bk, hBk⟩ : ∃ Bk, w6.heap.size + 1 = Bk := ⟨_, rfl⟩
  have hy : AlI Bk W7 [] w10 := by
    rw [← hBk]
    exact ⟨(hbA.block _ (by omega)).trans HY7.out, hbA.mono (by omega)⟩
  have hBl : w6.heap.size < Bk := by omega
  have hBW : Bk < W7.heap.size := by omega
  rw [hBk]
  clear hBk
  rename_i K hKQ
  refine (wpIn_wide (n := 3)).1 ?_
  refine wpIn_act ?_
  intro A hA
  refine rangeS rfl (by omega) (gf := 126) (lb := #[.pointer (some ⟨Bs, 0, none⟩)]) (by rw [hA]; rfl) trivial (enters_of Try.func126 (by kernel_rfl) rfl)
    (frames1 Bs 0 [Bs, g] (fb ++ fb) fbfb_bytes va 18 vc w10 (Nat.zero_le _) (fun k hk => by simp at hk; omega) (.inr (by simp)) hkv hcB hSB) (alA A w10.heap.size)
    (fun x a' W l o r hl ⟨Bx, va, vc, h1, h2, h3, h4⟩ => ⟨Bx, va, vc, h1, h2, h3.putObj hl, h4⟩) (fun r h => by simp at h; omega) (Nat.zero_le _) (Below.refl _ _) (fun _ => rfl)
    (AlI Bk W7) (fun _ _ _ => False) (alI_own (by omega) (by omega)) (fun _ _ _ _ _ h _ _ => h)
    (fun s W r v hr ⟨h1, h2⟩ => by simp at hr; exact ⟨h1.other (by omega) v, h2.setCell (by show Bk ≤ r; omega) v⟩) (fun _ _ _ _ _ _ h => h)
    hy ?assign ?body ?done ?stop
  case assign =>
    rintro l pre ⟨⟨p, k, bd⟩, v⟩ W K hi hry hz2 hK
    obtain ⟨va, vc, hv⟩ := (show Sl encY _ W v bd from hry).form
    subst hv
    dsimp only [encF]
    rw [hA]
    gi_wp2
    refine hK _ _ ((KeepsOthers.alloc _ _).from _) ⟨(Below.refl _ W).alloc (Nat.zero_le _) _, fun k h1 h2 => by omega, fun k hk => Below.heap_alloc W _ _ (by simp at hk; omega)⟩ ⟨hi.1.alloc _, hi.2.alloc (by omega) _⟩ ?_
    exact ⟨W.heap.size, va, vc, by omega, rfl, World.alloc_heap_new W _, by rw [hA]; rfl⟩
  case body =>
    rintro l pre ⟨⟨p, k, bd⟩, v⟩ a' W ⟨h1, h2⟩ hp hz2 ⟨Bx, va2, vc2, hBx, hv, hF, rfl⟩
    dsimp only at hv
    subst hv
    rw [fb_scan] at hp
    have hcs : ∃ m q r : Nat, cntF pre = m ∧ p = q ∧ k = r ∧ m ≤ 100 ∧ q ≤ 100 ∧ r ≤ 100 := by
      rcases two_cases hp with ⟨e1, e2⟩ | ⟨y, e1, e2, e3⟩
      · simp only [Prod.mk.injEq] at e2
        exact ⟨0, 0, 7, by rw [e1]; rfl, e2.1, e2.2.1, by decide, by decide, by decide⟩
      · simp only [Prod.mk.injEq] at e3
        exact ⟨7, 9, 7, by rw [e1]; show (y.1.1 + y.1.2.1) + 0 = 7; rw [e2]; rfl, e3.1, e3.2.1, by decide, by decide, by decide⟩
    obtain ⟨m, q, r, hm, rfl, rfl, b1, b2, b3⟩ := hcs
    have HEO : Hid (cntF (pre ++ [(((p, k, bd), Value.slice va2 bd.length vc2) : FX)]) = m + (p + k)) := Lib.hid (by unfold cntF at hm ⊢; rw [List.map_append, List.sum_append, hm]; simp)
    unfold FrameAt at hF
    dsimp only at hF ⊢
    obtain ⟨f1, f2, f3, f4⟩ := cell2 hF
    have c4 := h1.cell
    have f5 := h1.frozen
    rw [hm] at c4
    have HI := Lib.hid h1
    clear hp hF h1 hm
    rw [hA]
    have hsI : (m : Int) + ((p : Int) + (k : Int)) = ((m + (p + k) : Nat) : Int) := by push_cast; rfl
    have HSI := Lib.hid hsI
    clear hsI
    gi_wp2
    refine ⟨(KeepsOthers.setCell _ _ _).from _, ⟨(Below.refl _ W).setCell (p := ⟨Bk, 0, none⟩) (Nat.zero_le _) _, fun k h1 h2 => by omega, fun k hk => Below.heap_setCell _ _ _ _ (by simp at hk; show k ≠ Bk; omega)⟩, ?_, h2.setCell (p := ⟨Bk, 0, none⟩) (Nat.le_refl _) _⟩
    rw [HEO.out, ← HSI.out]
    exact HI.out.set _
  case done =>
    rintro D ys W hD hys ⟨h1, h2⟩ hK
    rw [hA]
    refine hKQ _ _ ?_
    rw [fb_scan] at hys
    have hcnt : cntF ys = 23 := by
      have e : cntF ys = ((ys.map Prod.fst).map fun t => t.1 + t.2.1).sum := by unfold cntF; rw [List.map_map]; rfl
      rw [e, hys]; rfl
    rw [hcnt] at h1
    have h1' : Boxed W Bk 3 (.int .i64 23) := h1
    have hz5B : W5.heap.size < Bk := by omega
    have hbkW : Bk < W.heap.size := h1.lt
    have hDl := (Array.getElem?_eq_some_iff.1 hK).1
    have hbF := hB8.trans (h2.mono (by omega))
    have HLW := Lib.hid ((HL7.out.below (h2.mono (by omega))).mono (m := W.heap.size) (by omega))
    go_wp2_with fail
    refine (copyY_any _ _ _ fb fb_bytes.1 _ HLW.out).mono ?_
    rintro e w11 ⟨v11, rfl, hown11, hb11⟩
    rw [fb_len] at hown11
    have hz11 := hb11.size
    have HO11 := Lib.hid hown11
    have HQ11 := Lib.hid (Sl.lit encY w11 5 [1] #[.int .u8 1] rfl)
    clear hown11
    go_wp2_with (at_builtin; refine wpList_append_bytes _ rfl (.tmp 65) (.tmp 66) rfl W.heap.size _ 9 (fb.map encY) rfl (HO11.out.alloc _) _ _ [1] rfl HQ11.out (by decide) (by simp; omega) ?_)
    intro v12 w12 hown12 hg12
    have hb12 : Below W.heap.size W w12 := below_grown (HO11.out.alloc _) (by simp; omega) (hb11.alloc hz11 _) hg12
    have hS12 : Sl encY w12.heap.size w12 v12 (fb ++ [1]) := Sl.of_owns (xs := fb ++ [1]) (by rw [List.map_append, fb1_len]; exact hown12)
    obtain ⟨a12, c12, rfl⟩ := hS12.form
    have HEN : Hid (Calls Try.prog 56 #[.slice a12 (fb ++ [1]).length c12] w12 fun e w' => e = .returned (.tuple #[.int .i64 9, .int .i64 21]) ∧ Below w12.heap.size w12 w') := Lib.hid (by
      refine (end_any _ _ _ (fb ++ [1]) fb1_bytes w12 hS12).mono ?_
      rintro e w' ⟨rfl, h⟩
      exact ⟨by rw [fb_end.1, fb_end.2]; rfl, h⟩)
    rw [fb1_len] at HEN ⊢
    clear hown12 hg12 hS12 HO11 HQ11 hb11
    go_wp2_with fail
    refine HEN.out.mono ?_
    rintro e w13 ⟨rfl, hb13⟩
    have hbW : Below W.heap.size W w13 := hb12.trans (hb13.mono hb12.size)
    have hzW13 := hbW.size
    have k13 : w13.heap[w4.heap.size]? = some (.cells #[.int .i64 7, .slice a4 2 c4] 78 (0, 0)) := (hbW.block _ (by omega)).trans ((h2.block _ (by omega)).trans HK7.out)
    obtain ⟨f1, f2, f3, f4⟩ := cell2 k13
    have y13 : Boxed w13 Bk 3 (.int .i64 23) := (hbW.block _ hbkW).trans h1'
    have c13 := y13.cell
    have hS13 : Sl encY W5.heap.size w13 (.slice a4 2 c4) [97, 98] := (HLS7.out.below (h2.mono (by omega))).below (hbW.mono (by omega))
    have hstr : (convert 22 9 (.slice a4 2 c4)).run Try.prog w13 = .ok (.string (strOfNums ([97, 98].map Int.ofNat))) w13 := (bytesIn_of hS13).convert (P := Try.prog) (by simp) c4 22 5 9 Try.underlying22 Try.underlying5 Try.underlying9
    have hsn : strOfNums ([97, 98].map Int.ofNat) = ⟨#[97, 98]⟩ := by decide +kernel
    rw [hsn] at hstr
    have hKD := (hbW.block D hDl).trans hK
    have hbF3 := hbF.trans (hbW.mono hbF.size)
    have HWT : Hid (Calls Try.prog 103 #[.int .i64 2] w13 fun e w' => e = .returned (.int .i64 9) ∧ w13 = w') := Lib.hid (by
      refine (weight_any 2 w13 (by decide)).mono ?_
      rintro e w' ⟨rfl, rfl⟩
      exact ⟨rfl, rfl⟩)
    have HFI := Lib.hid hbF3
    have HKD := Lib.hid hKD
    clear hbF3 hKD hsn hS13 k13 y13 hb12 hb13 HEN hbW hK
    go_wp2_with (go_at_call 103; refine HWT.out.mono ?_; rintro e w' ⟨rfl, rfl⟩)
    refine ⟨by simp, .inl ⟨_, _, rfl, run_takeDeferred HKD.out, ?_⟩⟩
    exact ⟨_, results_tmp rfl _ _ _, rfl, HFI.out.trans (belowK_b (w := w) (Nat.le_refl _) w13 D _ _ (by omega) HKD.out rfl rfl)⟩
  case stop =>
    rintro D c' pre W _ _ h _
    exact h.elim
end Go.Proofs.Ytdimjeppcfacdaa
