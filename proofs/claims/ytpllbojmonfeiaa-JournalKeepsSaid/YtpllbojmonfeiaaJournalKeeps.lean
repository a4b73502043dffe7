/- For whatever row of steps and wherever the power goes law JournalKeeps answers true: the journal that is opened behind it has the snapshot and all records, of the step that was cut all or nothing; opened once more, behind one more loss of power while it is opened, the same. No condition. -/
import Derived.Test.YtpllbojmonfeiaaJrnNG
import Derived.Test.YtpllbojmonfeiaaRefF
import Derived.Test.YtpllbojmonfeiaaOpen
namespace Go.Proofs.Ytpllbojmonfeiaa.journalKeeps
open Go.ChangeShapes Go.WideShapes Go.ChangeAt Go.RowKit Go.Proofs.Ytpllbojmonfeiaa Go.Proofs.Ytpllbojmonfeiaa.SumM
set_option linter.unusedVariables false
attribute [local go_sem] Oper.semAt_some
theorem frs_up {w W : World} {sv : Value} {xs : List (Int × List Nat)} (hb : Below w.heap.size w W) (h : Frs w.heap.size w sv xs) : Frs W.heap.size W sv xs := by
  rcases h.below hb with h | ⟨b, off, cap, e, hl, hc⟩
  · exact .inl h
  · exact .inr ⟨b, off, cap, e, Nat.lt_of_lt_of_le hl hb.size, fun j x hj => by
      obtain ⟨a, c, h1, h2, h3⟩ := hc j x hj
      exact ⟨a, c, h1, h2, h3.mono hb.size⟩⟩

/-- A row of rows that is one's own, its rows whosoever's. -/
theorem parts_row {n : Nat} {W : World} {rv : Value} {ys : List CX} (h3 : W.ownsRow n yssT 1 rv ys.length (ys.map Prod.snd)) (h4 : ∀ y ∈ ys, Sl encY W.heap.size W y.2 y.1) : Parts W.heap.size W rv (ys.map Prod.fst) := by
  rcases Nat.eq_zero_or_pos ys.length with h0 | h0
  · obtain ⟨a, c, hv⟩ := own_form h3
    rw [h0] at hv
    obtain rfl := List.eq_nil_of_length_eq_zero h0
    exact .inl ⟨rfl, a, c, hv⟩
  · rcases h3.2 with ⟨_, e⟩ | ⟨g, cap, cur, hv, hg, hcur, _⟩
    · omega
    · refine .inr ⟨g, 0, cap, by rw [List.length_map]; exact hv, (Array.getElem?_eq_some_iff.1 hcur).1, fun j l hj => ?_⟩
      rw [List.getElem?_map] at hj
      cases hy : ys[j]? with
      | none => rw [hy] at hj; cases hj
      | some y =>
        rw [hy] at hj
        cases hj
        rw [hv] at h3
        obtain ⟨g', hg', hc'⟩ := own_cell h3 (i := j) (u := y.2) (by rw [List.getElem?_map, hy]; rfl)
        cases hg'
        exact ⟨y.2, by rw [Nat.zero_add]; exact hc', h4 y (List.mem_of_getElem? hy)⟩
/-- The document's Same of what a journal has and of what was set together by hand. -/
theorem same_mix {n : Nat} {W : World} {sv rv : Value} {sa ra : Option Addr} {sn sc rn rc : Nat} {S S' : List Nat} {rs rs' : List (List Nat)} (h : HasAt n W sv rv S rs) (hS' : Sl encY W.heap.size W (.slice sa sn sc) S') (hP' : Parts W.heap.size W (.slice ra rn rc) rs') (hf : FewL S rs) (hf' : FewL S' rs') :
    Calls Try.prog 14 #[hasV sv rv, hasV (.slice sa sn sc) (.slice ra rn rc)] W fun e w' => e = .returned (.bool (decide (S = S') && decide (rs = rs'))) ∧ Below W.heap.size W w' := by
  have hS := Sl.of_owns h.1
  have hP := recs_parts h.2
  obtain ⟨a1, c1, rfl⟩ := hS.form
  obtain ⟨a3, c3, rfl⟩ := hP.form
  exact rsame_any none 0 0 none 0 0 0 0 0 0 none 0 0 none 0 0 0 0 0 0 a1 sa S.length c1 sn sc a3 ra rs.length c3 rn rc S S' rs rs' W hS hS' hP hP' hf.1 hf'.1 hf.2.1 hf'.2.1 hf.2.2 hf'.2.2

theorem i64_andK (n : Int) (k : Nat) (m : Int) (hm : (BitVec.ofInt 64 m).toNat = 2 ^ k - 1) (hk : k ≤ 62) : bits .and .i64 n m = n % (2 ^ k : Nat) := by
  have h64 : (2 : Nat) ^ k ≤ 2 ^ 62 := Nat.pow_le_pow_right (by decide) hk
  have hd : (2 : Nat) ^ k ∣ 2 ^ 64 := Nat.pow_dvd_pow 2 (by omega)
  have hp := Nat.two_pow_pos k
  have key : (BitVec.ofInt 64 n &&& BitVec.ofInt 64 m).toNat = (n % ((2 ^ 64 : Nat) : Int)).toNat % 2 ^ k := by
    rw [BitVec.toNat_and, BitVec.toNat_ofInt, hm, Nat.and_two_pow_sub_one_eq_mod]
  show IntKind.i64.wrap ((BitVec.ofInt 64 n &&& BitVec.ofInt 64 m).toNat : Nat) = _
  rw [key]
  have h0 : 0 ≤ n % ((2 ^ 64 : Nat) : Int) := Int.emod_nonneg _ (by decide)
  have h1 : (((n % ((2 ^ 64 : Nat) : Int)).toNat % 2 ^ k : Nat) : Int) = n % ((2 ^ k : Nat) : Int) := by
    rw [Int.natCast_emod, Int.toNat_of_nonneg h0]
    exact Int.emod_emod_of_dvd n (Int.natCast_dvd_natCast.2 hd)
  rw [h1, IntKind.wrap_i64]
  have h2 := Int.emod_nonneg n (show ((2 ^ k : Nat) : Int) ≠ 0 by omega)
  have h3 := Int.emod_lt_of_pos n (show (0 : Int) < ((2 ^ k : Nat) : Int) by omega)
  omega
theorem and16383 (a : Int) : ∃ t : Nat, bits .and .i64 a 16383 = (t : Int) ∧ t < 16384 := ⟨(a % 16384).toNat, by rw [i64_andK a 14 16383 (by decide) (by decide)]; omega, by omega⟩
theorem and63 (a : Int) : ∃ t : Nat, bits .and .i64 a 63 = (t : Int) ∧ t < 64 := ⟨(a % 64).toNat, by rw [i64_andK a 6 63 (by decide) (by decide)]; omega, by omega⟩
/-- Between two steps, before the power has gone. -/
def KI (w : World) (jb b nb xb B K : Nat) (wr : World) : Prop := ∃ own D r a c f S R sv rv sv2 rv2, St w wr own jb b D r a c f ∧ D.cap = 30000 ∧ snapL (D.row ((r : Nat) : Int)) = S ∧ recsL (D.row ((r : Nat) : Int)) = R ∧ NowAt w wr (xb + 1) sv rv S R ∧
  wr.heap[nb]? = some (.cells (hasC sv rv) rjT (0, 0)) ∧ wr.heap[xb]? = some (.cells (hasC sv2 rv2) rjT (0, 0)) ∧ (∀ g, rv.ownBlock = some g → g ∉ own) ∧ nb ∉ own ∧ xb ∉ own ∧ f ≤ B ∧ a ≤ K
/-- Behind the steps, whether the power has gone or not. -/
def KX (w : World) (b nb xb : Nat) (wr : World) : Prop := ∃ own D r a c f S R sv rv sv2 rv2, LivAt w wr own b D r a c f S R ∧ D.cap = 30000 ∧ FewL S R ∧ NowAt w wr (xb + 1) sv rv S R ∧
  wr.heap[nb]? = some (.cells (hasC sv rv) rjT (0, 0)) ∧ wr.heap[xb]? = some (.cells (hasC sv2 rv2) rjT (0, 0)) ∧ (∀ g, rv.ownBlock = some g → g ∉ own) ∧ nb ∉ own ∧ xb ∉ own
theorem KI.end {w wr : World} {jb b nb xb B K : Nat} (h : KI w jb b nb xb B K wr) : KX w b nb xb wr := by
  obtain ⟨own, D, r, a, c, f, S, R, sv, rv, sv2, rv2, h1, h2, rfl, rfl, h5, h6, h7, h8, h9, h10, _, _⟩ := h
  exact ⟨own, D, r, a, c, f, _, _, sv, rv, sv2, rv2, h1.livAt rfl rfl, h2, few_of h1.row, h5, h6, h7, h8, h9, h10⟩
theorem sum_take_le : ∀ (l : List Nat) (k : Nat), (l.take k).sum ≤ l.sum
  | [], k => by simp
  | x :: xs, 0 => by simp
  | x :: xs, k + 1 => by
    have := sum_take_le xs k
    simp only [List.take_succ_cons, List.sum_cons]; omega
theorem now_form {w W : World} {base : Nat} {sv rv : Value} {S : List Nat} {R : List (List Nat)} (h : NowAt w W base sv rv S R) : ∃ sa sc ra rc, sv = .slice sa S.length sc ∧ rv = .slice ra R.length rc := by
  obtain ⟨h1, ys, h2, h3, _⟩ := h
  obtain ⟨sa, sc, e1⟩ := h1.form
  obtain ⟨ra, rc, e2⟩ := own_form h3
  exact ⟨sa, sc, ra, rc, e1, by rw [e2, ← h2, List.length_map]⟩
/-- A struct that is stored cell by cell. -/
def setJ (W : World) (xb : Nat) (sv rv : Value) : World := (((((((W.setCell ⟨xb, 0, none⟩ (.slice none 0 0)).setCell ⟨xb, 1, none⟩ (.slice none 0 0)).setCell ⟨xb, 2, none⟩ (.int .i64 0)).setCell ⟨xb, 3, none⟩ (.int .i64 0)).setCell ⟨xb, 4, none⟩ (.int .u64 0)).setCell ⟨xb, 5, none⟩ sv).setCell ⟨xb, 6, none⟩ rv).setCell ⟨xb, 7, none⟩ (.int .i64 0)
theorem setJ_but (W : World) (xb : Nat) (sv rv : Value) : But [xb] W (setJ W xb sv rv) := by
  unfold setJ
  exact ((((((((But.refl _ _).set (by simp) _).set (by simp) _).set (by simp) _).set (by simp) _).set (by simp) _).set (by simp) _).set (by simp) _).set (by simp) _
theorem setJ_size (W : World) (xb : Nat) (sv rv : Value) : (setJ W xb sv rv).heap.size = W.heap.size := by unfold setJ; simp
theorem setJ_heap {W : World} {xb : Nat} {sv rv sv2 rv2 : Value} (h : W.heap[xb]? = some (.cells (hasC sv2 rv2) rjT (0, 0))) : (setJ W xb sv rv).heap[xb]? = some (.cells (hasC sv rv) rjT (0, 0)) := by
  unfold setJ
  have h0 := heap_setCell_same (W) xb 0 _ rjT (.slice none 0 0) h
  have h1 := heap_setCell_same (_) xb 1 _ rjT (.slice none 0 0) h0
  have h2 := heap_setCell_same (_) xb 2 _ rjT (.int .i64 0) h1
  have h3 := heap_setCell_same (_) xb 3 _ rjT (.int .i64 0) h2
  have h4 := heap_setCell_same (_) xb 4 _ rjT (.int .u64 0) h3
  have h5 := heap_setCell_same (_) xb 5 _ rjT sv h4
  have h6 := heap_setCell_same (_) xb 6 _ rjT rv h5
  have h7 := heap_setCell_same (_) xb 7 _ rjT (.int .i64 0) h6
  refine h7.trans ?_
  simp [hasC]
/-- Between a step and what is made of it: next is what the journal has. -/
def KN (w : World) (jb b nb xb B K : Nat) (wr : World) : Prop := ∃ own D r a c f S R sv rv svN rvN, St w wr own jb b D r a c f ∧ D.cap = 30000 ∧ snapL (D.row ((r : Nat) : Int)) = S ∧ recsL (D.row ((r : Nat) : Int)) = R ∧ NowAt w wr (xb + 1) sv rv S R ∧
  wr.heap[nb]? = some (.cells (hasC svN rvN) rjT (0, 0)) ∧ wr.heap[xb]? = some (.cells (hasC sv rv) rjT (0, 0)) ∧ (∀ g, rv.ownBlock = some g → g ∉ own) ∧ nb ∉ own ∧ xb ∉ own ∧ f ≤ B ∧ a ≤ K
/-- What the switch leaves. -/
def SW (w : World) (jb b nb xb B K : Nat) (g : Value) (wr : World) : Prop := (∃ er : Int, g = .int .i64 er ∧ er ≠ 30 ∧ KN w jb b nb xb B K wr) ∨ (g = .int .i64 30 ∧ KX w b nb xb wr)
theorem heavy_le {a n : Nat} (ha : a < 127) (hn : n ≤ 20000) : heavyN (a + 1) n ≤ n + 58 := by
  have h1 : (uv (a + 1)).length = 1 := by rw [uv_lt (by omega)]; rfl
  have hp : piecesN n ≤ 5 := by unfold piecesN; split <;> omega
  have h2 : (uv (piecesN n)).length = 1 := by rw [uv_lt (by omega)]; rfl
  unfold heavyN headB
  rw [List.length_append, h1, h2]
  omega
theorem grown_self (W : World) (r : Option Nat) : W.grownBy W r := ⟨rfl, rfl, rfl, Nat.le_refl _, fun _ _ _ => rfl⟩
/-- What was set together by hand lies off the device. -/
structure TN (w W : World) (nb xb : Nat) (own : List Nat) (sv rv : Value) (S : List Nat) (R : List (List Nat)) : Prop where
  n : W.heap[nb]? = some (.cells (hasC sv rv) rjT (0, 0))
  now : NowAt w W (xb + 1) sv rv S R
  off : ∀ g, rv.ownBlock = some g → g ∉ own
  no : nb ∉ own
theorem TN.but {w W W' : World} {nb xb : Nat} {own own' : List Nat} {sv rv : Value} {S : List Nat} {R : List (List Nat)} (h : TN w W nb xb own sv rv S R) (hb : But own W W') (hs : ∀ k ∈ own', k ∈ own ∨ W.heap.size ≤ k) : TN w W' nb xb own' sv rv S R := by
  have hlt := (Array.getElem?_eq_some_iff.1 h.n).1
  refine ⟨(hb.block nb hlt h.no).trans h.n, h.now.like (fun g hg => hb.block g (h.now.off g hg).2 (h.off g hg)), fun g hg hm => ?_, fun hm => ?_⟩
  · have h1 := (h.now.off g hg).2
    rcases hs g hm with h2 | h2
    · exact h.off g hg h2
    · omega
  · rcases hs nb hm with h2 | h2
    · exact h.no h2
    · omega

set_option maxRecDepth 100000 in
set_option maxHeartbeats 2000000 in
theorem walk (w : World) (p0 : Option Addr) (n0 c0 : Nat) (l0 : List (Int × List Nat)) (S0 : Frs w.heap.size w (.slice p0 n0 c0) l0) (b0 : (∀ x ∈ l0, ∀ y ∈ x.2, y < 256) ∧ l0.length ≤ Go.maxLen) (a1 : Int) (w1 : (Lit.int .i64 a1).wf = true) (a2 : Int) (w2 : (Lit.int .i64 a2).wf = true) :
    Calls Try.prog 5 #[.slice p0 n0 c0, .int .i64 a1, .int .i64 a2] w fun e w' => e = .returned (.bool true) ∧ Below w.heap.size w w' := by
  obtain rfl := S0.len
  have HS := Lib.hid S0
  have HOK := Lib.hid b0.1
  have HSM := Lib.hid (fun (W : World) (hb : Below w.heap.size w W) => jsmall_any p0 c0 l0 b0.2 W (frs_up hb S0))
  have hmx : l0.length ≤ 9223372036854775807 := by have := b0.2; unfold Go.maxLen at this; omega
  obtain ⟨n, hn⟩ : ∃ n, l0.length = n := ⟨_, rfl⟩
  have HN := Lib.hid hn
  rw [hn] at HS HSM hmx ⊢
  clear hn S0 b0
  obtain ⟨i1, hi1, hy0, hy1, hy2⟩ := info_parts infoB
  go_enter Try.func5, Try.ntmps5
  go_wp2_with fail
  refine (jAlive_any _).mono ?_
  rintro e w1 ⟨rfl, hb1⟩
  have HSM1 := Lib.hid (HSM.out w1 hb1)
  clear HSM
  go_wp2_with fail
  refine HSM1.out.mono ?_
  rintro e w2 ⟨sb, rfl, hsm, hb2⟩
  have hB2 := hb1.trans (hb2.mono hb1.size)
  clear hb1 hb2 HSM1
  cases sb with
  | false =>
    go_wp2
    go_ret
    exact ⟨rfl, hB2⟩
  | true =>
    obtain ⟨h30, hdl⟩ := hsm rfl
    have HDL := Lib.hid hdl
    clear hsm hdl
    have hn30 : n ≤ 30 := by rw [← HN.out]; exact h30
    clear h30
    have hw2 := hB2.size
    have HB2 := Lib.hid hB2
    go_wp2_with fail
    refine (new_any 30000 w2).mono ?_
    rintro e w3 ⟨rfl, d3, hb3⟩
    have hB3 := HB2.out.trans (hb3.mono hw2)
    have HNW := Lib.hid (new_st (w := w) hB3 d3 (fun k hk => by simp at hk; omega) rfl rfl rfl (by show 16 ≤ 9223372036854775807; decide))
    have hz3 := hB3.size
    clear hB2 hB3 d3 hb3
    go_wp2_with fail
    refine HNW.out.mono ?_
    rintro e w4 (⟨_, rfl, own4, D4, hst4, hf0, hf1, hc4, hl4⟩ | ⟨hc16, _⟩)
    rotate_left
    · exact absurd hc16 (by decide)
    have hcap4 : D4.cap = 30000 := hc4.trans (by decide)
    obtain ⟨t, ht, htl⟩ := and16383 a1
    have HCT := Lib.hid (cut_st hst4 (t : Int) (by omega))
    have hk4 := kept_begin (age := 1) (snap := []) (by decide) (by decide) (fun x hx => by cases hx) (by decide)
    have hs4 : snapL (D4.row ((0 : Nat) : Int)) = [] := by rw [show D4.row ((0 : Nat) : Int) = D4.r0 from rfl, hf0]; exact hk4.2.1
    have hr4 : recsL (D4.row ((0 : Nat) : Int)) = [] := by rw [show D4.row ((0 : Nat) : Int) = D4.r0 from rfl, hf0]; exact hk4.2.2
    have HS4 := Lib.hid hs4
    have HR4 := Lib.hid hr4
    have HC4 := Lib.hid hcap4
    clear hf0 hf1 hc4 hl4 hst4 hk4 hs4 hr4 hcap4 HNW
    go_wp2_with fail
    refine HCT.out.mono ?_
    rintro e w5 ⟨rfl, own5, hst5, _, _⟩
    have hw5 : w3.heap.size < w5.heap.size := hst5.jrn.lt
    obtain ⟨D5, hD5⟩ : ∃ D, cutS D4 (t : Int) = D := ⟨_, rfl⟩
    have hc5 : D5.cap = 30000 := by rw [← hD5]; exact HC4.out
    have hs5 : snapL (D5.row ((0 : Nat) : Int)) = [] := by rw [← hD5]; exact HS4.out
    have hr5 : recsL (D5.row ((0 : Nat) : Int)) = [] := by rw [← hD5]; exact HR4.out
    rw [hD5] at hst5
    have HST5 := Lib.hid hst5
    have HC5 := Lib.hid hc5
    have HS5 := Lib.hid hs5
    have HR5 := Lib.hid hr5
    clear hD5 hst5 hc5 hs5 hr5 HC4 HS4 HR4 HCT ht htl
    go_upto_block 0 with fail
    obtain ⟨w6, hw6⟩ : ∃ W, (w5.alloc (.cells (hasC (.slice none 0 0) (.slice none 0 0)) rjT)).alloc (.cells (hasC (.slice none 0 0) (.slice none 0 0)) rjT) = W := ⟨_, rfl⟩
    have hb56 : Below w5.heap.size w5 w6 := by rw [← hw6]; exact ((Below.refl _ _).alloc (Nat.le_refl _) _).alloc (by simp) _
    have hz6 : w6.heap.size = w5.heap.size + 1 + 1 := by rw [← hw6]; simp
    have hN6 : w6.heap[w5.heap.size]? = some (.cells (hasC (.slice none 0 0) (.slice none 0 0)) rjT (0, 0)) := by rw [← hw6]; exact (Below.heap_alloc _ _ _ (by simp)).trans (World.alloc_heap_new w5 _)
    have hX6 : w6.heap[w5.heap.size + 1]? = some (.cells (hasC (.slice none 0 0) (.slice none 0 0)) rjT (0, 0)) := by
      have h := World.alloc_heap_new (w5.alloc (.cells (hasC (.slice none 0 0) (.slice none 0 0)) rjT)) (.cells (hasC (.slice none 0 0) (.slice none 0 0)) rjT)
      rw [World.size_alloc] at h
      rw [← hw6]; exact h
    have hKI : KI w w3.heap.size w2.heap.size w5.heap.size (w5.heap.size + 1) 16 1 w6 := by
      have hlt : ∀ k ∈ own5, k < w5.heap.size := fun k hk => by obtain ⟨x, y, d⟩ := HST5.out.dev; exact d.lt k hk
      exact ⟨own5, D5, 0, 1, 0, 16, [], [], .slice none 0 0, .slice none 0 0, .slice none 0 0, .slice none 0 0, HST5.out.below hb56, HC5.out, HS5.out, HR5.out, ⟨Sl.nil _ _ _, [], rfl, World.ownsRow_nil _ _ _ _, fun y hy => by cases hy⟩, hN6, hX6, fun g hg => (by cases hg), fun hm => (by have := hlt _ hm; omega), fun hm => (by have := hlt _ hm; omega), Nat.le_refl _, Nat.le_refl _⟩
    have HW6 := Lib.hid hw6
    have HKI := Lib.hid hKI
    have hjn : w3.heap.size < w5.heap.size := hw5
    have HST5b : Hid (w.heap.size ≤ w3.heap.size) := Lib.hid hz3
    obtain ⟨nb, hnb⟩ : ∃ k, w5.heap.size = k := ⟨_, rfl⟩
    obtain ⟨xb, hxb⟩ : ∃ k, nb + 1 = k := ⟨_, rfl⟩
    obtain ⟨jb, hjb⟩ : ∃ k, w3.heap.size = k := ⟨_, rfl⟩
    obtain ⟨b, hb⟩ : ∃ k, w2.heap.size = k := ⟨_, rfl⟩
    have hbn : Below w.heap.size w w5 := HST5.out.bel
    clear hb56 hz6 hN6 hX6 hKI hw6 HST5 HC5 HS5 HR5
    rw [hnb] at HKI hjn hw5 ⊢
    rw [hxb] at HKI ⊢
    rw [hjb] at HKI hjn hw5 HST5b hz3 ⊢
    rw [hb] at HKI hw2 ⊢
    have hnx : nb < xb := by omega
    have hwn : w.heap.size ≤ nb := by omega
    clear hnb hxb hjb hb hbn
    have e6 := HW6.out
    unfold hasC rjT at e6
    rw [e6]
    clear e6 HW6
    go_cut [13, 14] from 41 to 90 (fun v13 v14 wx => KX w b nb xb wx)
    case first =>
      go_wp2_with fail
      go_loopw [41] (fun i wr => ∃ k : Nat, k ≤ n ∧ i = .int .i64 k ∧ KI w jb b nb xb (16 + ((l0.take k).map fun x => x.2.length).sum + 42 * k) (k + 1) wr) (fun i _ => n - (intOf i).toNat)
      case atStart => exact ⟨0, Nat.zero_le _, rfl, by simpa using HKI.out⟩
      case round =>
        obtain ⟨k, hk, rfl, hP⟩ := hrel
        obtain ⟨wo, hwo⟩ : ∃ wo, wo = wr := ⟨_, rfl⟩
        subst hwo
        by_cases hlt : k < n
        rotate_left
        · obtain rfl : k = n := by omega
          have hki : ¬ (k : Int) < k := by omega
          have HE := Lib.hid hP.end
          clear hP HKI
          go_wp2_with fail
          go_meet
          exact HE.out
        obtain ⟨own, D, r, a, c, f, S, R, sv, rv, sv2, rv2, hst, hcap, hsn, hrc, hnow, hN, hX, hoff, hno, hxo, hfB, haB⟩ := hP
        obtain ⟨sa, sc, ra, rc, rfl, rfl⟩ := now_form hnow
        obtain ⟨x, hx⟩ : ∃ x, l0[k]? = some x := ⟨l0[k]'(by rw [HN.out]; exact hlt), List.getElem?_eq_getElem _⟩
        obtain ⟨pb, off, va, vc, rfl, hpb, e0, e1, eS⟩ := HS.out.at_ hx
        have hxm := List.mem_of_getElem? hx
        have hst4 := sum_take (l := l0.map fun x => x.2.length) (k := k) (x := x.2.length) (by rw [List.getElem?_map, hx]; rfl)
        have hbr := hst.bel
        have cf0 := (hbr.cell (p := ⟨pb, off + k * 2, none⟩) hpb).trans e0
        have cf1 := (hbr.cell (p := ⟨pb, off + k * 2 + 1, none⟩) hpb).trans e1
        have hki : (k : Int) < n := by omega
        have hk0 : (0 : Int) ≤ k := by omega
        obtain ⟨kd, dt⟩ := x
        have hq20 : dt.length ≤ 20000 := Nat.le_trans (sum_mem (List.mem_map.2 ⟨(kd, dt), hxm, rfl⟩)) HDL.out
        have HDB : Hid (Bytes dt) := Lib.hid ⟨by omega, HOK.out (kd, dt) hxm⟩
        dsimp only at eS cf0 cf1 hst4
        have hsumk : ((l0.take (k + 1)).map fun x => x.2.length).sum = ((l0.take k).map fun x => x.2.length).sum + dt.length := by rw [List.map_take, List.map_take]; exact hst4
        have hsumn : ((l0.take (k + 1)).map fun x => x.2.length).sum ≤ 20000 := Nat.le_trans (by rw [List.map_take]; exact sum_take_le _ _) HDL.out
        obtain ⟨s0, hs0⟩ : ∃ s0, ((l0.take k).map fun x => x.2.length).sum = s0 := ⟨_, rfl⟩
        obtain ⟨s1, hs1⟩ : ∃ s1, ((l0.take (k + 1)).map fun x => x.2.length).sum = s1 := ⟨_, rfl⟩
        rw [hs0] at hfB hsumk
        rw [hs1] at hsumk hsumn
        have HS1 := Lib.hid hs1
        obtain ⟨q, hq⟩ : ∃ q, dt.length = q := ⟨_, rfl⟩
        rw [hq] at cf1 eS hq20 hsumk
        have HQ := Lib.hid hq
        have hA : Below wo.heap.size wo (wo.alloc (.cells #[.int .i64 kd, .slice va q vc] 43)) := (Below.refl _ _).alloc (Nat.le_refl _) _
        obtain ⟨wA, hwA⟩ : ∃ wA, wo.alloc (.cells #[.int .i64 kd, .slice va q vc] 43) = wA := ⟨_, rfl⟩
        have hEA : wA.heap[wo.heap.size]? = some (.cells #[.int .i64 kd, .slice va q vc] 43 (0, 0)) := by rw [← hwA]; exact World.alloc_heap_new _ _
        rw [hwA] at hA
        have hAz : wo.heap.size < wA.heap.size := (Array.getElem?_eq_some_iff.1 hEA).1
        have hnz : nb < wo.heap.size := (Array.getElem?_eq_some_iff.1 hN).1
        have hxz : xb < wo.heap.size := (Array.getElem?_eq_some_iff.1 hX).1
        have hstA := hst.below hA
        have hst0 := hst
        have hNA := (hA.block _ hnz).trans hN
        have hXA := (hA.block _ hxz).trans hX
        have hnowA := hnow.like (W' := wA) (fun g hg => hA.block g (hnow.off g hg).2)
        have HWA := Lib.hid hwA
        clear hx e0 e1 hxm hbr hA hwA hq hst hN hX hnow hs0 hs1 hst4
        go_upto_region 14 with fail
        rw [HWA.out]
        have kn0 : wA.cell? ⟨nb, 0, none⟩ = some (.slice none 0 0) := cell_of_row wA _ 0 _ _ _ hNA
        have kn1 : wA.cell? ⟨nb, 1, none⟩ = some (.slice none 0 0) := cell_of_row wA _ 1 _ _ _ hNA
        have kn2 : wA.cell? ⟨nb, 2, none⟩ = some (.int .i64 0) := cell_of_row wA _ 2 _ _ _ hNA
        have kn3 : wA.cell? ⟨nb, 3, none⟩ = some (.int .i64 0) := cell_of_row wA _ 3 _ _ _ hNA
        have kn4 : wA.cell? ⟨nb, 4, none⟩ = some (.int .u64 0) := cell_of_row wA _ 4 _ _ _ hNA
        have kn5 : wA.cell? ⟨nb, 5, none⟩ = some (.slice sa S.length sc) := cell_of_row wA _ 5 _ _ _ hNA
        have kn6 : wA.cell? ⟨nb, 6, none⟩ = some (.slice ra R.length rc) := cell_of_row wA _ 6 _ _ _ hNA
        have kn7 : wA.cell? ⟨nb, 7, none⟩ = some (.int .i64 0) := cell_of_row wA _ 7 _ _ _ hNA
        have kx0 : wA.cell? ⟨xb, 0, none⟩ = some (.slice none 0 0) := cell_of_row wA _ 0 _ _ _ hXA
        have kx1 : wA.cell? ⟨xb, 1, none⟩ = some (.slice none 0 0) := cell_of_row wA _ 1 _ _ _ hXA
        have kx2 : wA.cell? ⟨xb, 2, none⟩ = some (.int .i64 0) := cell_of_row wA _ 2 _ _ _ hXA
        have kx3 : wA.cell? ⟨xb, 3, none⟩ = some (.int .i64 0) := cell_of_row wA _ 3 _ _ _ hXA
        have kx4 : wA.cell? ⟨xb, 4, none⟩ = some (.int .u64 0) := cell_of_row wA _ 4 _ _ _ hXA
        have kx5 : wA.cell? ⟨xb, 5, none⟩ = some sv2 := cell_of_row wA _ 5 _ _ _ hXA
        have kx6 : wA.cell? ⟨xb, 6, none⟩ = some rv2 := cell_of_row wA _ 6 _ _ _ hXA
        have kx7 : wA.cell? ⟨xb, 7, none⟩ = some (.int .i64 0) := cell_of_row wA _ 7 _ _ _ hXA
        have fx0 := frozen_of_row wA xb 0 _ _ hXA
        have fx1 := frozen_of_row wA xb 1 _ _ hXA
        have fx2 := frozen_of_row wA xb 2 _ _ hXA
        have fx3 := frozen_of_row wA xb 3 _ _ hXA
        have fx4 := frozen_of_row wA xb 4 _ _ hXA
        have fx5 := frozen_of_row wA xb 5 _ _ hXA
        have fx6 := frozen_of_row wA xb 6 _ _ hXA
        have fx7 := frozen_of_row wA xb 7 _ _ hXA
        go_upto_region 15 with fail
        clear kn0 kn1 kn2 kn3 kn4 kn5 kn6 kn7 kx0 kx1 kx2 kx3 kx4 kx5 kx6 kx7 fx0 fx1 fx2 fx3 fx4 fx5 fx6 fx7
        obtain ⟨wB, hwB⟩ : ∃ W, setJ wA xb (.slice sa S.length sc) (.slice ra R.length rc) = W := ⟨_, rfl⟩
        have hbB : But [xb] wA wB := by rw [← hwB]; exact setJ_but _ _ _ _
        have hXB : wB.heap[xb]? = some (.cells (hasC (.slice sa S.length sc) (.slice ra R.length rc)) rjT (0, 0)) := by rw [← hwB]; exact setJ_heap hXA
        have hzB : wB.heap.size = wA.heap.size := by rw [← hwB]; exact setJ_size _ _ _ _
        have e7 := hwB
        unfold setJ at e7
        rw [e7]
        clear e7 hwB
        have hAx : xb < wA.heap.size := by omega
        have hNB : wB.heap[nb]? = some (.cells (hasC (.slice sa S.length sc) (.slice ra R.length rc)) rjT (0, 0)) := (hbB.block nb (by omega) (by simp; omega)).trans hNA
        have hEB : wB.heap[wo.heap.size]? = some (.cells #[.int .i64 kd, .slice va q vc] 43 (0, 0)) := (hbB.block _ hAz (by simp; omega)).trans hEA
        have hstB : St w wB own jb b D r a c f := hstA.but hbB (fun g hg hm => hxo (by simp at hm; rw [← hm]; exact hg)) (by simp; omega) (fun g hg => by simp at hg; omega)
        have hnowB := hnowA.like (W' := wB) (fun g hg => hbB.block g (hnowA.off g hg).2 (fun hm => by have h1 := (hnowA.off g hg).1; simp at hm; omega))
        have hbw := hstB.bel
        have o0 : wB.cell? ⟨wo.heap.size, 0, none⟩ = some (.int .i64 kd) := cell_of_row wB _ 0 _ _ _ hEB
        have o1 : wB.cell? ⟨wo.heap.size, 1, none⟩ = some (.slice va q vc) := cell_of_row wB _ 1 _ _ _ hEB
        have hob : wo.heap.size < wB.heap.size := by omega
        have hxob : xb < wo.heap.size := hxz
        have HSTB := Lib.hid hstB
        have HNOW := Lib.hid hnowB
        have HNB := Lib.hid hNB
        have HXB := Lib.hid hXB
        have HEB := Lib.hid hEB
        have HES := Lib.hid eS
        have HOFF := Lib.hid hoff
        have HNO := Lib.hid hno
        have HXO := Lib.hid hxo
        have HCAP := Lib.hid hcap
        have HSN := Lib.hid hsn
        have HRC := Lib.hid hrc
        have HOO : Hid (wo.heap.size ∉ own) := Lib.hid (fun hm => by obtain ⟨x, y, d⟩ := hst0.dev; have := d.lt _ hm; omega)
        have HOLT : Hid (∀ g ∈ own, g < wB.heap.size) := Lib.hid (fun g hg => by obtain ⟨x, y, d⟩ := hstB.dev; exact d.lt g hg)
        clear hbB hNA hXA hEA hst0 hstA hnowA hnowB hNB hXB hEB hstB eS hoff hno hxo hcap hsn hrc hbw hAx hzB
        go_upto_block 2 with fail
        go_cut [14] from 48 to 81 (fun g wx => SW w jb b nb xb (16 + s1 + 42 * (k + 1)) (k + 2) g wx)
        case first =>
          go_upto_if 48 with fail
          go_cut [48] from 49 to 51 (fun cv wx => cv = .bool (decide (kd = 0 ∨ kd = 1 ∨ kd = 2)) ∧ wx = wB)
          case first =>
            by_cases h0 : kd = 0
            · have h0b : (kd == (0 : Int)) = true := beq_iff_eq.2 h0
              have hd : decide (kd = 0 ∨ kd = 1 ∨ kd = 2) = true := decide_eq_true (.inl h0)
              have HDC := Lib.hid hd
              clear hd
              go_wp2_with fail
              go_meet
              exact ⟨by rw [HDC.out, h0b], rfl⟩
            · have h0b : (kd == (0 : Int)) = false := beq_eq_false_iff_ne.2 h0
              by_cases h1 : kd = 1
              · have h1b : (kd == (1 : Int)) = true := beq_iff_eq.2 h1
                have HDC : Hid (decide (kd = 0 ∨ kd = 1 ∨ kd = 2) = true) := Lib.hid (decide_eq_true (.inr (.inl h1)))
                go_wp2_with fail
                go_meet
                exact ⟨by rw [HDC.out], rfl⟩
              · have h1b : (kd == (1 : Int)) = false := beq_eq_false_iff_ne.2 h1
                by_cases h2 : kd = 2
                · have h2b : (kd == (2 : Int)) = true := beq_iff_eq.2 h2
                  have HDC : Hid (decide (kd = 0 ∨ kd = 1 ∨ kd = 2) = true) := Lib.hid (decide_eq_true (.inr (.inr h2)))
                  go_wp2_with fail
                  go_meet
                  exact ⟨by rw [HDC.out], rfl⟩
                · have h2b : (kd == (2 : Int)) = false := beq_eq_false_iff_ne.2 h2
                  have HDC : Hid (decide (kd = 0 ∨ kd = 1 ∨ kd = 2) = false) := Lib.hid (decide_eq_false (by omega))
                  go_wp2_with fail
                  go_meet
                  exact ⟨by rw [HDC.out], rfl⟩
          case rest =>
            obtain ⟨rfl, hwc⟩ := hcut
            rw [hwc]
            clear hwc
            by_cases h012 : kd = 0 ∨ kd = 1 ∨ kd = 2
            · have hd := decide_eq_true h012
              rw [hd]
              clear hd
              have hS := Sl.below HSTB.out.bel HES.out
              have HAP := Lib.hid (append_keep HSTB.out HSN.out HRC.out va vc dt HDB.out (by rw [HQ.out]; exact hS.mono HSTB.out.bel.size) (fun h4 => by rw [HQ.out] at h4 ⊢; have := HCAP.out; omega))
              rw [HQ.out] at HAP
              clear hS
              go_wp2_with fail
              refine HAP.out.mono ?_
              rintro e w8 ⟨er, own8, rfl, hb8, hs8, hcs⟩
              have hkp8 : ∀ j, j < wB.heap.size → j ∉ jb :: own → w8.heap[j]? = wB.heap[j]? := fun j h1 h2 => hb8.block j h1 h2
              have hjb : jb < nb := hjn
              have hN8 := (hkp8 nb (by omega) (by intro hm; rcases List.mem_cons.1 hm with h | h; omega; exact HNO.out h)).trans HNB.out
              have hX8 := (hkp8 xb (by omega) (by intro hm; rcases List.mem_cons.1 hm with h | h; omega; exact HXO.out h)).trans HXB.out
              have hE8 := (hkp8 wo.heap.size hob (by intro hm; rcases List.mem_cons.1 hm with h | h; omega; exact HOO.out h)).trans HEB.out
              have hof8 : ∀ g, (Value.slice ra R.length rc).ownBlock = some g → g < wB.heap.size ∧ g ∉ jb :: own := fun g hg => by
                have h1 := HNOW.out.off g hg
                refine ⟨h1.2, fun hm => ?_⟩
                rcases List.mem_cons.1 hm with h | h
                · omega
                · exact HOFF.out g hg h
              have hnow8 := HNOW.out.like (W' := w8) (fun g hg => hkp8 g (hof8 g hg).1 (hof8 g hg).2)
              have hz8 := hb8.size
              have hmore : ∀ j, j < wB.heap.size → j ∉ own → j ∉ own8 := fun j h1 h2 hm => by rcases hs8 j hm with h | h; exact h2 h; omega
              have HN8 := Lib.hid hN8
              have HX8 := Lib.hid hX8
              have HE8 := Lib.hid hE8
              have HNOW8 := Lib.hid hnow8
              have HMORE := Lib.hid hmore
              have HOF8 := Lib.hid hof8
              clear hN8 hX8 hE8 hnow8 hmore hof8 hkp8 hb8 hs8 HAP
              by_cases h2 : er = 2
              · subst h2
                have hKN : SW w jb b nb xb (16 + s1 + 42 * (k + 1)) (k + 2) (.int .i64 2) w8 := by
                  rcases hcs with ⟨_, _, hst8⟩ | ⟨h, _⟩ | ⟨h, _⟩
                  · exact .inl ⟨2, rfl, by decide, own8, D, r, a, c, f, S, R, _, _, _, _, hst8, HCAP.out, HSN.out, HRC.out, HNOW8.out, HN8.out, HX8.out, fun g hg => HMORE.out g (HOF8.out g hg).1 (HOFF.out g hg), HMORE.out nb (by omega) HNO.out, HMORE.out xb (by omega) HXO.out, by omega, by omega⟩
                  · exact absurd h (by decide)
                  · exact absurd h (by decide)
                have HKN := Lib.hid hKN
                clear hcs hKN
                go_wp2_with fail
                go_meet
                exact HKN.out
              · have hd2 : (er = 0 ∧ ∃ D2, St w w8 own8 jb b D2 r a (c + 1) (f + (q + 7)) ∧ D2.cap = D.cap ∧ snapL (D2.row (r : Nat)) = S ∧ recsL (D2.row (r : Nat)) = R ++ [dt]) ∨ (er = 30 ∧ ∃ D2, LivAt w w8 own8 b D2 r a c f S R ∧ D2.cap = D.cap) := by
                  rcases hcs with ⟨h, _⟩ | ⟨h, _, h3⟩ | ⟨h, _, h3⟩
                  · exact absurd h h2
                  · exact .inl ⟨h, by rw [HQ.out] at h3; exact h3⟩
                  · exact .inr ⟨h, h3⟩
                have he2 : (er != (2 : Int)) = true := bne_iff_ne.2 h2
                have he6 : (er != (6 : Int)) = true := bne_iff_ne.2 (by rcases hd2 with ⟨h, _⟩ | ⟨h, _⟩ <;> omega)
                have HD2 := Lib.hid hd2
                clear hcs hd2
                go_upto_region 22 with fail
                have hsz8 : xb < w8.heap.size := by omega
                have hL8 : ∀ g ∈ own8, g < w8.heap.size := fun g hg => by
                  rcases HD2.out with ⟨_, D2, h, _⟩ | ⟨_, D2, h, _⟩
                  · obtain ⟨x, y, d⟩ := h.dev; exact d.lt g hg
                  · obtain ⟨x, y, d⟩ := h.dev; exact d.lt g hg
                have HL8 := Lib.hid hL8
                have hRl : R.length ≤ 1048576 := by have h := (few_of HSTB.out.row).2.1; rw [HRC.out] at h; exact h
                obtain ⟨ysv, hysv⟩ : ∃ ysv : List Value, w8.ownsRow (xb + 1) yssT 1 (.slice ra R.length rc) R.length ysv ∧ ysv.length = R.length ∧ ∃ ys : List CX, ys.map Prod.fst = R ∧ ys.map Prod.snd = ysv ∧ ∀ y ∈ ys, Sl encY w.heap.size w y.2 y.1 := by
                  obtain ⟨_, ys, h2', h3', h4'⟩ := HNOW8.out
                  have hl : ys.length = R.length := by rw [← h2', List.length_map]
                  exact ⟨ys.map Prod.snd, by rw [hl] at h3'; exact h3', by rw [List.length_map, hl], ys, h2', rfl, h4'⟩
                obtain ⟨hrow8, hyl, hysd⟩ := hysv
                have HROW8 := Lib.hid hrow8
                have HYSD := Lib.hid hysd
                have HYL := Lib.hid hyl
                clear hrow8 hysd hyl hL8 h2
                refine region_invV (l := _) (by kernel_rfl) (by decide +kernel) (fun v => { tmps := #[Value.slice (some ⟨pb, off, none⟩) n c0, Value.int IntKind.i64 a1, Value.int IntKind.i64 a2, undef, undef, undef, u6, Value.pointer (some ⟨b, 0, none⟩), Value.pointer (some ⟨jb, 0, none⟩), Value.int IntKind.i64 0, Value.pointer (some ⟨nb, 0, none⟩), Value.pointer (some ⟨xb, 0, none⟩), undef, Value.pointer (some ⟨wo.heap.size, 0, none⟩), Value.int IntKind.i64 er, undef, undef, undef, undef, undef, Value.bool true, Value.bool false, Value.slice (some ⟨pb, off, none⟩) n c0, Value.bool true, Value.bool false, Value.pointer (some ⟨b, 0, none⟩), Value.tuple #[Value.pointer (some ⟨jb, 0, none⟩), Value.int IntKind.i64 0], Value.pointer (some ⟨b, 0, none⟩), Value.tuple #[Value.pointer (some ⟨jb, 0, none⟩), Value.int IntKind.i64 0], Value.pointer (some ⟨jb, 0, none⟩), Value.int IntKind.i64 0, Value.int IntKind.i64 0, Value.bool false, Value.pointer (some ⟨b, 0, none⟩), Value.int IntKind.i64 a1, Value.int IntKind.i64 (t : Int), Value.tuple #[], Value.agg #[Value.slice none 0 0, Value.slice none 0 0, Value.int IntKind.i64 0, Value.int IntKind.i64 0, Value.int IntKind.u64 0, Value.slice none 0 0, Value.slice none 0 0, Value.int IntKind.i64 0], Value.agg #[Value.slice none 0 0, Value.slice none 0 0, Value.int IntKind.i64 0, Value.int IntKind.i64 0, Value.int IntKind.u64 0, Value.slice none 0 0, Value.slice none 0 0, Value.int IntKind.i64 0], Value.slice (some ⟨pb, off, none⟩) n c0, Value.int IntKind.i64 (n : Int), Value.int IntKind.i64 (k : Int), Value.bool true, Value.pointer (some ⟨pb, off + k * 2, none⟩), Value.agg #[Value.int IntKind.i64 kd, Value.slice va q vc], Value.agg #[Value.slice none 0 0, Value.slice none 0 0, Value.int IntKind.i64 0, Value.int IntKind.i64 0, Value.int IntKind.u64 0, Value.slice sa S.length sc, Value.slice ra R.length rc, Value.int IntKind.i64 0], Value.pointer (some ⟨wo.heap.size, 0, none⟩), Value.int IntKind.i64 kd, Value.bool true, u49, u50, u51, Value.pointer (some ⟨jb, 0, none⟩), Value.pointer (some ⟨wo.heap.size, 1, none⟩), Value.slice va q vc, Value.int IntKind.i64 er, Value.int IntKind.i64 er, Value.bool true, Value.bool true, Value.int IntKind.i64 er, Value.bool true, Value.bool true, v 0, v 1, v 2, v 3, v 4, v 5, v 6, v 7, v 8, u71, u72, u73, u74, u75, u76, u77, u78, u79, u80, u81, u82, u83, u84, u85, u86, u87, u88, u89, u90, undef, undef, undef, undef, undef, undef, undef, undef, undef, undef, undef, undef, undef, undef, undef, undef, undef, undef, undef, undef, undef, undef, undef, undef, undef, undef, undef, undef, undef, undef, undef, undef, undef, undef, undef, undef, undef, undef, undef, undef, undef, undef, undef, undef, undef, undef, undef, undef, undef], defers := [] }) (NG w8 w8.heap.size xb (.slice sa S.length sc) R.length ysv (.slice va q vc)) (fun i u _ => match i with
                  | 1 => u = .pointer (some ⟨nb, 6, none⟩)
                  | 2 => u = .slice ra R.length rc
                  | 4 => u = .pointer (some ⟨wo.heap.size, 1, none⟩)
                  | 5 => u = .slice va q vc
                  | 8 => u = .pointer (some ⟨xb, 6, none⟩)
                  | _ => True) (fun _ _ _ => True) (fun i j u w w' _ h _ => h) (fun j => [u62, u63, u64, u65, u66, u67, u68, u69, u70].getD j undef) (NG.drew ⟨Nat.le_refl _, Below.refl _ _, fun _ _ _ => rfl, fun _ => rfl, (fun e => by cases e), (fun e => by cases e), (fun e => by cases e), (fun e => by cases e), (fun e => by cases e), (fun e => by cases e), (fun e => by cases e), (fun e => by cases e)⟩) ?hop ?hend
                case hop =>
                  simp only [AllDoV]
                  refine ⟨?o0, ?o1, ?o2, ?o3, ?o4, ?o5, ?o6, ?o7, ?o8, ?o9, trivial⟩
                  all_goals intro L v W hG hLf hd Q hQ
                  all_goals simp [Region.binds] at hd
                  all_goals rw [if_pos (show Region.wanted _ _ = true from rfl)]
                  case o0 =>
                    go_wp2
                    exact ⟨_, rfl, trivial, trivial, hG.lit0 hsz8 hLf⟩
                  case o1 =>
                    go_wp2
                    exact ⟨_, rfl, trivial, rfl, hG.upd _ (by decide) (by decide) (by decide) (by decide) (by decide)⟩
                  case o2 =>
                    have hv1 : v 1 = .pointer (some ⟨nb, 6, none⟩) := hd.2
                    have cN : W.cell? ⟨nb, 6, none⟩ = some (.slice ra R.length rc) := cell_of_row W _ 6 _ _ _ ((hG.kp nb (by omega) (by omega)).trans HN8.out)
                    rw [hv1]
                    go_wp2
                    refine ⟨.slice ra R.length rc, ?_, trivial, rfl, hG.upd _ (by decide) (by decide) (by decide) (by decide) (by decide)⟩
                    simp [updV, hv1]
                  case o3 =>
                    obtain ⟨h0, h2, hv2'⟩ := hd
                    have hv2 : v 2 = .slice ra R.length rc := hv2'
                    have hO := hG.o0 h0 hLf
                    have hz := hG.sz
                    rcases HROW8.out.2 with ⟨er0, en0⟩ | ⟨g, cap, cur, ev, hg0, hgh, _⟩
                    · have hl0 : ysv = [] := List.eq_nil_of_length_eq_zero (by rw [HYL.out]; exact en0)
                      have hx2 : v 2 = .slice none 0 0 := by rw [hv2, er0]
                      have hG3 := hG.app3 hsz8 h0 hLf (v 0) (by rw [hl0, en0]; exact hO) (grown_self W _) hG.bel (.inl rfl)
                      have HG3 := Lib.hid hG3
                      clear hl0 er0 en0 hG3 hv2 hv2'
                      refine wpList_append_own_none rfl _ _ 34 rfl w8.heap.size yssT i1 1 Try.underlying34 hi1 (v 0) 0 [] rfl hO hx2 ?_
                      go_wp2
                      first | (refine ⟨v 0, ?_, trivial, trivial, HG3.out⟩; simp [updV]; done) | (refine ⟨v 0, ?_, HG3.out⟩; simp [updV]; done) | (refine ⟨v 0, ?_, HG3.out⟩; simp [updV, hx2]; done)
                    · cases ev
                      have hgs := (Array.getElem?_eq_some_iff.1 hgh).1
                      refine wpList_append_own_at _ rfl _ _ 34 rfl w8.heap.size yssT i1 (.slice none 0 0) 1 24 Try.underlying34 hi1 hy0 hy1 hy2 rfl (by decide) (v 0) 0 [] rfl hO ⟨g, 0, none⟩ R.length rc ysv hv2 (by rw [HYL.out, Nat.mul_one]) (fun j u hj => ?_) (fun u hu => ?_) (by unfold maxLen; omega) (by omega) hz ?_
                      · obtain ⟨g', hg', hc'⟩ := own_cell HROW8.out hj
                        cases hg'
                        have : W.cell? ⟨g, j, none⟩ = some u := (World.cell?_of_block (a := ⟨g, j, none⟩) (hG.kp g hgs (by omega))).trans hc'
                        cases j with
                        | zero => simpa [Addr.add] using this
                        | succ j => simpa [Addr.add] using this
                      · obtain ⟨ys, _, rfl, hsl⟩ := HYSD.out
                        obtain ⟨y, hy, rfl⟩ := List.mem_map.1 hu
                        obtain ⟨ya, yc, e⟩ := (hsl y hy).form
                        rw [e]; rfl
                      · intro v' W3 q1 q2 _ q3
                        rw [Nat.zero_add, List.nil_append] at q1
                        go_wp2
                        have hG3 := hG.app3 hsz8 h0 hLf v' q1 q2 (hG.bel.grown q2 (Nat.zero_le _) (fun _ _ => Nat.zero_le _)) q3
                        first | (refine ⟨v', ?_, trivial, trivial, hG3⟩; simp [updV, hv2]; done) | (refine ⟨v', ?_, hG3⟩; simp [updV, hv2]; done)
                  case o4 =>
                    go_wp2
                    exact ⟨_, rfl, trivial, rfl, hG.upd _ (by decide) (by decide) (by decide) (by decide) (by decide)⟩
                  case o5 =>
                    have hv4 : v 4 = .pointer (some ⟨wo.heap.size, 1, none⟩) := hd.2
                    have cE : W.cell? ⟨wo.heap.size, 1, none⟩ = some (.slice va q vc) := cell_of_row W _ 1 _ _ _ ((hG.kp wo.heap.size (by omega) (by omega)).trans HE8.out)
                    rw [hv4]
                    go_wp2
                    refine ⟨.slice va q vc, ?_, trivial, rfl, hG.upd _ (by decide) (by decide) (by decide) (by decide) (by decide)⟩
                    simp [updV, hv4]
                  case o6 =>
                    have hv5 : v 5 = .slice va q vc := hd.2
                    rw [hv5]
                    go_wp2
                    refine ⟨.slice (some ⟨W.heap.size, 0, none⟩) 1 1, ?_, trivial, trivial, hG.lit6 hsz8 hLf⟩
                    simp [updV, hv5]
                  case o7 =>
                    have h3 : L 3 = true := hd.1
                    have h6 : L 6 = true := by first | exact hd.2.1 | exact hd.2
                    have hO := hG.o3 h3 hLf
                    obtain ⟨g, hv6, hg0, hgc, _, _⟩ := hG.o6 h6 hLf
                    have hz := hG.sz
                    refine wpList_append_own_at _ rfl _ _ 34 rfl w8.heap.size yssT i1 (.slice none 0 0) 1 24 Try.underlying34 hi1 hy0 hy1 hy2 rfl (by decide) (v 3) R.length ysv rfl hO ⟨g, 0, none⟩ 1 1 [.slice va q vc] hv6 rfl (one_cellJ hgc) (by simp [Value.oneCell']) (by unfold maxLen; omega) (by omega) hz ?_
                    intro v' W3 q1 q2 _ q3
                    go_wp2
                    have hG7 := hG.app7 hsz8 h3 h6 hLf v' q1 q2 (hG.bel.grown q2 (Nat.zero_le _) (fun _ _ => Nat.zero_le _))
                    first | (refine ⟨v', ?_, trivial, trivial, hG7⟩; simp [updV, hv6]; done) | (refine ⟨v', ?_, hG7⟩; simp [updV, hv6]; done)
                  case o8 =>
                    go_wp2
                    exact ⟨_, rfl, trivial, rfl, hG.upd _ (by decide) (by decide) (by decide) (by decide) (by decide)⟩
                  case o9 =>
                    have hv8 : v 8 = .pointer (some ⟨xb, 6, none⟩) := hd.1.2
                    have h7 : L 7 = true := hd.2.1
                    obtain ⟨ea, ec, e7⟩ := own_form (hG.o7 h7)
                    have rX := (hG.nx hLf).trans HX8.out
                    have cX : W.cell? ⟨xb, 6, none⟩ = some (.slice ra R.length rc) := cell_of_row W _ 6 _ _ _ rX
                    have fX := frozen_of_row W xb 6 _ _ rX
                    have hG9 := hG.st9 (sv2 := .slice sa S.length sc) HX8.out hsz8 h7 hLf undef
                    rw [e7] at hG9
                    rw [hv8, e7]
                    go_wp2
                    refine ⟨undef, ?_, trivial, trivial, hG9⟩
                    simp [updV, hv8, e7]
                case hend =>
                  intro L v W hG hv
                  have l7 := (hv 7 (by decide)).1
                  have l9 := (hv 9 (by decide)).1
                  have hR := hG.o7 l7
                  have hXW := hG.x9 l9
                  obtain ⟨ea, ec, e7⟩ := own_form hR
                  rw [e7] at hR hXW
                  have hbt : But [xb] w8 W := ⟨hG.bel.os, hG.bel.tape, hG.bel.output, hG.sz, fun k hk hn => hG.kp k hk (by simpa using hn)⟩
                  have hzW := hG.sz
                  have hNW := (hG.kp nb (by omega) (by omega)).trans HN8.out
                  have hnoW : nb ∉ own8 := HMORE.out nb (by omega) HNO.out
                  have hxoW : xb ∉ own8 := HMORE.out xb (by omega) HXO.out
                  have hwx : ∀ k ∈ [xb], w.heap.size ≤ k := fun k hk => by simp at hk; omega
                  have hox : ∀ k ∈ own8, k ∉ [xb] := fun k hk hm => by simp at hm; subst hm; exact hxoW hk
                  have hsw : SW w jb b nb xb (16 + s1 + 42 * (k + 1)) (k + 2) (.int .i64 er) W := by
                    rcases HD2.out with ⟨he, D2, h1, h2, h3, h4⟩ | ⟨he, D2, h1, h2⟩
                    · refine .inl ⟨er, rfl, by omega, own8, D2, r, a, c + 1, f + (q + 7), S, R ++ [dt], .slice sa S.length sc, .slice ea (R.length + 1) ec, _, _, h1.but hbt hox (by simp; omega) hwx, h2.trans HCAP.out, h3, h4, ?_, hNW, hXW, ?_, hnoW, hxoW, by omega, by omega⟩
                      · obtain ⟨ys, y1, y2, y3⟩ := HYSD.out
                        refine ⟨HNOW8.out.1, ys ++ [(dt, .slice va q vc)], by rw [List.map_append, y1]; rfl, ?_, ?_⟩
                        · have hyl2 : ys.length = R.length := by rw [← y1, List.length_map]
                          rw [List.length_append, List.map_append, y2, hyl2]
                          exact own_base hR (by omega)
                        · intro y hy
                          rcases List.mem_append.1 hy with h | h
                          · exact y3 y h
                          · simp at h
                            subst h
                            have h5 := HES.out
                            exact h5
                      · intro g hg hm
                        have h5 := (World.ownsRow.lt hR g hg).1
                        have h6 := HL8.out g hm
                        omega
                    · subst he
                      refine .inr ⟨rfl, own8, D2, r, a, c, f, S, R, .slice sa S.length sc, .slice ra R.length rc, .slice sa S.length sc, .slice ea (R.length + 1) ec, h1.but hbt hox hwx, h2.trans HCAP.out, ?_, ?_, hNW, hXW, ?_, hnoW, hxoW⟩
                      · have h5 := few_of HSTB.out.row
                        rw [HSN.out, HRC.out] at h5
                        exact h5
                      · exact HNOW8.out.like (fun g hg => hG.kp g (HNOW8.out.off g hg).2 (by have := (HNOW8.out.off g hg).1; omega))
                      · exact fun g hg => HMORE.out g (HOF8.out g hg).1 (HOFF.out g hg)
                  have HSW := Lib.hid hsw
                  clear hsw hR hXW hbt hNW
                  rw [e7]
                  go_wp2_with fail
                  go_meet
                  exact HSW.out
            · have hd := decide_eq_false h012
              rw [hd]
              clear hd
              by_cases h3 : kd = 3
              · have h3b : (kd == (3 : Int)) = true := beq_iff_eq.2 h3
                have hS := Sl.below HSTB.out.bel HES.out
                have hoff : Off own (.slice va q vc) := by
                  intro ad m cc e hm hmem
                  rw [e] at HES
                  rcases HES.out with ⟨_, a', c', e2, _⟩ | ⟨b', o', cap', e2, hlt2, _⟩
                  · injection e2 with e3 e4
                    omega
                  · injection e2 with e3 e4 e5
                    cases e3
                    have h9 : w.heap.size ≤ b' := HSTB.out.lo _ hmem
                    omega
                have hhv := heavy_le (a := a) (n := q) (by omega) hq20
                have HHV := Lib.hid hhv
                have HCP := Lib.hid (compact_keep HSTB.out HSN.out HRC.out va vc dt HDB.out (by rw [HQ.out]; exact hS.mono HSTB.out.bel.size) (by rw [HQ.out]; exact hoff) (by omega) (by rw [HQ.out, HCAP.out]; omega))
                rw [HQ.out] at HCP
                clear hS hoff hhv
                go_wp2_with fail
                refine HCP.out.mono ?_
                rintro e w8 ⟨er, own8, rfl, hb8, hs8, hcs⟩
                have hkp8 : ∀ j, j < wB.heap.size → j ∉ jb :: own → w8.heap[j]? = wB.heap[j]? := fun j h1 h2 => hb8.block j h1 h2
                have hjb : jb < nb := hjn
                have hN8 := (hkp8 nb (by omega) (by intro hm; rcases List.mem_cons.1 hm with h | h; omega; exact HNO.out h)).trans HNB.out
                have hX8 := (hkp8 xb (by omega) (by intro hm; rcases List.mem_cons.1 hm with h | h; omega; exact HXO.out h)).trans HXB.out
                have hE8 := (hkp8 wo.heap.size hob (by intro hm; rcases List.mem_cons.1 hm with h | h; omega; exact HOO.out h)).trans HEB.out
                have hof8 : ∀ g, (Value.slice ra R.length rc).ownBlock = some g → g < wB.heap.size ∧ g ∉ jb :: own := fun g hg => by
                  have h1 := HNOW.out.off g hg
                  refine ⟨h1.2, fun hm => ?_⟩
                  rcases List.mem_cons.1 hm with h | h
                  · omega
                  · exact HOFF.out g hg h
                have hnow8 := HNOW.out.like (W' := w8) (fun g hg => hkp8 g (hof8 g hg).1 (hof8 g hg).2)
                have hz8 := hb8.size
                have hmore : ∀ j, j < wB.heap.size → j ∉ own → j ∉ own8 := fun j h1 h2 hm => by rcases hs8 j hm with h | h; exact h2 h; omega
                have HN8 := Lib.hid hN8
                have HX8 := Lib.hid hX8
                have HNOW8 := Lib.hid hnow8
                have HMORE := Lib.hid hmore
                have HOF8 := Lib.hid hof8
                have cE : w8.cell? ⟨wo.heap.size, 1, none⟩ = some (.slice va q vc) := cell_of_row w8 _ 1 _ _ _ hE8
                have he6 : (er != (6 : Int)) = true := bne_iff_ne.2 (by rcases hcs with ⟨h, _⟩ | ⟨h, _⟩ <;> omega)
                have HCS := Lib.hid hcs
                have kx0 : w8.cell? ⟨xb, 0, none⟩ = some (.slice none 0 0) := cell_of_row w8 _ 0 _ _ _ HX8.out
                have kx1 : w8.cell? ⟨xb, 1, none⟩ = some (.slice none 0 0) := cell_of_row w8 _ 1 _ _ _ HX8.out
                have kx2 : w8.cell? ⟨xb, 2, none⟩ = some (.int .i64 0) := cell_of_row w8 _ 2 _ _ _ HX8.out
                have kx3 : w8.cell? ⟨xb, 3, none⟩ = some (.int .i64 0) := cell_of_row w8 _ 3 _ _ _ HX8.out
                have kx4 : w8.cell? ⟨xb, 4, none⟩ = some (.int .u64 0) := cell_of_row w8 _ 4 _ _ _ HX8.out
                have kx5 : w8.cell? ⟨xb, 5, none⟩ = some (.slice sa S.length sc) := cell_of_row w8 _ 5 _ _ _ HX8.out
                have kx6 : w8.cell? ⟨xb, 6, none⟩ = some (.slice ra R.length rc) := cell_of_row w8 _ 6 _ _ _ HX8.out
                have kx7 : w8.cell? ⟨xb, 7, none⟩ = some (.int .i64 0) := cell_of_row w8 _ 7 _ _ _ HX8.out
                have fx0 := frozen_of_row w8 xb 0 _ _ HX8.out
                have fx1 := frozen_of_row w8 xb 1 _ _ HX8.out
                have fx2 := frozen_of_row w8 xb 2 _ _ HX8.out
                have fx3 := frozen_of_row w8 xb 3 _ _ HX8.out
                have fx4 := frozen_of_row w8 xb 4 _ _ HX8.out
                have fx5 := frozen_of_row w8 xb 5 _ _ HX8.out
                have fx6 := frozen_of_row w8 xb 6 _ _ HX8.out
                have fx7 := frozen_of_row w8 xb 7 _ _ HX8.out
                obtain ⟨W, hW⟩ : ∃ W, setJ w8 xb (.slice va q vc) (.slice none 0 0) = W := ⟨_, rfl⟩
                have hbt : But [xb] w8 W := by rw [← hW]; exact setJ_but _ _ _ _
                have hXW : W.heap[xb]? = some (.cells (hasC (.slice va q vc) (.slice none 0 0)) rjT (0, 0)) := by rw [← hW]; exact setJ_heap HX8.out
                have hNW := (hbt.block nb (by omega) (by simp; omega)).trans HN8.out
                have hnoW : nb ∉ own8 := HMORE.out nb (by omega) HNO.out
                have hxoW : xb ∉ own8 := HMORE.out xb (by omega) HXO.out
                have hwx : ∀ k ∈ [xb], w.heap.size ≤ k := fun k hk => by simp at hk; omega
                have hox : ∀ k ∈ own8, k ∉ [xb] := fun k hk hm => by simp at hm; subst hm; exact hxoW hk
                have hsw : SW w jb b nb xb (16 + s1 + 42 * (k + 1)) (k + 2) (.int .i64 er) W := by
                  have hcs := HCS.out
                  rw [HQ.out] at hcs
                  have hhv := HHV.out
                  rcases hcs with ⟨he, D2, h1, h2, h3', h4⟩ | ⟨he, D2, h1, h2⟩
                  · refine .inl ⟨er, rfl, by omega, own8, D2, 1 - r, a + 1, 0, heavyN (a + 1) q, dt, [], .slice va q vc, .slice none 0 0, _, _, h1.but hbt hox (by simp; omega) hwx, h2.trans HCAP.out, h3', h4, ⟨HES.out, [], rfl, World.ownsRow_nil _ _ _ _, fun y hy => (by cases hy)⟩, hNW, hXW, fun g hg => (by cases hg), hnoW, hxoW, by omega, by omega⟩
                  · subst he
                    refine .inr ⟨rfl, own8, D2, r, a, c, f, S, R, .slice sa S.length sc, .slice ra R.length rc, .slice va q vc, .slice none 0 0, h1.but hbt hox hwx, h2.trans HCAP.out, ?_, ?_, hNW, hXW, ?_, hnoW, hxoW⟩
                    · have h5 := few_of HSTB.out.row
                      rw [HSN.out, HRC.out] at h5
                      exact h5
                    · exact HNOW8.out.like (fun g hg => hbt.block g (HNOW8.out.off g hg).2 (fun hm => by have := (HNOW8.out.off g hg).1; simp at hm; omega))
                    · exact fun g hg => HMORE.out g (HOF8.out g hg).1 (HOFF.out g hg)
                have HSW := Lib.hid hsw
                have HWE := Lib.hid hW
                clear h3 h012 hsw hXW hbt hNW hW hN8 hX8 hE8 hnow8 hmore hof8 hkp8 hb8 hs8 hcs HCP
                go_wp2_with fail
                go_meet
                have e7 := HWE.out
                unfold setJ at e7
                rw [e7]
                exact HSW.out
              · have h3b : (kd == (3 : Int)) = false := beq_eq_false_iff_ne.2 h3
                have hsw : SW w jb b nb xb (16 + s1 + 42 * (k + 1)) (k + 2) (.int .i64 0) wB := .inl ⟨0, rfl, by decide, own, D, r, a, c, f, S, R, _, _, _, _, HSTB.out, HCAP.out, HSN.out, HRC.out, HNOW.out, HNB.out, HXB.out, HOFF.out, HNO.out, HXO.out, by omega, by omega⟩
                have HSW := Lib.hid hsw
                clear hsw h3 h012
                go_wp2_with fail
                go_meet
                exact HSW.out
        case rest =>
          rcases hcut with ⟨er, rfl, hne, hKN⟩ | ⟨rfl, hKX⟩
          rotate_left
          · have HKX := Lib.hid hKX
            clear hKX HSTB HNOW HNB HXB HEB
            go_wp2_with fail
            go_meet
            exact HKX.out
          · obtain ⟨own2, D2, r2, a2', c2, f2, S2, R2, sv3, rv3, svN, rvN, hst, hcap, hsn, hrc, hnow, hN, hX, hoff, hno, hxo, hfB2, haB2⟩ := hKN
            obtain ⟨sa2, sc2, ra2, rc2, rfl, rfl⟩ := now_form hnow
            have hne30 : (er == (30 : Int)) = false := beq_eq_false_iff_ne.2 hne
            have hnc : nb < wc.heap.size := (Array.getElem?_eq_some_iff.1 hN).1
            have hxc : xb < wc.heap.size := (Array.getElem?_eq_some_iff.1 hX).1
            have kx0 : wc.cell? ⟨xb, 0, none⟩ = some (.slice none 0 0) := cell_of_row wc _ 0 _ _ _ hX
            have kx1 : wc.cell? ⟨xb, 1, none⟩ = some (.slice none 0 0) := cell_of_row wc _ 1 _ _ _ hX
            have kx2 : wc.cell? ⟨xb, 2, none⟩ = some (.int .i64 0) := cell_of_row wc _ 2 _ _ _ hX
            have kx3 : wc.cell? ⟨xb, 3, none⟩ = some (.int .i64 0) := cell_of_row wc _ 3 _ _ _ hX
            have kx4 : wc.cell? ⟨xb, 4, none⟩ = some (.int .u64 0) := cell_of_row wc _ 4 _ _ _ hX
            have kx5 : wc.cell? ⟨xb, 5, none⟩ = some (.slice sa2 S2.length sc2) := cell_of_row wc _ 5 _ _ _ hX
            have kx6 : wc.cell? ⟨xb, 6, none⟩ = some (.slice ra2 R2.length rc2) := cell_of_row wc _ 6 _ _ _ hX
            have kx7 : wc.cell? ⟨xb, 7, none⟩ = some (.int .i64 0) := cell_of_row wc _ 7 _ _ _ hX
            have kn0 : wc.cell? ⟨nb, 0, none⟩ = some (.slice none 0 0) := cell_of_row wc _ 0 _ _ _ hN
            have kn1 : wc.cell? ⟨nb, 1, none⟩ = some (.slice none 0 0) := cell_of_row wc _ 1 _ _ _ hN
            have kn2 : wc.cell? ⟨nb, 2, none⟩ = some (.int .i64 0) := cell_of_row wc _ 2 _ _ _ hN
            have kn3 : wc.cell? ⟨nb, 3, none⟩ = some (.int .i64 0) := cell_of_row wc _ 3 _ _ _ hN
            have kn4 : wc.cell? ⟨nb, 4, none⟩ = some (.int .u64 0) := cell_of_row wc _ 4 _ _ _ hN
            have kn5 : wc.cell? ⟨nb, 5, none⟩ = some svN := cell_of_row wc _ 5 _ _ _ hN
            have kn6 : wc.cell? ⟨nb, 6, none⟩ = some rvN := cell_of_row wc _ 6 _ _ _ hN
            have kn7 : wc.cell? ⟨nb, 7, none⟩ = some (.int .i64 0) := cell_of_row wc _ 7 _ _ _ hN
            have fn0 := frozen_of_row wc nb 0 _ _ hN
            have fn1 := frozen_of_row wc nb 1 _ _ hN
            have fn2 := frozen_of_row wc nb 2 _ _ hN
            have fn3 := frozen_of_row wc nb 3 _ _ hN
            have fn4 := frozen_of_row wc nb 4 _ _ hN
            have fn5 := frozen_of_row wc nb 5 _ _ hN
            have fn6 := frozen_of_row wc nb 6 _ _ hN
            have fn7 := frozen_of_row wc nb 7 _ _ hN
            obtain ⟨W, hW⟩ : ∃ W, setJ wc nb (.slice sa2 S2.length sc2) (.slice ra2 R2.length rc2) = W := ⟨_, rfl⟩
            have hbt : But [nb] wc W := by rw [← hW]; exact setJ_but _ _ _ _
            have hNW : W.heap[nb]? = some (.cells (hasC (.slice sa2 S2.length sc2) (.slice ra2 R2.length rc2)) rjT (0, 0)) := by rw [← hW]; exact setJ_heap hN
            have hXW := (hbt.block xb hxc (by simp; omega)).trans hX
            have hwx : ∀ k ∈ [nb], w.heap.size ≤ k := fun k hk => by simp at hk; omega
            have hox : ∀ k ∈ own2, k ∉ [nb] := fun k hk hm => by simp at hm; subst hm; exact hno hk
            have hstW := hst.but hbt hox (by simp; omega) hwx
            have hnowW := hnow.like (W' := W) (fun g hg => hbt.block g (hnow.off g hg).2 (fun hm => by have := (hnow.off g hg).1; simp at hm; omega))
            have HST := Lib.hid hstW
            have HNW := Lib.hid hNW
            have HXW := Lib.hid hXW
            have HNOW2 := Lib.hid hnowW
            have HOF2 := Lib.hid hoff
            have HNO2 := Lib.hid hno
            have HXO2 := Lib.hid hxo
            have HCAP2 := Lib.hid hcap
            have HSN2 := Lib.hid hsn
            have HRC2 := Lib.hid hrc
            have HWE := Lib.hid hW
            clear hbt hNW hXW hox hstW hnowW hst hnow hN hX hoff hno hxo hcap hsn hrc hW HSTB HNOW HNB HXB HEB
            go_upto_region 29 with fail
            have e7 := HWE.out
            unfold setJ at e7
            rw [e7]
            clear e7 HWE kx0 kx1 kx2 kx3 kx4 kx5 kx6 kx7 kn0 kn1 kn2 kn3 kn4 kn5 kn6 kn7 fn0 fn1 fn2 fn3 fn4 fn5 fn6 fn7
            have hfw := few_of HST.out.row
            rw [HSN2.out, HRC2.out] at hfw
            have HFW := Lib.hid hfw
            have hNlt := (Array.getElem?_eq_some_iff.1 HNW.out).1
            clear hfw
            refine region_rel (l := _) (by kernel_rfl) (by decide +kernel) (fun v => { tmps := #[Value.slice (some ⟨pb, off, none⟩) n c0, Value.int IntKind.i64 a1, Value.int IntKind.i64 a2, undef, undef, undef, u6, Value.pointer (some ⟨b, 0, none⟩), Value.pointer (some ⟨jb, 0, none⟩), Value.int IntKind.i64 0, Value.pointer (some ⟨nb, 0, none⟩), Value.pointer (some ⟨xb, 0, none⟩), undef, Value.pointer (some ⟨wo.heap.size, 0, none⟩), Value.int IntKind.i64 er, undef, undef, undef, undef, undef, Value.bool true, Value.bool false, Value.slice (some ⟨pb, off, none⟩) n c0, Value.bool true, Value.bool false, Value.pointer (some ⟨b, 0, none⟩), Value.tuple #[Value.pointer (some ⟨jb, 0, none⟩), Value.int IntKind.i64 0], Value.pointer (some ⟨b, 0, none⟩), Value.tuple #[Value.pointer (some ⟨jb, 0, none⟩), Value.int IntKind.i64 0], Value.pointer (some ⟨jb, 0, none⟩), Value.int IntKind.i64 0, Value.int IntKind.i64 0, Value.bool false, Value.pointer (some ⟨b, 0, none⟩), Value.int IntKind.i64 a1, Value.int IntKind.i64 (t : Int), Value.tuple #[], Value.agg #[Value.slice none 0 0, Value.slice none 0 0, Value.int IntKind.i64 0, Value.int IntKind.i64 0, Value.int IntKind.u64 0, Value.slice none 0 0, Value.slice none 0 0, Value.int IntKind.i64 0], Value.agg #[Value.slice none 0 0, Value.slice none 0 0, Value.int IntKind.i64 0, Value.int IntKind.i64 0, Value.int IntKind.u64 0, Value.slice none 0 0, Value.slice none 0 0, Value.int IntKind.i64 0], Value.slice (some ⟨pb, off, none⟩) n c0, Value.int IntKind.i64 (n : Int), Value.int IntKind.i64 (k : Int), Value.bool true, Value.pointer (some ⟨pb, off + k * 2, none⟩), Value.agg #[Value.int IntKind.i64 kd, Value.slice va q vc], Value.agg #[Value.slice none 0 0, Value.slice none 0 0, Value.int IntKind.i64 0, Value.int IntKind.i64 0, Value.int IntKind.u64 0, Value.slice sa S.length sc, Value.slice ra R.length rc, Value.int IntKind.i64 0], Value.pointer (some ⟨wo.heap.size, 0, none⟩), Value.int IntKind.i64 kd, u48, u49, u50, u51, u52, u53, u54, u55, u56, u57, u58, u59, u60, u61, u62, u63, u64, u65, u66, u67, u68, u69, u70, u71, u72, u73, u74, u75, u76, u77, u78, u79, u80, u81, Value.int IntKind.i64 er, Value.bool false, Value.agg #[Value.slice none 0 0, Value.slice none 0 0, Value.int IntKind.i64 0, Value.int IntKind.i64 0, Value.int IntKind.u64 0, Value.slice sa2 S2.length sc2, Value.slice ra2 R2.length rc2, Value.int IntKind.i64 0], v 0, v 1, v 2, v 3, v 4, u90, undef, undef, undef, undef, undef, undef, undef, undef, undef, undef, undef, undef, undef, undef, undef, undef, undef, undef, undef, undef, undef, undef, undef, undef, undef, undef, undef, undef, undef, undef, undef, undef, undef, undef, undef, undef, undef, undef, undef, undef, undef, undef, undef, undef, undef, undef, undef, undef, undef], defers := [] }) (fun Wx => Below W.heap.size W Wx) (fun i u Wx => match i with
              | 0 => u = .pointer (some ⟨jb, 0, none⟩)
              | 1 => ∃ m sv rv, u = hasV sv rv ∧ HasAt m Wx sv rv S2 R2
              | 2 => u = hasV (.slice sa2 S2.length sc2) (.slice ra2 R2.length rc2)
              | 3 => u = .bool true
              | 4 => u = .bool false
              | _ => True) (fun A B => Below A.heap.size A B) ?hC ?hV (fun j => [u85, u86, u87, u88, u89].getD j undef) ?h0 ?hop ?hend
            case hC => exact fun A B h h2 => h.trans (h2.mono h.size)
            case h0 => exact (Below.refl _ _).drew
            case hV =>
              intro i' u A B h hx
              match i', h with
              | 0, h => exact h
              | 1, ⟨m, sv, rv, e, h⟩ => exact ⟨m, sv, rv, e, h.below hx⟩
              | 2, h => exact h
              | 3, h => exact h
              | 4, h => exact h
              | n + 5, h => trivial
            case hop =>
              simp only [AllDo]
              refine ⟨?o0, ?o1, ?o2, ?o3, ?o4, trivial⟩
              all_goals intro v Wx hc hd Q hQ
              all_goals simp [Region.binds] at hd
              all_goals rw [if_pos (show Region.wanted _ _ = true from rfl)]
              case o0 =>
                go_wp2
                exact ⟨_, rfl, Below.refl _ _, rfl⟩
              case o1 =>
                rw [hd]
                have HHS := Lib.hid (has_st (HST.out.below hc))
                rw [HSN2.out, HRC2.out] at HHS
                go_wp2_with fail
                refine HHS.out.mono ?_
                rintro e W' ⟨sv, rv, rfl, hh, hb'⟩
                go_wp2
                refine ⟨hasV sv rv, ?_, hb', _, sv, rv, rfl, hh⟩
                simp [updV, hd]
              case o2 =>
                have rN := (hc.block nb hNlt).trans HNW.out
                have k0 : Wx.cell? ⟨nb, 0, none⟩ = some (.slice none 0 0) := cell_of_row Wx _ 0 _ _ _ rN
                have k1 : Wx.cell? ⟨nb, 1, none⟩ = some (.slice none 0 0) := cell_of_row Wx _ 1 _ _ _ rN
                have k2 : Wx.cell? ⟨nb, 2, none⟩ = some (.int .i64 0) := cell_of_row Wx _ 2 _ _ _ rN
                have k3 : Wx.cell? ⟨nb, 3, none⟩ = some (.int .i64 0) := cell_of_row Wx _ 3 _ _ _ rN
                have k4 : Wx.cell? ⟨nb, 4, none⟩ = some (.int .u64 0) := cell_of_row Wx _ 4 _ _ _ rN
                have k5 : Wx.cell? ⟨nb, 5, none⟩ = some (.slice sa2 S2.length sc2) := cell_of_row Wx _ 5 _ _ _ rN
                have k6 : Wx.cell? ⟨nb, 6, none⟩ = some (.slice ra2 R2.length rc2) := cell_of_row Wx _ 6 _ _ _ rN
                have k7 : Wx.cell? ⟨nb, 7, none⟩ = some (.int .i64 0) := cell_of_row Wx _ 7 _ _ _ rN
                go_wp2
                exact ⟨hasV (.slice sa2 S2.length sc2) (.slice ra2 R2.length rc2), rfl, Below.refl _ _, rfl⟩
              case o3 =>
                obtain ⟨⟨m, sv, rv, e1, hh⟩, e2, _⟩ := hd
                have hS := Sl.below (HST.out.bel.trans (hc.mono HST.out.bel.size)) HNOW2.out.1
                obtain ⟨_, ys, y1, y2, y3⟩ := HNOW2.out
                have hbx := HST.out.bel.trans (hc.mono HST.out.bel.size)
                have y2' := own_below y2 hc (Nat.le_refl _)
                have hP := parts_row y2' (fun y hy => (Sl.below hbx (y3 y hy)).mono hbx.size)
                rw [y1] at hP
                have HSM := Lib.hid (same_mix hh (hS.mono hbx.size) hP HFW.out HFW.out)
                rw [show (decide (S2 = S2) && decide (R2 = R2)) = true from by simp] at HSM
                rw [e1, e2]
                clear hh hS hP y2 y2' y3
                go_wp2_with fail
                refine HSM.out.mono ?_
                rintro e W' ⟨rfl, hb'⟩
                go_wp2
                refine ⟨.bool true, ?_, hb', rfl⟩
                simp [updV, e1, e2]
              case o4 =>
                rw [hd]
                go_wp2
                refine ⟨.bool false, ?_, Below.refl _ _, rfl⟩
                simp [updV, hd]
            case hend =>
              intro v Wx hc hv
              have h4 : v 4 = .bool false := hv 4 (by decide)
              have hKI : KI w jb b nb xb (16 + ((l0.take (k + 1)).map fun x => x.2.length).sum + 42 * (k + 1)) (k + 1 + 1) Wx := ⟨own2, D2, r2, a2', c2, f2, S2, R2, .slice sa2 S2.length sc2, .slice ra2 R2.length rc2, .slice sa2 S2.length sc2, .slice ra2 R2.length rc2, HST.out.below hc, HCAP2.out, HSN2.out, HRC2.out, HNOW2.out.like (fun g hg => hc.block g (HNOW2.out.off g hg).2), (hc.block nb hNlt).trans HNW.out, (hc.block xb (Array.getElem?_eq_some_iff.1 HXW.out).1).trans HXW.out, HOF2.out, HNO2.out, HXO2.out, by rw [HS1.out]; exact hfB2, haB2⟩
              have HKI2 := Lib.hid hKI
              clear hKI
              rw [h4]
              go_wp2_with fail
              go_roundw
              case rel => exact ⟨k + 1, by omega, by go_num, HKI2.out⟩
              case measure => simp [intOf]; omega
    case rest =>
      obtain ⟨own, D, r, a, c, f, S, R, sv, rv, sv2, rv2, hliv, hcap, hfw0, hnow, hN, hX, hoff, hno, hxo⟩ := hcut
      obtain ⟨sa, sc, ra, rc, rfl, rfl⟩ := now_form hnow
      have htn : TN w wc nb xb own (.slice sa S.length sc) (.slice ra R.length rc) S R := ⟨hN, hnow, hoff, hno⟩
      have HTN := Lib.hid htn
      have HLV := Lib.hid hliv
      clear htn hliv hnow hN hX hoff hno hxo hfw0 HKI HOK HS HN HDL
      go_wp2_with fail
      refine (restore_keep HLV.out).mono ?_
      rintro e w7 ⟨rfl, own7, hl7, hb7, hs7⟩
      have HTN7 := Lib.hid (HTN.out.but hb7 hs7)
      have HL7 := Lib.hid hl7
      obtain ⟨t2, ht2, htl2⟩ := and63 a2
      clear hl7 hb7 hs7 HLV HTN
      go_wp2_with fail
      refine (cut_keep HL7.out (t2 : Int) (by omega)).mono ?_
      rintro e w8 ⟨rfl, own8, hl8, hb8, hs8⟩
      have HTN8 := Lib.hid (HTN7.out.but hb8 hs8)
      have HL8 := Lib.hid hl8
      clear hl8 hb8 hs8 HL7 HTN7
      go_wp2_with fail
      refine (open_keep HL8.out rfl).mono ?_
      rintro e wk ⟨ownk, Dk, hbk, hsk, hck, hcase⟩
      have htk := HTN8.out.but hbk hsk
      rcases hcase with ⟨rfl, hstk, hsnk, hrck⟩ | ⟨_, rfl, hlk⟩
      · have HST := Lib.hid hstk
        have HSNK := Lib.hid hsnk
        have HRCK := Lib.hid hrck
        have HNK := Lib.hid htk.n
        have HNOWK := Lib.hid htk.now
        have HOFK := Lib.hid htk.off
        have HNOK := Lib.hid htk.no
        clear hstk hsnk hrck htk hbk hsk hck HTN8 HL8
        have hnk : nb < wk.heap.size := (Array.getElem?_eq_some_iff.1 HNK.out).1
        go_wp2_with fail
        refine (restore_st HST.out).mono ?_
        rintro e w9 ⟨rfl, own9, hst9, hb9, hs9⟩
        have hN9 := (hb9.block nb hnk HNOK.out).trans HNK.out
        have hnow9 := HNOWK.out.like (W' := w9) (fun g hg => hb9.block g (HNOWK.out.off g hg).2 (HOFK.out g hg))
        have hof9 : ∀ g, (Value.slice ra R.length rc).ownBlock = some g → g ∉ own9 := fun g hg hm => by
          have h1 := (HNOWK.out.off g hg).2
          rcases hs9 g hm with h | h
          · exact HOFK.out g hg h
          · omega
        have hno9 : nb ∉ own9 := fun hm => by
          rcases hs9 nb hm with h | h
          · exact HNOK.out h
          · omega
        have hz9 := hb9.size
        have hlt9 : ∀ g ∈ own9, g < w9.heap.size := fun g hg => by obtain ⟨x, y, d⟩ := hst9.dev; exact d.lt g hg
        have HHS := Lib.hid (has_st hst9)
        have e1 : snapL ((restoreS Dk).row ((r : Nat) : Int)) = S := HSNK.out
        have e2 : recsL ((restoreS Dk).row ((r : Nat) : Int)) = R := HRCK.out
        rw [e1, e2] at HHS
        have HST9 := Lib.hid hst9
        have HN9 := Lib.hid hN9
        have HNOW9 := Lib.hid hnow9
        have HOF9 := Lib.hid hof9
        have HNO9 := Lib.hid hno9
        have HLT9 := Lib.hid hlt9
        have E1 := Lib.hid e1
        have E2 := Lib.hid e2
        clear hst9 hb9 hs9 hN9 hnow9 hof9 hno9 hlt9 e1 e2 HST HNK HNOWK HOFK HNOK HSNK HRCK
        go_wp2_with fail
        refine HHS.out.mono ?_
        rintro e w10 ⟨sv', rv', rfl, hh, hb10⟩
        obtain ⟨ga, gc, rfl⟩ := own_form hh.1
        obtain ⟨gra, grc, rfl⟩ := (recs_parts hh.2).form
        obtain ⟨w11, hw11⟩ : ∃ W, w10.alloc (.cells (hasC (.slice ga S.length gc) (.slice gra R.length grc)) rjT) = W := ⟨_, rfl⟩
        have hb11 : Below w10.heap.size w10 w11 := by rw [← hw11]; exact (Below.refl _ _).alloc (Nat.le_refl _) _
        have hG11 : w11.heap[w10.heap.size]? = some (.cells (hasC (.slice ga S.length gc) (.slice gra R.length grc)) rjT (0, 0)) := by rw [← hw11]; exact World.alloc_heap_new w10 _
        have hz10 := hb10.size
        have hz11 : w10.heap.size < w11.heap.size := (Array.getElem?_eq_some_iff.1 hG11).1
        have hb911 : Below w9.heap.size w9 w11 := hb10.trans (hb11.mono hb10.size)
        have hst11 := HST9.out.below hb911
        have hh11 := hh.below hb11
        have hN11 := (hb911.block nb (Array.getElem?_eq_some_iff.1 HN9.out).1).trans HN9.out
        have hnow11 := HNOW9.out.like (W' := w11) (fun g hg => hb911.block g (HNOW9.out.off g hg).2)
        have HRO := Lib.hid (reopen_st hst11)
        have HW11 := Lib.hid hw11
        have HG11 := Lib.hid hG11
        have HH11 := Lib.hid hh11
        have HN11 := Lib.hid hN11
        have HNOW11 := Lib.hid hnow11
        clear hh hb10 hb11 hG11 hb911 hst11 hh11 hN11 hnow11 hw11 HHS
        go_upto_region 42 with fail
        have e7 := HW11.out
        unfold hasC rjT at e7
        rw [e7]
        clear e7
        go_wp2_with fail
        refine HRO.out.mono ?_
        rintro e w12 ⟨rfl, own12, hst12, hb12, hs12, _, _⟩
        have hN12 := (hb12.block nb (Array.getElem?_eq_some_iff.1 HN11.out).1 HNO9.out).trans HN11.out
        have hnow12 := HNOW11.out.like (W' := w12) (fun g hg => hb12.block g (HNOW11.out.off g hg).2 (HOF9.out g hg))
        have hG12 := (hb12.block w10.heap.size hz11 (fun hm => by have := HLT9.out _ hm; omega)).trans HG11.out
        have hh12 := HH11.out.but hb12 HLT9.out
        obtain ⟨gb, hgb⟩ : ∃ g, w10.heap.size = g := ⟨_, rfl⟩
        obtain ⟨lb, hlb⟩ : ∃ g, w11.heap.size = g := ⟨_, rfl⟩
        rw [hgb] at hG12 ⊢
        rw [hlb] at hst12 ⊢
        have HST12 := Lib.hid hst12
        have HN12 := Lib.hid hN12
        have HNOW12 := Lib.hid hnow12
        have HG12 := Lib.hid hG12
        have HH12 := Lib.hid hh12
        have hfw := few_of hst12.row
        rw [E1.out, E2.out] at hfw
        have HFW := Lib.hid hfw
        have hNlt := (Array.getElem?_eq_some_iff.1 hN12).1
        have hGlt := (Array.getElem?_eq_some_iff.1 hG12).1
        clear hst12 hb12 hs12 hN12 hnow12 hG12 hh12 hfw HRO HW11 HG11 HH11 HN11 HNOW11 HST9 HN9 HNOW9
        go_upto_region 43 with fail
        refine region_rel (l := _) (by kernel_rfl) (by decide +kernel) (fun v => { tmps := #[Value.slice p0 n c0, Value.int IntKind.i64 a1, Value.int IntKind.i64 a2, undef, undef, undef, v 18, Value.pointer (some ⟨b, 0, none⟩), Value.pointer (some ⟨jb, 0, none⟩), Value.int IntKind.i64 0, Value.pointer (some ⟨nb, 0, none⟩), Value.pointer (some ⟨xb, 0, none⟩), undef, u13, u14, Value.pointer (some ⟨w8.heap.size, 0, none⟩), Value.int IntKind.i64 0, Value.pointer (some ⟨gb, 0, none⟩), Value.pointer (some ⟨lb, 0, none⟩), Value.int IntKind.i64 0, Value.bool true, Value.bool false, Value.slice p0 n c0, Value.bool true, Value.bool false, Value.pointer (some ⟨b, 0, none⟩), Value.tuple #[Value.pointer (some ⟨jb, 0, none⟩), Value.int IntKind.i64 0], Value.pointer (some ⟨b, 0, none⟩), Value.tuple #[Value.pointer (some ⟨jb, 0, none⟩), Value.int IntKind.i64 0], Value.pointer (some ⟨jb, 0, none⟩), Value.int IntKind.i64 0, Value.int IntKind.i64 0, Value.bool false, Value.pointer (some ⟨b, 0, none⟩), Value.int IntKind.i64 a1, Value.int IntKind.i64 (t : Int), Value.tuple #[], Value.agg #[Value.slice none 0 0, Value.slice none 0 0, Value.int IntKind.i64 0, Value.int IntKind.i64 0, Value.int IntKind.u64 0, Value.slice none 0 0, Value.slice none 0 0, Value.int IntKind.i64 0], Value.agg #[Value.slice none 0 0, Value.slice none 0 0, Value.int IntKind.i64 0, Value.int IntKind.i64 0, Value.int IntKind.u64 0, Value.slice none 0 0, Value.slice none 0 0, Value.int IntKind.i64 0], Value.slice p0 n c0, Value.int IntKind.i64 (n : Int), u41, u42, u43, u44, u45, u46, u47, u48, u49, u50, u51, u52, u53, u54, u55, u56, u57, u58, u59, u60, u61, u62, u63, u64, u65, u66, u67, u68, u69, u70, u71, u72, u73, u74, u75, u76, u77, u78, u79, u80, u81, u82, u83, u84, u85, u86, u87, u88, u89, u90, Value.pointer (some ⟨b, 0, none⟩), Value.tuple #[], Value.pointer (some ⟨b, 0, none⟩), Value.int IntKind.i64 a2, Value.int IntKind.i64 (t2 : Int), Value.tuple #[], Value.tuple #[Value.pointer (some ⟨w8.heap.size, 0, none⟩), Value.int IntKind.i64 0], Value.pointer (some ⟨b, 0, none⟩), Value.tuple #[Value.pointer (some ⟨w8.heap.size, 0, none⟩), Value.int IntKind.i64 0], Value.pointer (some ⟨w8.heap.size, 0, none⟩), Value.int IntKind.i64 0, Value.int IntKind.i64 0, Value.bool false, undef, undef, undef, undef, undef, undef, undef, Value.pointer (some ⟨b, 0, none⟩), Value.tuple #[], Value.int IntKind.i64 0, Value.bool false, Value.pointer (some ⟨w8.heap.size, 0, none⟩), hasV (Value.slice ga S.length gc) (Value.slice gra R.length grc), Value.tuple #[Value.pointer (some ⟨lb, 0, none⟩), Value.int IntKind.i64 0], Value.pointer (some ⟨b, 0, none⟩), Value.tuple #[Value.pointer (some ⟨lb, 0, none⟩), Value.int IntKind.i64 0], Value.pointer (some ⟨lb, 0, none⟩), Value.int IntKind.i64 0, v 0, v 1, v 2, v 3, v 4, v 5, v 6, v 7, v 8, v 9, v 10, v 11, v 12, v 13, v 14, v 15, v 16, v 17], defers := [] }) (fun W => Below w12.heap.size w12 W) (fun i u W => match i with
          | 0 => u = .int .i64 0
          | 1 => u = .bool true
          | 2 => u = .bool true
          | 3 => u = hasV (.slice ga S.length gc) (.slice gra R.length grc)
          | 4 => u = hasV (.slice sa S.length sc) (.slice ra R.length rc)
          | 5 => u = .bool true
          | 6 => u = .bool true
          | 7 => u = undef
          | 8 => u = undef
          | 9 => u = undef
          | 10 => u = .bool true
          | 11 => u = .bool true
          | 12 => u = .bool true
          | 13 => u = .pointer (some ⟨lb, 0, none⟩)
          | 14 => ∃ m sv rv, u = hasV sv rv ∧ HasAt m W sv rv S R
          | 15 => u = hasV (.slice ga S.length gc) (.slice gra R.length grc)
          | 16 => u = .bool true
          | 17 => u = .bool true
          | 18 => u = .bool true
          | _ => True) (fun A B => Below A.heap.size A B) ?hC ?hV (fun j => [undef, undef, undef, undef, undef, undef, undef, undef, undef, undef, undef, undef, undef, undef, undef, undef, undef, undef, u6].getD j undef) ?h0 ?hop ?hend
        case hC => exact fun A B h h2 => h.trans (h2.mono h.size)
        case h0 => exact (Below.refl _ _).drew
        case hV =>
          intro i' u A B h hx
          match i', h with
          | 14, ⟨m, sv, rv, e, h⟩ => exact ⟨m, sv, rv, e, h.below hx⟩
          | 0, h => exact h
          | 1, h => exact h
          | 2, h => exact h
          | 3, h => exact h
          | 4, h => exact h
          | 5, h => exact h
          | 6, h => exact h
          | 7, h => exact h
          | 8, h => exact h
          | 9, h => exact h
          | 10, h => exact h
          | 11, h => exact h
          | 12, h => exact h
          | 13, h => exact h
          | 15, h => exact h
          | 16, h => exact h
          | 17, h => exact h
          | 18, h => exact h
          | n + 19, h => trivial
        case hop =>
          simp only [AllDo]
          refine ⟨?o0, ?o1, ?o2, ?o3, ?o4, ?o5, ?o6, ?o7, ?o8, ?o9, ?o10, ?o11, ?o12, ?o13, ?o14, ?o15, ?o16, ?o17, ?o18, trivial⟩
          all_goals intro v W hc hd Q hQ
          all_goals simp [Region.binds] at hd
          case o0 =>
            rw [if_pos (show Region.wanted _ _ = true from rfl)]
            go_wp2
            exact ⟨_, rfl, Below.refl _ _, rfl⟩
          case o1 =>
            rw [hd]
            rw [if_pos (show Region.wanted _ _ = true from rfl)]
            go_wp2
            first | exact ⟨.bool true, rfl, Below.refl _ _, rfl⟩ | (refine ⟨.bool true, ?_, Below.refl _ _, rfl⟩; simp [updV, hd]; done) | exact ⟨by simp_all [updV], Below.refl _ _⟩
          case o2 =>
            rw [hd]
            rw [if_pos (show Region.wanted _ _ = true from rfl)]
            go_wp2
            first | exact ⟨.bool true, rfl, Below.refl _ _, rfl⟩ | (refine ⟨.bool true, ?_, Below.refl _ _, rfl⟩; simp [updV, hd]; done) | exact ⟨by simp_all [updV], Below.refl _ _⟩
          case o3 =>
            rw [hd]
            have rG := (hc.block gb hGlt).trans HG12.out
            have k10 : W.cell? ⟨gb, 0, none⟩ = some (.slice none 0 0) := cell_of_row W _ 0 _ _ _ rG
            have k11 : W.cell? ⟨gb, 1, none⟩ = some (.slice none 0 0) := cell_of_row W _ 1 _ _ _ rG
            have k12 : W.cell? ⟨gb, 2, none⟩ = some (.int .i64 0) := cell_of_row W _ 2 _ _ _ rG
            have k13 : W.cell? ⟨gb, 3, none⟩ = some (.int .i64 0) := cell_of_row W _ 3 _ _ _ rG
            have k14 : W.cell? ⟨gb, 4, none⟩ = some (.int .u64 0) := cell_of_row W _ 4 _ _ _ rG
            have k15 : W.cell? ⟨gb, 5, none⟩ = some (.slice ga S.length gc) := cell_of_row W _ 5 _ _ _ rG
            have k16 : W.cell? ⟨gb, 6, none⟩ = some (.slice gra R.length grc) := cell_of_row W _ 6 _ _ _ rG
            have k17 : W.cell? ⟨gb, 7, none⟩ = some (.int .i64 0) := cell_of_row W _ 7 _ _ _ rG
            clear rG
            rw [if_pos (show Region.wanted _ _ = true from rfl)]
            go_wp2
            first | exact ⟨hasV (.slice ga S.length gc) (.slice gra R.length grc), rfl, Below.refl _ _, rfl⟩ | (refine ⟨hasV (.slice ga S.length gc) (.slice gra R.length grc), ?_, Below.refl _ _, rfl⟩; simp [updV, hd]; done) | exact ⟨by simp_all [updV], Below.refl _ _⟩
          case o4 =>
            rw [hd]
            have rN := (hc.block nb hNlt).trans HN12.out
            have k00 : W.cell? ⟨nb, 0, none⟩ = some (.slice none 0 0) := cell_of_row W _ 0 _ _ _ rN
            have k01 : W.cell? ⟨nb, 1, none⟩ = some (.slice none 0 0) := cell_of_row W _ 1 _ _ _ rN
            have k02 : W.cell? ⟨nb, 2, none⟩ = some (.int .i64 0) := cell_of_row W _ 2 _ _ _ rN
            have k03 : W.cell? ⟨nb, 3, none⟩ = some (.int .i64 0) := cell_of_row W _ 3 _ _ _ rN
            have k04 : W.cell? ⟨nb, 4, none⟩ = some (.int .u64 0) := cell_of_row W _ 4 _ _ _ rN
            have k05 : W.cell? ⟨nb, 5, none⟩ = some (.slice sa S.length sc) := cell_of_row W _ 5 _ _ _ rN
            have k06 : W.cell? ⟨nb, 6, none⟩ = some (.slice ra R.length rc) := cell_of_row W _ 6 _ _ _ rN
            have k07 : W.cell? ⟨nb, 7, none⟩ = some (.int .i64 0) := cell_of_row W _ 7 _ _ _ rN
            clear rN
            rw [if_pos (show Region.wanted _ _ = true from rfl)]
            go_wp2
            first | exact ⟨hasV (.slice sa S.length sc) (.slice ra R.length rc), rfl, Below.refl _ _, rfl⟩ | (refine ⟨hasV (.slice sa S.length sc) (.slice ra R.length rc), ?_, Below.refl _ _, rfl⟩; simp [updV, hd]; done) | exact ⟨by simp_all [updV], Below.refl _ _⟩
          case o5 =>
            have h3 : v 3 = hasV (.slice ga S.length gc) (.slice gra R.length grc) := hd.1
            have h4 : v 4 = hasV (.slice sa S.length sc) (.slice ra R.length rc) := hd.2.1
            have h2 : v 2 = .bool true := by first | exact hd.2.2 | exact hd.2.2.1
            have hbx := HST12.out.bel.trans (hc.mono HST12.out.bel.size)
            have hS := (Sl.below hbx HNOW12.out.1).mono hbx.size
            obtain ⟨_, ys, y1, y2, y3⟩ := HNOW12.out
            have y2' := own_below y2 hc (Nat.le_refl _)
            have hP := parts_row y2' (fun y hy => (Sl.below hbx (y3 y hy)).mono hbx.size)
            rw [y1] at hP
            have HSM := Lib.hid (same_mix (HH12.out.below hc) hS hP HFW.out HFW.out)
            rw [show (decide (S = S) && decide (R = R)) = true from by simp] at HSM
            rw [h3, h4, h2]
            clear hS hP y2 y2' y3
            rw [if_pos (show Region.wanted _ _ = true from rfl)]
            go_wp2_with fail
            refine HSM.out.mono ?_
            rintro e W' ⟨rfl, hb'⟩
            go_wp2
            refine ⟨.bool true, ?_, hb', rfl⟩
            simp [updV, h3, h4, h2]
          case o6 =>
            have h5 : v 5 = .bool true := hd.1
            have h2 : v 2 = .bool true := by first | exact hd.2 | exact hd.2.1
            rw [h5, h2]
            rw [if_pos (show Region.wanted _ _ = true from rfl)]
            go_wp2
            first | exact ⟨.bool true, rfl, Below.refl _ _, rfl⟩ | (refine ⟨.bool true, ?_, Below.refl _ _, rfl⟩; simp [updV, h5, h2]; done) | exact ⟨by simp_all [updV], Below.refl _ _⟩
          case o7 =>
            have h6 : v 6 = .bool true := by first | exact hd | exact hd.1
            rw [h6, if_neg (show ¬ Region.wanted _ _ = true from by exact Bool.false_ne_true)]
            exact hQ _ _ ⟨undef, by simp [updV, h6, Act.put], Below.refl _ _, rfl⟩
          case o8 =>
            have h6 : v 6 = .bool true := by first | exact hd | exact hd.1
            rw [h6, if_neg (show ¬ Region.wanted _ _ = true from by exact Bool.false_ne_true)]
            exact hQ _ _ ⟨undef, by simp [updV, h6, Act.put], Below.refl _ _, rfl⟩
          case o9 =>
            have h6 : v 6 = .bool true := by first | exact hd.2.2 | exact hd.2.2.1
            rw [h6, if_neg (show ¬ Region.wanted _ _ = true from by exact Bool.false_ne_true)]
            exact hQ _ _ ⟨undef, by simp [updV, h6, Act.put], Below.refl _ _, rfl⟩
          case o10 =>
            have h6 : v 6 = .bool true := hd.1
            have h9 : v 9 = undef := hd.2.1
            have h2 : v 2 = .bool true := by first | exact hd.2.2 | exact hd.2.2.1
            rw [h6, h9, h2]
            rw [if_pos (show Region.wanted _ _ = true from rfl)]
            go_wp2
            first | exact ⟨.bool true, rfl, Below.refl _ _, rfl⟩ | (refine ⟨.bool true, ?_, Below.refl _ _, rfl⟩; simp [updV, h6, h9, h2]; done) | exact ⟨by simp_all [updV], Below.refl _ _⟩
          case o11 =>
            have h2 : v 2 = .bool true := hd.1
            have h10 : v 10 = .bool true := hd.2
            rw [h2, h10]
            rw [if_pos (show Region.wanted _ _ = true from rfl)]
            go_wp2
            first | exact ⟨.bool true, rfl, Below.refl _ _, rfl⟩ | (refine ⟨.bool true, ?_, Below.refl _ _, rfl⟩; simp [updV, h2, h10]; done) | exact ⟨by simp_all [updV], Below.refl _ _⟩
          case o12 =>
            have h11 : v 11 = .bool true := hd.1
            rw [h11]
            rw [if_pos (show Region.wanted _ _ = true from rfl)]
            go_wp2
            first | exact ⟨.bool true, rfl, Below.refl _ _, rfl⟩ | (refine ⟨.bool true, ?_, Below.refl _ _, rfl⟩; simp [updV, h11]; done) | exact ⟨by simp_all [updV], Below.refl _ _⟩
          case o13 =>
            have h12 : v 12 = .bool true := by first | exact hd | exact hd.1
            rw [h12]
            rw [if_pos (show Region.wanted _ _ = true from rfl)]
            go_wp2
            first | exact ⟨.pointer (some ⟨lb, 0, none⟩), rfl, Below.refl _ _, rfl⟩ | (refine ⟨.pointer (some ⟨lb, 0, none⟩), ?_, Below.refl _ _, rfl⟩; simp [updV, h12]; done) | exact ⟨by simp_all [updV], Below.refl _ _⟩
          case o14 =>
            have h13 : v 13 = .pointer (some ⟨lb, 0, none⟩) := hd.1
            have h12 : v 12 = .bool true := by first | exact hd.2 | exact hd.2.1
            have HHS := Lib.hid (has_st (HST12.out.below hc))
            rw [E1.out, E2.out] at HHS
            rw [h13, h12]
            rw [if_pos (show Region.wanted _ _ = true from rfl)]
            go_wp2_with fail
            refine HHS.out.mono ?_
            rintro e W' ⟨sv, rv, rfl, hh, hb'⟩
            go_wp2
            refine ⟨hasV sv rv, ?_, hb', _, sv, rv, rfl, hh⟩
            simp [updV, h13, h12]
          case o15 =>
            have h12 : v 12 = .bool true := by first | exact hd | exact hd.1
            rw [h12]
            have rG := (hc.block gb hGlt).trans HG12.out
            have k10 : W.cell? ⟨gb, 0, none⟩ = some (.slice none 0 0) := cell_of_row W _ 0 _ _ _ rG
            have k11 : W.cell? ⟨gb, 1, none⟩ = some (.slice none 0 0) := cell_of_row W _ 1 _ _ _ rG
            have k12 : W.cell? ⟨gb, 2, none⟩ = some (.int .i64 0) := cell_of_row W _ 2 _ _ _ rG
            have k13 : W.cell? ⟨gb, 3, none⟩ = some (.int .i64 0) := cell_of_row W _ 3 _ _ _ rG
            have k14 : W.cell? ⟨gb, 4, none⟩ = some (.int .u64 0) := cell_of_row W _ 4 _ _ _ rG
            have k15 : W.cell? ⟨gb, 5, none⟩ = some (.slice ga S.length gc) := cell_of_row W _ 5 _ _ _ rG
            have k16 : W.cell? ⟨gb, 6, none⟩ = some (.slice gra R.length grc) := cell_of_row W _ 6 _ _ _ rG
            have k17 : W.cell? ⟨gb, 7, none⟩ = some (.int .i64 0) := cell_of_row W _ 7 _ _ _ rG
            clear rG
            rw [if_pos (show Region.wanted _ _ = true from rfl)]
            go_wp2
            first | exact ⟨hasV (.slice ga S.length gc) (.slice gra R.length grc), rfl, Below.refl _ _, rfl⟩ | (refine ⟨hasV (.slice ga S.length gc) (.slice gra R.length grc), ?_, Below.refl _ _, rfl⟩; simp [updV, h12]; done) | exact ⟨by simp_all [updV], Below.refl _ _⟩
          case o16 =>
            obtain ⟨⟨m, sv, rv, h14, hh⟩, h15', hrest⟩ := hd
            have h15 : v 15 = hasV (.slice ga S.length gc) (.slice gra R.length grc) := h15'
            have h12 : v 12 = .bool true := by first | exact hrest | exact hrest.1 | exact hrest.2
            have HSM := Lib.hid (same_has hh (HH12.out.below hc) HFW.out HFW.out)
            rw [show (decide (S = S) && decide (R = R)) = true from by simp] at HSM
            clear hrest
            rw [h14, h15, h12]
            clear hh
            rw [if_pos (show Region.wanted _ _ = true from rfl)]
            go_wp2_with fail
            refine HSM.out.mono ?_
            rintro e W' ⟨rfl, hb'⟩
            go_wp2
            refine ⟨.bool true, ?_, hb', rfl⟩
            simp [updV, h14, h15, h12]
          case o17 =>
            have h12 : v 12 = .bool true := hd.1
            have h16 : v 16 = .bool true := hd.2
            rw [h12, h16]
            rw [if_pos (show Region.wanted _ _ = true from rfl)]
            go_wp2
            first | exact ⟨.bool true, rfl, Below.refl _ _, rfl⟩ | (refine ⟨.bool true, ?_, Below.refl _ _, rfl⟩; simp [updV, h12, h16]; done) | exact ⟨by simp_all [updV], Below.refl _ _⟩
          case o18 =>
            have h17 : v 17 = .bool true := hd.1
            clear hd
            rw [h17]
            rw [if_pos (show Region.wanted _ _ = true from rfl)]
            go_wp2
            first | exact ⟨.bool true, rfl, Below.refl _ _, rfl⟩ | (refine ⟨.bool true, ?_, Below.refl _ _, rfl⟩; simp [updV, h17]; done) | exact ⟨by simp_all [updV], Below.refl _ _⟩
        case hend =>
          intro v W hc hv
          have h18 : v 18 = .bool true := hv 18 (by decide)
          have hbx := HST12.out.bel.trans (hc.mono HST12.out.bel.size)
          have HBX := Lib.hid hbx
          clear hv hc hbx
          rw [h18]
          go_wp2_with fail
          go_ret
          exact ⟨rfl, HBX.out⟩
      · have HTK := Lib.hid htk
        have HLK := Lib.hid hlk
        have hcd : Dk.cap ≤ 1048576 := hlk.dok.cap
        clear htk hlk hbk hsk HTN8 HL8
        go_wp2_with fail
        refine (restore_keep HLK.out).mono ?_
        rintro e w82 ⟨rfl, own82, hl82, hb82, hs82⟩
        have HTN82 := Lib.hid (HTK.out.but hb82 hs82)
        have HL82 := Lib.hid hl82
        obtain ⟨Dq, hDq⟩ : ∃ Dq, restoreS Dk = Dq := ⟨_, rfl⟩
        clear hl82 hb82 hs82 HTK HLK
        go_wp2_with fail
        refine (open_keep HL82.out rfl).mono ?_
        rintro e wk2 ⟨ownk2, Dk2, hbk2, hsk2, hck2, hcase2⟩
        have htk2 := HTN82.out.but hbk2 hsk2
        rcases hcase2 with ⟨rfl, hstk, hsnk, hrck⟩ | ⟨hbad, _⟩
        rotate_left
        · exfalso
          have h1 : (9223372036854775807 : Nat) < Dk.cap := hbad
          omega
        · have HST := Lib.hid hstk
          have HSNK := Lib.hid hsnk
          have HRCK := Lib.hid hrck
          have HNK := Lib.hid htk2.n
          have HNOWK := Lib.hid htk2.now
          have HOFK := Lib.hid htk2.off
          have HNOK := Lib.hid htk2.no
          clear hstk hsnk hrck htk2 hbk2 hsk2 hck2 HTN82 HL82 hDq
          have hnk : nb < wk2.heap.size := (Array.getElem?_eq_some_iff.1 HNK.out).1
          go_wp2_with fail
          refine (restore_st HST.out).mono ?_
          rintro e w9 ⟨rfl, own9, hst9, hb9, hs9⟩
          have hN9 := (hb9.block nb hnk HNOK.out).trans HNK.out
          have hnow9 := HNOWK.out.like (W' := w9) (fun g hg => hb9.block g (HNOWK.out.off g hg).2 (HOFK.out g hg))
          have hof9 : ∀ g, (Value.slice ra R.length rc).ownBlock = some g → g ∉ own9 := fun g hg hm => by
            have h1 := (HNOWK.out.off g hg).2
            rcases hs9 g hm with h | h
            · exact HOFK.out g hg h
            · omega
          have hno9 : nb ∉ own9 := fun hm => by
            rcases hs9 nb hm with h | h
            · exact HNOK.out h
            · omega
          have hz9 := hb9.size
          have hlt9 : ∀ g ∈ own9, g < w9.heap.size := fun g hg => by obtain ⟨x, y, d⟩ := hst9.dev; exact d.lt g hg
          have HHS := Lib.hid (has_st hst9)
          have e1 : snapL ((restoreS Dk2).row ((r : Nat) : Int)) = S := HSNK.out
          have e2 : recsL ((restoreS Dk2).row ((r : Nat) : Int)) = R := HRCK.out
          rw [e1, e2] at HHS
          have HST9 := Lib.hid hst9
          have HN9 := Lib.hid hN9
          have HNOW9 := Lib.hid hnow9
          have HOF9 := Lib.hid hof9
          have HNO9 := Lib.hid hno9
          have HLT9 := Lib.hid hlt9
          have E1 := Lib.hid e1
          have E2 := Lib.hid e2
          clear hst9 hb9 hs9 hN9 hnow9 hof9 hno9 hlt9 e1 e2 HST HNK HNOWK HOFK HNOK HSNK HRCK
          go_wp2_with fail
          refine HHS.out.mono ?_
          rintro e w10 ⟨sv', rv', rfl, hh, hb10⟩
          obtain ⟨ga, gc, rfl⟩ := own_form hh.1
          obtain ⟨gra, grc, rfl⟩ := (recs_parts hh.2).form
          obtain ⟨w11, hw11⟩ : ∃ W, w10.alloc (.cells (hasC (.slice ga S.length gc) (.slice gra R.length grc)) rjT) = W := ⟨_, rfl⟩
          have hb11 : Below w10.heap.size w10 w11 := by rw [← hw11]; exact (Below.refl _ _).alloc (Nat.le_refl _) _
          have hG11 : w11.heap[w10.heap.size]? = some (.cells (hasC (.slice ga S.length gc) (.slice gra R.length grc)) rjT (0, 0)) := by rw [← hw11]; exact World.alloc_heap_new w10 _
          have hz10 := hb10.size
          have hz11 : w10.heap.size < w11.heap.size := (Array.getElem?_eq_some_iff.1 hG11).1
          have hb911 : Below w9.heap.size w9 w11 := hb10.trans (hb11.mono hb10.size)
          have hst11 := HST9.out.below hb911
          have hh11 := hh.below hb11
          have hN11 := (hb911.block nb (Array.getElem?_eq_some_iff.1 HN9.out).1).trans HN9.out
          have hnow11 := HNOW9.out.like (W' := w11) (fun g hg => hb911.block g (HNOW9.out.off g hg).2)
          have HRO := Lib.hid (reopen_st hst11)
          have HW11 := Lib.hid hw11
          have HG11 := Lib.hid hG11
          have HH11 := Lib.hid hh11
          have HN11 := Lib.hid hN11
          have HNOW11 := Lib.hid hnow11
          clear hh hb10 hb11 hG11 hb911 hst11 hh11 hN11 hnow11 hw11 HHS
          go_upto_region 42 with fail
          have e7 := HW11.out
          unfold hasC rjT at e7
          rw [e7]
          clear e7
          go_wp2_with fail
          refine HRO.out.mono ?_
          rintro e w12 ⟨rfl, own12, hst12, hb12, hs12, _, _⟩
          have hN12 := (hb12.block nb (Array.getElem?_eq_some_iff.1 HN11.out).1 HNO9.out).trans HN11.out
          have hnow12 := HNOW11.out.like (W' := w12) (fun g hg => hb12.block g (HNOW11.out.off g hg).2 (HOF9.out g hg))
          have hG12 := (hb12.block w10.heap.size hz11 (fun hm => by have := HLT9.out _ hm; omega)).trans HG11.out
          have hh12 := HH11.out.but hb12 HLT9.out
          obtain ⟨gb, hgb⟩ : ∃ g, w10.heap.size = g := ⟨_, rfl⟩
          obtain ⟨lb, hlb⟩ : ∃ g, w11.heap.size = g := ⟨_, rfl⟩
          rw [hgb] at hG12 ⊢
          rw [hlb] at hst12 ⊢
          have HST12 := Lib.hid hst12
          have HN12 := Lib.hid hN12
          have HNOW12 := Lib.hid hnow12
          have HG12 := Lib.hid hG12
          have HH12 := Lib.hid hh12
          have hfw := few_of hst12.row
          rw [E1.out, E2.out] at hfw
          have HFW := Lib.hid hfw
          have hNlt := (Array.getElem?_eq_some_iff.1 hN12).1
          have hGlt := (Array.getElem?_eq_some_iff.1 hG12).1
          clear hst12 hb12 hs12 hN12 hnow12 hG12 hh12 hfw HRO HW11 HG11 HH11 HN11 HNOW11 HST9 HN9 HNOW9
          go_upto_region 43 with fail
          refine region_rel (l := _) (by kernel_rfl) (by decide +kernel) (fun v => { tmps := #[Value.slice p0 n c0, Value.int IntKind.i64 a1, Value.int IntKind.i64 a2, undef, undef, undef, v 18, Value.pointer (some ⟨b, 0, none⟩), Value.pointer (some ⟨jb, 0, none⟩), Value.int IntKind.i64 0, Value.pointer (some ⟨nb, 0, none⟩), Value.pointer (some ⟨xb, 0, none⟩), undef, u13, u14, Value.pointer (some ⟨w82.heap.size, 0, none⟩), Value.int IntKind.i64 0, Value.pointer (some ⟨gb, 0, none⟩), Value.pointer (some ⟨lb, 0, none⟩), Value.int IntKind.i64 0, Value.bool true, Value.bool false, Value.slice p0 n c0, Value.bool true, Value.bool false, Value.pointer (some ⟨b, 0, none⟩), Value.tuple #[Value.pointer (some ⟨jb, 0, none⟩), Value.int IntKind.i64 0], Value.pointer (some ⟨b, 0, none⟩), Value.tuple #[Value.pointer (some ⟨jb, 0, none⟩), Value.int IntKind.i64 0], Value.pointer (some ⟨jb, 0, none⟩), Value.int IntKind.i64 0, Value.int IntKind.i64 0, Value.bool false, Value.pointer (some ⟨b, 0, none⟩), Value.int IntKind.i64 a1, Value.int IntKind.i64 (t : Int), Value.tuple #[], Value.agg #[Value.slice none 0 0, Value.slice none 0 0, Value.int IntKind.i64 0, Value.int IntKind.i64 0, Value.int IntKind.u64 0, Value.slice none 0 0, Value.slice none 0 0, Value.int IntKind.i64 0], Value.agg #[Value.slice none 0 0, Value.slice none 0 0, Value.int IntKind.i64 0, Value.int IntKind.i64 0, Value.int IntKind.u64 0, Value.slice none 0 0, Value.slice none 0 0, Value.int IntKind.i64 0], Value.slice p0 n c0, Value.int IntKind.i64 (n : Int), u41, u42, u43, u44, u45, u46, u47, u48, u49, u50, u51, u52, u53, u54, u55, u56, u57, u58, u59, u60, u61, u62, u63, u64, u65, u66, u67, u68, u69, u70, u71, u72, u73, u74, u75, u76, u77, u78, u79, u80, u81, u82, u83, u84, u85, u86, u87, u88, u89, u90, Value.pointer (some ⟨b, 0, none⟩), Value.tuple #[], Value.pointer (some ⟨b, 0, none⟩), Value.int IntKind.i64 a2, Value.int IntKind.i64 (t2 : Int), Value.tuple #[], Value.tuple #[Value.pointer none, Value.int IntKind.i64 30], Value.pointer (some ⟨b, 0, none⟩), Value.tuple #[Value.pointer none, Value.int IntKind.i64 30], Value.pointer none, Value.int IntKind.i64 30, Value.int IntKind.i64 30, Value.bool true, Value.pointer (some ⟨b, 0, none⟩), Value.tuple #[], Value.tuple #[Value.pointer (some ⟨w82.heap.size, 0, none⟩), Value.int IntKind.i64 0], Value.pointer (some ⟨b, 0, none⟩), Value.tuple #[Value.pointer (some ⟨w82.heap.size, 0, none⟩), Value.int IntKind.i64 0], Value.pointer (some ⟨w82.heap.size, 0, none⟩), Value.int IntKind.i64 0, Value.pointer (some ⟨b, 0, none⟩), Value.tuple #[], Value.int IntKind.i64 0, Value.bool false, Value.pointer (some ⟨w82.heap.size, 0, none⟩), hasV (Value.slice ga S.length gc) (Value.slice gra R.length grc), Value.tuple #[Value.pointer (some ⟨lb, 0, none⟩), Value.int IntKind.i64 0], Value.pointer (some ⟨b, 0, none⟩), Value.tuple #[Value.pointer (some ⟨lb, 0, none⟩), Value.int IntKind.i64 0], Value.pointer (some ⟨lb, 0, none⟩), Value.int IntKind.i64 0, v 0, v 1, v 2, v 3, v 4, v 5, v 6, v 7, v 8, v 9, v 10, v 11, v 12, v 13, v 14, v 15, v 16, v 17], defers := [] }) (fun W => Below w12.heap.size w12 W) (fun i u W => match i with
            | 0 => u = .int .i64 0
            | 1 => u = .bool true
            | 2 => u = .bool true
            | 3 => u = hasV (.slice ga S.length gc) (.slice gra R.length grc)
            | 4 => u = hasV (.slice sa S.length sc) (.slice ra R.length rc)
            | 5 => u = .bool true
            | 6 => u = .bool true
            | 7 => u = undef
            | 8 => u = undef
            | 9 => u = undef
            | 10 => u = .bool true
            | 11 => u = .bool true
            | 12 => u = .bool true
            | 13 => u = .pointer (some ⟨lb, 0, none⟩)
            | 14 => ∃ m sv rv, u = hasV sv rv ∧ HasAt m W sv rv S R
            | 15 => u = hasV (.slice ga S.length gc) (.slice gra R.length grc)
            | 16 => u = .bool true
            | 17 => u = .bool true
            | 18 => u = .bool true
            | _ => True) (fun A B => Below A.heap.size A B) ?hC ?hV (fun j => [undef, undef, undef, undef, undef, undef, undef, undef, undef, undef, undef, undef, undef, undef, undef, undef, undef, undef, u6].getD j undef) ?h0 ?hop ?hend
          case hC => exact fun A B h h2 => h.trans (h2.mono h.size)
          case h0 => exact (Below.refl _ _).drew
          case hV =>
            intro i' u A B h hx
            match i', h with
            | 14, ⟨m, sv, rv, e, h⟩ => exact ⟨m, sv, rv, e, h.below hx⟩
            | 0, h => exact h
            | 1, h => exact h
            | 2, h => exact h
            | 3, h => exact h
            | 4, h => exact h
            | 5, h => exact h
            | 6, h => exact h
            | 7, h => exact h
            | 8, h => exact h
            | 9, h => exact h
            | 10, h => exact h
            | 11, h => exact h
            | 12, h => exact h
            | 13, h => exact h
            | 15, h => exact h
            | 16, h => exact h
            | 17, h => exact h
            | 18, h => exact h
            | n + 19, h => trivial
          case hop =>
            simp only [AllDo]
            refine ⟨?o0, ?o1, ?o2, ?o3, ?o4, ?o5, ?o6, ?o7, ?o8, ?o9, ?o10, ?o11, ?o12, ?o13, ?o14, ?o15, ?o16, ?o17, ?o18, trivial⟩
            all_goals intro v W hc hd Q hQ
            all_goals simp [Region.binds] at hd
            case o0 =>
              rw [if_pos (show Region.wanted _ _ = true from rfl)]
              go_wp2
              exact ⟨_, rfl, Below.refl _ _, rfl⟩
            case o1 =>
              rw [hd]
              rw [if_pos (show Region.wanted _ _ = true from rfl)]
              go_wp2
              first | exact ⟨.bool true, rfl, Below.refl _ _, rfl⟩ | (refine ⟨.bool true, ?_, Below.refl _ _, rfl⟩; simp [updV, hd]; done) | exact ⟨by simp_all [updV], Below.refl _ _⟩
            case o2 =>
              rw [hd]
              rw [if_pos (show Region.wanted _ _ = true from rfl)]
              go_wp2
              first | exact ⟨.bool true, rfl, Below.refl _ _, rfl⟩ | (refine ⟨.bool true, ?_, Below.refl _ _, rfl⟩; simp [updV, hd]; done) | exact ⟨by simp_all [updV], Below.refl _ _⟩
            case o3 =>
              rw [hd]
              have rG := (hc.block gb hGlt).trans HG12.out
              have k10 : W.cell? ⟨gb, 0, none⟩ = some (.slice none 0 0) := cell_of_row W _ 0 _ _ _ rG
              have k11 : W.cell? ⟨gb, 1, none⟩ = some (.slice none 0 0) := cell_of_row W _ 1 _ _ _ rG
              have k12 : W.cell? ⟨gb, 2, none⟩ = some (.int .i64 0) := cell_of_row W _ 2 _ _ _ rG
              have k13 : W.cell? ⟨gb, 3, none⟩ = some (.int .i64 0) := cell_of_row W _ 3 _ _ _ rG
              have k14 : W.cell? ⟨gb, 4, none⟩ = some (.int .u64 0) := cell_of_row W _ 4 _ _ _ rG
              have k15 : W.cell? ⟨gb, 5, none⟩ = some (.slice ga S.length gc) := cell_of_row W _ 5 _ _ _ rG
              have k16 : W.cell? ⟨gb, 6, none⟩ = some (.slice gra R.length grc) := cell_of_row W _ 6 _ _ _ rG
              have k17 : W.cell? ⟨gb, 7, none⟩ = some (.int .i64 0) := cell_of_row W _ 7 _ _ _ rG
              clear rG
              rw [if_pos (show Region.wanted _ _ = true from rfl)]
              go_wp2
              first | exact ⟨hasV (.slice ga S.length gc) (.slice gra R.length grc), rfl, Below.refl _ _, rfl⟩ | (refine ⟨hasV (.slice ga S.length gc) (.slice gra R.length grc), ?_, Below.refl _ _, rfl⟩; simp [updV, hd]; done) | exact ⟨by simp_all [updV], Below.refl _ _⟩
            case o4 =>
              rw [hd]
              have rN := (hc.block nb hNlt).trans HN12.out
              have k00 : W.cell? ⟨nb, 0, none⟩ = some (.slice none 0 0) := cell_of_row W _ 0 _ _ _ rN
              have k01 : W.cell? ⟨nb, 1, none⟩ = some (.slice none 0 0) := cell_of_row W _ 1 _ _ _ rN
              have k02 : W.cell? ⟨nb, 2, none⟩ = some (.int .i64 0) := cell_of_row W _ 2 _ _ _ rN
              have k03 : W.cell? ⟨nb, 3, none⟩ = some (.int .i64 0) := cell_of_row W _ 3 _ _ _ rN
              have k04 : W.cell? ⟨nb, 4, none⟩ = some (.int .u64 0) := cell_of_row W _ 4 _ _ _ rN
              have k05 : W.cell? ⟨nb, 5, none⟩ = some (.slice sa S.length sc) := cell_of_row W _ 5 _ _ _ rN
              have k06 : W.cell? ⟨nb, 6, none⟩ = some (.slice ra R.length rc) := cell_of_row W _ 6 _ _ _ rN
              have k07 : W.cell? ⟨nb, 7, none⟩ = some (.int .i64 0) := cell_of_row W _ 7 _ _ _ rN
              clear rN
              rw [if_pos (show Region.wanted _ _ = true from rfl)]
              go_wp2
              first | exact ⟨hasV (.slice sa S.length sc) (.slice ra R.length rc), rfl, Below.refl _ _, rfl⟩ | (refine ⟨hasV (.slice sa S.length sc) (.slice ra R.length rc), ?_, Below.refl _ _, rfl⟩; simp [updV, hd]; done) | exact ⟨by simp_all [updV], Below.refl _ _⟩
            case o5 =>
              have h3 : v 3 = hasV (.slice ga S.length gc) (.slice gra R.length grc) := hd.1
              have h4 : v 4 = hasV (.slice sa S.length sc) (.slice ra R.length rc) := hd.2.1
              have h2 : v 2 = .bool true := by first | exact hd.2.2 | exact hd.2.2.1
              have hbx := HST12.out.bel.trans (hc.mono HST12.out.bel.size)
              have hS := (Sl.below hbx HNOW12.out.1).mono hbx.size
              obtain ⟨_, ys, y1, y2, y3⟩ := HNOW12.out
              have y2' := own_below y2 hc (Nat.le_refl _)
              have hP := parts_row y2' (fun y hy => (Sl.below hbx (y3 y hy)).mono hbx.size)
              rw [y1] at hP
              have HSM := Lib.hid (same_mix (HH12.out.below hc) hS hP HFW.out HFW.out)
              rw [show (decide (S = S) && decide (R = R)) = true from by simp] at HSM
              rw [h3, h4, h2]
              clear hS hP y2 y2' y3
              rw [if_pos (show Region.wanted _ _ = true from rfl)]
              go_wp2_with fail
              refine HSM.out.mono ?_
              rintro e W' ⟨rfl, hb'⟩
              go_wp2
              refine ⟨.bool true, ?_, hb', rfl⟩
              simp [updV, h3, h4, h2]
            case o6 =>
              have h5 : v 5 = .bool true := hd.1
              have h2 : v 2 = .bool true := by first | exact hd.2 | exact hd.2.1
              rw [h5, h2]
              rw [if_pos (show Region.wanted _ _ = true from rfl)]
              go_wp2
              first | exact ⟨.bool true, rfl, Below.refl _ _, rfl⟩ | (refine ⟨.bool true, ?_, Below.refl _ _, rfl⟩; simp [updV, h5, h2]; done) | exact ⟨by simp_all [updV], Below.refl _ _⟩
            case o7 =>
              have h6 : v 6 = .bool true := by first | exact hd | exact hd.1
              rw [h6, if_neg (show ¬ Region.wanted _ _ = true from by exact Bool.false_ne_true)]
              exact hQ _ _ ⟨undef, by simp [updV, h6, Act.put], Below.refl _ _, rfl⟩
            case o8 =>
              have h6 : v 6 = .bool true := by first | exact hd | exact hd.1
              rw [h6, if_neg (show ¬ Region.wanted _ _ = true from by exact Bool.false_ne_true)]
              exact hQ _ _ ⟨undef, by simp [updV, h6, Act.put], Below.refl _ _, rfl⟩
            case o9 =>
              have h6 : v 6 = .bool true := by first | exact hd.2.2 | exact hd.2.2.1
              rw [h6, if_neg (show ¬ Region.wanted _ _ = true from by exact Bool.false_ne_true)]
              exact hQ _ _ ⟨undef, by simp [updV, h6, Act.put], Below.refl _ _, rfl⟩
            case o10 =>
              have h6 : v 6 = .bool true := hd.1
              have h9 : v 9 = undef := hd.2.1
              have h2 : v 2 = .bool true := by first | exact hd.2.2 | exact hd.2.2.1
              rw [h6, h9, h2]
              rw [if_pos (show Region.wanted _ _ = true from rfl)]
              go_wp2
              first | exact ⟨.bool true, rfl, Below.refl _ _, rfl⟩ | (refine ⟨.bool true, ?_, Below.refl _ _, rfl⟩; simp [updV, h6, h9, h2]; done) | exact ⟨by simp_all [updV], Below.refl _ _⟩
            case o11 =>
              have h2 : v 2 = .bool true := hd.1
              have h10 : v 10 = .bool true := hd.2
              rw [h2, h10]
              rw [if_pos (show Region.wanted _ _ = true from rfl)]
              go_wp2
              first | exact ⟨.bool true, rfl, Below.refl _ _, rfl⟩ | (refine ⟨.bool true, ?_, Below.refl _ _, rfl⟩; simp [updV, h2, h10]; done) | exact ⟨by simp_all [updV], Below.refl _ _⟩
            case o12 =>
              have h11 : v 11 = .bool true := hd.1
              rw [h11]
              rw [if_pos (show Region.wanted _ _ = true from rfl)]
              go_wp2
              first | exact ⟨.bool true, rfl, Below.refl _ _, rfl⟩ | (refine ⟨.bool true, ?_, Below.refl _ _, rfl⟩; simp [updV, h11]; done) | exact ⟨by simp_all [updV], Below.refl _ _⟩
            case o13 =>
              have h12 : v 12 = .bool true := by first | exact hd | exact hd.1
              rw [h12]
              rw [if_pos (show Region.wanted _ _ = true from rfl)]
              go_wp2
              first | exact ⟨.pointer (some ⟨lb, 0, none⟩), rfl, Below.refl _ _, rfl⟩ | (refine ⟨.pointer (some ⟨lb, 0, none⟩), ?_, Below.refl _ _, rfl⟩; simp [updV, h12]; done) | exact ⟨by simp_all [updV], Below.refl _ _⟩
            case o14 =>
              have h13 : v 13 = .pointer (some ⟨lb, 0, none⟩) := hd.1
              have h12 : v 12 = .bool true := by first | exact hd.2 | exact hd.2.1
              have HHS := Lib.hid (has_st (HST12.out.below hc))
              rw [E1.out, E2.out] at HHS
              rw [h13, h12]
              rw [if_pos (show Region.wanted _ _ = true from rfl)]
              go_wp2_with fail
              refine HHS.out.mono ?_
              rintro e W' ⟨sv, rv, rfl, hh, hb'⟩
              go_wp2
              refine ⟨hasV sv rv, ?_, hb', _, sv, rv, rfl, hh⟩
              simp [updV, h13, h12]
            case o15 =>
              have h12 : v 12 = .bool true := by first | exact hd | exact hd.1
              rw [h12]
              have rG := (hc.block gb hGlt).trans HG12.out
              have k10 : W.cell? ⟨gb, 0, none⟩ = some (.slice none 0 0) := cell_of_row W _ 0 _ _ _ rG
              have k11 : W.cell? ⟨gb, 1, none⟩ = some (.slice none 0 0) := cell_of_row W _ 1 _ _ _ rG
              have k12 : W.cell? ⟨gb, 2, none⟩ = some (.int .i64 0) := cell_of_row W _ 2 _ _ _ rG
              have k13 : W.cell? ⟨gb, 3, none⟩ = some (.int .i64 0) := cell_of_row W _ 3 _ _ _ rG
              have k14 : W.cell? ⟨gb, 4, none⟩ = some (.int .u64 0) := cell_of_row W _ 4 _ _ _ rG
              have k15 : W.cell? ⟨gb, 5, none⟩ = some (.slice ga S.length gc) := cell_of_row W _ 5 _ _ _ rG
              have k16 : W.cell? ⟨gb, 6, none⟩ = some (.slice gra R.length grc) := cell_of_row W _ 6 _ _ _ rG
              have k17 : W.cell? ⟨gb, 7, none⟩ = some (.int .i64 0) := cell_of_row W _ 7 _ _ _ rG
              clear rG
              rw [if_pos (show Region.wanted _ _ = true from rfl)]
              go_wp2
              first | exact ⟨hasV (.slice ga S.length gc) (.slice gra R.length grc), rfl, Below.refl _ _, rfl⟩ | (refine ⟨hasV (.slice ga S.length gc) (.slice gra R.length grc), ?_, Below.refl _ _, rfl⟩; simp [updV, h12]; done) | exact ⟨by simp_all [updV], Below.refl _ _⟩
            case o16 =>
              obtain ⟨⟨m, sv, rv, h14, hh⟩, h15', hrest⟩ := hd
              have h15 : v 15 = hasV (.slice ga S.length gc) (.slice gra R.length grc) := h15'
              have h12 : v 12 = .bool true := by first | exact hrest | exact hrest.1 | exact hrest.2
              have HSM := Lib.hid (same_has hh (HH12.out.below hc) HFW.out HFW.out)
              rw [show (decide (S = S) && decide (R = R)) = true from by simp] at HSM
              clear hrest
              rw [h14, h15, h12]
              clear hh
              rw [if_pos (show Region.wanted _ _ = true from rfl)]
              go_wp2_with fail
              refine HSM.out.mono ?_
              rintro e W' ⟨rfl, hb'⟩
              go_wp2
              refine ⟨.bool true, ?_, hb', rfl⟩
              simp [updV, h14, h15, h12]
            case o17 =>
              have h12 : v 12 = .bool true := hd.1
              have h16 : v 16 = .bool true := hd.2
              rw [h12, h16]
              rw [if_pos (show Region.wanted _ _ = true from rfl)]
              go_wp2
              first | exact ⟨.bool true, rfl, Below.refl _ _, rfl⟩ | (refine ⟨.bool true, ?_, Below.refl _ _, rfl⟩; simp [updV, h12, h16]; done) | exact ⟨by simp_all [updV], Below.refl _ _⟩
            case o18 =>
              have h17 : v 17 = .bool true := hd.1
              clear hd
              rw [h17]
              rw [if_pos (show Region.wanted _ _ = true from rfl)]
              go_wp2
              first | exact ⟨.bool true, rfl, Below.refl _ _, rfl⟩ | (refine ⟨.bool true, ?_, Below.refl _ _, rfl⟩; simp [updV, h17]; done) | exact ⟨by simp_all [updV], Below.refl _ _⟩
          case hend =>
            intro v W hc hv
            have h18 : v 18 = .bool true := hv 18 (by decide)
            have hbx := HST12.out.bel.trans (hc.mono HST12.out.bel.size)
            have HBX := Lib.hid hbx
            clear hv hc hbx
            rw [h18]
            go_wp2_with fail
            go_ret
            exact ⟨rfl, HBX.out⟩


set_option maxRecDepth 100000 in
theorem lifted (os : Os) (started : os.Started) (H : Type) (enc : TypeId × Value → H) :
    ReturnsInHanded {} Try.checked os 5 .any (Rows.journalKeepsSpec.pre6 enc Try.prog Try.f5 Rows.journalKeepsRow.domain false) (Rows.journalKeepsSpec.post enc Try.prog Try.f5 false true false false) := by
  refine returnsInHanded_of_change (C := Try.checked) own started (by kernel_rfl) Try.func5
    (ChangeSpec.witness6 (enc := enc) (C := Try.checked) false ⟨#[], #[.slice none 0 0, .int .i64 0, .int .i64 0], []⟩ 8 (by kernel_rfl) (by kernel_rfl) (by kernel_rfl) (by kernel_rfl)) ?_
  intro W base args ds gs before hval0 hW hcnd _
  have hval : ∀ (j : Nat) t v, Try.f5.params[j]? = some t → args[j]? = some v → Value.okWide Try.prog W .any base t v := hval0
  have hW' := hW
  obtain ⟨p, q, hA0, hV, rfl, hfz, hnd⟩ := hW
  have hA : DataW.TrodAll enc Try.prog W 0 (fun _ => true) true Try.f5.params.toList args.toList ds p := hA0
  rw [Try.params5] at hA hval
  have hAk := hA
  obtain ⟨v0, vs0, d0, ds0, p0', q0, hargs, rfl, rfl, h0, r0⟩ := trodAll_cons hA
  obtain ⟨v1, vs1, d1, ds1, p1', q1, rfl, rfl, rfl, h1, r1⟩ := trodAll_cons r0
  obtain ⟨v2, vs2, d2, ds2, p2', q2, rfl, rfl, rfl, h2, r2⟩ := trodAll_cons r1
  obtain ⟨rfl, rfl, rfl⟩ := trodAll_nil r2
  obtain rfl : args = #[v0, v1, v2] := by cases args; simp_all
  obtain ⟨rfl, rfl⟩ := trodVars_none hV
  simp only [List.append_nil] at hW' hAk
  have hlt := fun x hx => hW'.lt x hx
  clear hA0 hval0
  obtain ⟨p0, n0, c0, l0, rfl, S0, b0⟩ := open_jops (okWide_slice Try.underlying40 (hval 0 40 v0 rfl rfl)) h0
  obtain ⟨a1, rfl, rfl, rfl, w1⟩ := open_int Try.underlying3 (hval 1 3 v1 rfl rfl) h1
  obtain ⟨a2, rfl, rfl, rfl, w2⟩ := open_int Try.underlying3 (hval 2 3 v2 rfl rfl) h2
  refine (walk W p0 n0 c0 l0 S0 b0 a1 w1 a2 w2).mono fun e W' ⟨he, hg⟩ => ?_
  subst he
  have hargs := trodAll_below hg _ _ _ _ (by intro t ht; simp only [List.mem_cons, List.not_mem_nil, or_false] at ht; revert t; rintro t (rfl | rfl | rfl) <;> exact ⟨by kernel_rfl, of_decide_eq_true (by kernel_rfl)⟩) hAk (fun x hx => by simpa using hlt x hx)
  exact ⟨_, rfl, _, _, _, [], _, [], hW', (trodAll_cons_mk (shut_bool Try.underlying4 _) trodAll_mk0), hargs, rfl, hg.frame _, fun h => by cases h⟩

theorem over : Rows.journalKeepsRow.holds Try.pinned (OpenSpec.ofChange Rows.journalKeepsSpec) :=
  OpenClaim.holds_of_wide 5 Try.f5 rfl rfl rfl rfl rfl rfl rfl ⟨rfl, rfl, rfl, rfl, rfl⟩ rfl rfl rfl rfl rfl (by kernel_rfl) Try.func5 (by kernel_rfl)
    (of_decide_eq_true (by kernel_rfl)) (by unfold Func.isWrapper; first | (rw [if_pos (by decide +kernel)]; kernel_rfl) | (rw [if_neg (by decide +kernel)]; exact ⟨rfl, rfl⟩))
    (fun os started H enc _ => lifted os started H enc)

theorem proved : Rows.JournalKeepsSaid :=
  over
end Go.Proofs.Ytpllbojmonfeiaa.journalKeeps
