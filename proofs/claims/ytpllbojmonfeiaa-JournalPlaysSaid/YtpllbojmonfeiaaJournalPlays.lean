/- From whatever bytes of both regions, for whatever capacity and row of steps law JournalPlays answers true: every answer, and the bytes behind each step, are as the document says. No condition. -/
import Derived.Test.YtpllbojmonfeiaaJrnPn
import Derived.Test.YtpllbojmonfeiaaJrnIn
import Derived.Test.YtpllbojmonfeiaaRegionInvV
import Derived.Test.YtpllbojmonfeiaaOpenJ
import Derived.Test.YtpllbojmonfeiaaOpenP
namespace Go.Proofs.Ytpllbojmonfeiaa.journalPlays
open Go.ChangeShapes Go.WideShapes Go.ChangeAt Go.RowKit Go.Proofs.Ytpllbojmonfeiaa Go.Proofs.Ytpllbojmonfeiaa.SumM
set_option linter.unusedVariables false
attribute [local go_sem] Oper.semAt_some
theorem frs_up {w W : World} {sv : Value} {xs : List (Int × List Nat)} (hb : Below w.heap.size w W) (h : Frs w.heap.size w sv xs) : Frs W.heap.size W sv xs := by
  rcases h.below hb with h | ⟨b, off, cap, e, hl, hc⟩
  · exact .inl h
  · exact .inr ⟨b, off, cap, e, Nat.lt_of_lt_of_le hl hb.size, fun j x hj => by
      obtain ⟨a, c, h1, h2, h3⟩ := hc j x hj
      exact ⟨a, c, h1, h2, h3.mono hb.size⟩⟩

theorem take_minl (l : List Nat) (n : Nat) : l.take (min l.length n) = l.take n := by
  rcases Nat.le_total l.length n with h | h
  · rw [Nat.min_eq_left h, List.take_length, List.take_of_length_le h]
  · rw [Nat.min_eq_right h]
theorem off_low {n : Nat} {W : World} {a : Option Addr} {m c : Nat} {l : List Nat} (h : Sl encY n W (.slice a m c) l) {own : List Nat} (ho : ∀ k ∈ own, n ≤ k) : Off own (.slice a m c) := fun ad m' c' e h0 hm => by
  cases e
  rcases h with ⟨_, a', c', e, _⟩ | ⟨b, off, cap, e, hb, _⟩
  · cases e; omega
  · cases e
    have := ho _ hm
    simp at this
    omega
/-- What stays while the document's Open is told into a block of its own: the store comes behind all but one read. -/
def PgI (w4 : World) (G : World → Value → Prop) (L : Nat → Bool) (v : Nat → Value) (W : World) : Prop := Below w4.heap.size w4 W ∧ (L 21 = true → L 20 = true ∧ L 18 = true) ∧
  (L 20 = true → ∃ b, v 20 = .pointer (some ⟨b, 0, none⟩) ∧ w4.heap.size ≤ b ∧ (L 21 = false → W.heap[b]? = some (.cells #[.slice none 0 0, .slice none 0 0, .int .i64 0, .int .i64 0, .int .u64 0, .slice none 0 0, .slice none 0 0, .int .i64 0] rjT (0, 0))) ∧
    (L 21 = true → ∃ z0 z1 z2 z3 z4 z5 z6 z7, v 18 = .agg #[z0, z1, z2, z3, z4, z5, z6, z7] ∧ W.heap[b]? = some (.cells #[z0, z1, z2, z3, z4, z5, z6, z7] rjT (0, 0)) ∧ G W (.agg #[z0, z1, z2, z3, z4, z5, z6, z7])))
theorem PgI.upd {w4 W W' : World} {G : World → Value → Prop} {L : Nat → Bool} {v : Nat → Value} (h : PgI w4 G L v W) (hG : ∀ A B v, G A v → Below A.heap.size A B → G B v) (j : Nat) (u : Value) (hb : Below W.heap.size W W') (h1 : 18 ≠ j) (h2 : 20 ≠ j) (h3 : 21 ≠ j) : PgI w4 G (updL L j) (updV v j u) W' := by
  obtain ⟨a1, a2, a3⟩ := h
  refine ⟨a1.trans (hb.mono a1.size), ?_, ?_⟩
  · rw [updL_ne _ h3, updL_ne _ h2, updL_ne _ h1]; exact a2
  · rw [updL_ne _ h2, updL_ne _ h3, updV_ne _ _ h2, updV_ne _ _ h1]
    intro q
    obtain ⟨b, e, hle, k1, k2⟩ := a3 q
    refine ⟨b, e, hle, fun q2 => ?_, fun q2 => ?_⟩
    · have k := k1 q2
      exact (hb.block b (Array.getElem?_eq_some_iff.1 k).1).trans k
    · obtain ⟨z0, z1, z2, z3, z4, z5, z6, z7, e2, k, g⟩ := k2 q2
      exact ⟨z0, z1, z2, z3, z4, z5, z6, z7, e2, (hb.block b (Array.getElem?_eq_some_iff.1 k).1).trans k, hG _ _ _ g hb⟩
theorem PgI.upd18 {w4 W : World} {G : World → Value → Prop} {L : Nat → Bool} {v : Nat → Value} (h : PgI w4 G L v W) (hL : L 18 = false) (u : Value) : PgI w4 G (updL L 18) (updV v 18 u) W := by
  obtain ⟨a1, a2, a3⟩ := h
  have h21 : L 21 = false := by
    cases hh : L 21 with
    | false => rfl
    | true => rw [(a2 hh).2] at hL; cases hL
  refine ⟨a1, ?_, ?_⟩
  · rw [updL_ne _ (show (21 : Nat) ≠ 18 by decide), h21]; intro h; cases h
  · rw [updL_ne _ (show (20 : Nat) ≠ 18 by decide), updL_ne _ (show (21 : Nat) ≠ 18 by decide), updV_ne v u (show (20 : Nat) ≠ 18 by decide)]
    intro q
    obtain ⟨b, e, hle, k1, k2⟩ := a3 q
    exact ⟨b, e, hle, k1, fun q2 => by rw [h21] at q2; cases q2⟩
theorem PgI.upd20 {w4 W : World} {G : World → Value → Prop} {L : Nat → Bool} {v : Nat → Value} (h : PgI w4 G L v W) (hL : L 20 = false) : PgI w4 G (updL L 20) (updV v 20 (.pointer (some ⟨W.heap.size, 0, none⟩))) (W.alloc (.cells #[.slice none 0 0, .slice none 0 0, .int .i64 0, .int .i64 0, .int .u64 0, .slice none 0 0, .slice none 0 0, .int .i64 0] rjT)) := by
  obtain ⟨a1, a2, a3⟩ := h
  have h21 : L 21 = false := by
    cases hh : L 21 with
    | false => rfl
    | true => rw [(a2 hh).1] at hL; cases hL
  refine ⟨a1.alloc a1.size _, ?_, ?_⟩
  · rw [updL_ne _ (show (21 : Nat) ≠ 20 by decide), h21]; intro h; cases h
  · rw [updL_self, updL_ne _ (show (21 : Nat) ≠ 20 by decide), updV_self, h21]
    intro _
    exact ⟨W.heap.size, rfl, a1.size, fun _ => World.alloc_heap_new _ _, fun q => by cases q⟩
/-- What region 9 leaves. -/
def Cut9 (w4 : World) (G : World → Value → Prop) (ER : Nat) (v12 v13 : Value) (wx : World) : Prop := ∃ (b : Nat) (z0 z1 z2 z3 z4 z5 z6 z7 : Value), v12 = .pointer (some ⟨b, 0, none⟩) ∧ v13 = .int .i64 (ER : Nat) ∧ Below w4.heap.size w4 wx ∧ w4.heap.size ≤ b ∧ wx.heap[b]? = some (.cells #[z0, z1, z2, z3, z4, z5, z6, z7] rjT (0, 0)) ∧ G wx (.agg #[z0, z1, z2, z3, z4, z5, z6, z7])
theorem PgI.upd21 {w4 W : World} {G : World → Value → Prop} {L : Nat → Bool} {v : Nat → Value} (h : PgI w4 G L v W) (hG2 : ∀ (A B : World) (v : Value) (b : Nat) (cs : Array Value), G A v → But [b] A B → A.heap[b]? = some (.cells cs rjT (0, 0)) → (∀ (i x : Nat), cs[i]? ≠ some (encY x)) → G B v) (h20 : L 20 = true) (h18 : L 18 = true) {b : Nat} {z0 z1 z2 z3 z4 z5 z6 z7 : Value} (e20 : v 20 = .pointer (some ⟨b, 0, none⟩)) (e18 : v 18 = .agg #[z0, z1, z2, z3, z4, z5, z6, z7]) (hb : w4.heap.size ≤ b) (hB : W.heap[b]? = some (.cells #[.slice none 0 0, .slice none 0 0, .int .i64 0, .int .i64 0, .int .u64 0, .slice none 0 0, .slice none 0 0, .int .i64 0] rjT (0, 0))) (hg : G W (.agg #[z0, z1, z2, z3, z4, z5, z6, z7])) :
    PgI w4 G (updL L 21) (updV v 21 undef) ((((((((W.setCell ⟨b, 0, none⟩ z0).setCell ⟨b, 1, none⟩ z1).setCell ⟨b, 2, none⟩ z2).setCell ⟨b, 3, none⟩ z3).setCell ⟨b, 4, none⟩ z4).setCell ⟨b, 5, none⟩ z5).setCell ⟨b, 6, none⟩ z6).setCell ⟨b, 7, none⟩ z7) := by
  refine ⟨set8_below h.1 hb, fun _ => ⟨?_, ?_⟩, fun _ => ⟨b, ?_, hb, fun q => ?_, fun _ => ⟨z0, z1, z2, z3, z4, z5, z6, z7, ?_, heap_set8 hB, hG2 W _ _ b _ hg (set8_but W b) hB (jdC_no none none none none 0 0 0 0 0 0 0 0 0 0 0 0)⟩⟩⟩
  · rw [updL_ne _ (show (20 : Nat) ≠ 21 by decide)]; exact h20
  · rw [updL_ne _ (show (18 : Nat) ≠ 21 by decide)]; exact h18
  · rw [updV_ne v _ (show (20 : Nat) ≠ 21 by decide)]; exact e20
  · rw [updL_self] at q; cases q
  · rw [updV_ne v _ (show (18 : Nat) ≠ 21 by decide)]; exact e18
/-- What the store of region 9 turns: a block of the document's type, that holds no bytes. -/
def Ext21 (w4 A B : World) : Prop := ∃ (b : Nat) (cs : Array Value), w4.heap.size ≤ b ∧ A.heap[b]? = some (.cells cs rjT (0, 0)) ∧ (∀ (i x : Nat), cs[i]? ≠ some (encY x)) ∧ But [b] A B

set_option maxRecDepth 100000 in
set_option maxHeartbeats 2000000 in
theorem walk (w : World) (a0 : Int) (w0 : (Lit.int .i64 a0).wf = true) (p1 : Option Addr) (n1 c1 : Nat) (l1 : List Nat) (S1 : Sl encY w.heap.size w (.slice p1 n1 c1) l1) (b1 : ∀ x ∈ l1, x < 256) (p2 : Option Addr) (n2 c2 : Nat) (l2 : List Nat) (S2 : Sl encY w.heap.size w (.slice p2 n2 c2) l2) (b2 : ∀ x ∈ l2, x < 256) (p3 : Option Addr) (n3 c3 : Nat) (l3 : List (Int × List Nat)) (S3 : Frs w.heap.size w (.slice p3 n3 c3) l3) (b3 : (∀ x ∈ l3, ∀ y ∈ x.2, y < 256) ∧ l3.length ≤ Go.maxLen) :
    Calls Try.prog 7 #[.int .i64 a0, .slice p1 n1 c1, .slice p2 n2 c2, .slice p3 n3 c3] w fun e w' => e = .returned (.bool true) ∧ Below w.heap.size w w' := by
  obtain rfl := S1.len
  obtain rfl := S2.len
  obtain rfl := S3.len
  have HS1 := Lib.hid S1
  have HS2 := Lib.hid S2
  have HS3 := Lib.hid S3
  have H1 := Lib.hid b1
  have H2 := Lib.hid b2
  have HOK := Lib.hid b3.1
  have HSM := Lib.hid (fun (W : World) (hb : Below w.heap.size w W) => jsmall_any p3 c3 l3 b3.2 W (frs_up hb S3))
  have hmx : l3.length ≤ 9223372036854775807 := by have := b3.2; unfold Go.maxLen at this; omega
  clear S1 S2 S3 b1 b2 b3
  obtain ⟨p, hp⟩ : ∃ p, l1.length = p := ⟨_, rfl⟩
  obtain ⟨q, hq⟩ : ∃ q, l2.length = q := ⟨_, rfl⟩
  obtain ⟨n, hn⟩ : ∃ n, l3.length = n := ⟨_, rfl⟩
  have HP := Lib.hid hp
  have HQ := Lib.hid hq
  have HN := Lib.hid hn
  rw [hp] at HS1 ⊢
  rw [hq] at HS2 ⊢
  rw [hn] at HS3 HSM hmx ⊢
  clear hp hq hn
  go_enter Try.func7, Try.ntmps7
  go_wp2_with fail
  refine (jAlive_any _).mono ?_
  rintro e wa ⟨rfl, hba⟩
  have HBA := Lib.hid hba
  have HSMA := Lib.hid (HSM.out wa hba)
  clear hba HSM
  go_upto_region 3 with fail
  go_cut [32] from 20 to 31 (fun cv wx => Below w.heap.size w wx ∧ (cv = .bool true ∨ (cv = .bool false ∧ p ≤ 3000 ∧ q ≤ 3000 ∧ n ≤ 30 ∧ (l3.map fun x => x.2.length).sum ≤ 20000)))
  case first =>
    by_cases g0 : 3000 < p
    · have g0i : (3000 : Int) < (p : Int) := by omega
      go_wp2_with fail
      go_meet
      exact ⟨HBA.out, .inl rfl⟩
    · have g0i : ¬ (3000 : Int) < (p : Int) := by omega
      by_cases g1 : 3000 < q
      · have g1i : (3000 : Int) < (q : Int) := by omega
        go_wp2_with fail
        go_meet
        exact ⟨HBA.out, .inl rfl⟩
      · have g1i : ¬ (3000 : Int) < (q : Int) := by omega
        go_wp2_with fail
        refine HSMA.out.mono ?_
        rintro e w2 ⟨sb, rfl, hsm, hb2⟩
        have hB2 : Below w.heap.size w w2 := HBA.out.trans (hb2.mono HBA.out.size)
        cases sb with
        | false =>
          go_wp2_with fail
          go_meet
          exact ⟨hB2, .inl rfl⟩
        | true =>
          obtain ⟨h30, hdl⟩ := hsm rfl
          rw [HN.out] at h30
          have HB2 := Lib.hid hB2
          have HDL := Lib.hid hdl
          clear hdl hsm hB2 hb2
          go_wp2_with fail
          go_meet
          exact ⟨HB2.out, .inr ⟨rfl, by omega, by omega, h30, HDL.out⟩⟩
  case rest =>
    obtain ⟨hbc, rfl | ⟨rfl, hp3, hq3, h30, hdl⟩⟩ := hcut
    · go_wp2
      go_ret
      exact ⟨rfl, hbc⟩
    have HBC := Lib.hid hbc
    have HDL := Lib.hid hdl
    have hzc := hbc.size
    clear hbc hdl HSMA HBA
    go_wp2_with fail
    refine (new_any a0 wc).mono ?_
    rintro e w1 ⟨rfl, hD1, hb1⟩
    have hb01 : Below w.heap.size w w1 := HBC.out.trans (hb1.mono hzc)
    have hL1 := Lib.hid (load_any 0 p1 p c1 l1 ⟨by rw [HP.out]; omega, H1.out⟩ w1 hD1 ((HS1.out.below hb01).mono hb01.size))
    have HB01 := Lib.hid hb01
    have hz1 := hb01.size
    clear hb01 hb1 hD1
    go_wp2_with fail
    refine hL1.out.mono ?_
    rintro e w2 ⟨rfl, own2, x2, y2, d2, bt2, s2⟩
    have hlo2 : ∀ k ∈ own2, w.heap.size ≤ k := fun k hk => by
      rcases s2 k hk with h | h
      · simp at h; omega
      · omega
    have hb02 : Below w.heap.size w w2 := HB01.out.trans (bt2.below (n := w.heap.size) (fun k hk => by simp at hk; omega) hz1)
    have hL2 := Lib.hid (load_any 1 p2 q c2 l2 ⟨by rw [HQ.out]; omega, H2.out⟩ w2 d2 ((HS2.out.below hb02).mono hb02.size))
    have HB02 := Lib.hid hb02
    have hz2 := hb02.size
    clear bt2 s2 hb02 d2 hL1
    go_wp2_with fail
    refine hL2.out.mono ?_
    rintro e w3 ⟨rfl, own3, x3, y3, d3, bt3, s3⟩
    have hlo3 : ∀ k ∈ own3, w.heap.size ≤ k := fun k hk => by
      rcases s3 k hk with h | h
      · exact hlo2 k h
      · omega
    have hb03 : Below w.heap.size w w3 := HB02.out.trans (bt3.below (n := w.heap.size) hlo2 hz2)
    obtain ⟨D, hD⟩ : ∃ D, loadS (loadS (newD a0) 0 l1) 1 l2 = D := ⟨_, rfl⟩
    rw [hD] at d3
    obtain ⟨C, hC⟩ : ∃ C, capN a0 = C := ⟨_, rfl⟩
    have hDf : D.down = false ∧ D.left = 9223372036854775807 ∧ D.r0 = l1.take C ∧ D.r1 = l2.take C ∧ D.cap = C := by
      rw [← hD, ← hC]
      refine ⟨rfl, rfl, ?_, ?_, rfl⟩
      · show l1.take (min l1.length (capN a0)) = l1.take (capN a0)
        exact take_minl _ _
      · show l2.take (min l2.length (capN a0)) = l2.take (capN a0)
        exact take_minl _ _
    obtain ⟨f1, f2, f3, f4, f5⟩ := hDf
    have hr0l : D.r0.length ≤ 3000 := by rw [f3, List.length_take, HP.out]; omega
    have hr1l : D.r1.length ≤ 3000 := by rw [f4, List.length_take, HQ.out]; omega
    have hCm : C ≤ 1048576 := by rw [← f5]; exact d3.ok.cap
    have HOP := Lib.hid (openedW_any w3 d3 f1 (by omega))
    have HB03 := Lib.hid hb03
    have HLO3 := Lib.hid hlo3
    have HF3 := Lib.hid f3
    have HF4 := Lib.hid f4
    have HF5 := Lib.hid f5
    have hz3 := hb03.size
    clear bt3 s3 hb03 hlo3 hlo2 d3 hD hL2 f3 f4 f5 hC
    go_wp2_with fail
    refine HOP.out.mono ?_
    rintro e w4 hOW
    have hX : ∃ (jv : Value) (ER : Nat) (G : World → Value → Prop) (E own4 : List Nat) (x4 y4 : Value) (D4 : DevS), e = .returned (.tuple #[jv, .int .i64 (ER : Nat)]) ∧ Dev own4 w4 wc.heap.size D4 x4 y4 ∧ D4.cap = C ∧ But own3 w3 w4 ∧ (∀ k ∈ E, w.heap.size ≤ k ∧ k < w4.heap.size) ∧ (∀ A B v, G A v → Below A.heap.size A B → G B v) ∧ (∀ (A B : World) (v : Value) (b : Nat) (cs : Array Value), G A v → But [b] A B → A.heap[b]? = some (.cells cs rjT (0, 0)) → (∀ (i x : Nat), cs[i]? ≠ some (encY x)) → G B v) ∧ (∀ W v, G W v → IsJd v) ∧
        (∀ (W : World) e' W', OpD E W D.r0 D.r1 C e' W' → ∃ z0 z1 z2 z3 z4 z5 z6 z7, e' = .returned (.tuple #[.agg #[z0, z1, z2, z3, z4, z5, z6, z7], .int .i64 (ER : Nat)]) ∧ G W' (.agg #[z0, z1, z2, z3, z4, z5, z6, z7]) ∧ Below W.heap.size W W') ∧
        ((ER = 6 ∧ jv = .pointer none) ∨ (ER = 0 ∧ jv = .pointer (some ⟨w3.heap.size, 0, none⟩) ∧ E = w3.heap.size :: own4 ∧ ∃ r a c f, JOk D4 r a c f ∧ JrnAt w4 w3.heap.size wc.heap.size (r : Nat) a c f ∧ w3.heap.size ∉ own4 ∧ D.left ≤ D4.left + (D.r0.length + D.r1.length + 16) ∧ G = fun W v => DocJ E W v D4.r0 D4.r1 C r a f)) := by
      rcases hOW with ⟨D2, r, a, c, f, own4, x4, y4, rfl, hJ, d4, hj4, hnot, bt4, s4, hcap, hlf, hso⟩ | ⟨rfl, hk1, hk2, hc16, bt4, own4, x4, y4, d4⟩
      · refine ⟨_, 0, fun W v => DocJ (w3.heap.size :: own4) W v D2.r0 D2.r1 C r a f, w3.heap.size :: own4, own4, x4, y4, D2, rfl, d4, hcap.trans HF5.out, bt4, ?_, fun A B v h hb => h.below hb, fun A B v b cs h hb hW hv => h.box hb hW hv, (fun W v h => h.isJd), ?_, .inr ⟨rfl, rfl, rfl, r, a, c, f, hJ, hj4, hnot, hlf, rfl⟩⟩
        · intro k hk
          rcases List.mem_cons.1 hk with rfl | hk
          · exact ⟨hz3, (Array.getElem?_eq_some_iff.1 hj4).1⟩
          · exact ⟨(s4 k hk).elim (fun h => HLO3.out k h) (fun h => by omega), d4.lt k hk⟩
        · intro W e' W' h
          have hF5 := HF5.out
          rw [← hF5] at h
          obtain ⟨v, e1, h1, hb⟩ := opD_ok hso h
          obtain ⟨p0, p1, ps, pr, n0, c0, n1, c1, ns, cs, nr, cr, e2, h2⟩ := h1.val
          subst e2
          rw [hF5] at h1
          refine ⟨_, _, _, _, _, _, _, _, e1, ?_, hb⟩
          rw [← hF5] at h1 ⊢
          exact h1
      · refine ⟨_, 6, fun _ v => IsJd v, [], own4, x4, y4, (openS D).1, rfl, d4, (openS_cap D).trans HF5.out, bt4, (fun k hk => (by cases hk)), (fun _ _ _ h _ => h), (fun _ _ _ _ _ h _ _ _ => h), (fun _ _ h => h), ?_, .inl ⟨rfl, rfl⟩⟩
        intro W e' W' h
        rw [← HF5.out] at h
        obtain ⟨v, hv, e1, hb⟩ := opD_none hk1 hk2 hc16 h
        have hv0 := hv
        obtain ⟨p0, p1, ps, pr, n0, c0, n1, c1, ns, cs, nr, cr, i2, i3, i4, i7, ev⟩ := hv
        subst ev
        exact ⟨_, _, _, _, _, _, _, _, e1, hv0, hb⟩
    obtain ⟨jv, ER, G, E, own4, x4, y4, D4, rfl, d4, hcap4, bt4, hE, hG, hG2, hG3, hdoc, hcase⟩ := hX
    have hb04 : Below w.heap.size w w4 := HB03.out.trans (bt4.below (n := w.heap.size) (fun k hk => HLO3.out k hk) hz3)
    have hz4 := hb04.size
    obtain ⟨m1, hm1⟩ : ∃ m, min p C = m := ⟨_, rfl⟩
    obtain ⟨m2, hm2⟩ : ∃ m, min q C = m := ⟨_, rfl⟩
    have hOPN : ∀ W, Below w4.heap.size w4 W → Calls Try.prog 29 #[.slice p1 m1 c1, .slice p2 m2 c2, .int .i64 (C : Nat)] W fun e' W' => ∃ z0 z1 z2 z3 z4 z5 z6 z7, e' = .returned (.tuple #[.agg #[z0, z1, z2, z3, z4, z5, z6, z7], .int .i64 (ER : Nat)]) ∧ G W' (.agg #[z0, z1, z2, z3, z4, z5, z6, z7]) ∧ Below W.heap.size W W' := by
      intro W hb
      have hb2 : Below w.heap.size w W := hb04.trans (hb.mono hz4)
      have q1 : D.r0 = l1.take m1 := by rw [HF3.out, ← hm1, ← HP.out, take_minl]
      have q2 : D.r1 = l2.take m2 := by rw [HF4.out, ← hm2, ← HQ.out, take_minl]
      have s1 := (HS1.out.take (k := m1) (by omega))
      have s2 := (HS2.out.take (k := m2) (by omega))
      rw [← q1] at s1
      rw [← q2] at s2
      have o1 : Off E (.slice p1 m1 c1) := off_low s1 (fun k hk => (hE k hk).1)
      have o2 : Off E (.slice p2 m2 c2) := off_low s2 (fun k hk => (hE k hk).1)
      refine (jopen_of jrd_any p1 p2 m1 c1 m2 c2 D.r0 D.r1 ?_ ?_ C hCm W ((s1.below hb2).mono hb2.size) ((s2.below hb2).mono hb2.size) E (fun k hk => Nat.lt_of_lt_of_le (hE k hk).2 hb.size) o1 o2).mono fun e' W' h => hdoc W e' W' h
      · rw [q1]; exact ⟨by rw [List.length_take, HP.out]; omega, fun x hx => H1.out x (List.mem_of_mem_take (i := m1) hx)⟩
      · rw [q2]; exact ⟨by rw [List.length_take, HQ.out]; omega, fun x hx => H2.out x (List.mem_of_mem_take (i := m2) hx)⟩
    have hCP : ∀ W, Below w4.heap.size w4 W → Calls Try.prog 12 #[.pointer (some ⟨wc.heap.size, 0, none⟩)] W fun e' W' => e' = .returned (.int .i64 (C : Nat)) ∧ W = W' := by
      intro W hb
      have h := capacity_any W (d4.below hb).blk
      rw [hcap4] at h
      exact h
    have HLE1 := Lib.hid (show m1 ≤ c1 by have := HS1.out.capb; omega)
    have HLE2 := Lib.hid (show m2 ≤ c2 by have := HS2.out.capb; omega)
    have HM1 := Lib.hid hm1
    have HM2 := Lib.hid hm2
    have HOPN := Lib.hid hOPN
    have HCP := Lib.hid hCP
    have HG := Lib.hid hG
    have HG2 := Lib.hid hG2
    have HG3 := Lib.hid hG3
    have HD4 := Lib.hid d4
    have HC4 := Lib.hid hcap4
    have HB04 := Lib.hid hb04
    have HCASE := Lib.hid hcase
    have HE := Lib.hid hE
    clear hOPN hCP hG hG2 hG3 d4 hcap4 hb04 hcase hE hdoc bt4 hm1 hm2 HOP
    obtain ⟨wd, hwd⟩ : ∃ x, x = wc := ⟨_, rfl⟩
    subst hwd
    go_upto_region 9 with fail
    go_cut [12, 13] from 46 to 65 (fun v12 v13 wx => Cut9 w4 G ER v12 v13 wx)
    case first =>
      refine region_invV (l := [_, _, _, _, _, _, _, _, _, _, _, _, _, _, _, _, _, _, _, _, _, _, _]) (by kernel_rfl) (by decide +kernel) (fun v => { tmps := #[Value.int IntKind.i64 a0, Value.slice p1 p c1, Value.slice p2 q c2, Value.slice p3 n c3, undef, undef, undef, undef, Value.bool false, Value.pointer (some ⟨wd.heap.size, 0, none⟩), jv, Value.int IntKind.i64 (ER : Int), v 20, v 22, undef, undef, undef, undef, Value.bool true, Value.bool false, u20, u21, u22, u23, u24, u25, u26, u27, u28, u29, u30, u31, Value.bool false, Value.int IntKind.i64 a0, Value.pointer (some ⟨wd.heap.size, 0, none⟩), Value.pointer (some ⟨wd.heap.size, 0, none⟩), Value.slice p1 p c1, Value.tuple #[], Value.pointer (some ⟨wd.heap.size, 0, none⟩), Value.slice p2 q c2, Value.tuple #[], Value.tuple #[jv, Value.int IntKind.i64 (ER : Int)], Value.pointer (some ⟨wd.heap.size, 0, none⟩), Value.tuple #[jv, Value.int IntKind.i64 (ER : Int)], jv, Value.int IntKind.i64 (ER : Int), v 17, v 0, v 1, v 2, v 3, v 4, v 5, v 6, v 7, v 8, v 9, v 10, v 11, v 12, v 13, v 14, v 15, v 16, v 18, v 19, undef, undef, undef, undef, undef, undef, undef, undef, undef, undef, undef, undef, undef, undef, undef, undef, undef, undef, undef, undef, undef, undef, undef, undef, undef, undef, undef, undef, undef, undef, undef, undef, undef, undef, undef, undef, undef, undef, undef, undef, undef, undef, undef, undef, undef, undef, undef, undef, undef, undef, undef, undef, undef, undef, undef, undef, undef, undef, undef, undef, undef, undef, undef, undef, undef, undef, undef, undef, undef, undef, undef, undef, undef, undef, undef, undef, undef, undef], defers := [] }) (PgI w4 G) (fun i' u W => match i' with
      | 0 => u = .slice p1 p c1
      | 1 => u = .slice p1 p c1
      | 2 => u = .int .i64 (p : Nat)
      | 3 => u = .pointer (some ⟨wd.heap.size, 0, none⟩)
      | 4 => u = .int .i64 (C : Nat)
      | 5 => u = .int .i64 (m1 : Nat)
      | 6 => u = .slice p1 m1 c1
      | 7 => u = .slice p2 q c2
      | 8 => u = .slice p2 q c2
      | 9 => u = .int .i64 (q : Nat)
      | 10 => u = .pointer (some ⟨wd.heap.size, 0, none⟩)
      | 11 => u = .int .i64 (C : Nat)
      | 12 => u = .int .i64 (m2 : Nat)
      | 13 => u = .slice p2 m2 c2
      | 14 => u = .pointer (some ⟨wd.heap.size, 0, none⟩)
      | 15 => u = .int .i64 (C : Nat)
      | 16 => ∃ z0 z1 z2 z3 z4 z5 z6 z7, u = .tuple #[.agg #[z0, z1, z2, z3, z4, z5, z6, z7], .int .i64 (ER : Nat)] ∧ G W (.agg #[z0, z1, z2, z3, z4, z5, z6, z7])
      | 17 => ∃ z0 z1 z2 z3 z4 z5 z6 z7, u = .tuple #[.agg #[z0, z1, z2, z3, z4, z5, z6, z7], .int .i64 (ER : Nat)] ∧ G W (.agg #[z0, z1, z2, z3, z4, z5, z6, z7])
      | 18 => ∃ z0 z1 z2 z3 z4 z5 z6 z7, u = .agg #[z0, z1, z2, z3, z4, z5, z6, z7] ∧ G W (.agg #[z0, z1, z2, z3, z4, z5, z6, z7])
      | 19 => u = .int .i64 (ER : Nat)
      | 20 => ∃ b, u = .pointer (some ⟨b, 0, none⟩)
      | 22 => u = .int .i64 (ER : Nat)
        | _ => True) (fun j A B => if j = 21 then Ext21 w4 A B else Below A.heap.size A B) ?hV (fun _ => undef) ?h0 ?hop ?hend
      case h0 => exact ⟨(Below.refl _ w4).drew, (fun h => (by cases h)), (fun h => (by cases h))⟩
      case hV =>
        intro i j u A B hij h hx
        by_cases hj : j = 21
        · rw [if_pos hj] at hx
          obtain ⟨b, cs, hb1, hb2, hb3, hb4⟩ := hx
          match i, h with
          | 0, h => exact h
          | 1, h => exact h
          | 2, h => exact h
          | 3, h => exact h
          | 4, h => exact h
          | 5, h => exact h
          | 6, h => exact h
          | 7, h => exact h
          | 8, h => exact h
          | 9, h => exact h
          | 10, h => exact h
          | 11, h => exact h
          | 12, h => exact h
          | 13, h => exact h
          | 14, h => exact h
          | 15, h => exact h
          | 16, h => obtain ⟨z0, z1, z2, z3, z4, z5, z6, z7, h1, h2⟩ := h; exact ⟨z0, z1, z2, z3, z4, z5, z6, z7, h1, HG2.out A B _ b cs h2 hb4 hb2 hb3⟩
          | 17, h => obtain ⟨z0, z1, z2, z3, z4, z5, z6, z7, h1, h2⟩ := h; exact ⟨z0, z1, z2, z3, z4, z5, z6, z7, h1, HG2.out A B _ b cs h2 hb4 hb2 hb3⟩
          | 18, h => obtain ⟨z0, z1, z2, z3, z4, z5, z6, z7, h1, h2⟩ := h; exact ⟨z0, z1, z2, z3, z4, z5, z6, z7, h1, HG2.out A B _ b cs h2 hb4 hb2 hb3⟩
          | 19, h => exact h
          | 20, h => exact h
          | 21, h => trivial
          | 22, h => exact h
          | n + 23, h => trivial
        · rw [if_neg hj] at hx
          match i, h with
          | 0, h => exact h
          | 1, h => exact h
          | 2, h => exact h
          | 3, h => exact h
          | 4, h => exact h
          | 5, h => exact h
          | 6, h => exact h
          | 7, h => exact h
          | 8, h => exact h
          | 9, h => exact h
          | 10, h => exact h
          | 11, h => exact h
          | 12, h => exact h
          | 13, h => exact h
          | 14, h => exact h
          | 15, h => exact h
          | 16, h => obtain ⟨z0, z1, z2, z3, z4, z5, z6, z7, h1, h2⟩ := h; exact ⟨z0, z1, z2, z3, z4, z5, z6, z7, h1, HG.out A B _ h2 hx⟩
          | 17, h => obtain ⟨z0, z1, z2, z3, z4, z5, z6, z7, h1, h2⟩ := h; exact ⟨z0, z1, z2, z3, z4, z5, z6, z7, h1, HG.out A B _ h2 hx⟩
          | 18, h => obtain ⟨z0, z1, z2, z3, z4, z5, z6, z7, h1, h2⟩ := h; exact ⟨z0, z1, z2, z3, z4, z5, z6, z7, h1, HG.out A B _ h2 hx⟩
          | 19, h => exact h
          | 20, h => exact h
          | 21, h => trivial
          | 22, h => exact h
          | n + 23, h => trivial
      case hop =>
        simp only [AllDoV]
        refine ⟨?o0, ?o1, ?o2, ?o3, ?o4, ?o5, ?o6, ?o7, ?o8, ?o9, ?o10, ?o11, ?o12, ?o13, ?o14, ?o15, ?o16, ?o17, ?o18, ?o19, ?o20, ?o21, ?o22, trivial⟩
        all_goals intro L v W hI hLf hd Q hQ
        all_goals simp [Region.binds] at hd
        all_goals rw [if_pos (show Region.wanted _ _ = true from rfl)]
        case o0 =>
          go_wp2
          refine ⟨.slice p1 p c1, ?_, Below.refl _ _, rfl, hI.upd HG.out 0 _ (Below.refl _ _) (by decide) (by decide) (by decide)⟩
          simp [updV]
        case o1 =>
          go_wp2
          refine ⟨.slice p1 p c1, ?_, Below.refl _ _, rfl, hI.upd HG.out 1 _ (Below.refl _ _) (by decide) (by decide) (by decide)⟩
          simp [updV]
        case o2 =>
          have h1 := hd.2
          go_wp2
          refine ⟨.int .i64 (p : Nat), ?_, Below.refl _ _, rfl, hI.upd HG.out 2 _ (Below.refl _ _) (by decide) (by decide) (by decide)⟩
          simp [updV, h1]
        case o3 =>
          go_wp2
          refine ⟨.pointer (some ⟨wd.heap.size, 0, none⟩), ?_, Below.refl _ _, rfl, hI.upd HG.out 3 _ (Below.refl _ _) (by decide) (by decide) (by decide)⟩
          simp [updV]
        case o4 =>
          have h1 : v 3 = .pointer (some ⟨wd.heap.size, 0, none⟩) := by simp_all
          have hcp := HCP.out W hI.1
          go_wp2_with fail
          refine hcp.mono ?_
          rintro e W' ⟨rfl, rfl⟩
          go_wp2
          refine ⟨.int .i64 (C : Nat), ?_, Below.refl _ _, rfl, hI.upd HG.out 4 _ (Below.refl _ _) (by decide) (by decide) (by decide)⟩
          simp [updV, h1]
        case o5 =>
          have h1 : v 2 = .int .i64 (p : Nat) := by simp_all
          have h2 : v 4 = .int .i64 (C : Nat) := by simp_all
          have hmn := HM1.out
          go_wp2
          refine ⟨.int .i64 (m1 : Nat), ?_, Below.refl _ _, rfl, hI.upd HG.out 5 _ (Below.refl _ _) (by decide) (by decide) (by decide)⟩
          simp [updV, h1, h2]
          all_goals (try omega)
        case o6 =>
          have h1 : v 0 = .slice p1 p c1 := by simp_all
          have h2 : v 5 = .int .i64 (m1 : Nat) := by simp_all
          have h3 : (0 : Int) ≤ (m1 : Int) := by omega
          have h4 : (m1 : Int) ≤ (c1 : Int) := by have := HLE1.out; omega
          go_wp2
          refine ⟨.slice p1 m1 c1, ?_, Below.refl _ _, rfl, hI.upd HG.out 6 _ (Below.refl _ _) (by decide) (by decide) (by decide)⟩
          simp [updV, h1, h2]
        case o7 =>
          go_wp2
          refine ⟨.slice p2 q c2, ?_, Below.refl _ _, rfl, hI.upd HG.out 7 _ (Below.refl _ _) (by decide) (by decide) (by decide)⟩
          simp [updV]
        case o8 =>
          go_wp2
          refine ⟨.slice p2 q c2, ?_, Below.refl _ _, rfl, hI.upd HG.out 8 _ (Below.refl _ _) (by decide) (by decide) (by decide)⟩
          simp [updV]
        case o9 =>
          have h1 := hd.2
          go_wp2
          refine ⟨.int .i64 (q : Nat), ?_, Below.refl _ _, rfl, hI.upd HG.out 9 _ (Below.refl _ _) (by decide) (by decide) (by decide)⟩
          simp [updV, h1]
        case o10 =>
          go_wp2
          refine ⟨.pointer (some ⟨wd.heap.size, 0, none⟩), ?_, Below.refl _ _, rfl, hI.upd HG.out 10 _ (Below.refl _ _) (by decide) (by decide) (by decide)⟩
          simp [updV]
        case o11 =>
          have h1 : v 10 = .pointer (some ⟨wd.heap.size, 0, none⟩) := by simp_all
          have h4 : v 4 = .int .i64 (C : Nat) := by simp_all
          have hcp := HCP.out W hI.1
          go_wp2_with fail
          refine hcp.mono ?_
          rintro e W' ⟨rfl, rfl⟩
          go_wp2
          refine ⟨.int .i64 (C : Nat), ?_, Below.refl _ _, rfl, hI.upd HG.out 11 _ (Below.refl _ _) (by decide) (by decide) (by decide)⟩
          simp [updV, h1, h4]
        case o12 =>
          have h1 : v 9 = .int .i64 (q : Nat) := by simp_all
          have h2 : v 11 = .int .i64 (C : Nat) := by simp_all
          have hmn := HM2.out
          go_wp2
          refine ⟨.int .i64 (m2 : Nat), ?_, Below.refl _ _, rfl, hI.upd HG.out 12 _ (Below.refl _ _) (by decide) (by decide) (by decide)⟩
          simp [updV, h1, h2]
          all_goals (try omega)
        case o13 =>
          have h1 : v 7 = .slice p2 q c2 := by simp_all
          have h2 : v 12 = .int .i64 (m2 : Nat) := by simp_all
          have h3 : (0 : Int) ≤ (m2 : Int) := by omega
          have h4 : (m2 : Int) ≤ (c2 : Int) := by have := HLE2.out; omega
          go_wp2
          refine ⟨.slice p2 m2 c2, ?_, Below.refl _ _, rfl, hI.upd HG.out 13 _ (Below.refl _ _) (by decide) (by decide) (by decide)⟩
          simp [updV, h1, h2]
        case o14 =>
          go_wp2
          refine ⟨.pointer (some ⟨wd.heap.size, 0, none⟩), ?_, Below.refl _ _, rfl, hI.upd HG.out 14 _ (Below.refl _ _) (by decide) (by decide) (by decide)⟩
          simp [updV]
        case o15 =>
          have h1 : v 14 = .pointer (some ⟨wd.heap.size, 0, none⟩) := by simp_all
          have h4 : v 11 = .int .i64 (C : Nat) := by simp_all
          have hcp := HCP.out W hI.1
          go_wp2_with fail
          refine hcp.mono ?_
          rintro e W' ⟨rfl, rfl⟩
          go_wp2
          refine ⟨.int .i64 (C : Nat), ?_, Below.refl _ _, rfl, hI.upd HG.out 15 _ (Below.refl _ _) (by decide) (by decide) (by decide)⟩
          simp [updV, h1, h4]
        case o16 =>
          have h1 : v 6 = .slice p1 m1 c1 := by simp_all
          have h2 : v 13 = .slice p2 m2 c2 := by simp_all
          have h3 : v 15 = .int .i64 (C : Nat) := by simp_all
          have hop := HOPN.out W hI.1
          go_wp2_with fail
          refine hop.mono ?_
          rintro e W' ⟨z0, z1, z2, z3, z4, z5, z6, z7, rfl, hg, hb'⟩
          go_wp2
          have hI2 := hI.upd HG.out 16 (.tuple #[.agg #[z0, z1, z2, z3, z4, z5, z6, z7], .int .i64 (ER : Nat)]) hb' (by decide) (by decide) (by decide)
          first | refine ⟨.tuple #[.agg #[z0, z1, z2, z3, z4, z5, z6, z7], .int .i64 (ER : Nat)], ?_, hb', ⟨z0, z1, z2, z3, z4, z5, z6, z7, rfl, hg⟩, hI2⟩ | refine ⟨.tuple #[.agg #[z0, z1, z2, z3, z4, z5, z6, z7], .int .i64 (ER : Nat)], ?_, ⟨z0, z1, z2, z3, z4, z5, z6, z7, rfl, hg⟩, hI2⟩
          simp [updV, h1, h2, h3]
        case o17 =>
          obtain ⟨_, z0, z1, z2, z3, z4, z5, z6, z7, h1, hg⟩ := hd
          go_wp2
          refine ⟨.tuple #[.agg #[z0, z1, z2, z3, z4, z5, z6, z7], .int .i64 (ER : Nat)], ?_, Below.refl _ _, ⟨z0, z1, z2, z3, z4, z5, z6, z7, rfl, hg⟩, hI.upd HG.out 17 _ (Below.refl _ _) (by decide) (by decide) (by decide)⟩
          simp [updV, h1]
        case o18 =>
          obtain ⟨_, z0, z1, z2, z3, z4, z5, z6, z7, h1, hg⟩ := hd
          go_wp2
          refine ⟨.agg #[z0, z1, z2, z3, z4, z5, z6, z7], ?_, Below.refl _ _, ⟨z0, z1, z2, z3, z4, z5, z6, z7, rfl, hg⟩, hI.upd18 hLf _⟩
          simp [updV, h1]
        case o19 =>
          obtain ⟨_, z0, z1, z2, z3, z4, z5, z6, z7, h1, hg⟩ := hd
          go_wp2
          refine ⟨.int .i64 (ER : Nat), ?_, Below.refl _ _, rfl, hI.upd HG.out 19 _ (Below.refl _ _) (by decide) (by decide) (by decide)⟩
          simp [updV, h1]
        case o20 =>
          have hz := zjd
          go_wp2
          refine ⟨.pointer (some ⟨W.heap.size, 0, none⟩), ?_, (Below.refl _ _).alloc (Nat.le_refl _) _, ⟨W.heap.size, rfl⟩, hI.upd20 hLf⟩
          simp [updV]
        case o21 =>
          obtain ⟨⟨hL20, b, h20⟩, ⟨hL18, z0, z1, z2, z3, z4, z5, z6, z7, h18, hg⟩, hrest⟩ := hd
          obtain ⟨ja, jb, jc, jd, je, jf, jg, jh, ji, jj, jk, jl, jm, jn, jo, jp, ez⟩ := HG3.out _ _ hg
          cases ez
          obtain ⟨b', e', hle, k1, _⟩ := hI.2.2 hL20
          have hBZ := k1 hLf
          obtain ⟨n0, n1, n2, n3, n4, n5, n6, n7, nf⟩ := cellsJ8 hBZ
          have nf0 := nf 0
          have nf1 := nf 1
          have nf2 := nf 2
          have nf3 := nf 3
          have nf4 := nf 4
          have nf5 := nf 5
          have nf6 := nf 6
          have nf7 := nf 7
          have HIG := Lib.hid (hI.upd21 HG2.out hL20 hL18 e' h18 hle hBZ hg)
          have HBZ := Lib.hid hBZ
          have HLE := Lib.hid hle
          have HI := Lib.hid hI
          clear nf hI hBZ hle hg k1 h20 hrest
          rw [e', h18]
          go_wp2
          have hbE := set8_but W b' (v0 := .slice ja je jf) (v1 := .slice jb jg jh) (v2 := .int .i64 jm) (v3 := .int .i64 jn) (v4 := .int .u64 jo) (v5 := .slice jc ji jj) (v6 := .slice jd jk jl) (v7 := .int .i64 jp)
          have hx : Ext21 w4 W ((((((((W.setCell ⟨b', 0, none⟩ (.slice ja je jf)).setCell ⟨b', 1, none⟩ (.slice jb jg jh)).setCell ⟨b', 2, none⟩ (.int .i64 jm)).setCell ⟨b', 3, none⟩ (.int .i64 jn)).setCell ⟨b', 4, none⟩ (.int .u64 jo)).setCell ⟨b', 5, none⟩ (.slice jc ji jj)).setCell ⟨b', 6, none⟩ (.slice jd jk jl)).setCell ⟨b', 7, none⟩ (.int .i64 jp)) := ⟨b', _, HLE.out, HBZ.out, jdC_no none none none none 0 0 0 0 0 0 0 0 0 0 0 0, hbE⟩
          first | refine ⟨undef, ?_, hx, HIG.out⟩ | refine ⟨undef, ?_, hx, trivial, HIG.out⟩
          simp [updV, e', h18]
        case o22 =>
          have h1 : v 19 = .int .i64 (ER : Nat) := by simp_all
          clear hd
          go_wp2
          refine ⟨.int .i64 (ER : Nat), ?_, Below.refl _ _, rfl, hI.upd HG.out 22 _ (Below.refl _ _) (by decide) (by decide) (by decide)⟩
          simp [updV, h1]
      case hend =>
        intro L v W hI hv
        obtain ⟨xb, e20, hle, _, k2⟩ := hI.2.2 (hv 20 (by decide)).1
        obtain ⟨z0, z1, z2, z3, z4, z5, z6, z7, e18, hBX, hGX⟩ := k2 (hv 21 (by decide)).1
        have e22 : v 22 = .int .i64 (ER : Nat) := (hv 22 (by decide)).2
        have hCut : Cut9 w4 G ER (v 20) (v 22) W := ⟨xb, z0, z1, z2, z3, z4, z5, z6, z7, e20, e22, hI.1, hle, hBX, hGX⟩
        clear hv hI k2 hBX hGX e18 e20 e22
        dsimp only
        go_wp2_with fail
        go_meet
        exact hCut
    case rest =>
      obtain ⟨xb, z0, z1, z2, z3, z4, z5, z6, z7, rfl, rfl, hbW, hle, hBX, hGX⟩ := hcut
      have HBF := Lib.hid (HB04.out.trans (hbW.mono HB04.out.size))
      rcases HCASE.out with ⟨hER, hjv⟩ | ⟨hER, hjv, hEE, r, a, c, f, hok, hj4, hno, hlf, hGG⟩
      · subst hER hjv
        clear hbW hle hBX hGX HOPN HCP HG HG2 HG3 HD4 HC4 HB04 HCASE HE
        go_wp2
        go_ret
        exact ⟨rfl, HBF.out⟩
      subst hER hjv
      have hPl : PlI w wd.heap.size xb w3.heap.size C 9223372036854765807 wc := by
        subst hEE hGG
        refine ⟨own4, D4, r, a, c, f, ⟨⟨x4, y4, HD4.out.below hbW⟩, (hbW.block _ hj4.lt).trans hj4, hno, hok, fun k hk => (HE.out k (List.mem_cons_of_mem _ hk)).1, hz3, HBF.out⟩, HC4.out, by omega, hok.age_le, ⟨_, hBX, hGX⟩, fun hm => ?_, Nat.le_trans HB04.out.size hle⟩
        have := (HE.out xb hm).2
        omega
      have HPL := Lib.hid hPl
      clear hPl hbW hle hBX hGX HOPN HCP HG HG2 HG3 HD4 HC4 HB04 HCASE HE hok hj4 hno hlf HF3 HF4 HF5 HBF HB03 HB02 HB01 HLO3 HS1 HS2 HLE1 HLE2 HM1 HM2 hEE hGG HBC
      obtain ⟨b, hbb⟩ : ∃ k, wd.heap.size = k := ⟨_, rfl⟩
      obtain ⟨jb, hjj⟩ : ∃ k, w3.heap.size = k := ⟨_, rfl⟩
      rw [hbb, hjj] at HPL
      rw [hbb, hjj]
      clear hbb hjj
      go_wp2_with fail
      go_loopw [10, 75] (fun jv i wr => ∃ (k jb : Nat), k ≤ n ∧ jv = .pointer (some ⟨jb, 0, none⟩) ∧ i = .int .i64 k ∧ PlI w b xb jb C (9223372036854765807 - 4000000 * k) wr) (fun _ i _ => n - (intOf i).toNat)
      case atStart => exact ⟨0, jb, Nat.zero_le _, rfl, rfl, HPL.out⟩
      case round =>
        obtain ⟨k, jb, hk, rfl, rfl, hP⟩ := hrel
        obtain ⟨wo, hwo⟩ : ∃ wo, wo = wr := ⟨_, rfl⟩
        subst hwo
        clear HPL
        obtain ⟨own, D, r, a, c, f, hst, hcap, hK, ha, ⟨cs, hXb, hdoc⟩, hxo, hxw⟩ := hP
        obtain ⟨p0, p1, ps, pr, m0, d0, m1, d1, ms, ds, mr, dr, ecs, hd0, hd1, hds, hdr, ho0, ho1, hos⟩ := hdoc.val
        cases ecs
        by_cases hlt : k < n
        rotate_left
        · obtain rfl : k = n := by omega
          have hki : ¬ (k : Int) < k := by omega
          have HSM := Lib.hid (jsame_any hst _ (by rw [hcap]; exact hdoc))
          obtain ⟨n0, n1, n2, n3, n4, n5, n6, n7, _⟩ := cellsJ8 hXb
          have HBE := Lib.hid hst.bel
          clear hst hXb hdoc hd0 hd1 hds hdr ho0 ho1 hos
          go_wp2_with fail
          refine HSM.out.mono ?_
          rintro e w9 ⟨rfl, hb9⟩
          have hbF := HBE.out.trans (hb9.mono HBE.out.size)
          clear hb9
          go_wp2
          go_ret
          exact ⟨rfl, hbF⟩
        obtain ⟨x, hx⟩ : ∃ x, l3[k]? = some x := ⟨l3[k]'(by rw [HN.out]; exact hlt), List.getElem?_eq_getElem _⟩
        obtain ⟨pb, off, va, vc, rfl, hpb, e0, e1, eS⟩ := HS3.out.at_ hx
        have hxm := List.mem_of_getElem? hx
        have hbr := hst.bel
        have cf0 := (hbr.cell (p := ⟨pb, off + k * 2, none⟩) hpb).trans e0
        have cf1 := (hbr.cell (p := ⟨pb, off + k * 2 + 1, none⟩) hpb).trans e1
        have hki : (k : Int) < n := by omega
        have hk0 : (0 : Int) ≤ k := by omega
        obtain ⟨kd, dt⟩ := x
        have hq20 : dt.length ≤ 20000 := Nat.le_trans (sum_mem (List.mem_map.2 ⟨(kd, dt), hxm, rfl⟩)) HDL.out
        have HDB : Hid (Bytes dt) := Lib.hid ⟨by omega, HOK.out (kd, dt) hxm⟩
        dsimp only at eS cf0 cf1
        obtain ⟨q2, hq2⟩ : ∃ q, dt.length = q := ⟨_, rfl⟩
        rw [hq2] at cf1 eS hq20
        have HQ2 := Lib.hid hq2
        have hA : Below wo.heap.size wo (wo.alloc (.cells #[.int .i64 kd, .slice va q2 vc] 43)) := (Below.refl _ _).alloc (Nat.le_refl _) _
        obtain ⟨wA, hwA⟩ : ∃ wA, wo.alloc (.cells #[.int .i64 kd, .slice va q2 vc] 43) = wA := ⟨_, rfl⟩
        have hEA : wA.heap[wo.heap.size]? = some (.cells #[.int .i64 kd, .slice va q2 vc] 43 (0, 0)) := by rw [← hwA]; exact World.alloc_heap_new _ _
        rw [hwA] at hA
        have hxz : xb < wo.heap.size := (Array.getElem?_eq_some_iff.1 hXb).1
        have hstA := hst.below hA
        have hXA := (hA.block _ hxz).trans hXb
        have hdocA := hdoc.below hA
        have hxoo : wo.heap.size ∉ jb :: own := fun hm => by
          rcases List.mem_cons.1 hm with h | h
          · have := hst.jrn.lt; omega
          · obtain ⟨_, _, d⟩ := hst.dev; have := d.lt _ h; omega
        have hwoo : w.heap.size ≤ wo.heap.size := hbr.size
        have HWA := Lib.hid hwA
        have HSM := Lib.hid (jsame_any hstA _ (by rw [hcap]; exact hdocA))
        have HES := Lib.hid eS
        have HEA := Lib.hid hEA
        have HXA := Lib.hid hXA
        have HST := Lib.hid hstA
        have HDOC := Lib.hid hdocA
        have HCAP := Lib.hid hcap
        have HXO := Lib.hid hxo
        have HXOO := Lib.hid hxoo
        clear hx e0 e1 hxm hbr hA hwA hq2 hst hXb hdoc hd0 hd1 hds hdr ho0 ho1 hos eS hEA hXA hstA hdocA hcap hxo hxoo
        go_upto_region 17 with fail
        rw [HWA.out]
        obtain ⟨n0, n1, n2, n3, n4, n5, n6, n7, _⟩ := cellsJ8 HXA.out
        go_wp2_with fail
        refine HSM.out.mono ?_
        rintro e wB ⟨rfl, hbB⟩
        clear n0 n1 n2 n3 n4 n5 n6 n7 HSM
        have hAz : wo.heap.size < wA.heap.size := (Array.getElem?_eq_some_iff.1 HEA.out).1
        have hxA : xb < wA.heap.size := by omega
        have hEB := (hbB.block _ hAz).trans HEA.out
        have hXB := (hbB.block _ hxA).trans HXA.out
        have hstB := HST.out.below hbB
        have hdocB := HDOC.out.below hbB
        have o0 : wB.cell? ⟨wo.heap.size, 0, none⟩ = some (.int .i64 kd) := cell_of_row wB _ 0 _ _ _ hEB
        have o1 : wB.cell? ⟨wo.heap.size, 1, none⟩ = some (.slice va q2 vc) := cell_of_row wB _ 1 _ _ _ hEB
        have hbsz := hbB.size
        have HSB := Lib.hid ((HES.out.below hstB.bel).mono hstB.bel.size)
        have HOF : Hid (Off own (.slice va q2 vc)) := Lib.hid (off_low HES.out hstB.lo)
        have HEB := Lib.hid hEB
        have HXB := Lib.hid hXB
        have HSTB := Lib.hid hstB
        have HDOCB := Lib.hid hdocB
        have hob : wo.heap.size < wB.heap.size := by omega
        have hxb : xb < wB.heap.size := by omega
        clear hbB hEB hXB hstB hdocB HEA HXA HST HDOC HWA hAz hxA hbsz
        go_upto_if 86 with fail
        go_cut [86] from 87 to 89 (fun cv wx => cv = .bool (decide (kd = 0 ∨ kd = 1 ∨ kd = 2)) ∧ wx = wB)
        case first =>
          by_cases h0 : kd = 0
          · have h0b : (kd == (0 : Int)) = true := beq_iff_eq.2 h0
            have HDC : Hid (decide (kd = 0 ∨ kd = 1 ∨ kd = 2) = true) := Lib.hid (decide_eq_true (.inl h0))
            go_wp2_with fail
            go_meet
            exact ⟨by rw [HDC.out, h0b], rfl⟩
          · have h0b : (kd == (0 : Int)) = false := beq_eq_false_iff_ne.2 h0
            by_cases h1 : kd = 1
            · have h1b : (kd == (1 : Int)) = true := beq_iff_eq.2 h1
              have HDC : Hid (decide (kd = 0 ∨ kd = 1 ∨ kd = 2) = true) := Lib.hid (decide_eq_true (.inr (.inl h1)))
              go_wp2_with fail
              go_meet
              exact ⟨by rw [HDC.out], rfl⟩
            · have h1b : (kd == (1 : Int)) = false := beq_eq_false_iff_ne.2 h1
              by_cases h2 : kd = 2
              · have h2b : (kd == (2 : Int)) = true := beq_iff_eq.2 h2
                have HDC : Hid (decide (kd = 0 ∨ kd = 1 ∨ kd = 2) = true) := Lib.hid (decide_eq_true (.inr (.inr h2)))
                go_wp2_with fail
                go_meet
                exact ⟨by rw [HDC.out], rfl⟩
              · have h2b : (kd == (2 : Int)) = false := beq_eq_false_iff_ne.2 h2
                have HDC : Hid (decide (kd = 0 ∨ kd = 1 ∨ kd = 2) = false) := Lib.hid (decide_eq_false (by omega))
                go_wp2_with fail
                go_meet
                exact ⟨by rw [HDC.out], rfl⟩
        case rest =>
          obtain ⟨rfl, hwc⟩ := hcut
          rw [hwc]
          clear hwc
          by_cases h012 : kd = 0 ∨ kd = 1 ∨ kd = 2
          · have hd := decide_eq_true h012
            rw [hd]
            clear hd
            have HAP := Lib.hid (append_all HSTB.out va vc dt HDB.out (by rw [HQ2.out]; exact HSB.out) (by rw [HQ2.out]; omega))
            rw [HQ2.out] at HAP
            go_wp2_with fail
            refine HAP.out.mono ?_
            rintro e w8 ⟨er, own8, D8, c8, f8, rfl, hst8, hb8, hs8, hif⟩
            have hcl := app_left hif
            rw [HQ2.out] at hcl
            have hE8 := (hb8.block wo.heap.size hob HXOO.out).trans HEB.out
            have hX8 := (hb8.block xb hxb HXO.out).trans HXB.out
            have hdoc8 := HDOCB.out.step (X' := jb :: own8) hb8 (fun g hg => by
              rcases List.mem_cons.1 hg with rfl | hg
              · exact .inl List.mem_cons_self
              · exact (hs8 g hg).imp (List.mem_cons_of_mem _) id)
            have hl8 : ∀ g ∈ jb :: own8, g < w8.heap.size := fun g hg => by
              rcases List.mem_cons.1 hg with rfl | hg
              · exact hst8.jrn.lt
              · obtain ⟨_, _, d⟩ := hst8.dev; exact d.lt g hg
            have hxo8 : xb ∉ jb :: own8 := fun hm => by
              rcases List.mem_cons.1 hm with h | h
              · rw [h] at HXO; exact HXO.out List.mem_cons_self
              · rcases hs8 xb h with h | h
                · exact HXO.out (List.mem_cons_of_mem _ h)
                · omega
            have o8 : w8.cell? ⟨wo.heap.size, 1, none⟩ = some (.slice va q2 vc) := cell_of_row w8 _ 1 _ _ _ hE8
            obtain ⟨n0, n1, n2, n3, n4, n5, n6, n7, _⟩ := cellsJ8 hX8
            have HDA := Lib.hid (dappend HSTB.out HCAP.out HDB.out (by rw [HQ2.out]; omega) hif va q2 vc ((HES.out.below hst8.bel).mono hst8.bel.size) hl8 hdoc8)
            have HX8 := Lib.hid hX8
            have HST8 := Lib.hid hst8
            have HXO8 := Lib.hid hxo8
            clear hE8 hX8 hst8 hxo8 hl8 hdoc8 hb8 hs8 hif HAP
            go_wp2_with fail
            refine HDA.out.mono ?_
            rintro e w9 ⟨y0, y1, y2, y3, y4, y5, y6, y7, rfl, hdoc9, hb9⟩
            obtain ⟨ya, yb, yc, yd, ye, yf, yg, yh, yi, yj, yk, yl, ym, yn, yo, yp, ey⟩ := hdoc9.isJd
            cases ey
            have hX9 := (hb9.block xb (Array.getElem?_eq_some_iff.1 HX8.out).1).trans HX8.out
            obtain ⟨n0, n1, n2, n3, n4, n5, n6, n7, nf⟩ := cellsJ8 hX9
            have nf0 := nf 0
            have nf1 := nf 1
            have nf2 := nf 2
            have nf3 := nf 3
            have nf4 := nf 4
            have nf5 := nf 5
            have nf6 := nf 6
            have nf7 := nf 7
            have hPN : PlI w b xb jb C (9223372036854765807 - 4000000 * (k + 1)) _ := pl_next (HST8.out.below hb9) (hcl.1.trans HCAP.out) (by have := hcl.2; omega) hX9 HDOCB.out hdoc9 HXO8.out hxw
            have HPN := Lib.hid hPN
            clear nf hPN hX9 hdoc9 hb9 HDA HX8 HST8 HXO8
            have hne : (er != er) = false := bne_self_eq_false er
            go_wp2_with fail
            go_roundw
            case rel => first | exact ⟨k + 1, jb, by omega, rfl, by go_num, HPN.out⟩ | ((repeat apply Exists.intro); exact ⟨⟨k + 1, jb, by omega, rfl, by go_num, HPN.out⟩, rfl⟩)
            case measure => simp [intOf]; omega
          · have hd := decide_eq_false h012
            rw [hd]
            clear hd
            by_cases h3 : kd = 3
            · have h3b : (kd == (3 : Int)) = true := beq_iff_eq.2 h3
              have hro := (HSTB.out.dok.row (1 - (r : Nat) : Int)).1
              have hcD := HSTB.out.dok.cap
              have HCPT := Lib.hid (compact_all HSTB.out ha va vc dt HDB.out (by rw [HQ2.out]; exact HSB.out) (by rw [HQ2.out]; exact HOF.out) (by omega))
              rw [HQ2.out] at HCPT
              clear hro hcD
              go_wp2_with fail
              refine HCPT.out.mono ?_
              rintro e w8 ⟨er, own8, D8, r8, a8, c8, f8, rfl, hst8, hb8, hs8, hif⟩
              have hcl := comp_left HSTB.out.dok hif
              have hE8 := (hb8.block wo.heap.size hob HXOO.out).trans HEB.out
              have hX8 := (hb8.block xb hxb HXO.out).trans HXB.out
              have hdoc8 := HDOCB.out.step (X' := jb :: own8) hb8 (fun g hg => by
                rcases List.mem_cons.1 hg with rfl | hg
                · exact .inl List.mem_cons_self
                · exact (hs8 g hg).imp (List.mem_cons_of_mem _) id)
              have hl8 : ∀ g ∈ jb :: own8, g < w8.heap.size := fun g hg => by
                rcases List.mem_cons.1 hg with rfl | hg
                · exact hst8.jrn.lt
                · obtain ⟨_, _, d⟩ := hst8.dev; exact d.lt g hg
              have hxo8 : xb ∉ jb :: own8 := fun hm => by
                rcases List.mem_cons.1 hm with h | h
                · rw [h] at HXO; exact HXO.out List.mem_cons_self
                · rcases hs8 xb h with h | h
                  · exact HXO.out (List.mem_cons_of_mem _ h)
                  · omega
              have o8 : w8.cell? ⟨wo.heap.size, 1, none⟩ = some (.slice va q2 vc) := cell_of_row w8 _ 1 _ _ _ hE8
              obtain ⟨n0, n1, n2, n3, n4, n5, n6, n7, _⟩ := cellsJ8 hX8
              have HDA := Lib.hid (dcompact HSTB.out HCAP.out HDB.out (by rw [HQ2.out]; omega) hif va q2 vc ((HES.out.below hst8.bel).mono hst8.bel.size) hl8 hdoc8)
              have HX8 := Lib.hid hX8
              have HST8 := Lib.hid hst8
              have HXO8 := Lib.hid hxo8
              clear hE8 hX8 hst8 hxo8 hl8 hdoc8 hb8 hs8 hif HCPT
              go_wp2_with fail
              refine HDA.out.mono ?_
              rintro e w9 ⟨y0, y1, y2, y3, y4, y5, y6, y7, rfl, hdoc9, hb9⟩
              obtain ⟨ya, yb, yc, yd, ye, yf, yg, yh, yi, yj, yk, yl, ym, yn, yo, yp, ey⟩ := hdoc9.isJd
              cases ey
              have hX9 := (hb9.block xb (Array.getElem?_eq_some_iff.1 HX8.out).1).trans HX8.out
              obtain ⟨n0, n1, n2, n3, n4, n5, n6, n7, nf⟩ := cellsJ8 hX9
              have nf0 := nf 0
              have nf1 := nf 1
              have nf2 := nf 2
              have nf3 := nf 3
              have nf4 := nf 4
              have nf5 := nf 5
              have nf6 := nf 6
              have nf7 := nf 7
              have hPN : PlI w b xb jb C (9223372036854765807 - 4000000 * (k + 1)) _ := pl_next (HST8.out.below hb9) (hcl.1.trans HCAP.out) (by have := hcl.2; omega) hX9 HDOCB.out hdoc9 HXO8.out hxw
              have HPN := Lib.hid hPN
              clear nf hPN hX9 hdoc9 hb9 HDA HX8 HST8 HXO8
              have hne : (er != er) = false := bne_self_eq_false er
              go_wp2_with fail
              go_roundw
              case rel => first | exact ⟨k + 1, jb, by omega, rfl, by go_num, HPN.out⟩ | ((repeat apply Exists.intro); exact ⟨⟨k + 1, jb, by omega, rfl, by go_num, HPN.out⟩, rfl⟩)
              case measure => simp [intOf]; omega
            · have h3b : (kd == (3 : Int)) = false := beq_eq_false_iff_ne.2 h3
              by_cases h4 : kd = 4
              · have h4b : (kd == (4 : Int)) = true := beq_iff_eq.2 h4
                have HRO := Lib.hid (reopen_st HSTB.out)
                go_wp2_with fail
                refine HRO.out.mono ?_
                rintro e w8 ⟨rfl, own8, hst8, hb8', hs8, _, _⟩
                have hb8 : But (jb :: own) wB w8 := hb8'.more (fun g hg => .inl (List.mem_cons_of_mem _ hg))
                have hjn : wB.heap.size < w8.heap.size := hst8.jrn.lt
                obtain ⟨jn, hjn2⟩ : ∃ jn, wB.heap.size = jn := ⟨_, rfl⟩
                rw [hjn2] at hst8 ⊢
                have hjnx : xb < jn := by omega
                have hE8 := (hb8.block wo.heap.size hob HXOO.out).trans HEB.out
                have hX8 := (hb8.block xb hxb HXO.out).trans HXB.out
                have hdoc8 := HDOCB.out.step (X' := jn :: own8) hb8 (fun g hg => by
                  rcases List.mem_cons.1 hg with rfl | hg
                  · exact .inr (by omega)
                  · exact (hs8 g hg).imp (List.mem_cons_of_mem _) id)
                have hl8 : ∀ g ∈ jn :: own8, g < w8.heap.size := fun g hg => by
                  rcases List.mem_cons.1 hg with rfl | hg
                  · exact hst8.jrn.lt
                  · obtain ⟨_, _, d⟩ := hst8.dev; exact d.lt g hg
                have hxo8 : xb ∉ jn :: own8 := fun hm => by
                  rcases List.mem_cons.1 hm with h | h
                  · omega
                  · rcases hs8 xb h with h | h
                    · exact HXO.out (List.mem_cons_of_mem _ h)
                    · omega
                have o8 : w8.cell? ⟨wo.heap.size, 1, none⟩ = some (.slice va q2 vc) := cell_of_row w8 _ 1 _ _ _ hE8
                obtain ⟨n0, n1, n2, n3, n4, n5, n6, n7, _⟩ := cellsJ8 hX8
                obtain ⟨q0', q1', qs', qr', m0', d0', m1', d1', ms', ds', mr', dr', ecs, hd0, hd1, hds, hdr, ho0, ho1, hos⟩ := hdoc8.val
                cases ecs
                have HDA := Lib.hid (dreopen hst8 HCAP.out hl8 hd0 hd1 ho0 ho1)
                clear hd0 hd1 hds hdr ho0 ho1 hos hjn2
                have HX8 := Lib.hid hX8
                have HST8 := Lib.hid hst8
                have HXO8 := Lib.hid hxo8
                clear hE8 hX8 hst8 hxo8 hl8 hdoc8 hb8 hs8 hb8' HRO hjn hjnx
                go_wp2_with fail
                refine HDA.out.mono ?_
                rintro e w9 ⟨y0, y1, y2, y3, y4, y5, y6, y7, rfl, hdoc9, hb9⟩
                obtain ⟨ya, yb, yc, yd, ye, yf, yg, yh, yi, yj, yk, yl, ym, yn, yo, yp, ey⟩ := hdoc9.isJd
                cases ey
                have hX9 := (hb9.block xb (Array.getElem?_eq_some_iff.1 HX8.out).1).trans HX8.out
                obtain ⟨n0, n1, n2, n3, n4, n5, n6, n7, nf⟩ := cellsJ8 hX9
                have nf0 := nf 0
                have nf1 := nf 1
                have nf2 := nf 2
                have nf3 := nf 3
                have nf4 := nf 4
                have nf5 := nf 5
                have nf6 := nf 6
                have nf7 := nf 7
                have hPN : PlI w b xb jn C (9223372036854765807 - 4000000 * (k + 1)) _ := pl_next (HST8.out.below hb9) HCAP.out (by omega) hX9 HDOCB.out hdoc9 HXO8.out hxw
                have HPN := Lib.hid hPN
                clear nf hPN hX9 hdoc9 hb9 HDA HX8 HST8 HXO8
                go_wp2_with fail
                go_roundw
                case rel => first | exact ⟨k + 1, jn, by omega, rfl, by go_num, HPN.out⟩ | ((repeat apply Exists.intro); exact ⟨⟨k + 1, jn, by omega, rfl, by go_num, HPN.out⟩, rfl⟩)
                case measure => simp [intOf]; omega
              · have h4b : (kd == (4 : Int)) = false := beq_eq_false_iff_ne.2 h4
                have hPN : PlI w b xb jb C (9223372036854765807 - 4000000 * (k + 1)) wB := ⟨own, D, r, a, c, f, HSTB.out, HCAP.out, by omega, ha, ⟨_, HXB.out, HDOCB.out⟩, HXO.out, hxw⟩
                have HPN := Lib.hid hPN
                clear hPN
                go_wp2_with fail
                go_roundw
                case rel => first | exact ⟨k + 1, jb, by omega, rfl, by go_num, HPN.out⟩ | ((repeat apply Exists.intro); exact ⟨⟨k + 1, jb, by omega, rfl, by go_num, HPN.out⟩, rfl⟩)
                case measure => simp [intOf]; omega


set_option maxRecDepth 100000 in
theorem lifted (os : Os) (started : os.Started) (H : Type) (enc : TypeId × Value → H) :
    ReturnsInHanded {} Try.checked os 7 .any (Rows.journalPlaysSpec.pre6 enc Try.prog Try.f7 Rows.journalPlaysRow.domain false) (Rows.journalPlaysSpec.post enc Try.prog Try.f7 false true false false) := by
  refine returnsInHanded_of_change (C := Try.checked) own started (by kernel_rfl) Try.func7
    (ChangeSpec.witness6 (enc := enc) (C := Try.checked) false ⟨#[], #[.int .i64 0, .slice none 0 0, .slice none 0 0, .slice none 0 0], []⟩ 8 (by kernel_rfl) (by kernel_rfl) (by kernel_rfl) (by kernel_rfl)) ?_
  intro W base args ds gs before hval0 hW hcnd _
  have hval : ∀ (j : Nat) t v, Try.f7.params[j]? = some t → args[j]? = some v → Value.okWide Try.prog W .any base t v := hval0
  have hW' := hW
  obtain ⟨p, q, hA0, hV, rfl, hfz, hnd⟩ := hW
  have hA : DataW.TrodAll enc Try.prog W 0 (fun _ => true) true Try.f7.params.toList args.toList ds p := hA0
  rw [Try.params7] at hA hval
  have hAk := hA
  obtain ⟨v0, vs0, d0, ds0, p0', q0, hargs, rfl, rfl, h0, r0⟩ := trodAll_cons hA
  obtain ⟨v1, vs1, d1, ds1, p1', q1, rfl, rfl, rfl, h1, r1⟩ := trodAll_cons r0
  obtain ⟨v2, vs2, d2, ds2, p2', q2, rfl, rfl, rfl, h2, r2⟩ := trodAll_cons r1
  obtain ⟨v3, vs3, d3, ds3, p3', q3, rfl, rfl, rfl, h3, r3⟩ := trodAll_cons r2
  obtain ⟨rfl, rfl, rfl⟩ := trodAll_nil r3
  obtain rfl : args = #[v0, v1, v2, v3] := by cases args; simp_all
  obtain ⟨rfl, rfl⟩ := trodVars_none hV
  simp only [List.append_nil] at hW' hAk
  have hlt := fun x hx => hW'.lt x hx
  clear hA0 hval0
  obtain ⟨a0, rfl, rfl, rfl, w0⟩ := open_int Try.underlying3 (hval 0 3 v0 rfl rfl) h0
  obtain ⟨p1, n1, c1, l1, rfl, S1, b1⟩ := open_bytes (okWide_slice Try.underlying22 (hval 1 22 v1 rfl rfl)) h1
  obtain ⟨p2, n2, c2, l2, rfl, S2, b2⟩ := open_bytes (okWide_slice Try.underlying22 (hval 2 22 v2 rfl rfl)) h2
  obtain ⟨p3, n3, c3, l3, rfl, S3, b3⟩ := open_jops (okWide_slice Try.underlying40 (hval 3 40 v3 rfl rfl)) h3
  refine (walk W a0 w0 p1 n1 c1 l1 S1 b1 p2 n2 c2 l2 S2 b2 p3 n3 c3 l3 S3 b3).mono fun e W' ⟨he, hg⟩ => ?_
  subst he
  have hargs := trodAll_below hg _ _ _ _ (by intro t ht; simp only [List.mem_cons, List.not_mem_nil, or_false] at ht; revert t; rintro t (rfl | rfl | rfl | rfl) <;> exact ⟨by kernel_rfl, of_decide_eq_true (by kernel_rfl)⟩) hAk (fun x hx => by simpa using hlt x hx)
  exact ⟨_, rfl, _, _, _, [], _, [], hW', (trodAll_cons_mk (shut_bool Try.underlying4 _) trodAll_mk0), hargs, rfl, hg.frame _, fun h => by cases h⟩

theorem over : Rows.journalPlaysRow.holds Try.pinned (OpenSpec.ofChange Rows.journalPlaysSpec) :=
  OpenClaim.holds_of_wide 7 Try.f7 rfl rfl rfl rfl rfl rfl rfl ⟨rfl, rfl, rfl, rfl, rfl⟩ rfl rfl rfl rfl rfl (by kernel_rfl) Try.func7 (by kernel_rfl)
    (of_decide_eq_true (by kernel_rfl)) (by unfold Func.isWrapper; first | (rw [if_pos (by decide +kernel)]; kernel_rfl) | (rw [if_neg (by decide +kernel)]; exact ⟨rfl, rfl⟩))
    (fun os started H enc _ => lifted os started H enc)

theorem proved : Rows.JournalPlaysSaid :=
  over
end Go.Proofs.Ytpllbojmonfeiaa.journalPlays
