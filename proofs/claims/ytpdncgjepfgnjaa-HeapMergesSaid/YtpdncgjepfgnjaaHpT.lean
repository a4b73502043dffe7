/- A heap in memory: all that comes of it, collected; Sorted. -/
import Derived.Test.YtpdncgjepfgnjaaHpS
namespace Go.Proofs.Ytpdncgjepfgnjaa
open Go.RowKit
set_option linter.unusedVariables false
attribute [local go_sem] Oper.semAt_some

/-- The promise of Drain for a caller that keeps what comes. -/
theorem drnC {key : Int × Int → Int} {of b Bh Bo B : Nat} {own : List Nat} {puts : Int} {S : List ((Int × Int) × Int)} {w0 : World} (hS : S.length ≤ 1073741823) (G : Nat → Prop) :
    DrainC key of b Bh B (fun _ : Nat × List ((Int × Int) × Int) => own) Prod.snd (fun _ => puts) (fun s => S.length - s.1)
      (fun s W => DrnJ key of b Bh Bo B own puts S w0 s.1 s.1 s.2 W ∧ G s.1) (fun s x W => DrnJ key of b Bh Bo B own puts S w0 (s.1 + 1) s.1 (takeL' (ahK key) s.2) W ∧ (∃ p, S[s.1]? = some (x, p)) ∧ G s.1) (fun s s' => s.1 < S.length ∧ s'.1 = s.1 + 1) (fun s _ => s.2 = [] ∧ s.1 = S.length) where
  heap := fun s W h => h.1.heap
  box := fun s W h => by have := cell_of_row W Bh 0 _ _ _ h.1.ptr; simpa using this
  rec0 := fun s W h => ⟨fun hm => (h.1.free _ hm).1 rfl, fun hm => (h.1.free _ hm).2.1 rfl⟩
  few := fun s W h => by
    have h1 := h.1.rep.len
    rw [List.length_drop] at h1
    show s.2.length ≤ _
    omega
  step := fun s W W' h hl hb hh => by
    obtain ⟨h1, h2⟩ := h.1.pop hl hb hh
    exact ⟨h1, ⟨(at' s.2 0).2, h2⟩, h.2⟩
  done := fun s W W' h hl hb hh => by
    obtain ⟨k, l⟩ := s
    have hl : l = [] := hl
    subst hl
    obtain ⟨h1, h2⟩ := h
    have hlen := h1.rep.len
    rw [List.length_drop] at hlen
    have hle := h1.le.1
    refine ⟨(k, []), ⟨?_, h2⟩, rfl, ?_⟩
    · obtain ⟨u, q1, q2, q3⟩ := h1.out
      exact ⟨hh, h1.rep, h1.le, (hb.block Bh (Array.getElem?_eq_some_iff.1 h1.ptr).1 (fun hk => (h1.free _ hk).2.2.2 rfl)).trans h1.ptr,
        ⟨u, (hb.block Bo q1.lt (fun hk => (h1.free _ hk).2.2.1 rfl)).trans q1, row_but q2 hb (fun g hg hk => (q3 g hg).2.2.2.2 hk), q3⟩, h1.free, h1.but.trans hb (fun k hk => .inl (List.mem_cons_of_mem _ hk)), h1.ne⟩
    · show k = _
      simp at hlen
      have : k ≤ S.length := hle
      omega
  rank := fun s s' h => by
    show S.length - s'.1 < S.length - s.1
    omega

set_option maxRecDepth 100000 in
set_option maxHeartbeats 4000000 in
theorem appSeqP {of : Nat} {key : Int × Int → Int} (ho : OrdP of key) {own : List Nat} {b Bh : Nat} {l S : List ((Int × Int) × Int)} {puts : Int} (hS : S.length ≤ 1073741823) (w : World) (hH : ∃ v, HeapP own w b (.func (.func of) #[] #[]) v l puts) (hr : Rep key l S puts)
    (hp : w.heap[Bh]? = some (.cells #[.pointer (some ⟨b, 0, none⟩)] 24 (0, 0))) (hB : Bh ∉ own) :
    Calls Try.prog 65 #[.slice none 0 0, .func (.func 45) #[] #[.pointer (some ⟨Bh, 0, none⟩)]] w fun e w' => ∃ v, e = .returned v ∧ w'.ownsRow w.heap.size 27 2 v S.length (flatVP (S.map Prod.fst)) ∧ (∃ v2, HeapP own w' b (.func (.func of) #[] #[]) v2 [] puts) ∧ But own w w' := by
  obtain ⟨i0, hi, hz0, hz1, hz2⟩ := info_parts infoTP
  obtain ⟨v, hH⟩ := hH
  have hlt := hH.lt
  have hBl := (Array.getElem?_eq_some_iff.1 hp).1
  refine (callsIn_wide (n := 3)).1 ?_
  refine callsIn_of_wp_marks Try.func65 rfl trivial ?_ rfl
  simp only [Try.ntmps65, List.size_toArray, List.length_cons, List.length_nil, Nat.reduceAdd, Nat.reduceSub, Array.replicate_succ, Array.replicate_zero, List.push_toArray, List.append_toArray, List.nil_append, List.cons_append]
  refine wpIn_wide.2 ?_
  go_wp2_with fail
  obtain ⟨w2, hw2⟩ : ∃ w2, w.alloc (Obj.cells #[.slice none 0 0] 29) = w2 := ⟨_, rfl⟩
  have hb2 : Below w.heap.size w w2 := by rw [← hw2]; exact (Below.refl _ _).alloc (Nat.le_refl _) _
  have hz : w2.heap.size = w.heap.size + 1 := by rw [← hw2]; simp
  have hbo : Boxed w2 w.heap.size 29 (.slice none 0 0) := by rw [← hw2]; exact Boxed.new w _ _
  have HZ := Lib.hid hz
  have HJ0 : Hid (DrnJ key of b Bh w.heap.size w2.heap.size own puts S w 0 0 l w2) := Lib.hid ⟨⟨v, hH.below hb2 (Nat.le_refl _)⟩, hr, ⟨Nat.zero_le _, Nat.le_refl _⟩, (hb2.block _ hBl).trans hp, ⟨_, hbo, World.ownsRow_nil _ _ _ _, fun g hg => by simp [Value.ownBlock] at hg⟩, fun k hk => by have := hlt k hk; exact ⟨by omega, by omega, by omega, fun e => hB (e ▸ hk)⟩, But.of_below hb2, by omega, by omega, by omega, by omega, by omega⟩
  rw [hw2]
  clear hw2 hbo hz hb2 hH hlt
  rename_i K hKQ
  refine (wpIn_wide (n := 3)).1 ?_
  refine wpIn_actG ?_
  intro A hA
  have hwB : w.heap.size ≤ w2.heap.size := by have := HZ.out; omega
  refine rangeG rfl (by omega) (gf := 45) (lb := #[.pointer (some ⟨Bh, 0, none⟩)]) (by rw [hA]; rfl) trivial (enters_of Try.func45 (by kernel_rfl) rfl) (encs := fun (x : Int × Int) => #[valP x]) (fun _ => rfl)
    (fun (s : Nat × List ((Int × Int) × Int)) W => DrnJ key of b Bh w.heap.size w2.heap.size own puts S w s.1 s.1 s.2 W ∧ True) (fun (s : Nat × List ((Int × Int) × Int)) (x : Int × Int) W => DrnJ key of b Bh w.heap.size w2.heap.size own puts S w (s.1 + 1) s.1 (takeL' (ahK key) s.2) W ∧ (∃ p, S[s.1]? = some (x, p)) ∧ True)
    (fun (s : Nat × List ((Int × Int) × Int)) (x : Int × Int) a1 W => DrnJ key of b Bh w.heap.size w2.heap.size own puts S w (s.1 + 1) s.1 (takeL' (ahK key) s.2) W ∧ (∃ p, S[s.1]? = some (x, p)) ∧ ∃ Bx, w2.heap.size + 2 ≤ Bx ∧ W.heap[Bx]? = some (.cells #[.int .i64 x.1, .int .i64 x.2] 27 (0, 0)) ∧ a1 = { tmps := (A.tmps.setIfInBounds 7 (valP x)).setIfInBounds 5 (.pointer (some ⟨Bx, 0, none⟩)), defers := [] })
    (fun _ _ => False) (fun s s' => s.1 < S.length ∧ s'.1 = s.1 + 1) (fun s _ => s.2 = [] ∧ s.1 = S.length) (0, l)
    (fun s W o k hk h => ⟨DrnJ.noRec hwB W o k hk h.1, trivial⟩)
    (fun s x a1 W o k hk ⟨h1, h2, Bx, h3, h4, h5⟩ => ⟨DrnJ.noRec hwB W o k hk h1, h2, Bx, h3, (World.putObj_heap_other (by rcases hk with rfl | rfl <;> omega)).trans h4, h5⟩)
    (fun _ _ _ _ _ h => h) (fun _ _ _ _ _ h => h) (fun r => ⟨(HJ0.out.alloc _).alloc _, trivial⟩)
    (drain1P ho (drnC hS (fun _ => True)))
    ?assign ?body ?done ?stop
  case assign =>
    rintro l0 s ⟨x, u⟩ W K' ⟨hj, hx, _⟩ hzW hK
    rw [hA] at hK ⊢
    unfold valP at hK ⊢
    gi_wp2
    exact hK _ _ ⟨hj.alloc _, hx, W.heap.size, hzW, World.alloc_heap_new W _, rfl⟩ ⟨heap_alloc_old' W _ _ (by omega), heap_alloc_old' W _ _ (by omega)⟩
  case body =>
    rintro l0 ⟨k, l1⟩ ⟨x, u⟩ a1 V ⟨hj, ⟨p, hx⟩, Bx, hBx, hbx, rfl⟩ hzV
    simp only at hj hx ⊢
    have hx0 := cell_of_row V _ 0 _ _ _ hbx
    have hx1 := cell_of_row V _ 1 _ _ _ hbx
    simp at hx0 hx1
    obtain ⟨vo, hvo, hrow, hne⟩ := hj.out
    have hc := hvo.cell
    have hklt : k < S.length := (List.getElem?_eq_some_iff.1 hx).1
    have HJ := Lib.hid hj
    have HX := Lib.hid hx
    have HVO := Lib.hid hvo
    have HROW := Lib.hid hrow
    have hzV2 : w.heap.size ≤ V.heap.size := by omega
    clear hj hx hbx hne hrow hvo
    unfold valP
    rw [hA]
    gi_wp2_with (gi_at_builtin; refine wpListIn_append_own_at _ rfl _ _ 29 rfl w.heap.size 27 i0 (.agg #[.int .i64 0, .int .i64 0]) 2 16 Try.underlying29 hi hz0 hz1 hz2 rfl (by decide) _ _ _ rfl (HROW.out.alloc _) ⟨V.heap.size, 0, none⟩ 1 1 [.int .i64 x, .int .i64 u] rfl rfl (World.news_of_block (World.alloc_heap_new V _)) (by simp [Value.oneCell']) (by unfold maxLen; omega) (by omega) (by simp; omega) ?_; intro v' w3 hown' hgrow _ hat; have happ := HJ.out.app HX.out (by omega) hzV HVO.out _ hown' hgrow hat; have HAPP := Lib.hid happ; have hb3 : Boxed w3 w.heap.size 29 vo := (HVO.out.alloc _).kept hgrow (fun e => HVO.out.not_row (by decide) HROW.out e); have hc3 := hb3.cell; have hf3 := hb3.frozen; obtain ⟨g', cap', rfl⟩ := ownsRow_succ hown'; clear happ hb3 hgrow hat)
    exact ⟨HAPP.out.2, (k + 1, takeL' (ahK key) l1), ⟨hklt, rfl⟩, HAPP.out.1, trivial⟩
  case done =>
    rintro ⟨k, l1⟩ W ⟨hj, _⟩ ⟨he1, he2⟩ hD
    simp only at hj he1 he2
    subst he1 he2
    rw [hA]
    refine hKQ _ _ ?_
    obtain ⟨vo, hvo, hrow, hne⟩ := hj.out
    have hc := hvo.cell
    have hj2 := DrnJ.noRec hwB W (.deferred none) _ (.inl rfl) hj
    obtain ⟨v2, q1, q2, q3⟩ := hj2.out
    have HQ2 := Lib.hid q2
    have HE2 := Lib.hid hj2
    have HEQ : Hid (v2 = vo) := Lib.hid (boxed_eq q1 ((World.putObj_heap_other (by have := HZ.out; omega)).trans hvo))
    have HD := Lib.hid hD
    clear hj hj2 hvo hrow hne q1 q2 q3 hD
    go_wp2_with fail
    refine ⟨by simp, .inl ⟨_, _, rfl, run_takeDeferred HD.out, ?_⟩⟩
    have hq := HQ2.out
    rw [List.take_length, HEQ.out] at hq
    exact ⟨_, results_tmp rfl _ _ _, vo, rfl, hq, HE2.out.heap, HE2.out.but.more (fun k hk => by
      rcases List.mem_cons.1 hk with rfl | hk
      · exact .inr (Nat.le_refl _)
      · exact .inl hk)⟩
  case stop =>
    rintro c W h _
    exact h.elim

theorem collectP {of : Nat} {key : Int × Int → Int} (ho : OrdP of key) {own : List Nat} {b Bh : Nat} {l S : List ((Int × Int) × Int)} {puts : Int} (hS : S.length ≤ 1073741823) (w : World) (hH : ∃ v, HeapP own w b (.func (.func of) #[] #[]) v l puts) (hr : Rep key l S puts)
    (hp : w.heap[Bh]? = some (.cells #[.pointer (some ⟨b, 0, none⟩)] 24 (0, 0))) (hB : Bh ∉ own) :
    Calls Try.prog 46 #[.func (.func 45) #[] #[.pointer (some ⟨Bh, 0, none⟩)]] w fun e w' => ∃ v, e = .returned v ∧ w'.ownsRow w.heap.size 27 2 v S.length (flatVP (S.map Prod.fst)) ∧ (∃ v2, HeapP own w' b (.func (.func of) #[] #[]) v2 [] puts) ∧ But own w w' := by
  have HS := Lib.hid (appSeqP ho hS w hH hr hp hB)
  clear hH hr hp hB
  go_enter Try.func46, Try.ntmps46
  go_wp2_with (go_at_call 65; refine HS.out.mono ?_; rintro e w1 ⟨v, rfl, h1, h2, h3⟩)
  go_ret
  exact ⟨_, rfl, h1, h2, h3⟩

theorem ofS_len {key : Int × Int → Int} (xs : List (Int × Int)) : (ofS key xs).length = xs.length := by
  have h := (heapS_rep key _ xs rfl).perm.length_eq
  rw [h, heapS_len]

set_option maxRecDepth 100000 in
set_option maxHeartbeats 4000000 in
theorem sortedP {of : Nat} {key : Int × Int → Int} (ho : OrdP of key) (Bv : Nat) (a : Option Addr) (n c : Nat) (xs : List (Int × Int)) (hx : xs.length ≤ 1073741823) (w : World) (hv : w.cell? ⟨Bv, 0, none⟩ = some (.slice a n c)) (hs : PrsP w.heap.size w (.slice a n c) xs) :
    Calls Try.prog 18 #[.func (.func of) #[] #[], .func (.func 48) #[] #[.pointer (some ⟨Bv, 0, none⟩)]] w fun e w' => ∃ v, e = .returned v ∧ w'.ownsRow w.heap.size 27 2 v xs.length (flatVP ((ofS key xs).map Prod.fst)) ∧ Below w.heap.size w w' := by
  have HF := Lib.hid (fromP ho Bv a n c xs hx w hv hs)
  have HO := Lib.hid ho
  clear hv hs
  go_enter Try.func18, Try.ntmps18
  go_wp2_with (go_at_call 47; refine HF.out.mono ?_; rintro e w1 ⟨b, own, v, rfl, h1, h2, h3⟩; have H1 := Lib.hid h1; have H2 := Lib.hid h2; have B3 := Lib.hid h3; clear h1 h2 h3)
  refine (drainP b w1).mono ?_
  rintro e w2 ⟨rfl, hw2⟩
  have hb2 : Below w1.heap.size w1 w2 := by rw [hw2]; exact (Below.refl _ _).alloc (Nat.le_refl _) _
  have HC := Lib.hid (collectP HO.out (own := own) (b := b) (Bh := w1.heap.size) (S := ofS key xs) (by rw [ofS_len]; exact hx) w2 ⟨v, H1.out.below hb2 (Nat.le_refl _)⟩ (heapS_rep key _ xs rfl) (by rw [hw2]; exact World.alloc_heap_new w1 _) (fun hk => by have := H1.out.lt _ hk; omega))
  have B2 := Lib.hid hb2
  clear hw2 hb2
  go_wp2_with (go_at_call 46; refine HC.out.mono ?_; rintro e w3 ⟨v3, rfl, h5, _, h6⟩; have H5 := Lib.hid h5; have B6 := Lib.hid h6; clear h5 h6)
  go_ret
  have hz1 := B3.out.size
  have hz2 := B2.out.size
  have h5 := H5.out
  rw [ofS_len] at h5
  exact ⟨v3, rfl, own_mono h5 (by omega), (B3.out.trans (B2.out.mono hz1)).trans (B6.out.below (fun k hk => H2.out k hk) (by omega))⟩

set_option maxRecDepth 100000 in
set_option maxHeartbeats 4000000 in
theorem firstOfP {of : Nat} {key : Int × Int → Int} (ho : OrdP of key) (Bv : Nat) (m : Int) (hm : -9223372036854775808 ≤ m ∧ m ≤ 9223372036854775807) (a : Option Addr) (n c : Nat) (xs : List (Int × Int)) (hx : xs.length ≤ 1073741823) (w : World) (hv : w.cell? ⟨Bv, 0, none⟩ = some (.slice a n c)) (hs : PrsP w.heap.size w (.slice a n c) xs) :
    Calls Try.prog 20 #[.int .i64 m, .func (.func of) #[] #[], .func (.func 48) #[] #[.pointer (some ⟨Bv, 0, none⟩)]] w fun e w' => ∃ v, e = .returned v ∧ w'.ownsRow w.heap.size 27 2 v (min m.toNat xs.length) (flatVP (((ofS key xs).take m.toNat).map Prod.fst)) ∧ Below w.heap.size w w' := by
  by_cases hm1 : m < 1
  · have e : m.toNat = 0 := by omega
    rw [e, Nat.zero_min]
    clear hv hs
    go_enter Try.func20, Try.ntmps20
    go_wp2
    go_ret
    exact ⟨_, rfl, World.ownsRow_nil _ _ _ _, (Below.refl _ _).alloc (Nat.le_refl _) _⟩
  · obtain ⟨i0, hi, hz0, hz1', hz2⟩ := info_parts infoTP
    obtain ⟨q, rfl⟩ : ∃ q : Nat, m = q := ⟨m.toNat, by omega⟩
    have hq1 : 1 ≤ q := by omega
    rw [Int.toNat_natCast]
    obtain ⟨w1, hw1⟩ : ∃ w1, (w.alloc (.cells #[.int .i64 q] 3)).alloc (.cells #[.slice none 0 0] 29) = w1 := ⟨_, rfl⟩
    have hb1 : Below w.heap.size w w1 := by rw [← hw1]; exact ((Below.refl _ _).alloc (Nat.le_refl _) _).alloc (by simp) _
    have hz1 : w1.heap.size = w.heap.size + 2 := by rw [← hw1]; simp
    have hn1 : Boxed w1 w.heap.size 3 (.int .i64 q) := by rw [← hw1]; exact (Boxed.new w _ _).alloc _
    have ho1 : Boxed w1 (w.heap.size + 1) 29 (.slice none 0 0) := by
      have := Boxed.new (w.alloc (.cells #[.int .i64 q] 3)) 29 (.slice none 0 0)
      rw [World.size_alloc] at this; rw [← hw1]; exact this
    have hbv := World.block_lt_of_cell? w _ hv
    have HF := Lib.hid (fromP ho Bv a n c xs hx w1 ((hb1.cell (p := ⟨Bv, 0, none⟩) hbv).trans hv) ((hs.below hb1 (Nat.le_refl _)).mono hb1.size))
    have HO := Lib.hid ho
    have HZ1 := Lib.hid hz1
    have HB1 := Lib.hid hb1
    have HN1 := Lib.hid hn1
    have HO1 := Lib.hid ho1
    have hqi : ((q : Int) < 1) = False := by simp; omega
    clear hv hs hn1 ho1 hb1 hz1
    refine (callsIn_wide (n := 3)).1 ?_
    refine callsIn_of_wp_marks Try.func20 rfl trivial ?_ rfl
    simp only [Try.ntmps20, List.size_toArray, List.length_cons, List.length_nil, Nat.reduceAdd, Nat.reduceSub, Array.replicate_succ, Array.replicate_zero, List.push_toArray, List.append_toArray, List.nil_append, List.cons_append]
    refine wpIn_wide.2 ?_
    go_wp2_with (go_at_call 47; refine HF.out.mono ?_; rintro e w2 ⟨b, own, v, rfl, h1, h2, h3⟩; have H1 := Lib.hid h1; have H2 := Lib.hid h2; have B3 := Lib.hid h3; clear h1 h2 h3)
    refine (drainP b w2).mono ?_
    rintro e w3 ⟨rfl, hw3⟩
    have hb3 : Below w2.heap.size w2 w3 := by rw [hw3]; exact (Below.refl _ _).alloc (Nat.le_refl _) _
    have hz3 : w3.heap.size = w2.heap.size + 1 := by rw [hw3]; simp
    have hp3 : w3.heap[w2.heap.size]? = some (.cells #[.pointer (some ⟨b, 0, none⟩)] 24 (0, 0)) := by rw [hw3]; exact World.alloc_heap_new w2 _
    have hs2 := B3.out.size
    have hz1 := HZ1.out
    have hbn : w3.heap[w.heap.size]? = some (.cells #[.int .i64 q] 3 (0, 0)) := (hb3.block _ (by omega)).trans ((B3.out.block _ (by omega)).trans HN1.out)
    have hbo : Boxed w3 (w.heap.size + 1) 29 (.slice none 0 0) := (hb3.block _ (by omega)).trans ((B3.out.block _ (by omega)).trans HO1.out)
    have hown2 := H2.out
    have HJ0 : Hid (DrnJ key of b w2.heap.size (w.heap.size + 1) w3.heap.size own xs.length (ofS key xs) w3 0 0 (heapS key xs) w3) := Lib.hid ⟨⟨v, H1.out.below hb3 (Nat.le_refl _)⟩, heapS_rep key _ xs rfl, ⟨Nat.zero_le _, Nat.le_refl _⟩, hp3, ⟨_, hbo, World.ownsRow_nil _ _ _ _, fun g hg => by simp [Value.ownBlock] at hg⟩, fun k hk => by
      have h1 := hown2 k hk
      have h2 := H1.out.lt k hk
      exact ⟨by omega, by omega, by omega, by omega⟩, But.refl _ _, by omega, by omega, by omega, by omega, by omega⟩
    have HZ3 := Lib.hid hz3
    have HBN := Lib.hid hbn
    have HB3 := Lib.hid hb3
    have HS2 := Lib.hid hs2
    clear hw3 hbo hz3 hb3 hp3 hbn hz1 hs2 hown2
    go_wp2_with fail
    rename_i K hKQ
    refine (wpIn_wide (n := 3)).1 ?_
    refine wpIn_actG ?_
    intro A hA
    -- what is left behind the loop
    have tail : ∀ (k : Nat) (l1 : List ((Int × Int) × Int)) (W : World), DrnJ key of b w2.heap.size (w.heap.size + 1) w3.heap.size own xs.length (ofS key xs) w3 k k l1 W → (ofS key xs).take k = (ofS key xs).take q → k = min q xs.length → W.heap[w3.heap.size]? = some (.deferred (some [])) →
        K { A with defers := { target := .collected w3.heap.size, args := #[] } :: A.defers } W := by
      intro k l1 W hj htk hkm hD
      rw [hA]
      refine hKQ _ _ ?_
      obtain ⟨vo, hvo, hrow, hne⟩ := hj.out
      have hc := hvo.cell
      have hj2 := DrnJ.noRec (Nat.le_refl _) W (.deferred none) _ (.inl rfl) hj
      obtain ⟨v2, q1, q2, q3⟩ := hj2.out
      have HQ2 := Lib.hid q2
      have HE2 := Lib.hid hj2
      have HEQ : Hid (v2 = vo) := Lib.hid (boxed_eq q1 ((World.putObj_heap_other (by have := HZ3.out; have := HZ1.out; have := HS2.out; omega)).trans hvo))
      have HD := Lib.hid hD
      have HT := Lib.hid htk
      have HK := Lib.hid hkm
      clear hj hj2 hvo hrow hne q1 q2 q3 hD htk hkm
      go_wp2_with fail
      refine ⟨by simp, .inl ⟨_, _, rfl, run_takeDeferred HD.out, ?_⟩⟩
      have hq := HQ2.out
      rw [HEQ.out, HT.out] at hq
      have hb1 := HB1.out
      have hz1 := HZ1.out
      have hs2 := HS2.out
      have hz3 := HZ3.out
      have hb23 : Below w.heap.size w w3 := (hb1.trans (B3.out.mono hb1.size)).trans (HB3.out.mono (by omega))
      refine ⟨_, results_tmp rfl _ _ _, vo, rfl, ?_, hb23.trans (HE2.out.but.below (fun j hj => ?_) hb23.size)⟩
      · rw [← HK.out]; exact own_mono hq (by omega)
      · rcases List.mem_cons.1 hj with rfl | hj
        · omega
        · have := H2.out j hj; omega
    have HTAIL := Lib.hid tail
    clear tail
    refine rangeG rfl (by omega) (gf := 45) (lb := #[.pointer (some ⟨w2.heap.size, 0, none⟩)]) (by rw [hA]; rfl) trivial (enters_of Try.func45 (by kernel_rfl) rfl) (encs := fun (x : Int × Int) => #[valP x]) (fun _ => rfl)
      (fun (s : Nat × List ((Int × Int) × Int)) W => DrnJ key of b w2.heap.size (w.heap.size + 1) w3.heap.size own xs.length (ofS key xs) w3 s.1 s.1 s.2 W ∧ s.1 < q) (fun (s : Nat × List ((Int × Int) × Int)) (x : Int × Int) W => DrnJ key of b w2.heap.size (w.heap.size + 1) w3.heap.size own xs.length (ofS key xs) w3 (s.1 + 1) s.1 (takeL' (ahK key) s.2) W ∧ (∃ p, (ofS key xs)[s.1]? = some (x, p)) ∧ s.1 < q)
      (fun (s : Nat × List ((Int × Int) × Int)) (x : Int × Int) a1 W => (DrnJ key of b w2.heap.size (w.heap.size + 1) w3.heap.size own xs.length (ofS key xs) w3 (s.1 + 1) s.1 (takeL' (ahK key) s.2) W ∧ s.1 < q) ∧ (∃ p, (ofS key xs)[s.1]? = some (x, p)) ∧ ∃ Bx, w3.heap.size + 2 ≤ Bx ∧ W.heap[Bx]? = some (.cells #[.int .i64 x.1, .int .i64 x.2] 27 (0, 0)) ∧ a1 = { tmps := (A.tmps.setIfInBounds 15 (valP x)).setIfInBounds 8 (.pointer (some ⟨Bx, 0, none⟩)), defers := [] })
      (fun c W => c = .exit 0 ∧ ∃ l1, DrnJ key of b w2.heap.size (w.heap.size + 1) w3.heap.size own xs.length (ofS key xs) w3 q q l1 W) (fun s s' => s.1 < (ofS key xs).length ∧ s'.1 = s.1 + 1) (fun s _ => s.2 = [] ∧ s.1 = (ofS key xs).length) (0, heapS key xs)
      (fun s W o k hk h => ⟨DrnJ.noRec (Nat.le_refl _) W o k hk h.1, h.2⟩)
      (fun s x a1 W o k hk ⟨⟨h1, hg⟩, h2, Bx, h3, h4, h5⟩ => ⟨⟨DrnJ.noRec (Nat.le_refl _) W o k hk h1, hg⟩, h2, Bx, h3, (World.putObj_heap_other (by rcases hk with rfl | rfl <;> omega)).trans h4, h5⟩)
      (fun c W o k hk ⟨h0, l1, h⟩ => ⟨h0, l1, DrnJ.noRec (Nat.le_refl _) W o k hk h⟩) (fun _ _ _ _ _ h => h) (fun r => ⟨(HJ0.out.alloc _).alloc _, hq1⟩)
      (drain1P HO.out (drnC (by rw [ofS_len]; exact hx) (fun k => k < q)))
      ?assign ?body ?done ?stop
    case assign =>
      rintro l0 s ⟨x, u⟩ W K' ⟨hj, hx, hg⟩ hzW hK
      rw [hA] at hK ⊢
      unfold valP at hK ⊢
      gi_wp2
      exact hK _ _ ⟨⟨hj.alloc _, hg⟩, hx, W.heap.size, hzW, World.alloc_heap_new W _, rfl⟩ ⟨heap_alloc_old' W _ _ (by omega), heap_alloc_old' W _ _ (by omega)⟩
    case body =>
      rintro l0 ⟨k, l1⟩ ⟨x, u⟩ a1 V ⟨⟨hj, hkq⟩, ⟨p, hx⟩, Bx, hBx, hbx, rfl⟩ hzV
      simp only at hj hx hkq ⊢
      have hx0 := cell_of_row V _ 0 _ _ _ hbx
      have hx1 := cell_of_row V _ 1 _ _ _ hbx
      simp at hx0 hx1
      obtain ⟨vo, hvo, hrow, hne⟩ := hj.out
      have hc := hvo.cell
      have hklt : k < (ofS key xs).length := (List.getElem?_eq_some_iff.1 hx).1
      have hkl2 : k < xs.length := by rw [ofS_len] at hklt; exact hklt
      have hzz : w.heap.size + 3 ≤ w3.heap.size := by have := HZ3.out; have := HZ1.out; have := HS2.out; omega
      have hcn : V.heap[w.heap.size]? = some (.cells #[.int .i64 q] 3 (0, 0)) := (hj.but.block _ (by omega) (fun hm => by
        rcases List.mem_cons.1 hm with e | e
        · omega
        · have := H2.out _ e; have := HZ1.out; omega)).trans HBN.out
      have HCN := Lib.hid hcn
      have HJ := Lib.hid hj
      have HX := Lib.hid hx
      have HVO := Lib.hid hvo
      have HROW := Lib.hid hrow
      have hzV2 : w3.heap.size ≤ V.heap.size := by omega
      have hnx : ((k : Int) + 1) = ((k + 1 : Nat) : Int) := by omega
      have HNX := Lib.hid hnx
      clear hj hx hbx hne hrow hvo hcn hnx
      unfold valP
      rw [hA]
      have HARM : Hid (∀ (v' : Value) (w5 : World), w5.ownsRow w3.heap.size 27 2 v' (k + 1) (flatVP (((ofS key xs).take k).map Prod.fst) ++ [.int .i64 x, .int .i64 u]) → (V.alloc (.cells #[.int .i64 x, .int .i64 u] 27)).grownBy w5 vo.ownBlock → (v'.ownBlock = vo.ownBlock ∨ v'.ownBlock = some (V.alloc (.cells #[.int .i64 x, .int .i64 u] 27)).heap.size) →
        (DrnJ key of b w2.heap.size (w.heap.size + 1) w3.heap.size own xs.length (ofS key xs) w3 (k + 1) (k + 1) (takeL' (ahK key) l1) (w5.setCell ⟨w.heap.size + 1, 0, none⟩ v') ∧ SameRec w3.heap.size V (w5.setCell ⟨w.heap.size + 1, 0, none⟩ v')) ∧ w5.cell? ⟨w.heap.size + 1, 0, none⟩ = some vo ∧ w5.frozen? ⟨w.heap.size + 1, 0, none⟩ = false ∧ w5.cell? ⟨w.heap.size, 0, none⟩ = some (.int .i64 q)) := Lib.hid (by
        intro v' w5 hown' hgrow hat
        have hb5 : Boxed w5 (w.heap.size + 1) 29 vo := (HVO.out.alloc _).kept hgrow (fun e => HVO.out.not_row (by decide) HROW.out e)
        have hn5 : Boxed w5 w.heap.size 3 (.int .i64 q) := (Boxed.alloc HCN.out _).kept hgrow (fun e => by have := (World.ownsRow.lt HROW.out _ e.symm).1; omega)
        exact ⟨HJ.out.app HX.out (by omega) hzV HVO.out _ hown' hgrow hat, hb5.cell, hb5.frozen, hn5.cell⟩)
      by_cases hb : k + 1 = q
      · have hbq : (((k + 1 : Nat) : Int) == (q : Int)) = true := by rw [hb]; simp
        gi_wp2_with (gi_at_builtin; refine wpListIn_append_own_at _ rfl _ _ 29 rfl w3.heap.size 27 i0 (.agg #[.int .i64 0, .int .i64 0]) 2 16 Try.underlying29 hi hz0 hz1' hz2 rfl (by decide) _ _ _ rfl (HROW.out.alloc _) ⟨V.heap.size, 0, none⟩ 1 1 [.int .i64 x, .int .i64 u] rfl rfl (World.news_of_block (World.alloc_heap_new V _)) (by simp [Value.oneCell']) (by unfold maxLen; omega) (by omega) (by simp; omega) ?_; intro v' w5 hown' hgrow _ hat; have harm := HARM.out v' w5 hown' hgrow hat; obtain ⟨ha1, hc3, hf3, hn3⟩ := harm; have HA1 := Lib.hid ha1; obtain ⟨g', cap', rfl⟩ := ownsRow_succ hown'; clear ha1 hgrow hat hown')
        have h := HA1.out
        rw [hb] at h
        exact ⟨h.2, rfl, _, h.1⟩
      · have hbq : (((k + 1 : Nat) : Int) == (q : Int)) = false := by simp; omega
        gi_wp2_with (gi_at_builtin; refine wpListIn_append_own_at _ rfl _ _ 29 rfl w3.heap.size 27 i0 (.agg #[.int .i64 0, .int .i64 0]) 2 16 Try.underlying29 hi hz0 hz1' hz2 rfl (by decide) _ _ _ rfl (HROW.out.alloc _) ⟨V.heap.size, 0, none⟩ 1 1 [.int .i64 x, .int .i64 u] rfl rfl (World.news_of_block (World.alloc_heap_new V _)) (by simp [Value.oneCell']) (by unfold maxLen; omega) (by omega) (by simp; omega) ?_; intro v' w5 hown' hgrow _ hat; have harm := HARM.out v' w5 hown' hgrow hat; obtain ⟨ha1, hc3, hf3, hn3⟩ := harm; have HA1 := Lib.hid ha1; obtain ⟨g', cap', rfl⟩ := ownsRow_succ hown'; clear ha1 hgrow hat hown')
        exact ⟨HA1.out.2, (k + 1, takeL' (ahK key) l1), ⟨hklt, rfl⟩, HA1.out.1, by show k + 1 < q; omega⟩
    case done =>
      rintro ⟨k, l1⟩ W ⟨hj, hkq⟩ ⟨he1, he2⟩ hD
      simp only at hj he1 he2 hkq
      have hle := ofS_len (key := key) xs
      exact HTAIL.out k l1 W hj (by rw [List.take_of_length_le (by omega), List.take_of_length_le (by omega)]) (by omega) hD
    case stop =>
      rintro c W ⟨rfl, l1, hj⟩ hD
      refine wpIn_exit ?_
      simp only [Exit.inBlock, if_pos]
      have hle := ofS_len (key := key) xs
      have := hj.le.1
      exact HTAIL.out q l1 W hj rfl (by omega) hD

end Go.Proofs.Ytpdncgjepfgnjaa
