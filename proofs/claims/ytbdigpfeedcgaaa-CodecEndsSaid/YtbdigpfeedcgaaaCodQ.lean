/- codec.Put: the state of its loop. -/
import Derived.Test.YtbdigpfeedcgaaaCodV
import Derived.Test.YtbdigpfeedcgaaaCodA
import Derived.Test.YtbdigpfeedcgaaaFrameAl
namespace Go.Proofs.Ytbdigpfeedcgaaa
open Go.RowKit
set_option linter.unusedVariables false

theorem put_any (m : Int) (h1 : In64 m) (b : Nat) (v : Value) (l : List Nat) (hl : l.length ≤ 1000000000) (w : World) (h : OutB w b v l) :
    Calls Try.prog 34 #[.pointer (some ⟨b, 0, none⟩), .int .i64 m] w fun e w' => e = .returned (.tuple #[]) ∧ ∃ v', OutTo w b v v' (l ++ uv (zig m)) w' := by
  have HU := Lib.hid (int_any m h1.1 h1.2 b v l hl w h)
  clear h
  go_enter Try.func34, Try.ntmps34
  go_wp2_with fail
  refine HU.out.mono ?_
  rintro e w1 ⟨rfl, hto⟩
  go_wp2
  go_end0
  exact ⟨rfl, hto⟩

/-- The rounds of Put: the list so far in the Out behind B, how many in the box behind that. -/
structure PutI (w : World) (B : Nat) (one : Value) (t : TypeId) (vl : Value) (pre : List Int) (W : World) : Prop where
  out : OutB W (B + 1) vl (uvs pre)
  own : ∀ g, vl.ownBlock = some g → B + 3 ≤ g
  one_ : Boxed W B t one
  cnt : Boxed W (B + 2) 45 (.int .u64 (pre.length : Nat))
  low : Below B w W
def PutJ (w : World) (B : Nat) (one : Value) (t : TypeId) (pre : List Int) (W : World) : Prop := ∃ vl, PutI w B one t vl pre W

theorem OutB.cells {W : World} {b : Nat} {v : Value} {l : List Nat} (h : OutB W b v l) {g : Nat} (hg : v.ownBlock = some g) {o : Obj} (ho : W.heap[g]? = some o) : o.isCells = true := by
  rcases h.row.2 with ⟨e, _⟩ | ⟨g', c, cur, hv, _, hh, _⟩
  · rw [e] at hg; cases hg
  · rw [hv] at hg
    obtain rfl : g' = g := by simpa [Value.ownBlock] using hg
    rw [hh] at ho; cases ho; rfl
theorem putJ_own {w : World} {B : Nat} {one : Value} {t : TypeId} : OwnFrom (B + 3) (PutJ w B one t) := fun pre W W' row ⟨vl, h⟩ hg hr =>
  ⟨vl, ⟨⟨(hg.block (B + 1) h.out.lt (fun e => by have := (hr _ e.symm).1; omega)).trans h.out.blk, h.out.row.grown hg (fun g e e2 => by
      obtain ⟨_, o, ho, hc⟩ := hr g e2
      rw [h.out.cells e ho] at hc; cases hc)⟩, h.own,
    h.one_.kept hg (fun e => by have := (hr _ e.symm).1; omega), h.cnt.kept hg (fun e => by have := (hr _ e.symm).1; omega),
    h.low.grown hg (Nat.le_of_lt h.one_.lt) (fun k e => by have := (hr k e).1; omega)⟩⟩
/-- One round. -/
theorem PutI.step {w : World} {B : Nat} {one : Value} {t : TypeId} {vl v' : Value} {pre : List Int} {x : Int} {W W' : World} (h : PutI w B one t vl pre W) (hto : OutTo W (B + 1) vl v' (uvs pre ++ uv (zig x)) W') :
    PutJ w B one t (pre ++ [x]) (W'.setCell ⟨B + 2, 0, none⟩ (.int .u64 ((pre.length : Nat) + 1 : Int))) ∧ KeepsFrom (B + 3) W (W'.setCell ⟨B + 2, 0, none⟩ (.int .u64 ((pre.length : Nat) + 1 : Int))) ∧ Below B W (W'.setCell ⟨B + 2, 0, none⟩ (.int .u64 ((pre.length : Nat) + 1 : Int))) ∧
      Boxed W' (B + 2) 45 (.int .u64 (pre.length : Nat)) := by
  have hmem : ∀ k, k < B + 3 → k ≠ B + 1 → k ∉ (B + 1) :: vl.ownBlock.toList := fun k h1 h2 hk => by
    rcases List.mem_cons.1 hk with e | e
    · exact h2 e
    · rw [Option.mem_toList] at e
      have := h.own k e; omega
  have hone : Boxed W' B t one := (hto.but.block B h.one_.lt (hmem B (by omega) (by omega))).trans h.one_
  have hcnt : Boxed W' (B + 2) 45 (.int .u64 (pre.length : Nat)) := (hto.but.block (B + 2) h.cnt.lt (hmem (B + 2) (by omega) (by omega))).trans h.cnt
  have hset : But [B + 2] W' (W'.setCell ⟨B + 2, 0, none⟩ (.int .u64 ((pre.length : Nat) + 1 : Int))) := (But.refl _ _).set (by simp) _
  have hbut : But ((B + 2) :: (B + 1) :: vl.ownBlock.toList) W (W'.setCell ⟨B + 2, 0, none⟩ (.int .u64 ((pre.length : Nat) + 1 : Int))) := (hto.but.more (fun k hk => .inl (List.mem_cons_of_mem _ hk))).set (by simp) _
  have hge : ∀ k, k ∈ (B + 2) :: (B + 1) :: vl.ownBlock.toList → B ≤ k := fun k hk => by
    rcases List.mem_cons.1 hk with e | hk
    · omega
    · rcases List.mem_cons.1 hk with e | e
      · omega
      · rw [Option.mem_toList] at e
        have := h.own k e; omega
  have hlow := hbut.below hge (Nat.le_of_lt h.one_.lt)
  have hB2 := h.cnt.lt
  have hown' : ∀ g, v'.ownBlock = some g → B + 3 ≤ g := fun g hg => by
    rcases hto.own with e | ⟨g', e, hg'⟩
    · rw [e] at hg; exact h.own g hg
    · rw [e] at hg; cases hg; omega
  refine ⟨⟨v', ⟨?_, hown', hone.other (by omega) _, ?_, h.low.trans hlow⟩⟩, ⟨hbut.size, fun k o hk hko ho => (hbut.block k (Array.getElem?_eq_some_iff.1 hko).1 (fun hm => ?_)).trans hko⟩, hlow, hcnt⟩
  · rw [uvs_snoc]
    exact hto.out.but hset (by simp) (fun g hg hm => by have := hown' g hg; simp at hm; omega)
  · rw [List.length_append]
    exact hcnt.set _
  · rcases List.mem_cons.1 hm with e | hm
    · omega
    · rcases List.mem_cons.1 hm with e | e
      · omega
      · rw [Option.mem_toList] at e
        rw [h.out.cells e hko] at ho; cases ho
end Go.Proofs.Ytbdigpfeedcgaaa

/- codec.Put at int64. -/
namespace Go.Proofs.Ytbdigpfeedcgaaa
open Go.RowKit
set_option linter.unusedVariables false
attribute [local go_sem] Oper.semAt_some
attribute [-go_sem] Builtin.append_

theorem OutTo.late {w X : World} {b D : Nat} {v v' : Value} {l : List Nat} (h : OutTo w b v v' l X) (hD : w.heap.size ≤ D) (hK : X.heap[D]? = some (.deferred (some []))) : OutTo w b v v' l (X.putObj D (.deferred none)) := by
  have hne : b ≠ D := by
    rintro rfl
    have := h.out.blk
    rw [hK] at this; cases this
  have hg := grownBy_putObj' X D (.deferred none)
  refine ⟨⟨(World.putObj_heap_other hne).trans h.out.blk, h.out.row.grown hg (fun g e e2 => ?_)⟩, ⟨hg.os.trans h.but.os, hg.tape.trans h.but.tape, hg.output.trans h.but.output, Nat.le_trans h.but.size hg.size, fun k hk hn => (World.putObj_heap_other (by omega)).trans (h.but.block k hk hn)⟩, h.own⟩
  cases e2
  have := h.out.cells e hK
  cases this

set_option maxRecDepth 100000 in
set_option maxHeartbeats 4000000 in
theorem putAll_any (xs : List Int) (hx : ∀ m ∈ xs, In64 m) (hn : xs.length ≤ 10000) (Bs : Nat) (pa : Option Addr) (n c : Nat) (b : Nat) (v : Value) (l : List Nat) (hl : l.length ≤ 100000000) (w : World) (h : OutB w b v l)
    (hBs : Bs < w.heap.size) (hc : w.cell? ⟨Bs, 0, none⟩ = some (.slice pa n c)) (hS : Sl encN w.heap.size w (.slice pa n c) xs) :
    Calls Try.prog 32 #[.pointer (some ⟨b, 0, none⟩), .func (.func 91) #[] #[.pointer (some ⟨Bs, 0, none⟩)], .func (.func 34) #[] #[]] w fun e w' => e = .returned (.tuple #[]) ∧ ∃ v', OutTo w b v v' (l ++ listL xs) w' := by
  have HX := Lib.hid hx
  have HO := Lib.hid h
  have HS := Lib.hid hS
  have HC := Lib.hid hc
  clear hx h hS hc
  refine (callsIn_wide (n := 3)).1 ?_
  refine callsIn_of_wp_marks Try.func32 rfl trivial ?_ rfl
  simp only [Try.ntmps32, List.size_toArray, List.length_cons, List.length_nil, Nat.reduceAdd, Nat.reduceSub, Array.replicate_succ, Array.replicate_zero, List.push_toArray, List.append_toArray, List.nil_append, List.cons_append]
  refine (wpIn_wide (n := 3)).2 ?_
  go_wp2_with fail
  obtain ⟨B, hBe⟩ : ∃ B, w.heap.size = B := ⟨_, rfl⟩
  obtain ⟨W3, hW3⟩ : ∃ W3, ((w.alloc (.cells #[Value.func (.func 34) #[] #[]] 57)).alloc (.cells #[.slice none 0 0] 48)).alloc (.cells #[.int .u64 0] 45) = W3 := ⟨_, rfl⟩
  have hz3 : W3.heap.size = B + 3 := by rw [← hW3, ← hBe]; simp
  have hb3 : Below B w W3 := by
    rw [← hW3, ← hBe]
    exact (((Below.refl _ w).alloc (Nat.le_refl _) _).alloc (by simp) _).alloc (by simp; omega) _
  have hI0 : PutJ w B (.func (.func 34) #[] #[]) 57 [] W3 := by
    refine ⟨.slice none 0 0, ⟨⟨?_, ⟨rfl, .inl ⟨rfl, rfl⟩⟩⟩, fun g hg => (by cases hg), ?_, ?_, hb3⟩⟩
    · rw [← hW3, ← hBe, Below.heap_alloc _ _ _ (by simp)]
      have := World.alloc_heap_new (w.alloc (.cells #[Value.func (.func 34) #[] #[]] 57)) (.cells #[.slice none 0 0] 48)
      rw [World.size_alloc] at this
      exact this
    · rw [← hW3, ← hBe]
      exact ((Boxed.new w _ _).alloc _).alloc _
    · rw [← hW3, ← hBe]
      have := World.alloc_heap_new ((w.alloc (.cells #[Value.func (.func 34) #[] #[]] 57)).alloc (.cells #[.slice none 0 0] 48)) (.cells #[.int .u64 0] 45)
      rw [World.size_alloc, World.size_alloc] at this
      exact this
  rw [hBe] at HS hBs ⊢
  have hcB := (hb3.cell (p := ⟨Bs, 0, none⟩) hBs).trans HC.out
  have hSB := HS.out.below hb3
  rw [show B + 1 + 1 = B + 2 from rfl]
  rw [hW3]
  clear hW3 HC HS
  rename_i K' hKQ
  refine (wpIn_wide (n := 3)).1 ?_
  refine wpIn_act ?_
  intro A hA
  refine rangeR rfl (by omega) (gf := 91) (lb := #[.pointer (some ⟨Bs, 0, none⟩)]) (by rw [hA]; rfl) trivial (enters_of Try.func91 (by kernel_rfl) rfl)
    (values1 Bs B xs pa n c W3 (by omega) hBs (by omega) hcB hSB) (fun _ _ _ _ _ _ h => h) (fun r h => by cases h) (by omega) (Below.refl _ _) (fun _ => rfl)
    (PutJ w B (.func (.func 34) #[] #[]) 57) (fun _ _ _ => False) (by rw [hz3]; exact putJ_own) (fun _ _ _ _ _ h _ _ => h.elim) (AbidesCells.nil _) (fun _ => AbidesCells.nil _) hI0
    (fun x => { tmps := (A.tmps.setIfInBounds 10 (.int .i64 x)).setIfInBounds 8 (.int .i64 x), defers := [] }) ?assign ?body ?done ?stop
  case assign =>
    rintro l x W K hK
    rw [hA] at hK ⊢
    gi_wp2
    exact hK
  case body =>
    rintro l pre x W ⟨vl, hi⟩ hp hzW _
    rw [hA]
    have hxi := HX.out x (hp.subset (by simp))
    have hlen := hp.length_le
    have hul := uvs_len pre (fun m hm => HX.out m (hp.subset (by simp [hm])))
    rw [List.length_append] at hlen
    have HP := Lib.hid (put_any x hxi (B + 1) vl (uvs pre) (by simp at hlen; omega) W hi.out)
    have c1 := hi.one_.cell
    have HST := Lib.hid (fun (v' : Value) (W' : World) (h : OutTo W (B + 1) vl v' (uvs pre ++ uv (zig x)) W') => hi.step h)
    have hpl : (pre.length : Int) ≤ 10000 := by simp at hlen; omega
    clear hi hp hlen hul hxi
    gi_wp2_with fail
    refine ⟨trivial, ?_⟩
    refine ((callsIn_wide.2 HP.out).inRound l).mono ?_
    rintro e W1 ⟨rfl, v', hto⟩
    obtain ⟨s1, s2, s3, s4⟩ := HST.out v' W1 hto
    have c2 := s4.cell
    have f2 := s4.frozen
    have HS1 := Lib.hid s1
    have HS2 := Lib.hid s2
    have HS3 := Lib.hid s3
    clear s1 s2 s3 s4 hto HST HP c1
    gi_wp2
    exact ⟨by rw [hz3]; exact HS2.out, ⟨HS3.out, fun k h1 h2 => by omega, fun k hk => by cases hk⟩, HS1.out⟩
  case done =>
    rintro D ys W hD rfl ⟨vl, hi⟩ hK
    rw [hA]
    refine hKQ _ _ ?_
    have hbB : b < B := by rw [← hBe]; exact HO.out.lt
    have hvB : ∀ g, v.ownBlock = some g → g < B := fun g hg => by rw [← hBe]; exact HO.out.row.lt g hg
    have hoff : ∀ k, B ≤ k → k ∉ b :: v.ownBlock.toList := fun k hk hm => by
      rcases List.mem_cons.1 hm with e | e
      · omega
      · rw [Option.mem_toList] at e; have := hvB k e; omega
    have ho := HO.out.below (by rw [hBe]; exact hi.low)
    have hto0 : OutTo w b v v l W := ⟨ho, But.of_below (by rw [hBe]; exact hi.low), .inl rfl⟩
    have hU := uv_len10 (n := ys.length) (by omega)
    have hul := uvs_len ys HX.out
    have cn := hi.cnt.cell
    obtain ⟨p2, c2, rfl, _⟩ := hi.out.row.form
    have HU := Lib.hid (uint_any ys.length (by omega) b v l (by omega) W ho)
    have hLL : l ++ listL ys = (l ++ uv ys.length) ++ uvs ys := by unfold listL; rw [List.append_assoc]
    obtain ⟨us, hus⟩ : ∃ us, uvs ys = us := ⟨_, rfl⟩
    have hio := hi.out
    rw [hus] at hLL hul hio
    obtain ⟨lu, hlu⟩ : ∃ lu, l ++ uv ys.length = lu := ⟨_, rfl⟩
    have hlul : lu.length ≤ 100000010 := by rw [← hlu, List.length_append]; omega
    rw [hlu] at hLL HU
    have HFIN : Hid (∀ (v1 : Value) (W1 : World), OutTo W b v v1 lu W1 → ∃ p n c w2, (∃ a1 n1 c1, v1 = .slice a1 n1 c1) ∧ (Builtin.append_ #[22, 22] 22 #[v1, .slice p2 us.length c2]).run Try.prog W1.drew = .ok (.slice p n c) w2 ∧ W1.cell? ⟨b, 0, none⟩ = some v1 ∧ W1.cell? ⟨B + 1, 0, none⟩ = some (.slice p2 us.length c2) ∧
        w2.cell? ⟨b, 0, none⟩ = some v1 ∧ w2.frozen? ⟨b, 0, none⟩ = false ∧ OutTo w b v (.slice p n c) (lu ++ us) (w2.setCell ⟨b, 0, none⟩ (.slice p n c)) ∧ (w2.setCell ⟨b, 0, none⟩ (.slice p n c)).heap[D]? = some (.deferred (some []))) := Lib.hid (by
      intro v1 W1 hto
      have hl1 : OutB W1 (B + 1) (.slice p2 us.length c2) us := hio.but hto.but (hoff _ (by omega)) (fun g hg => hoff g (by have := hi.own g (by rw [hus]; exact hg); omega))
      obtain ⟨v', w2, r1, r2, r3, r4⟩ := run_append_bytes W1.drew v1 lu.length (lu.map encY) hto.out.row _ _ us hl1.row.sl (by omega)
      have hd : Below W1.heap.size W1 W1.drew := (But.refl [] W1).drew.below (by simp) (Nat.le_refl _)
      have hp := hto.out.push (xs := us) hd r2 r3 r4
      have hk := hto.out.kept hd r3
      obtain ⟨p, n, c, rfl⟩ := ownsRow_form r2
      have htt := hto.trans hp
      exact ⟨p, n, c, w2, ownsRow_form hto.out.row, r1, hto.out.cell, hl1.cell, cell_of_row w2 b 0 _ _ _ hk, frozen_of_row w2 b 0 _ _ hk, hto0.trans htt, (htt.but.block D (Array.getElem?_eq_some_iff.1 hK).1 (hoff D (by omega))).trans hK⟩)
    have HLL := Lib.hid hLL
    obtain ⟨N, hN⟩ : ∃ N, ys.length = N := ⟨_, rfl⟩
    rw [hN] at HU cn hn
    obtain ⟨q2, hq2⟩ : ∃ q2, us.length = q2 := ⟨_, rfl⟩
    rw [hq2] at HFIN
    clear hi hio hto0 ho hoff hvB hul hlul hU hus hlu hK hq2 hN hLL hb3 hcB hSB
    go_wp2_with fail
    refine HU.out.mono ?_
    rintro e W1 ⟨rfl, v1, hto⟩
    obtain ⟨p, n', c', w2, ⟨a1, n1, c1, rfl⟩, hrun, hc1, hc2, hc3, hf3, hto2, hD2⟩ := HFIN.out v1 W1 hto
    have HTO2 := Lib.hid hto2
    have HD2 := Lib.hid hD2
    clear hto hto2 hD2 HU HFIN cn
    go_wp2_with fail
    go_region
    all_goals go_wp2
    all_goals
      refine ⟨by simp, .inl ⟨_, _, rfl, run_takeDeferred HD2.out, ?_⟩⟩
      exact ⟨_, results_none rfl _ _ _, rfl, _, by rw [HLL.out]; exact HTO2.out.late (by omega) HD2.out⟩
  case stop =>
    rintro D c' pre W hD hp h hK
    exact h.elim
end Go.Proofs.Ytbdigpfeedcgaaa
