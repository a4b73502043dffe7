/- A heap in memory: New, add, Put, Top. -/
import Derived.Test.YtpdncgjepfgnjaaHpB
import Derived.Deep.AppendLies
import Derived.Deep.RegionLaw
namespace Go.Proofs.Ytpdncgjepfgnjaa
open Go.RowKit
set_option linter.unusedVariables false

def valNP (x : (Int × Int) × Int) : Value := .agg #[.int .i64 x.1.1, .int .i64 x.1.2, .int .i64 x.2]
theorem infoNP : (Try.prog.info? 80).map (fun i => (i.zero, i.size, i.bytes)) = some (some (.agg #[.int .i64 0, .int .i64 0, .int .i64 0]), 3, 24) := by kernel_rfl

theorem HeapP.ne {own : List Nat} {W : World} {b : Nat} {fv v : Value} {l : List ((Int × Int) × Int)} {puts : Int} (h : HeapP own W b fv v l puts) : some b ≠ v.ownBlock := by
  rcases h.row.2 with ⟨rfl, _⟩ | ⟨g, cap, cur, rfl, _, hg, _⟩
  · simp [Value.ownBlock]
  · intro e
    obtain rfl : b = g := by simpa [Value.ownBlock] using e
    rw [h.blk] at hg; cases hg
theorem HeapP.rlt {own : List Nat} {W : World} {b : Nat} {fv v : Value} {l : List ((Int × Int) × Int)} {puts : Int} (h : HeapP own W b fv v l puts) (n : Nat) (hn : W.heap.size ≤ n) : some n ≠ v.ownBlock := fun e => by
  have := (World.ownsRow.lt h.row n e.symm).2
  omega
/-- A row is put in the place of the one there was. -/
theorem HeapP.row' {own : List Nat} {W W' : World} {b g n cap : Nat} {fv v : Value} {l m : List ((Int × Int) × Int)} {puts : Int} (h : HeapP own W b fv v l puts) (hb : W'.heap[b]? = W.heap[b]?) (hz : W.heap.size ≤ W'.heap.size) (hn : n = m.length)
    (hr : W'.ownsRow 0 80 3 (.slice (some ⟨g, 0, none⟩) n cap) n (flatP m)) (hgb : g ≠ b) (hlt : g < W'.heap.size) : HeapP (g :: own) (W'.setCell ⟨b, 1, none⟩ (.slice (some ⟨g, 0, none⟩) n cap)) b fv (.slice (some ⟨g, 0, none⟩) n cap) m puts := by
  subst hn
  refine ⟨heap_setCell_same W' b 1 _ _ _ (hb.trans h.blk), ?_, List.mem_cons_of_mem _ h.bo, fun g' hg' => ?_, fun k hk => ?_⟩
  · obtain ⟨h1, h2⟩ := hr
    refine ⟨h1, ?_⟩
    rcases h2 with h2 | ⟨g', cap', cur, hv, hg, hh, r⟩
    · exact .inl h2
    · cases hv
      exact .inr ⟨g, cap, cur, rfl, hg, (Below.heap_setCell _ _ _ _ (by simpa using hgb)).trans hh, r⟩
  · obtain rfl : g = g' := by simpa [Value.ownBlock] using hg'
    exact List.mem_cons_self
  · have : k < W'.heap.size := by
      rcases List.mem_cons.1 hk with rfl | hk
      · exact hlt
      · exact Nat.lt_of_lt_of_le (h.lt k hk) hz
    simpa [World.setCell] using this

set_option maxRecDepth 100000 in
set_option maxHeartbeats 1000000 in
theorem newP (fv : Value) (w : World) (hfv : ∃ of : Nat, fv = .func (.func of) #[] #[]) :
    Calls Try.prog 8 #[fv] w fun e w' => e = .returned (.pointer (some ⟨w.heap.size, 0, none⟩)) ∧ HeapP [w.heap.size] w' w.heap.size fv (.slice none 0 0) [] 0 ∧ Below w.heap.size w w' := by
  obtain ⟨of, rfl⟩ := hfv
  go_enter Try.func8, Try.ntmps8
  go_wp2
  go_ret
  refine ⟨rfl, ⟨World.alloc_heap_new w _, World.ownsRow_nil _ _ _ _, by simp, fun g hg => by simp [Value.ownBlock] at hg, fun k hk => by simp at hk; subst hk; simp⟩, (Below.refl _ _).alloc (Nat.le_refl _) _⟩

set_option maxRecDepth 100000 in
set_option maxHeartbeats 4000000 in
theorem addP {of : Nat} {key : Int × Int → Int} (ho : OrdP of key) {own : List Nat} {b : Nat} {v : Value} {l : List ((Int × Int) × Int)} {puts : Int} (x : (Int × Int) × Int) (hm : l.length < 1073741824) (w : World) (h : HeapP own w b (.func (.func of) #[] #[]) v l puts) :
    Calls Try.prog 43 #[.pointer (some ⟨b, 0, none⟩), valNP x] w fun e w' => e = .returned (.tuple #[]) ∧ ∃ g v', HeapP (g :: own) w' b (.func (.func of) #[] #[]) v' (putL (ahK key) l x) puts ∧ But own w w' ∧ (g ∈ own ∨ w.heap.size ≤ g) := by
  obtain ⟨i0, hi, hz0, hz1, hz2⟩ := info_parts infoNP
  obtain ⟨⟨k, u⟩, p⟩ := x
  have H := Lib.hid h
  obtain ⟨a, c, rfl, hc⟩ := h.form
  have hbl := h.lt b h.bo
  go_enter Try.func43, Try.ntmps43
  unfold valNP
  go_upto_region 1 with fail
  obtain ⟨w1, hw1⟩ : ∃ w1, w.alloc (Obj.cells #[Value.int IntKind.i64 k, Value.int IntKind.i64 u, Value.int IntKind.i64 p] 80) = w1 := ⟨_, rfl⟩
  rw [hw1]
  have hb1 : Below w.heap.size w w1 := by rw [← hw1]; exact (Below.refl _ _).alloc (Nat.le_refl _) _
  have h1 := h.below hb1 (Nat.le_refl _)
  have lz : w.heap.size + 1 ≤ w1.heap.size := by rw [← hw1]; simp
  have c0 := h1.c1
  have f0 := h1.frozen 1
  have d0 : w1.cell? ⟨w.heap.size, 0, none⟩ = some (.int .i64 k) := by rw [← hw1]; simp
  have d1 : w1.cell? ⟨w.heap.size, 1, none⟩ = some (.int .i64 u) := by rw [← hw1]; simp
  have d2 : w1.cell? ⟨w.heap.size, 2, none⟩ = some (.int .i64 p) := by rw [← hw1]; simp
  have HR := Lib.hid h1.row
  have q1 := h1.ne
  have q2 := h.rlt w.heap.size (Nat.le_refl _)
  clear hw1 h
  have f1 : ∀ o, (w1.alloc o).frozen? ⟨b, 1, none⟩ = false := fun o => (World.frozen?_of_block (heap_alloc_old' w1 o b (by omega))).trans f0
  have c1 : ∀ o, (w1.alloc o).cell? ⟨b, 1, none⟩ = some (.slice a l.length c) := fun o => (World.cell?_of_block (heap_alloc_old' w1 o b (by omega))).trans c0
  go_region_law ((refine step_append_lies _ rfl _ _ _ rfl 0 80 i0 _ 3 24 Try.underlying75 hi hz0 hz1 hz2 rfl (by decide) (.slice a l.length c) l.length (flatP l) rfl ((HR.out.alloc _).drew) ⟨w1.heap.size, 0, none⟩ 1 1 (cellsP ((k, u), p)) rfl rfl (World.news_of_block (World.alloc_heap_new _ _)) (by simp [cellsP, Value.oneCell']) (by decide) (by unfold maxLen; omega) (by omega) (Nat.zero_le _) _ rfl ?_; intro g cap w2 hown hgrow hat hlt; have z1 := hgrow.cell (a := ⟨b, 1, none⟩) (by simp [c1]; rfl) q1; have z2 : w2.frozen? ⟨b, 1, none⟩ = false := (hgrow.frozen_far ⟨b, 1, none⟩ (by simp; omega) q1).trans (by simp [f1])))
  all_goals
    have hga : g ∈ own ∨ w.heap.size ≤ g := by
      rcases hat with e | e
      · exact .inl (H.out.ro g e)
      · right; rw [e]; simp; omega
    have hgb : g ≠ b := by
      rcases hat with e | e
      · intro e2; subst e2; exact q1 e.symm
      · intro e2; subst e2; rw [e] at hbl; simp at hbl; omega
    have hB2 : But own w w2 := ((But.of_below hb1).alloc _).drew.grown hgrow (fun k hk => .inl (H.out.ro k hk))
    have hsz : w1.heap.size ≤ w2.heap.size := by have := hgrow.size; simp at this; omega
    have h3 := HeapP.row' (n := l.length + 1) (m := l ++ [((k, u), p)]) h1 ((hgrow.block b (by simp; omega) q1).trans (heap_alloc_old' w1 _ b (by omega))) hsz (by simp) (by rw [flatP_app]; exact hown) hgb hlt
    have hB3 := hB2.set (p := ⟨b, 1, none⟩) (.inl H.out.bo) (Value.slice (some ⟨g, 0, none⟩) (l.length + 1) cap)
    obtain ⟨w3, hw3⟩ : ∃ w3, w2.setCell ⟨b, 1, none⟩ (Value.slice (some ⟨g, 0, none⟩) (l.length + 1) cap) = w3 := ⟨_, rfl⟩
    rw [hw3] at h3 hB3 ⊢
    have HH3 := Lib.hid h3
    have HB3 := Lib.hid hB3
    have hl1 : (l ++ [((k, u), p)]).length = l.length + 1 := by simp
    have HLN := Lib.hid (hlenP _ h3)
    have HRI := Lib.hid (riseP ho l.length (by rw [hl1]; omega) w3 h3 (by rw [hl1]; omega))
    rw [hl1] at HLN
    have hsub : ((l.length + 1 : Nat) : Int) - 1 = (l.length : Nat) := by omega
    obtain ⟨n, hn⟩ : ∃ n, l.length = n := ⟨_, rfl⟩
    have HN := Lib.hid hn
    rw [hn] at HLN HRI hsub hm ⊢
    clear hw3 h3 hB3 hB2 hl1 hn z1 z2 hown hgrow hat hlt c0 f0 c1 f1 d0 d1 d2 h1 hsz
    go_wp2_with (first | (go_at_call 14; refine HLN.out.mono ?_; rintro e w' ⟨rfl, rfl⟩) | (go_at_call 63; refine HRI.out.mono ?_; rintro e w4 ⟨rfl, h4, hB4⟩; have HH4 := Lib.hid h4; have HB4 := Lib.hid hB4; clear h4 hB4))
    go_end0
    have hput : putL (ahK key) l ((k, u), p) = riseL (ahK key) (l ++ [((k, u), p)]) n := by unfold putL; rw [HN.out]
    refine ⟨rfl, g, .slice (some ⟨g, 0, none⟩) (n + 1) cap, by rw [hput]; exact HH4.out, HB3.out.trans HB4.out (fun k hk => ?_), hga⟩
    · rcases List.mem_cons.1 hk with rfl | hk
      · exact hga
      · exact .inl hk

theorem HeapP.puts' {own : List Nat} {W : World} {b : Nat} {fv v : Value} {l : List ((Int × Int) × Int)} {puts : Int} (h : HeapP own W b fv v l puts) (q : Int) : HeapP own (W.setCell ⟨b, 2, none⟩ (.int .i64 q)) b fv v l q := by
  refine ⟨heap_setCell_same W b 2 _ _ _ h.blk, ?_, h.bo, h.ro, fun k hk => by have := h.lt k hk; simpa [World.setCell] using this⟩
  have hne := h.ne
  obtain ⟨h1, h2⟩ := h.row
  refine ⟨h1, ?_⟩
  rcases h2 with h2 | ⟨g', cap', cur, hv, hg, hh, r⟩
  · exact .inl h2
  · subst hv
    exact .inr ⟨g', cap', cur, rfl, hg, (Below.heap_setCell _ _ _ _ (fun e => hne (by simp [Value.ownBlock]; exact e.symm))).trans hh, r⟩

set_option maxRecDepth 100000 in
set_option maxHeartbeats 4000000 in
theorem putP {of : Nat} {key : Int × Int → Int} (ho : OrdP of key) {own : List Nat} {b : Nat} {v : Value} {l : List ((Int × Int) × Int)} {puts : Int} (x : Int × Int) (hm : l.length < 1073741824) (h0 : 0 ≤ puts) (h1 : puts < 4611686018427387904) (w : World) (h : HeapP own w b (.func (.func of) #[] #[]) v l puts) :
    Calls Try.prog 10 #[.pointer (some ⟨b, 0, none⟩), valP x] w fun e w' => e = .returned (.tuple #[]) ∧ ∃ g v', HeapP (g :: own) w' b (.func (.func of) #[] #[]) v' (putL (ahK key) l (x, puts + 1)) (puts + 1) ∧ But own w w' ∧ (g ∈ own ∨ w.heap.size ≤ g) := by
  obtain ⟨k, u⟩ := x
  have H := Lib.hid h
  have hbl := h.lt b h.bo
  have HA := Lib.hid (fun (W : World) h => addP ho (own := own) (b := b) (v := v) (l := l) (puts := puts + 1) ((k, u), puts + 1) hm W h)
  unfold valNP at HA
  have c2 := h.c2
  have f2 := h.frozen 2
  unfold valP
  clear h
  go_enter Try.func10, Try.ntmps10
  go_upto_region 2 with fail
  obtain ⟨w1, hw1⟩ : ∃ w1, ((w.setCell ⟨b, 2, none⟩ (Value.int IntKind.i64 (puts + 1))).alloc (Obj.cells #[Value.int IntKind.i64 k, Value.int IntKind.i64 u] 27)) = w1 := ⟨_, rfl⟩
  rw [hw1]
  have hh := H.out.puts' (puts + 1)
  have hbb : But own w (w.setCell ⟨b, 2, none⟩ (Value.int IntKind.i64 (puts + 1))) := (But.refl own w).set (.inl H.out.bo) _
  have h2 := hh.below ((Below.refl _ (w.setCell ⟨b, 2, none⟩ (Value.int IntKind.i64 (puts + 1)))).alloc (Nat.le_refl _) (Obj.cells #[Value.int IntKind.i64 k, Value.int IntKind.i64 u] 27)) (Nat.le_refl _)
  have hb2 := hbb.alloc (Obj.cells #[Value.int IntKind.i64 k, Value.int IntKind.i64 u] 27)
  rw [hw1] at h2 hb2
  have hz : w1.heap.size = w.heap.size + 1 := by rw [← hw1]; simp [World.setCell]
  have HZ := Lib.hid hz
  have c0 := h2.c2
  have d0 : w1.cell? ⟨w.heap.size, 0, none⟩ = some (.int .i64 k) := by rw [← hw1]; exact cell_new_at (by simp [World.setCell]) _ _ 0
  have d1 : w1.cell? ⟨w.heap.size, 1, none⟩ = some (.int .i64 u) := by rw [← hw1]; exact cell_new_at (by simp [World.setCell]) _ _ 1
  have HH2 := Lib.hid h2
  have HB2 := Lib.hid hb2
  have hno : w.heap.size ∉ own := fun hk => by have := H.out.lt _ hk; omega
  clear hw1 h2 hb2 hh hbb c2 f2 hz
  go_region_held3 (fun W => W.cell? ⟨b, 2, none⟩ = some (.int .i64 (puts + 1)) ∧ W.cell? ⟨w.heap.size, 0, none⟩ = some (.int .i64 k) ∧ W.cell? ⟨w.heap.size, 1, none⟩ = some (.int .i64 u)) (first | go_keep | exact ⟨HH3.out.c2, (World.cell?_of_block (HB3.out.block w.heap.size (by simp [HZ.out]) hno)).trans d0, (World.cell?_of_block (HB3.out.block w.heap.size (by simp [HZ.out]) hno)).trans d1⟩) ((refine (HA.out _ HH2.out.drew).mono ?_; rintro e w3 ⟨rfl, g, v', h3, hb3, hg3⟩; have HH3 := Lib.hid h3; have HB3 := Lib.hid hb3; have HG3 := Lib.hid hg3; clear h3 hb3 hg3))
  go_end0
  refine ⟨rfl, g, v', HH3.out, HB2.out.drew.trans' HB3.out, ?_⟩
  rcases HG3.out with h | h
  · exact .inl h
  · right; simp [HZ.out] at h; omega

end Go.Proofs.Ytpdncgjepfgnjaa
