/- A heap in memory: its block and its row of numbered things. -/
import Derived.Test.YtpdncgjepfgnjaaBut
import Derived.Test.YtpdncgjepfgnjaaHeapO
import Derived.IntWalk
import Derived.LoopTactic
import Derived.Outline
import Derived.RegionTactic
import Derived.BigRegion
import Derived.Laws.Rows
import Derived.Laws.OwnMore
import Derived.BigQuiet
import Derived.Deep.RegionHeld3
import Derived.Deep.DeepCutAuto
import Derived.Deep.QuietTactic
import Derived.Great.BuildSlice
namespace Go.Proofs.Ytpdncgjepfgnjaa
open Go.RowKit
set_option linter.unusedVariables false

def valI (x : Int) : Value := .int .i64 x
def cellsI (x : Int × Int) : List Value := [.int .i64 x.1, .int .i64 x.2]
def flatI (l : List (Int × Int)) : List Value := l.flatMap cellsI
theorem flatI_len : ∀ l : List (Int × Int), (flatI l).length = l.length * 2
  | [] => rfl
  | x :: l => by
    have := flatI_len l
    unfold flatI at this ⊢
    rw [List.flatMap_cons, List.length_append, this]
    simp [cellsI]; omega
theorem flatI_app (l m : List (Int × Int)) : flatI (l ++ m) = flatI l ++ flatI m := by unfold flatI; rw [List.flatMap_append]
/-- A cell of the row. -/
theorem flatI_get : ∀ (l : List (Int × Int)) (i : Nat) (x : Int × Int), l[i]? = some x → (flatI l)[i * 2]? = some (.int .i64 x.1) ∧ (flatI l)[i * 2 + 1]? = some (.int .i64 x.2)
  | [], i, x, h => by simp at h
  | y :: l, 0, x, h => by
    simp at h; subst h
    simp [flatI, cellsI]
  | y :: l, i + 1, x, h => by
    have := flatI_get l i x (by simpa using h)
    have e : flatI (y :: l) = cellsI y ++ flatI l := by unfold flatI; rw [List.flatMap_cons]
    have hl : (cellsI y).length = 2 := rfl
    rw [e]
    refine ⟨?_, ?_⟩
    · rw [List.getElem?_append_right (by omega), show (i + 1) * 2 - (cellsI y).length = i * 2 from by rw [hl]; omega]; exact this.1
    · rw [List.getElem?_append_right (by omega), show (i + 1) * 2 + 1 - (cellsI y).length = i * 2 + 1 from by rw [hl]; omega]; exact this.2

/-- The heap at block b: its order, its row, how many were put. -/
structure HeapI (own : List Nat) (W : World) (b : Nat) (fv v : Value) (l : List (Int × Int)) (puts : Int) : Prop where
  blk : W.heap[b]? = some (.cells #[fv, v, .int .i64 puts] 100 (0, 0))
  row : W.ownsRow 0 103 2 v l.length (flatI l)
  bo : b ∈ own
  ro : ∀ g, v.ownBlock = some g → g ∈ own
  lt : ∀ k ∈ own, k < W.heap.size
section
variable {own : List Nat} {W : World} {b : Nat} {fv v : Value} {l : List (Int × Int)} {puts : Int}
theorem HeapI.c0 (h : HeapI own W b fv v l puts) : W.cell? ⟨b, 0, none⟩ = some fv := cell_of_row W b 0 _ _ _ h.blk
theorem HeapI.c1 (h : HeapI own W b fv v l puts) : W.cell? ⟨b, 1, none⟩ = some v := cell_of_row W b 1 _ _ _ h.blk
theorem HeapI.c2 (h : HeapI own W b fv v l puts) : W.cell? ⟨b, 2, none⟩ = some (.int .i64 puts) := cell_of_row W b 2 _ _ _ h.blk
theorem HeapI.frozen (h : HeapI own W b fv v l puts) (i : Nat) : W.frozen? ⟨b, i, none⟩ = false := frozen_of_row W b i _ _ h.blk
theorem HeapI.form (h : HeapI own W b fv v l puts) : ∃ a c, v = .slice a l.length c ∧ l.length ≤ c := by
  rcases h.row.2 with ⟨rfl, e⟩ | ⟨g, cap, cur, e, _, _, hn, _⟩
  · exact ⟨none, 0, by rw [e], by omega⟩
  · exact ⟨_, _, e, hn⟩
theorem HeapI.cells {a : Option Addr} {n c : Nat} (h : HeapI own W b fv (.slice a n c) l puts) {i : Nat} {x : Int × Int} (hx : l[i]? = some x) :
    ∃ g, a = some ⟨g, 0, none⟩ ∧ n = l.length ∧ g ∈ own ∧ g ≠ b ∧ W.cell? ⟨g, i * 2, none⟩ = some (.int .i64 x.1) ∧ W.cell? ⟨g, i * 2 + 1, none⟩ = some (.int .i64 x.2) ∧ ∀ j, W.frozen? ⟨g, j, none⟩ = false := by
  have hlt : i < l.length := (List.getElem?_eq_some_iff.1 hx).1
  rcases h.row.2 with ⟨e, e0⟩ | ⟨g, cap, cur, e, _, hg, hn, _⟩
  · omega
  · cases e
    obtain ⟨f1, f2⟩ := flatI_get l i x hx
    refine ⟨g, rfl, rfl, h.ro g rfl, fun e => ?_, ?_, ?_, fun j => h.row.frozenAt j⟩
    · subst e; rw [h.blk] at hg; cases hg
    · rw [h.row.cellAt _ (by omega)]; exact f1
    · rw [h.row.cellAt _ (by omega)]; exact f2
end

set_option maxHeartbeats 400000 in
theorem hlenI {own : List Nat} {b : Nat} {fv v : Value} {l : List (Int × Int)} {puts : Int} (w : World) (h : HeapI own w b fv v l puts) :
    Calls Try.prog 42 #[.pointer (some ⟨b, 0, none⟩)] w fun e w' => e = .returned (.int .i64 l.length) ∧ w = w' := by
  have c1 := h.c1
  obtain ⟨a, c, rfl, hc⟩ := h.form
  obtain ⟨n, hn⟩ : ∃ n, l.length = n := ⟨_, rfl⟩
  rw [hn] at c1 ⊢
  clear h hn
  go_enter Try.func42, Try.ntmps42
  go_wp2
  go_ret
  exact ⟨rfl, rfl⟩

theorem neqI (f : Fn) (a c : Array Value) (w : World) : (binOp .neq 62 (.func f a c) .nilFunc).run Try.prog w = .ok (.bool true) w := by kernel_rfl
attribute [local go_sem] neqI
/-- An order: what the func value answers. -/
def OrdI (of : Nat) (key : Int → Int) : Prop := (∀ args w, (callFunc of args).run Try.prog w = .ok (.enter of args) w) ∧ ∀ x y w, Calls Try.prog of #[valI x, valI y] w fun e w' => e = .returned (.bool (decide (key x < key y))) ∧ Below w.heap.size w w'

set_option maxRecDepth 100000 in
set_option maxHeartbeats 1000000 in
theorem standsI {of : Nat} {key : Int → Int} (ho : OrdI of key) {b : Nat} (x y : Int) (w : World) (hc : w.cell? ⟨b, 0, none⟩ = some (.func (.func of) #[] #[])) (hb : b < w.heap.size) :
    Calls Try.prog 79 #[.pointer (some ⟨b, 0, none⟩), valI x, valI y] w fun e w' => e = .returned (.bool (decide (key x < key y))) ∧ Below w.heap.size w w' := by
  have HO := Lib.hid ho.2
  have eg := ho.1
  unfold valI
  unfold valI at HO
  go_enter Try.func79, Try.ntmps79
  go_wp2_with (refine (HO.out x y _).mono ?_; rintro e w' ⟨rfl, hb'⟩)
  go_ret
  exact ⟨rfl, hb'⟩

theorem HeapI.at_ {own : List Nat} {W : World} {b : Nat} {fv : Value} {l : List (Int × Int)} {puts : Int} {a : Option Addr} {n c : Nat} (h : HeapI own W b fv (.slice a n c) l puts) {i : Nat} (hi : i < l.length) :
    ∃ g, a = some ⟨g, 0, none⟩ ∧ n = l.length ∧ g ∈ own ∧ g ≠ b ∧ W.cell? ⟨g, i * 2, none⟩ = some (.int .i64 (at' l i).1) ∧ W.cell? ⟨g, i * 2 + 1, none⟩ = some (.int .i64 (at' l i).2) ∧ ∀ j, W.frozen? ⟨g, j, none⟩ = false :=
  h.cells (at_get l i hi)

set_option maxRecDepth 100000 in
set_option maxHeartbeats 2000000 in
theorem aheadI {of : Nat} {key : Int → Int} (ho : OrdI of key) {own : List Nat} {b : Nat} {v : Value} {l : List (Int × Int)} {puts : Int} (i j : Nat) (w : World) (h : HeapI own w b (.func (.func of) #[] #[]) v l puts) (hi : i < l.length) (hj : j < l.length) :
    Calls Try.prog 75 #[.pointer (some ⟨b, 0, none⟩), .int .i64 i, .int .i64 j] w fun e w' => e = .returned (.bool (ahK key (at' l i) (at' l j))) ∧ Below w.heap.size w w' := by
  have HO := Lib.hid ho
  have hcb := h.c0
  have c1 := h.c1
  have hbl := h.lt b h.bo
  obtain ⟨a, c, rfl, hc⟩ := h.form
  obtain ⟨g, rfl, _, hg, _, i0, i1, _⟩ := h.at_ hi
  obtain ⟨g', e, _, _, _, j0, j1, _⟩ := h.at_ hj
  cases e
  have hgl := h.lt g hg
  obtain ⟨x, hx⟩ : ∃ x, at' l i = x := ⟨_, rfl⟩
  obtain ⟨y, hy⟩ : ∃ y, at' l j = y := ⟨_, rfl⟩
  rw [hx] at i0 i1 ⊢
  rw [hy] at j0 j1 ⊢
  obtain ⟨n, hn⟩ : ∃ n, l.length = n := ⟨_, rfl⟩
  rw [hn] at hi hj c1
  clear h hx hy hn
  obtain ⟨k, p⟩ := x
  obtain ⟨k', p'⟩ := y
  simp only at i0 i1 j0 j1
  have b1 : (0 : Int) ≤ i := by omega
  have b2 : (i : Int) < n := by omega
  have b3 : (0 : Int) ≤ j := by omega
  have b4 : (j : Int) < n := by omega
  have n0 := World.new_ne w _ c1
  have n1 := World.new_ne w _ i0
  have hah : ahK key (k, p) (k', p') = if p < p' then !decide (key k' < key k) else decide (key k < key k') := rfl
  rw [hah]
  clear hah
  have HS := Lib.hid (fun (x y : Int) (W : World) (h1 : W.cell? ⟨b, 0, none⟩ = some (.func (.func of) #[] #[])) (h2 : b < W.heap.size) => standsI HO.out x y W h1 h2)
  cases hq : decide (p < p') with
  | true =>
    rw [if_pos (of_decide_eq_true hq)]
    go_enter Try.func75, Try.ntmps75
    go_upto_region 1 with fail
    go_region_held3 (fun W => W.cell? ⟨b, 1, none⟩ = some (.slice (some ⟨g, 0, none⟩) n c) ∧ W.cell? ⟨g, i * 2, none⟩ = some (.int .i64 k) ∧ W.cell? ⟨g, i * 2 + 1, none⟩ = some (.int .i64 p) ∧ W.cell? ⟨g, j * 2, none⟩ = some (.int .i64 k') ∧ W.cell? ⟨g, j * 2 + 1, none⟩ = some (.int .i64 p')) (go_keep) (fail)
    all_goals
      go_wp2_with (go_at_call 79; refine (HS.out k' k _ (by simp [World.cell?_alloc_some, hcb]) (by simp; omega)).mono ?_; rintro e w' ⟨rfl, hb'⟩)
      go_ret
      exact ⟨rfl, (((Below.refl _ _).alloc (Nat.le_refl _) _).alloc (by simp) _).drew.trans (hb'.mono (by simp; omega))⟩
  | false =>
    rw [if_neg (of_decide_eq_false hq)]
    go_enter Try.func75, Try.ntmps75
    go_upto_region 1 with fail
    go_region_held3 (fun W => W.cell? ⟨b, 1, none⟩ = some (.slice (some ⟨g, 0, none⟩) n c) ∧ W.cell? ⟨g, i * 2, none⟩ = some (.int .i64 k) ∧ W.cell? ⟨g, i * 2 + 1, none⟩ = some (.int .i64 p) ∧ W.cell? ⟨g, j * 2, none⟩ = some (.int .i64 k') ∧ W.cell? ⟨g, j * 2 + 1, none⟩ = some (.int .i64 p')) (go_keep) (fail)
    all_goals
      go_wp2_with (go_at_call 79; refine (HS.out k k' _ (by simp [World.cell?_alloc_some, hcb]) (by simp; omega)).mono ?_; rintro e w' ⟨rfl, hb'⟩)
      go_ret
      exact ⟨rfl, (((Below.refl _ _).alloc (Nat.le_refl _) _).alloc (by simp) _).drew.trans (hb'.mono (by simp; omega))⟩

end Go.Proofs.Ytpdncgjepfgnjaa
