/- A heap in memory: its block and its row of numbered things. -/
import Derived.Test.YtpdncgjepfgnjaaBut
import Derived.Test.YtpdncgjepfgnjaaHeapO
import Derived.IntWalk
import Derived.LoopTactic
import Derived.Outline
import Derived.RegionTactic
import Derived.BigRegion
import Derived.Laws.Rows
import Derived.Laws.OwnMore
import Derived.BigQuiet
import Derived.Deep.RegionHeld3
import Derived.Deep.DeepCutAuto
import Derived.Deep.QuietTactic
import Derived.Great.BuildSlice
namespace Go.Proofs.Ytpdncgjepfgnjaa
open Go.RowKit
set_option linter.unusedVariables false

def valP (x : Int × Int) : Value := .agg #[.int .i64 x.1, .int .i64 x.2]
def cellsP (x : (Int × Int) × Int) : List Value := [.int .i64 x.1.1, .int .i64 x.1.2, .int .i64 x.2]
def flatP (l : List ((Int × Int) × Int)) : List Value := l.flatMap cellsP
theorem flatP_len : ∀ l : List ((Int × Int) × Int), (flatP l).length = l.length * 3
  | [] => rfl
  | x :: l => by
    have := flatP_len l
    unfold flatP at this ⊢
    rw [List.flatMap_cons, List.length_append, this]
    simp [cellsP]; omega
theorem flatP_app (l m : List ((Int × Int) × Int)) : flatP (l ++ m) = flatP l ++ flatP m := by unfold flatP; rw [List.flatMap_append]
/-- A cell of the row. -/
theorem flatP_get : ∀ (l : List ((Int × Int) × Int)) (i : Nat) (x : (Int × Int) × Int), l[i]? = some x → (flatP l)[i * 3]? = some (.int .i64 x.1.1) ∧ (flatP l)[i * 3 + 1]? = some (.int .i64 x.1.2) ∧ (flatP l)[i * 3 + 2]? = some (.int .i64 x.2)
  | [], i, x, h => by simp at h
  | y :: l, 0, x, h => by
    simp at h; subst h
    simp [flatP, cellsP]
  | y :: l, i + 1, x, h => by
    have := flatP_get l i x (by simpa using h)
    have e : flatP (y :: l) = cellsP y ++ flatP l := by unfold flatP; rw [List.flatMap_cons]
    have hl : (cellsP y).length = 3 := rfl
    rw [e]
    refine ⟨?_, ?_, ?_⟩
    · rw [List.getElem?_append_right (by omega), show (i + 1) * 3 - (cellsP y).length = i * 3 from by rw [hl]; omega]; exact this.1
    · rw [List.getElem?_append_right (by omega), show (i + 1) * 3 + 1 - (cellsP y).length = i * 3 + 1 from by rw [hl]; omega]; exact this.2.1
    · rw [List.getElem?_append_right (by omega), show (i + 1) * 3 + 2 - (cellsP y).length = i * 3 + 2 from by rw [hl]; omega]; exact this.2.2

/-- The heap at block b: its order, its row, how many were put. -/
structure HeapP (own : List Nat) (W : World) (b : Nat) (fv v : Value) (l : List ((Int × Int) × Int)) (puts : Int) : Prop where
  blk : W.heap[b]? = some (.cells #[fv, v, .int .i64 puts] 77 (0, 0))
  row : W.ownsRow 0 80 3 v l.length (flatP l)
  bo : b ∈ own
  ro : ∀ g, v.ownBlock = some g → g ∈ own
  lt : ∀ k ∈ own, k < W.heap.size
section
variable {own : List Nat} {W : World} {b : Nat} {fv v : Value} {l : List ((Int × Int) × Int)} {puts : Int}
theorem HeapP.c0 (h : HeapP own W b fv v l puts) : W.cell? ⟨b, 0, none⟩ = some fv := cell_of_row W b 0 _ _ _ h.blk
theorem HeapP.c1 (h : HeapP own W b fv v l puts) : W.cell? ⟨b, 1, none⟩ = some v := cell_of_row W b 1 _ _ _ h.blk
theorem HeapP.c2 (h : HeapP own W b fv v l puts) : W.cell? ⟨b, 2, none⟩ = some (.int .i64 puts) := cell_of_row W b 2 _ _ _ h.blk
theorem HeapP.frozen (h : HeapP own W b fv v l puts) (i : Nat) : W.frozen? ⟨b, i, none⟩ = false := frozen_of_row W b i _ _ h.blk
theorem HeapP.form (h : HeapP own W b fv v l puts) : ∃ a c, v = .slice a l.length c ∧ l.length ≤ c := by
  rcases h.row.2 with ⟨rfl, e⟩ | ⟨g, cap, cur, e, _, _, hn, _⟩
  · exact ⟨none, 0, by rw [e], by omega⟩
  · exact ⟨_, _, e, hn⟩
theorem HeapP.cells {a : Option Addr} {n c : Nat} (h : HeapP own W b fv (.slice a n c) l puts) {i : Nat} {x : (Int × Int) × Int} (hx : l[i]? = some x) :
    ∃ g, a = some ⟨g, 0, none⟩ ∧ n = l.length ∧ g ∈ own ∧ g ≠ b ∧ W.cell? ⟨g, i * 3, none⟩ = some (.int .i64 x.1.1) ∧ W.cell? ⟨g, i * 3 + 1, none⟩ = some (.int .i64 x.1.2) ∧ W.cell? ⟨g, i * 3 + 2, none⟩ = some (.int .i64 x.2) ∧ ∀ j, W.frozen? ⟨g, j, none⟩ = false := by
  have hlt : i < l.length := (List.getElem?_eq_some_iff.1 hx).1
  rcases h.row.2 with ⟨e, e0⟩ | ⟨g, cap, cur, e, _, hg, hn, _⟩
  · omega
  · cases e
    obtain ⟨f1, f2, f3⟩ := flatP_get l i x hx
    refine ⟨g, rfl, rfl, h.ro g rfl, fun e => ?_, ?_, ?_, ?_, fun j => h.row.frozenAt j⟩
    · subst e; rw [h.blk] at hg; cases hg
    · rw [h.row.cellAt _ (by omega)]; exact f1
    · rw [h.row.cellAt _ (by omega)]; exact f2
    · rw [h.row.cellAt _ (by omega)]; exact f3
end

set_option maxHeartbeats 400000 in
theorem hlenP {own : List Nat} {b : Nat} {fv v : Value} {l : List ((Int × Int) × Int)} {puts : Int} (w : World) (h : HeapP own w b fv v l puts) :
    Calls Try.prog 14 #[.pointer (some ⟨b, 0, none⟩)] w fun e w' => e = .returned (.int .i64 l.length) ∧ w = w' := by
  have c1 := h.c1
  obtain ⟨a, c, rfl, hc⟩ := h.form
  obtain ⟨n, hn⟩ : ∃ n, l.length = n := ⟨_, rfl⟩
  rw [hn] at c1 ⊢
  clear h hn
  go_enter Try.func14, Try.ntmps14
  go_wp2
  go_ret
  exact ⟨rfl, rfl⟩

set_option maxRecDepth 100000 in
set_option maxHeartbeats 1000000 in
theorem beforeP (x y : Int × Int) (w : World) :
    Calls Try.prog 9 #[valP x, valP y] w fun e w' => e = .returned (.bool (decide (x.1 < y.1))) ∧ Below w.heap.size w w' := by
  obtain ⟨k, v⟩ := x
  obtain ⟨k', v'⟩ := y
  unfold valP
  go_enter Try.func9, Try.ntmps9
  go_wp2
  go_ret
  exact ⟨rfl, ((Below.refl _ _).alloc (Nat.le_refl _) _).alloc (by simp) _⟩

theorem neqP (f : Fn) (a c : Array Value) (w : World) : (binOp .neq 28 (.func f a c) .nilFunc).run Try.prog w = .ok (.bool true) w := by kernel_rfl
attribute [local go_sem] neqP
/-- An order: what the func value answers. -/
def OrdP (of : Nat) (key : Int × Int → Int) : Prop := (∀ args w, (callFunc of args).run Try.prog w = .ok (.enter of args) w) ∧ ∀ x y w, Calls Try.prog of #[valP x, valP y] w fun e w' => e = .returned (.bool (decide (key x < key y))) ∧ Below w.heap.size w w'

set_option maxRecDepth 100000 in
set_option maxHeartbeats 1000000 in
theorem standsP {of : Nat} {key : Int × Int → Int} (ho : OrdP of key) {b : Nat} (x y : Int × Int) (w : World) (hc : w.cell? ⟨b, 0, none⟩ = some (.func (.func of) #[] #[])) (hb : b < w.heap.size) :
    Calls Try.prog 77 #[.pointer (some ⟨b, 0, none⟩), valP x, valP y] w fun e w' => e = .returned (.bool (decide (key x < key y))) ∧ Below w.heap.size w w' := by
  have HO := Lib.hid ho.2
  have eg := ho.1
  obtain ⟨k, v⟩ := x
  obtain ⟨k', v'⟩ := y
  unfold valP
  go_enter Try.func77, Try.ntmps77
  go_upto_region 1 with fail
  obtain ⟨w1, hw1⟩ : ∃ w1, ((w.alloc (Obj.cells #[Value.int IntKind.i64 k, Value.int IntKind.i64 v] 27)).alloc (Obj.cells #[Value.int IntKind.i64 k', Value.int IntKind.i64 v'] 27)) = w1 := ⟨_, rfl⟩
  rw [hw1]
  have hb1 : Below w.heap.size w w1 := by rw [← hw1]; exact ((Below.refl _ _).alloc (Nat.le_refl _) _).alloc (by simp) _
  have lz : w.heap.size + 2 ≤ w1.heap.size := by rw [← hw1]; simp
  have c0 : w1.cell? ⟨b, 0, none⟩ = some (.func (.func of) #[] #[]) := (hb1.cell (p := ⟨b, 0, none⟩) hb).trans hc
  have c1 : w1.cell? ⟨w.heap.size, 0, none⟩ = some (.int .i64 k) := by rw [← hw1]; simp
  have c2 : w1.cell? ⟨w.heap.size, 1, none⟩ = some (.int .i64 v) := by rw [← hw1]; simp
  have c3 : w1.cell? ⟨w.heap.size + 1, 0, none⟩ = some (.int .i64 k') := by rw [← hw1]; simp
  have c4 : w1.cell? ⟨w.heap.size + 1, 1, none⟩ = some (.int .i64 v') := by rw [← hw1]; simp
  clear hw1
  go_region_held3 (fun W => W.cell? ⟨b, 0, none⟩ = some (.func (.func of) #[] #[]) ∧ W.cell? ⟨w.heap.size, 0, none⟩ = some (.int .i64 k) ∧ W.cell? ⟨w.heap.size, 1, none⟩ = some (.int .i64 v) ∧ W.cell? ⟨w.heap.size + 1, 0, none⟩ = some (.int .i64 k') ∧ W.cell? ⟨w.heap.size + 1, 1, none⟩ = some (.int .i64 v')) (first | go_keep | exact ⟨(hb'.cell (p := ⟨b, 0, none⟩) (by simp; omega)).trans c0, (hb'.cell (p := ⟨w.heap.size, 0, none⟩) (by simp; omega)).trans c1, (hb'.cell (p := ⟨w.heap.size, 1, none⟩) (by simp; omega)).trans c2, (hb'.cell (p := ⟨w.heap.size + 1, 0, none⟩) (by simp; omega)).trans c3, (hb'.cell (p := ⟨w.heap.size + 1, 1, none⟩) (by simp; omega)).trans c4⟩) ((refine (HO.out (k, v) (k', v') _).mono ?_; rintro e w' ⟨rfl, hb'⟩))
  go_wp2
  go_ret
  exact ⟨rfl, hb1.drew.trans ((hb'.mono hb1.size))⟩

theorem HeapP.at_ {own : List Nat} {W : World} {b : Nat} {fv : Value} {l : List ((Int × Int) × Int)} {puts : Int} {a : Option Addr} {n c : Nat} (h : HeapP own W b fv (.slice a n c) l puts) {i : Nat} (hi : i < l.length) :
    ∃ g, a = some ⟨g, 0, none⟩ ∧ n = l.length ∧ g ∈ own ∧ g ≠ b ∧ W.cell? ⟨g, i * 3, none⟩ = some (.int .i64 (at' l i).1.1) ∧ W.cell? ⟨g, i * 3 + 1, none⟩ = some (.int .i64 (at' l i).1.2) ∧ W.cell? ⟨g, i * 3 + 2, none⟩ = some (.int .i64 (at' l i).2) ∧ ∀ j, W.frozen? ⟨g, j, none⟩ = false :=
  h.cells (at_get l i hi)

set_option maxRecDepth 100000 in
set_option maxHeartbeats 2000000 in
theorem aheadP {of : Nat} {key : Int × Int → Int} (ho : OrdP of key) {own : List Nat} {b : Nat} {v : Value} {l : List ((Int × Int) × Int)} {puts : Int} (i j : Nat) (w : World) (h : HeapP own w b (.func (.func of) #[] #[]) v l puts) (hi : i < l.length) (hj : j < l.length) :
    Calls Try.prog 70 #[.pointer (some ⟨b, 0, none⟩), .int .i64 i, .int .i64 j] w fun e w' => e = .returned (.bool (ahK key (at' l i) (at' l j))) ∧ Below w.heap.size w w' := by
  have HO := Lib.hid ho
  have hcb := h.c0
  have c1 := h.c1
  have hbl := h.lt b h.bo
  obtain ⟨a, c, rfl, hc⟩ := h.form
  obtain ⟨g, rfl, _, hg, _, i0, i1, i2, _⟩ := h.at_ hi
  obtain ⟨g', e, _, _, _, j0, j1, j2, _⟩ := h.at_ hj
  cases e
  have hgl := h.lt g hg
  obtain ⟨x, hx⟩ : ∃ x, at' l i = x := ⟨_, rfl⟩
  obtain ⟨y, hy⟩ : ∃ y, at' l j = y := ⟨_, rfl⟩
  rw [hx] at i0 i1 i2 ⊢
  rw [hy] at j0 j1 j2 ⊢
  obtain ⟨n, hn⟩ : ∃ n, l.length = n := ⟨_, rfl⟩
  rw [hn] at hi hj c1
  clear h hx hy hn
  obtain ⟨⟨k, u⟩, p⟩ := x
  obtain ⟨⟨k', u'⟩, p'⟩ := y
  simp only at i0 i1 i2 j0 j1 j2
  have b1 : (0 : Int) ≤ i := by omega
  have b2 : (i : Int) < n := by omega
  have b3 : (0 : Int) ≤ j := by omega
  have b4 : (j : Int) < n := by omega
  have n0 := World.new_ne w _ c1
  have n1 := World.new_ne w _ i0
  have hah : ahK key ((k, u), p) ((k', u'), p') = if p < p' then !decide (key (k', u') < key (k, u)) else decide (key (k, u) < key (k', u')) := rfl
  rw [hah]
  clear hah
  have HS := Lib.hid (fun (x y : Int × Int) (W : World) (h1 : W.cell? ⟨b, 0, none⟩ = some (.func (.func of) #[] #[])) (h2 : b < W.heap.size) => standsP HO.out x y W h1 h2)
  cases hq : decide (p < p') with
  | true =>
    rw [if_pos (of_decide_eq_true hq)]
    go_enter Try.func70, Try.ntmps70
    go_upto_region 1 with fail
    go_region_held3 (fun W => W.cell? ⟨b, 1, none⟩ = some (.slice (some ⟨g, 0, none⟩) n c) ∧ W.cell? ⟨g, i * 3, none⟩ = some (.int .i64 k) ∧ W.cell? ⟨g, i * 3 + 1, none⟩ = some (.int .i64 u) ∧ W.cell? ⟨g, i * 3 + 2, none⟩ = some (.int .i64 p) ∧ W.cell? ⟨g, j * 3, none⟩ = some (.int .i64 k') ∧ W.cell? ⟨g, j * 3 + 1, none⟩ = some (.int .i64 u') ∧ W.cell? ⟨g, j * 3 + 2, none⟩ = some (.int .i64 p')) (go_keep) (fail)
    all_goals
      go_wp2_with (go_at_call 77; refine (HS.out (k', u') (k, u) _ (by simp [World.cell?_alloc_some, hcb]) (by simp; omega)).mono ?_; rintro e w' ⟨rfl, hb'⟩)
      go_ret
      exact ⟨rfl, (((Below.refl _ _).alloc (Nat.le_refl _) _).alloc (by simp) _).drew.trans (hb'.mono (by simp; omega))⟩
  | false =>
    rw [if_neg (of_decide_eq_false hq)]
    go_enter Try.func70, Try.ntmps70
    go_upto_region 1 with fail
    go_region_held3 (fun W => W.cell? ⟨b, 1, none⟩ = some (.slice (some ⟨g, 0, none⟩) n c) ∧ W.cell? ⟨g, i * 3, none⟩ = some (.int .i64 k) ∧ W.cell? ⟨g, i * 3 + 1, none⟩ = some (.int .i64 u) ∧ W.cell? ⟨g, i * 3 + 2, none⟩ = some (.int .i64 p) ∧ W.cell? ⟨g, j * 3, none⟩ = some (.int .i64 k') ∧ W.cell? ⟨g, j * 3 + 1, none⟩ = some (.int .i64 u') ∧ W.cell? ⟨g, j * 3 + 2, none⟩ = some (.int .i64 p')) (go_keep) (fail)
    all_goals
      go_wp2_with (go_at_call 77; refine (HS.out (k, u) (k', u') _ (by simp [World.cell?_alloc_some, hcb]) (by simp; omega)).mono ?_; rintro e w' ⟨rfl, hb'⟩)
      go_ret
      exact ⟨rfl, (((Below.refl _ _).alloc (Nat.le_refl _) _).alloc (by simp) _).drew.trans (hb'.mono (by simp; omega))⟩

end Go.Proofs.Ytpdncgjepfgnjaa
