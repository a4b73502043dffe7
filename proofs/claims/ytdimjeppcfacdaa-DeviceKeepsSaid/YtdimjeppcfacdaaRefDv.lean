/- The document's own device: a struct that is handed by value. -/
import Derived.Test.YtdimjeppcfacdaaSumLin
import Derived.Test.YtdimjeppcfacdaaDevH
import Derived.Test.YtdimjeppcfacdaaRefJ
namespace Go.Proofs.Ytdimjeppcfacdaa
open Go.RowKit
set_option linter.unusedVariables false

/-- The document's device as a value. -/
abbrev rdV (A B : Value) (cap : Nat) (lf : Int) (dn : Bool) (tn : Nat) : Value := .agg #[A, B, .int .i64 (cap : Nat), .int .i64 lf, .bool dn, .int .i64 (tn : Nat)]
theorem zrd (w : World) : (zeroValue 32).run Try.prog w = .ok (.agg #[.slice none 0 0, .slice none 0 0, .int .i64 0, .int .i64 0, .bool false, .int .i64 0]) w := by kernel_rfl
theorem heap_set6 {W : World} {b : Nat} {t : TypeId} {x0 x1 x2 x3 x4 x5 v0 v1 v2 v3 v4 v5 : Value} (h : W.heap[b]? = some (.cells #[x0, x1, x2, x3, x4, x5] t (0, 0))) :
    ((((((W.setCell ⟨b, 0, none⟩ v0).setCell ⟨b, 1, none⟩ v1).setCell ⟨b, 2, none⟩ v2).setCell ⟨b, 3, none⟩ v3).setCell ⟨b, 4, none⟩ v4).setCell ⟨b, 5, none⟩ v5).heap[b]? = some (.cells #[v0, v1, v2, v3, v4, v5] t (0, 0)) :=
  heap_setCell_same _ b 5 _ t v5 (heap_setCell_same _ b 4 _ t v4 (heap_setCell_same _ b 3 _ t v3 (heap_setCell_same _ b 2 _ t v2 (heap_setCell_same _ b 1 _ t v1 (heap_setCell_same W b 0 _ t v0 h)))))

theorem rd_res (f : Func) (s : Nat) (hf : f.results = #[.cell s 32]) (tmps : Array Value) (w : World) (b : Nat) (v0 v1 v2 v3 v4 v5 : Value) (hp : tmps.getD s undef = .pointer (some ⟨b, 0, none⟩))
    (hg : w.heap[b]? = some (.cells #[v0, v1, v2, v3, v4, v5] 32 (0, 0))) : (results f tmps).run Try.prog w = .ok (.agg #[v0, v1, v2, v3, v4, v5]) w := by
  have hp' : tmps[s]?.getD undef = .pointer (some ⟨b, 0, none⟩) := by simpa using hp
  have k1 := run_loadVar_row (P := Try.prog) w b 32 32 #[v0, v1, v2, v3, v4, v5] (0, 0) _ hg Try.underlying32 rfl (by kernel_rfl)
  simp [results, hf, hp', asAddr, k1]
theorem rd_res2 (f : Func) (s r : Nat) (hf : f.results = #[.cell s 32, .tmp r]) (tmps : Array Value) (w : World) (b : Nat) (v0 v1 v2 v3 v4 v5 e : Value) (hp : tmps.getD s undef = .pointer (some ⟨b, 0, none⟩)) (hr : tmps.getD r undef = e)
    (hg : w.heap[b]? = some (.cells #[v0, v1, v2, v3, v4, v5] 32 (0, 0))) : (results f tmps).run Try.prog w = .ok (.tuple #[.agg #[v0, v1, v2, v3, v4, v5], e]) w := by
  have hp' : tmps[s]?.getD undef = .pointer (some ⟨b, 0, none⟩) := by simpa using hp
  have hr' : tmps[r]?.getD undef = e := by simpa using hr
  have k1 := run_loadVar_row (P := Try.prog) w b 32 32 #[v0, v1, v2, v3, v4, v5] (0, 0) _ hg Try.underlying32 rfl (by kernel_rfl)
  simp [results, hf, hp', hr', asAddr, k1]

theorem new2 (w : World) (o1 o2 : Obj) : ((w.alloc o1).alloc o2).heap[w.heap.size + 1]? = some o2 := by
  have := World.alloc_heap_new (w.alloc o1) o2
  rw [World.size_alloc] at this
  exact this
theorem new2_below (w : World) (o1 o2 : Obj) : Below w.heap.size w ((w.alloc o1).alloc o2) := ((Below.refl _ w).alloc (Nat.le_refl _) _).alloc (by simp) _

set_option maxRecDepth 100000 in
set_option maxHeartbeats 2000000 in
theorem rcut_any (A B : Value) (hA : ∃ a n c, A = .slice a n c) (hB : ∃ a n c, B = .slice a n c) (cap : Nat) (lf : Int) (dn : Bool) (tn : Nat) (n : Int) (w : World) :
    Calls Try.prog 90 #[rdV A B cap lf dn tn, .int .i64 n] w fun e w' => e = .returned (rdV A B cap (if n < 0 then -1 else n) dn tn) ∧ Below w.heap.size w w' := by
  obtain ⟨a0, n0, c0, rfl⟩ := hA
  obtain ⟨a1, n1, c1, rfl⟩ := hB
  have hz := zrd
  by_cases hn : n < 0
  · rw [if_pos hn]
    go_enter Try.func90, Try.ntmps90
    go_wp2
    refine bodyPost_ret (rd_res _ 4 rfl _ _ (w.heap.size + 1) _ _ _ _ _ _ rfl (new2 _ _ _)) rfl ⟨rfl, new2_below _ _ _⟩
  · rw [if_neg hn]
    go_enter Try.func90, Try.ntmps90
    go_wp2
    refine bodyPost_ret (rd_res _ 4 rfl _ _ (w.heap.size + 1) _ _ _ _ _ _ rfl (new2 _ _ _)) rfl ⟨rfl, new2_below _ _ _⟩
set_option maxRecDepth 100000 in
set_option maxHeartbeats 2000000 in
theorem rrestore_any (A B : Value) (hA : ∃ a n c, A = .slice a n c) (hB : ∃ a n c, B = .slice a n c) (cap : Nat) (lf : Int) (dn : Bool) (tn : Nat) (w : World) :
    Calls Try.prog 91 #[rdV A B cap lf dn tn] w fun e w' => e = .returned (rdV A B cap (-1) false tn) ∧ Below w.heap.size w w' := by
  obtain ⟨a0, n0, c0, rfl⟩ := hA
  obtain ⟨a1, n1, c1, rfl⟩ := hB
  have hz := zrd
  go_enter Try.func91, Try.ntmps91
  go_wp2
  refine bodyPost_ret (rd_res _ 2 rfl _ _ (w.heap.size + 1) _ _ _ _ _ _ rfl (new2 _ _ _)) rfl ⟨rfl, new2_below _ _ _⟩
set_option maxRecDepth 100000 in
set_option maxHeartbeats 2000000 in
theorem rnew_any (n : Int) (w : World) :
    Calls Try.prog 20 #[.int .i64 n] w fun e w' => e = .returned (rdV (.slice none 0 0) (.slice none 0 0) (capN n) (-1) false 0) ∧ Below w.heap.size w w' := by
  have hz := zrd
  by_cases h0 : n < 0
  · rw [show capN n = 0 from by unfold capN; omega]
    go_enter Try.func20, Try.ntmps20
    go_wp2
    refine bodyPost_ret (rd_res _ 2 rfl _ _ w.heap.size _ _ _ _ _ _ rfl (World.alloc_heap_new w _)) rfl ⟨rfl, (Below.refl _ _).alloc (Nat.le_refl _) _⟩
  · by_cases h1 : (1048576 : Int) < n
    · rw [show capN n = 1048576 from by unfold capN; omega]
      go_enter Try.func20, Try.ntmps20
      go_wp2
      refine bodyPost_ret (rd_res _ 2 rfl _ _ w.heap.size _ _ _ _ _ _ rfl (World.alloc_heap_new w _)) rfl ⟨rfl, (Below.refl _ _).alloc (Nat.le_refl _) _⟩
    · obtain ⟨m, rfl⟩ : ∃ m : Nat, n = (m : Int) := ⟨n.toNat, by omega⟩
      rw [show capN (m : Int) = m from by unfold capN; omega]
      go_enter Try.func20, Try.ntmps20
      go_wp2
      refine bodyPost_ret (rd_res _ 2 rfl _ _ w.heap.size _ _ _ _ _ _ rfl (World.alloc_heap_new w _)) rfl ⟨rfl, (Below.refl _ _).alloc (Nat.le_refl _) _⟩

/-- A region's bytes, of the document's device. -/
def rowV (A B : Value) (i : Int) : Value := if i = 0 then A else if i = 1 then B else .slice none 0 0
set_option maxRecDepth 100000 in
set_option maxHeartbeats 2000000 in
theorem rrow_any (A B : Value) (hA : ∃ a n c, A = .slice a n c) (hB : ∃ a n c, B = .slice a n c) (cap : Nat) (lf : Int) (dn : Bool) (tn : Nat) (i : Int) (w : World) :
    Calls Try.prog 87 #[rdV A B cap lf dn tn, .int .i64 i] w fun e w' => e = .returned (rowV A B i) ∧ Below w.heap.size w w' := by
  obtain ⟨a0, n0, c0, rfl⟩ := hA
  obtain ⟨a1, n1, c1, rfl⟩ := hB
  have hz := zrd
  have hb1 : Below w.heap.size w (w.alloc (.cells #[.slice a0 n0 c0, .slice a1 n1 c1, .int .i64 (cap : Nat), .int .i64 lf, .bool dn, .int .i64 (tn : Nat)] 32)) := (Below.refl _ _).alloc (Nat.le_refl _) _
  by_cases h0 : i = 0
  · subst h0
    rw [show rowV (.slice a0 n0 c0) (.slice a1 n1 c1) 0 = .slice a0 n0 c0 from rfl]
    go_enter Try.func87, Try.ntmps87
    go_wp2
    go_ret
    exact ⟨rfl, hb1⟩
  · by_cases h1 : i = 1
    · subst h1
      rw [show rowV (.slice a0 n0 c0) (.slice a1 n1 c1) 1 = .slice a1 n1 c1 from rfl]
      go_enter Try.func87, Try.ntmps87
      go_wp2
      go_ret
      exact ⟨rfl, hb1⟩
    · rw [show rowV (.slice a0 n0 c0) (.slice a1 n1 c1) i = .slice none 0 0 from by unfold rowV; rw [if_neg h0, if_neg h1]]
      go_enter Try.func87, Try.ntmps87
      go_wp2
      go_ret
      exact ⟨rfl, hb1⟩
/-- The regions, with another row in one of them. -/
def putA (i : Int) (X A : Value) : Value := if i = 0 then X else A
def putB (i : Int) (X B : Value) : Value := if i = 1 then X else B
theorem putA_form (i : Int) (p q : Option Addr) (m c k d : Nat) : ∃ a n e, putA i (.slice p m c) (.slice q k d) = .slice a n e := by unfold putA; split <;> exact ⟨_, _, _, rfl⟩
theorem putB_form (i : Int) (p q : Option Addr) (m c k d : Nat) : ∃ a n e, putB i (.slice p m c) (.slice q k d) = .slice a n e := by unfold putB; split <;> exact ⟨_, _, _, rfl⟩
set_option maxRecDepth 100000 in
set_option maxHeartbeats 2000000 in
theorem rset_any (A B : Value) (hA : ∃ a n c, A = .slice a n c) (hB : ∃ a n c, B = .slice a n c) (cap : Nat) (lf : Int) (dn : Bool) (tn : Nat) (i : Int) (p : Option Addr) (m c : Nat) (w : World) :
    Calls Try.prog 121 #[rdV A B cap lf dn tn, .int .i64 i, .slice p m c] w fun e w' => e = .returned (rdV (putA i (.slice p m c) A) (putB i (.slice p m c) B) cap lf dn tn) ∧ Below w.heap.size w w' := by
  obtain ⟨a0, n0, c0, rfl⟩ := hA
  obtain ⟨a1, n1, c1, rfl⟩ := hB
  have hz := zrd
  by_cases h0 : i = 0
  · subst h0
    rw [show putA 0 (.slice p m c) (.slice a0 n0 c0) = .slice p m c from rfl, show putB 0 (.slice p m c) (.slice a1 n1 c1) = .slice a1 n1 c1 from rfl]
    go_enter Try.func121, Try.ntmps121
    go_wp2
    refine bodyPost_ret (rd_res _ 6 rfl _ _ (w.heap.size + 1) _ _ _ _ _ _ rfl (new2 _ _ _)) rfl ⟨rfl, new2_below _ _ _⟩
  · by_cases h1 : i = 1
    · subst h1
      rw [show putA 1 (.slice p m c) (.slice a0 n0 c0) = .slice a0 n0 c0 from rfl, show putB 1 (.slice p m c) (.slice a1 n1 c1) = .slice p m c from rfl]
      go_enter Try.func121, Try.ntmps121
      go_wp2
      refine bodyPost_ret (rd_res _ 6 rfl _ _ (w.heap.size + 1) _ _ _ _ _ _ rfl (new2 _ _ _)) rfl ⟨rfl, new2_below _ _ _⟩
    · rw [show putA i (.slice p m c) (.slice a0 n0 c0) = .slice a0 n0 c0 from if_neg h0, show putB i (.slice p m c) (.slice a1 n1 c1) = .slice a1 n1 c1 from if_neg h1]
      go_enter Try.func121, Try.ntmps121
      go_wp2
      refine bodyPost_ret (rd_res _ 6 rfl _ _ (w.heap.size + 1) _ _ _ _ _ _ rfl (new2 _ _ _)) rfl ⟨rfl, new2_below _ _ _⟩
/-- How many of n bytes are turned; what is left; is it down? -/
def tDone (lf : Int) (n : Nat) : Nat := if 0 ≤ lf ∧ lf < n then lf.toNat else n
def tLeft (lf : Int) (n : Nat) : Int := if lf < 0 then lf else lf - (tDone lf n : Nat)
def tDown (dn : Bool) (lf : Int) (n : Nat) : Bool := dn || decide (0 ≤ lf ∧ lf < (n : Int))
theorem tup_eq {a b : Value} {x y : Int} (h : a = b) (h2 : x = y) : Ending.returned (.tuple #[a, .int .i64 x]) = .returned (.tuple #[b, .int .i64 y]) := by rw [h, h2]
theorem rdV_eq {A B : Value} {cap : Nat} {l l' t t' : Int} {d d' : Bool} (h1 : l = l') (h2 : d = d') (h3 : t = t') : (Value.agg #[A, B, .int .i64 (cap : Nat), .int .i64 l, .bool d, .int .i64 t]) = .agg #[A, B, .int .i64 (cap : Nat), .int .i64 l', .bool d', .int .i64 t'] := by rw [h1, h2, h3]

set_option maxRecDepth 100000 in
set_option maxHeartbeats 2000000 in
theorem rturn_any (A B : Value) (hA : ∃ a n c, A = .slice a n c) (hB : ∃ a n c, B = .slice a n c) (cap : Nat) (lf : Int) (dn : Bool) (tn : Nat) (hl : lf ≤ 9223372036854775807) (n : Nat) (hn : n ≤ 2000000) (ht : tn ≤ 1099511627776) (w : World) :
    Calls Try.prog 120 #[rdV A B cap lf dn tn, .int .i64 (n : Nat)] w fun e w' => e = .returned (.tuple #[rdV A B cap (tLeft lf n) (tDown dn lf n) (tn + tDone lf n), .int .i64 (tDone lf n : Nat)]) ∧ Below w.heap.size w w' := by
  obtain ⟨a0, n0, c0, rfl⟩ := hA
  obtain ⟨a1, n1, c1, rfl⟩ := hB
  have hz := zrd
  by_cases h0 : lf < 0
  · have e1 : tDone lf n = n := if_neg (by omega)
    have e2 : tLeft lf n = lf := if_pos h0
    have e3 : tDown dn lf n = dn := by unfold tDown; rw [decide_eq_false (by omega), Bool.or_false]
    rw [e1, e2, e3]
    clear e1 e2 e3
    go_enter Try.func120, Try.ntmps120
    go_wp2
    refine bodyPost_ret (rd_res2 _ 4 5 rfl _ _ (w.heap.size + 1) _ _ _ _ _ _ _ rfl rfl (new2 _ _ _)) rfl ⟨?_, new2_below _ _ _⟩
    exact tup_eq (rdV_eq rfl rfl (by omega)) rfl
  · obtain ⟨m, rfl⟩ : ∃ m : Nat, lf = (m : Int) := ⟨lf.toNat, by omega⟩
    by_cases h1 : (m : Int) < n
    · have e1 : tDone (m : Int) n = m := by unfold tDone; rw [if_pos (by omega)]; omega
      have e2 : tLeft (m : Int) n = 0 := by unfold tLeft; rw [if_neg h0, e1]; omega
      have e3 : tDown dn (m : Int) n = true := by unfold tDown; rw [decide_eq_true (by omega), Bool.or_true]
      rw [e1, e2, e3]
      clear e1 e2 e3
      go_enter Try.func120, Try.ntmps120
      go_wp2
      refine bodyPost_ret (rd_res2 _ 4 5 rfl _ _ (w.heap.size + 1) _ _ _ _ _ _ _ rfl rfl (new2 _ _ _)) rfl ⟨?_, new2_below _ _ _⟩
      exact tup_eq (rdV_eq (by omega) rfl (by omega)) rfl
    · have e1 : tDone (m : Int) n = n := if_neg (by omega)
      have e2 : tLeft (m : Int) n = (m : Int) - n := by unfold tLeft; rw [if_neg h0, e1]
      have e3 : tDown dn (m : Int) n = dn := by unfold tDown; rw [decide_eq_false (by omega), Bool.or_false]
      rw [e1, e2, e3]
      clear e1 e2 e3
      go_enter Try.func120, Try.ntmps120
      go_wp2
      refine bodyPost_ret (rd_res2 _ 4 5 rfl _ _ (w.heap.size + 1) _ _ _ _ _ _ _ rfl rfl (new2 _ _ _)) rfl ⟨?_, new2_below _ _ _⟩
      exact tup_eq (rdV_eq (by omega) rfl (by omega)) rfl
end Go.Proofs.Ytdimjeppcfacdaa
