/- set.Pairs of whatever slice of numbers; what law SetPairs asks for, as lists. -/
import Derived.Test.YtndbpmhdpjlncaaDoorPairs1
import Derived.Test.YtndbpmhdpjlncaaDoorSame
import Derived.Test.YtndbpmhdpjlncaaDoorSetE
import Derived.Laws.BitsLemmas
import Derived.Lib.SliceRun
import Derived.ProofKit
import Derived.OpenShut
import Derived.ChangeSlices
import Derived.ChangeMaps5
namespace Go.Proofs.YtndbpmhdpjlncaaDoor
open Go.ChangeShapes Go.WideShapes Go.ChangeAt Go.RowKit Go.Shelf
set_option linter.unusedVariables false

theorem i64_and127 (n : Int) : bits .and .i64 n 127 = n % 128 := by
  have h127 : (BitVec.ofInt 64 127).toNat = 2 ^ 7 - 1 := by decide
  have key : (BitVec.ofInt 64 n &&& BitVec.ofInt 64 127).toNat = (n % ((2 ^ 64 : Nat) : Int)).toNat % 2 ^ 7 := by
    rw [BitVec.toNat_and, BitVec.toNat_ofInt, h127, Nat.and_two_pow_sub_one_eq_mod]
  show IntKind.i64.wrap ((BitVec.ofInt 64 n &&& BitVec.ofInt 64 127).toNat : Nat) = n % 128
  rw [key, IntKind.wrap_i64]
  omega
theorem and127 (a : Int) : ∃ t : Nat, bits .and .i64 a 127 = (t : Int) ∧ t < 128 := ⟨(a % 128).toNat, by rw [i64_and127]; omega, by omega⟩

theorem bl_aux : ∀ (f x : Nat), x < 2 ^ f → x < 2 ^ (Lib.bitLenAux f x)
  | 0, x, h => by simpa [Lib.bitLenAux] using h
  | f + 1, x, h => by
    by_cases h0 : x = 0
    · subst h0; exact Nat.two_pow_pos _
    · have ih := bl_aux f (x / 2) (by rw [Nat.pow_succ] at h; omega)
      unfold Lib.bitLenAux
      rw [if_neg h0, show 1 + Lib.bitLenAux f (x / 2) = Lib.bitLenAux f (x / 2) + 1 from by omega, Nat.pow_succ]
      omega
theorem items_bl {s i : Nat} (hs : s < 18446744073709551616) (h : i ∈ items s) : i < Lib.bitLen s := by
  have h1 := (items_mem.1 h).2
  have h2 : s < 2 ^ Lib.bitLen s := bl_aux 64 s hs
  exact (Nat.pow_lt_pow_iff_right (by decide)).1 (Nat.lt_of_le_of_lt (Nat.ge_two_pow_of_testBit h1) h2)
/-- The items that have a place among n. -/
def fitL (s n : Nat) : List Nat := (items s).filter fun i => decide (i < n)
theorem items_fit (s N : Nat) : items (s &&& fullN (N : Nat)) = fitL s N := by
  unfold fitL items
  rw [List.filter_filter]
  refine List.filter_congr fun i hi => ?_
  have h64 := List.mem_range.1 hi
  unfold fullN
  rw [Nat.testBit_and, Nat.testBit_two_pow_sub_one, Bool.and_comm]
  congr 1
  rw [Int.toNat_natCast]
  exact decide_eq_decide.2 (by omega)
theorem pl_fit {s : Nat} (hs : s < 18446744073709551616) (zs : List Int) : pl s (zs.take (Lib.bitLen s)) = (fitL s zs.length).map (at_ zs) := by
  rw [pl_eq, items_fit, List.length_take]
  have e : fitL s (min (Lib.bitLen s) zs.length) = fitL s zs.length := List.filter_congr fun i hi => decide_eq_decide.2 (by have := items_bl hs hi; omega)
  rw [e]
  refine List.map_congr_left fun i hi => ?_
  unfold at_
  rw [List.getElem?_take, if_pos (items_bl hs (List.mem_filter.1 hi).1)]
theorem fit_len (s n : Nat) : (fitL s n).length ≤ 64 := Nat.le_trans (List.length_filter_le _ _) (cnt_le s)

/-- How far the items are gone over: those that have a place, m of them at most. -/
def wantL (s n m k : Nat) : List Nat := (((items s).take k).filter fun i => decide (i < n)).take m
theorem wantL_all (s n m : Nat) : wantL s n m (items s).length = (fitL s n).take m := by unfold wantL fitL; rw [List.take_length]
theorem wantL_len (s n m k : Nat) : (wantL s n m k).length ≤ 64 := by
  unfold wantL
  rw [List.length_take]
  have h1 := List.length_filter_le (fun i => decide (i < n)) ((items s).take k)
  have h2 := cnt_le s
  unfold cnt at h2
  rw [List.length_take] at h1
  omega
theorem wantL_hit {s n m k x : Nat} (hx : (items s)[k]? = some x) (h1 : x < n) (h2 : (wantL s n m k).length < m) : wantL s n m (k + 1) = wantL s n m k ++ [x] := by
  unfold wantL at h2 ⊢
  obtain ⟨hlt, rfl⟩ := List.getElem?_eq_some_iff.1 hx
  rw [List.take_succ_eq_append_getElem hlt, List.filter_append, show List.filter (fun i => decide (i < n)) [(items s)[k]] = [(items s)[k]] from by simp [h1]]
  rw [List.length_take] at h2
  rw [List.take_append, List.take_of_length_le (by omega)]
  congr 1
  rw [List.take_of_length_le (by simp; omega)]
theorem wantL_miss {s n m k x : Nat} (hx : (items s)[k]? = some x) (h : ¬ (x < n ∧ (wantL s n m k).length < m)) : wantL s n m (k + 1) = wantL s n m k := by
  unfold wantL at h ⊢
  obtain ⟨hlt, rfl⟩ := List.getElem?_eq_some_iff.1 hx
  rw [List.take_succ_eq_append_getElem hlt, List.filter_append]
  by_cases h1 : (items s)[k] < n
  · rw [show List.filter (fun i => decide (i < n)) [(items s)[k]] = [(items s)[k]] from by simp [h1]]
    have h2 : m ≤ (((items s).take k).filter fun i => decide (i < n)).length := by
      rw [List.length_take] at h
      simp [h1] at h
      omega
    rw [List.take_append_of_le_length h2]
  · rw [show List.filter (fun i => decide (i < n)) [(items s)[k]] = [] from by simp [h1], List.append_nil]

/-- A slice of numbers with a sign: of none, at whatever address; or its cells. -/
def Nums (W : World) (a : Option Addr) (n c : Nat) (xs : List Int) : Prop :=
  xs.length = n ∧ (∀ x ∈ xs, -9223372036854775808 ≤ x ∧ x ≤ 9223372036854775807) ∧ (xs = [] ∨ Sl (Value.int .i64) W.heap.size W (.slice a n c) xs)
theorem Nums.below {A B : World} (h : Below A.heap.size A B) {a : Option Addr} {n c : Nat} {xs : List Int} (hx : Nums A a n c xs) : Nums B a n c xs :=
  ⟨hx.1, hx.2.1, hx.2.2.imp id fun h1 => (h1.below h).mono h.size⟩
theorem cellsNum : Tryd.prog.cellsOf 2 = 1 := by kernel_rfl
theorem open_numsI {H : Type} {enc : TypeId × Value → H} {W : World} {base : Nat} {held : Bool} {v : Value} {d : DataW H} {p : List MemPlace}
    (hv : ∃ a n c, v = .slice a n c) (h : DataW.Trod enc Tryd.prog W base (fun _ => true) held 49 v d p) : ∃ a n c xs, v = .slice a n c ∧ Nums W a n c xs := by
  obtain ⟨fuel, hf⟩ := h
  obtain ⟨a', n', c', rfl⟩ := hv
  rcases open_ints Tryd.underlying49 Tryd.underlying2 cellsNum hf with ⟨hcs, _⟩ | ⟨a, len, cap, zs, hcs, _, hl, _, hz, _, hcell, hwz⟩
  · simp [Value.cells] at hcs
    obtain ⟨rfl, rfl, rfl⟩ := hcs
    exact ⟨_, _, _, [], rfl, rfl, (fun x hx => by cases hx), .inl rfl⟩
  · simp [Value.cells] at hcs
    obtain ⟨rfl, rfl, rfl⟩ := hcs
    simp only [if_true] at hz
    refine ⟨_, _, _, zs.take n', rfl, by simp; omega, fun x hx => bounds_i64 (hwz x (List.mem_of_mem_take hx)), ?_⟩
    by_cases h0 : n' = 0
    · subst h0; exact .inl (by simp)
    · obtain ⟨b, off, rfl, hc⟩ := ints_at hcell (by omega)
      have hlen : (zs.take n').length = n' := by simp; omega
      refine .inr (.inr ⟨b, off, c', by rw [hlen], ?_, by rw [hlen]; exact hl, fun j x hj => ?_⟩)
      · have h1 := hc 0 (by omega)
        unfold World.cell? at h1
        by_cases hb : b < W.heap.size
        · exact hb
        · rw [Array.getElem?_eq_none (by simpa using hb)] at h1; cases h1
      · rw [List.getElem?_take] at hj
        split at hj
        · rw [hc j (by omega)]
          have : zs.getD j 0 = x := by simp [List.getD, hj]
          rw [this]
        · cases hj
set_option maxRecDepth 100000 in
set_option maxHeartbeats 1000000 in
/-- slices.Clone of none, at whatever address. -/
theorem cloneN_zero (ad : Addr) (c : Nat) (w : World) :
    Calls Tryd.prog 55 #[.slice (some ad) 0 c] w fun e w' => ∃ v', e = .returned v' ∧ w'.ownsRow w.heap.size 2 1 v' 0 [] ∧ Below w.heap.size w w' := by
  obtain ⟨i0, hi, hz0, hz1, hz2⟩ := info_parts infoCN
  have q22 : ∀ (w : World) (a : Option Addr) (n c n' c' : Nat), (binOp .eql 49 (.slice a n c) (.slice none n' c')).run Tryd.prog w = .ok (.bool a.isNone) w := fun w a n c n' c' => Lib.run_eql_slice_nil w _ _ a n c n' c' Tryd.underlying49
  go_enter Tryd.func55, Tryd.ntmps55
  go_wp2_with (at_builtin; refine wpList_append_own _ rfl _ _ 49 rfl w.heap.size 2 i0 (.int .i64 0) 1 8 Tryd.underlying49 hi hz0 hz1 hz2 rfl (by decide) _ _ _ rfl (World.ownsRow_made w #[] 0 (Nat.le_refl _) (Nat.zero_le _) rfl) ad 0 c [] rfl rfl (by simp) (by simp) (by simp [maxLen]) (by simp) (by simp) ?_)
  intro v' w1 h1 h2 _
  go_wp2
  go_ret
  exact ⟨v', rfl, by simpa using h1, ((Below.refl _ w).alloc (Nat.le_refl _) _).grown h2 (by simp) (fun j hj => by cases hj; exact Nat.le_refl _)⟩

theorem own_grown {A B : World} {base e s n : Nat} {v : Value} {xs : List Value} {row : Option Nat} (h : A.ownsRow base e s v n xs) (hg : A.grownBy B row) (hn : ∀ g, v.ownBlock = some g → row ≠ some g) : B.ownsRow base e s v n xs := by
  obtain ⟨h1, h2⟩ := h
  refine ⟨h1, ?_⟩
  rcases h2 with h2 | ⟨g, cap, cur, hv, hg0, hh, r⟩
  · exact .inl h2
  · exact .inr ⟨g, cap, cur, hv, hg0, (hg.block g (Array.getElem?_eq_some_iff.1 hh).1 (fun e => hn g (by rw [hv]; rfl) e.symm)).trans hh, r⟩
theorem own_below {A B : World} {K base e s n : Nat} {v : Value} {xs : List Value} (h : A.ownsRow base e s v n xs) (hb : Below K A B) (hK : A.heap.size ≤ K) : B.ownsRow base e s v n xs := by
  obtain ⟨h1, h2⟩ := h
  refine ⟨h1, ?_⟩
  rcases h2 with h2 | ⟨g, cap, cur, hv, hg, hh, r⟩
  · exact .inl h2
  · exact .inr ⟨g, cap, cur, hv, hg, (hb.block g (Nat.lt_of_lt_of_le (Array.getElem?_eq_some_iff.1 hh).1 hK)).trans hh, r⟩
theorem own_at {A : World} {base e s n g : Nat} {v : Value} {xs : List Value} (h : A.ownsRow base e s v n xs) (hv : v.ownBlock = some g) : base ≤ g ∧ ∃ cur, A.heap[g]? = some (.cells cur e (0, 0)) := by
  rcases h.2 with ⟨e0, _⟩ | ⟨g', cap, cur, e0, hg, hh, _⟩
  · rw [e0] at hv; cases hv
  · rw [e0] at hv
    cases hv
    exact ⟨hg, cur, hh⟩
/-- Rows of unlike elements lie apart. -/
theorem own_ne {A : World} {b1 e1 s1 n1 b2 e2 s2 n2 : Nat} {v1 v2 : Value} {xs1 xs2 : List Value} (h1 : A.ownsRow b1 e1 s1 v1 n1 xs1) (h2 : A.ownsRow b2 e2 s2 v2 n2 xs2) (hne : e1 ≠ e2) : ∀ g, v1.ownBlock = some g → v2.ownBlock ≠ some g := by
  intro g hg hg2
  obtain ⟨_, c1, e3⟩ := own_at h1 hg
  obtain ⟨_, c2, e4⟩ := own_at h2 hg2
  rw [e3] at e4
  cases e4
  exact hne rfl
theorem own_box {A : World} {b1 e1 s1 n1 B : Nat} {t : TypeId} {v1 u : Value} {xs1 : List Value} (h1 : A.ownsRow b1 e1 s1 v1 n1 xs1) (h2 : Boxed A B t u) (hne : e1 ≠ t) : v1.ownBlock ≠ some B := by
  intro hg
  obtain ⟨_, c1, e3⟩ := own_at h1 hg
  rw [show A.heap[B]? = _ from h2] at e3
  cases e3
  exact hne rfl
theorem boxed_grown {A B : World} {b : Nat} {t : TypeId} {u : Value} {row : Option Nat} (h : Boxed A b t u) (hg : A.grownBy B row) (hn : row ≠ some b) : Boxed B b t u := h.kept hg (fun e => hn e.symm)
theorem boxed_below {A B : World} {K b : Nat} {t : TypeId} {u : Value} (h : Boxed A b t u) (hb : Below K A B) (hK : b < K) : Boxed B b t u := (hb.block b hK).trans h
theorem own_set {A : World} {base e s n b : Nat} {v u w : Value} {t : TypeId} {xs : List Value} (h : A.ownsRow base e s v n xs) (hb : Boxed A b t u) (hne : e ≠ t) : (A.setCell ⟨b, 0, none⟩ w).ownsRow base e s v n xs :=
  own_grown h (grownBy_setCell' A b w) (fun g hg e => by cases e; exact own_box h hb hne hg)

theorem own_base {A : World} {base base' e s n : Nat} {v : Value} {xs : List Value} (h : A.ownsRow base e s v n xs) (hb : base' ≤ base) : A.ownsRow base' e s v n xs := by
  obtain ⟨h1, h2⟩ := h
  refine ⟨h1, ?_⟩
  rcases h2 with h2 | ⟨g, cap, cur, hv, hg, r⟩
  · exact .inl h2
  · exact .inr ⟨g, cap, cur, hv, Nat.le_trans hb hg, r⟩
theorem own_form {A : World} {base e s n : Nat} {v : Value} {xs : List Value} (h : A.ownsRow base e s v n xs) : ∃ a c, v = .slice a n c := by
  rcases h.2 with ⟨rfl, e⟩ | ⟨g, cap, cur, e, _⟩
  · exact ⟨none, 0, by rw [e]⟩
  · exact ⟨_, _, e⟩
theorem below_grown2 {B : Nat} {W0 wr w1 : World} {e s : Nat} {v : Value} {n : Nat} {xs : List Value} (hown : wr.ownsRow B e s v n xs) (hB : B ≤ wr.heap.size) (hnx : Below B W0 wr) (hgrow : wr.grownBy w1 v.ownBlock) : Below B W0 w1 :=
  hnx.grown hgrow hB (fun j hj => (own_at hown hj).1)
theorem wpIn_act {F : Fence} {n : Nat} {P : Program} {c : Code} {Q : Exit → Act → World → Prop} {a : Act} {w : World} (h : ∀ A, A = a → c.wpIn F n P Q A w) : c.wpIn F n P Q a w := h a rfl
set_option maxRecDepth 100000 in
set_option maxHeartbeats 1000000 in
/-- set.Pairs hands back a walk over a copy. -/
theorem pairsN_new (s : Nat) (sv : Value) (zs : List Int) (w : World) (hs : s < 18446744073709551616) (hl : zs.length ≤ 1048576) (hz : Sl (Value.int .i64) w.heap.size w sv zs) :
    Calls Tryd.prog 35 #[.int .u64 s, sv] w fun e w' => ∃ Bk v, e = .returned (.func (.func 57) #[] #[.pointer (some ⟨w.heap.size, 0, none⟩), .pointer (some ⟨Bk, 0, none⟩)]) ∧ w.heap.size < Bk ∧ Bk < w'.heap.size ∧
      w'.cell? ⟨w.heap.size, 0, none⟩ = some (.int .u64 s) ∧ w'.cell? ⟨Bk, 0, none⟩ = some v ∧ Sl (Value.int .i64) w'.heap.size w' v (zs.take (Lib.bitLen s)) ∧ Below w.heap.size w w' ∧ (∀ b off m c, v = .slice (some ⟨b, off, none⟩) m c → w.heap.size < b) := by
  have hB0 : Below w.heap.size w (w.alloc (.cells #[.int .u64 s] 22)) := (Below.refl _ w).alloc (Nat.le_refl _) _
  have hfin : ∀ (w1 : World) (v : Value), Below (w.heap.size + 1) (w.alloc (.cells #[.int .u64 s] 22)) w1 → Sl (Value.int .i64) w1.heap.size w1 v (zs.take (Lib.bitLen s)) → (∀ b off m c, v = .slice (some ⟨b, off, none⟩) m c → w.heap.size < b) →
      w.heap.size < w1.heap.size ∧ w1.heap.size < (w1.alloc (.cells #[v] 49)).heap.size ∧ (w1.alloc (.cells #[v] 49)).cell? ⟨w.heap.size, 0, none⟩ = some (.int .u64 s) ∧
      (w1.alloc (.cells #[v] 49)).cell? ⟨w1.heap.size, 0, none⟩ = some v ∧ Sl (Value.int .i64) (w1.alloc (.cells #[v] 49)).heap.size (w1.alloc (.cells #[v] 49)) v (zs.take (Lib.bitLen s)) ∧ Below w.heap.size w (w1.alloc (.cells #[v] 49)) ∧ (∀ b off m c, v = .slice (some ⟨b, off, none⟩) m c → w.heap.size < b) := by
    intro w1 v hb hv hnew
    have h1 := hb.size
    rw [World.size_alloc] at h1
    have ha : Below w1.heap.size w1 (w1.alloc (.cells #[v] 49)) := (Below.refl _ _).alloc (Nat.le_refl _) _
    refine ⟨by omega, by simp, ?_, cell_new_row _ _ _ 0, (hv.below ha).mono ha.size, hB0.trans ((hb.mono (by omega)).trans (ha.mono (by omega))), hnew⟩
    exact (ha.cell (p := ⟨w.heap.size, 0, none⟩) (show w.heap.size < _ by omega)).trans ((hb.cell (p := ⟨w.heap.size, 0, none⟩) (show w.heap.size < _ by omega)).trans (cell_new_row _ _ _ 0))
  have HF := Lib.hid hfin; clear hfin
  have hLi : (0 : Int) ≤ (Lib.bitLen s : Nat) := by omega
  have HL : Hid (∀ w, Calls Tryd.prog 56 #[.int .u64 s] w fun e w' => e = .returned (.int .i64 (Lib.bitLen s : Nat)) ∧ w = w') := Lib.hid (fun w => by
    refine (Tryd.bits_Len64 s w (by omega) (by omega)).mono ?_
    rintro e w' ⟨rfl, rfl⟩
    exact ⟨rfl, rfl⟩)
  rcases hz with ⟨rfl, rfl⟩ | ⟨b, off, cap, rfl, hb, hcap, hc⟩
  · have HN := Lib.hid (cloneN_nil 0 0)
    go_enter Tryd.func35, Tryd.ntmps35
    go_wp2_with (first | (go_at_call 56; refine (HL.out _).mono ?_; rintro e w' ⟨rfl, rfl⟩) | (go_at_call 55; refine (HN.out _).mono ?_; rintro e w' ⟨rfl, rfl⟩))
    all_goals go_ret
    all_goals
      refine ⟨w.heap.size + 1, .slice none 0 0, rfl, ?_⟩
      have h := HF.out (w.alloc (.cells #[.int .u64 s] 22)) (.slice none 0 0) (Below.refl _ _) (.inl ⟨rfl, by simp⟩) (fun b off m c e => by cases e)
      simp only [World.size_alloc] at h ⊢
      exact h
  · have hc2 : ∀ (m j : Nat) x, (zs.take m)[j]? = some x → (w.alloc (.cells #[.int .u64 s] 22)).cell? ⟨b, off + j, none⟩ = some (.int .i64 x) := fun m j x hj => by
      rw [hB0.cell (p := ⟨b, off + j, none⟩) hb]
      refine hc j x ?_
      rw [List.getElem?_take] at hj
      split at hj
      · exact hj
      · cases hj
    have HC := Lib.hid hc2; clear hc2 hc
    by_cases hm : zs.length ≤ Lib.bitLen s
    · have HCl := Lib.hid (cloneN_any b off zs.length cap (zs.take (Lib.bitLen s)) (w.alloc (.cells #[.int .u64 s] 22)) (by rw [List.length_take]; omega) hl (HC.out _))
      have hmn : min ((zs.length : Nat) : Int) ((Lib.bitLen s : Nat) : Int) = (zs.length : Int) := by omega
      have HLN : Hid (zs.length = (zs.take (Lib.bitLen s)).length) := Lib.hid (by rw [List.length_take]; omega)
      obtain ⟨N, hN⟩ : ∃ N, zs.length = N := ⟨_, rfl⟩
      rw [hN] at HCl hmn hcap hl HLN ⊢
      clear hm hN
      go_enter Tryd.func35, Tryd.ntmps35
      go_wp2_with (first | (go_at_call 56; refine (HL.out _).mono ?_; rintro e w' ⟨rfl, rfl⟩) | (go_at_call 55; refine HCl.out.mono ?_; rintro e w1 ⟨v, rfl, h1, h2⟩; obtain ⟨pa, pc, rfl⟩ := owns_slice h1))
      go_ret
      exact ⟨_, _, rfl, HF.out w1 _ (h2.mono (by simp)) (Sl.of_owns (by rw [← HLN.out]; exact h1)) (fun b off m c e => by have := (World.ownsRow.lt h1 b (by rw [e]; rfl)).1; simp at this; omega)⟩
    · have HCl := Lib.hid (cloneN_any b off (Lib.bitLen s) cap (zs.take (Lib.bitLen s)) (w.alloc (.cells #[.int .u64 s] 22)) (by rw [List.length_take]; omega) (by omega) (HC.out _))
      have hmn : min ((zs.length : Nat) : Int) ((Lib.bitLen s : Nat) : Int) = (Lib.bitLen s : Nat) := by omega
      have HLN : Hid (Lib.bitLen s = (zs.take (Lib.bitLen s)).length) := Lib.hid (by rw [List.length_take]; omega)
      have hcap2 : Lib.bitLen s ≤ cap := by omega
      have hl2 : Lib.bitLen s ≤ 1048576 := by omega
      obtain ⟨M, hM⟩ : ∃ M, Lib.bitLen s = M := ⟨_, rfl⟩
      rw [hM] at HCl hmn hcap2 hl2 HLN HL HF ⊢
      clear hm hM hcap
      go_enter Tryd.func35, Tryd.ntmps35
      go_wp2_with (first | (go_at_call 56; refine (HL.out _).mono ?_; rintro e w' ⟨rfl, rfl⟩) | (go_at_call 55; refine HCl.out.mono ?_; rintro e w1 ⟨v, rfl, h1, h2⟩; obtain ⟨pa, pc, rfl⟩ := owns_slice h1))
      go_ret
      exact ⟨_, _, rfl, HF.out w1 _ (h2.mono (by simp)) (Sl.of_owns (by rw [← HLN.out]; exact h1)) (fun b off m c e => by have := (World.ownsRow.lt h1 b (by rw [e]; rfl)).1; simp at this; omega)⟩


/-- What set.Pairs hands back. -/
def PairsTo (s : Nat) (zs : List Int) (w : World) (e : Ending) (w' : World) : Prop :=
  ∃ Bk v, e = .returned (.func (.func 57) #[] #[.pointer (some ⟨w.heap.size, 0, none⟩), .pointer (some ⟨Bk, 0, none⟩)]) ∧ w.heap.size < Bk ∧ Bk < w'.heap.size ∧
      w'.cell? ⟨w.heap.size, 0, none⟩ = some (.int .u64 s) ∧ w'.cell? ⟨Bk, 0, none⟩ = some v ∧ Sl (Value.int .i64) w'.heap.size w' v (zs.take (Lib.bitLen s)) ∧ Below w.heap.size w w' ∧ (∀ b off m c, v = .slice (some ⟨b, off, none⟩) m c → w.heap.size < b)
set_option maxRecDepth 100000 in
set_option maxHeartbeats 1000000 in
theorem pairsN_zero (s : Nat) (a : Option Addr) (c : Nat) (w : World) (hs : s < 18446744073709551616) :
    Calls Tryd.prog 35 #[.int .u64 s, .slice a 0 c] w (PairsTo s [] w) := by
  have hB0 : Below w.heap.size w (w.alloc (.cells #[.int .u64 s] 22)) := (Below.refl _ w).alloc (Nat.le_refl _) _
  have hfin : ∀ (w1 : World) (v : Value), Below (w.heap.size + 1) (w.alloc (.cells #[.int .u64 s] 22)) w1 → Sl (Value.int .i64) w1.heap.size w1 v [] → (∀ b off m c, v = .slice (some ⟨b, off, none⟩) m c → w.heap.size < b) →
      PairsTo s [] w (.returned (.func (.func 57) #[] #[.pointer (some ⟨w.heap.size, 0, none⟩), .pointer (some ⟨w1.heap.size, 0, none⟩)])) (w1.alloc (.cells #[v] 49)) := by
    intro w1 v hb hv hnew
    have h1 := hb.size
    rw [World.size_alloc] at h1
    have ha : Below w1.heap.size w1 (w1.alloc (.cells #[v] 49)) := (Below.refl _ _).alloc (Nat.le_refl _) _
    refine ⟨w1.heap.size, v, rfl, by omega, by simp, ?_, cell_new_row _ _ _ 0, ?_, hB0.trans ((hb.mono (by omega)).trans (ha.mono (by omega))), hnew⟩
    · exact (ha.cell (p := ⟨w.heap.size, 0, none⟩) (show w.heap.size < _ by omega)).trans ((hb.cell (p := ⟨w.heap.size, 0, none⟩) (show w.heap.size < _ by omega)).trans (cell_new_row _ _ _ 0))
    · rw [List.take_nil]
      exact (hv.below ha).mono ha.size
  have HF := Lib.hid hfin; clear hfin
  have hLi : (0 : Int) ≤ (Lib.bitLen s : Nat) := by omega
  have hmn : min (0 : Int) ((Lib.bitLen s : Nat) : Int) = 0 := by omega
  have HL : Hid (∀ w, Calls Tryd.prog 56 #[.int .u64 s] w fun e w' => e = .returned (.int .i64 (Lib.bitLen s : Nat)) ∧ w = w') := Lib.hid (fun w => by
    refine (Tryd.bits_Len64 s w (by omega) (by omega)).mono ?_
    rintro e w' ⟨rfl, rfl⟩
    exact ⟨rfl, rfl⟩)
  cases a with
  | none =>
    have HN := Lib.hid (cloneN_nil 0 0)
    go_enter Tryd.func35, Tryd.ntmps35
    go_wp2_with (first | (go_at_call 56; refine (HL.out _).mono ?_; rintro e w' ⟨rfl, rfl⟩) | (go_at_call 55; refine (cloneN_nil _ _ _).mono ?_; rintro e w' ⟨rfl, rfl⟩))
    all_goals go_ret
    all_goals
      have h := HF.out (w.alloc (.cells #[.int .u64 s] 22)) (.slice none 0 0) (Below.refl _ _) (.inl ⟨rfl, rfl⟩) (fun b off m c e => by cases e)
      simp only [World.size_alloc] at h ⊢
      exact h
  | some ad =>
    have HC := Lib.hid (fun c => cloneN_zero ad c (w.alloc (.cells #[.int .u64 s] 22)))
    go_enter Tryd.func35, Tryd.ntmps35
    go_wp2_with (first | (go_at_call 56; refine (HL.out _).mono ?_; rintro e w' ⟨rfl, rfl⟩) | (go_at_call 55; refine (HC.out _).mono ?_; rintro e w1 ⟨v, rfl, h1, h2⟩; obtain ⟨pa, pc, rfl⟩ := owns_slice h1))
    go_ret
    exact HF.out w1 _ (h2.mono (by simp)) (Sl.of_owns (by simpa using h1)) (fun b off m c e => by have := (World.ownsRow.lt h1 b (by rw [e]; rfl)).1; simp at this; omega)
theorem pairs_nums {s n c : Nat} {a : Option Addr} {zs : List Int} {w : World} (hs : s < 18446744073709551616) (h : Nums w a n c zs) (hn : n ≤ 100) : Calls Tryd.prog 35 #[.int .u64 s, .slice a n c] w (PairsTo s zs w) := by
  obtain ⟨h1, h2, rfl | h3⟩ := h
  · obtain rfl : n = 0 := h1.symm
    exact pairsN_zero s a c w hs
  · exact pairsN_new s _ zs w hs (by omega) h3
end Go.Proofs.YtndbpmhdpjlncaaDoor
