/- The document's own In: a whole number is taken. -/
import Derived.Test.YtpllbojmonfeiaaCodJ
import Derived.Test.YtpllbojmonfeiaaCodN
import Derived.Test.YtpllbojmonfeiaaRefQ
import Derived.Test.YtpllbojmonfeiaaRegionTail
import Derived.Test.YtpllbojmonfeiaaFrameB
import Derived.Test.YtpllbojmonfeiaaJrnX
import Derived.Test.YtpllbojmonfeiaaJrnR
import Derived.Test.YtpllbojmonfeiaaJrnD
import Derived.Test.YtpllbojmonfeiaaRefF
import Derived.Test.YtpllbojmonfeiaaRefJ
namespace Go.Proofs.Ytpllbojmonfeiaa
open Go.RowKit
set_option linter.unusedVariables false
attribute [local go_sem] Oper.semAt_some

theorem valL_drop : ∀ (k : Nat) (L : List Nat), valL (L.drop k) ≤ valL L
  | 0, L => by simp
  | k + 1, [] => by simp
  | k + 1, x :: xs => by
    have := valL_drop k xs
    simp only [List.drop_succ_cons, valL]
    omega
theorem valL_take {l : List Nat} {i x : Nat} (hi : i ≤ 9) (hx : l[i]? = some x) (h9 : i = 9 → x ≤ 1) : valL (l.take (i + 1)) < 18446744073709551616 := by
  have hlen : (l.take i).length = i := by rw [List.length_take]; have := (List.getElem?_eq_some_iff.1 hx).1; omega
  have h1 := valL_lt (l.take i)
  rw [take_one _ _ _ hx, valL_snoc, hlen]
  rw [hlen] at h1
  rcases (by omega : i ≤ 8 ∨ i = 9) with h | h
  · have h2 : 128 ^ i ≤ 128 ^ 8 := Nat.pow_le_pow_right (by decide) h
    have h3 : x % 128 * 128 ^ i ≤ 127 * 128 ^ 8 := Nat.mul_le_mul (by omega) h2
    rw [show (128 : Nat) ^ 8 = 72057594037927936 from rfl] at h2 h3
    omega
  · subst h
    have h3 : x % 128 ≤ 1 := by have := h9 rfl; omega
    have h4 : x % 128 * 128 ^ 9 ≤ 1 * 128 ^ 9 := Nat.mul_le_mul_right _ h3
    rw [show (128 : Nat) ^ 9 = 9223372036854775808 from rfl] at h1 h4 ⊢
    omega
/-- What the document says is wrong with a whole number. -/
def takeE (l : List Nat) : Nat := if (wholeR l).2.2 = 21 ∧ 10 ≤ l.length then 20 else (wholeR l).2.2
theorem takeE_0 (l : List Nat) : takeE l = 0 ↔ (wholeR l).2.2 = 0 := by
  unfold takeE
  split
  · rename_i h; rw [h.1]; simp
  · rfl
theorem whole_e (l : List Nat) : (wholeR l).2.2 = 0 ∨ (wholeR l).2.2 = 20 ∨ (wholeR l).2.2 = 21 := by
  unfold wholeR
  split
  · exact .inr (.inr rfl)
  · split
    · exact .inr (.inl rfl)
    · exact .inl rfl
theorem takeE_lt (l : List Nat) : takeE l < 100 := by
  have := whole_e l
  unfold takeE
  split <;> omega

abbrev inV (v : Value) (e : Nat) : Value := .agg #[v, .int .i64 (e : Nat)]
theorem zin (w : World) : (zeroValue 112).run Try.prog w = .ok (.agg #[.slice none 0 0, .int .i64 0]) w := by kernel_rfl
theorem in_res (f : Func) (s : Nat) (hf : f.results = #[.cell s 112]) (tmps : Array Value) (w : World) (b : Nat) (v0 v1 : Value) (hp : tmps.getD s undef = .pointer (some ⟨b, 0, none⟩))
    (hg : w.heap[b]? = some (.cells #[v0, v1] 112 (0, 0))) : (results f tmps).run Try.prog w = .ok (.agg #[v0, v1]) w := by
  have hp' : tmps[s]?.getD undef = .pointer (some ⟨b, 0, none⟩) := by simpa using hp
  have k1 := run_loadVar_row (P := Try.prog) w b 112 112 #[v0, v1] (0, 0) _ hg Try.underlying112 rfl (by kernel_rfl)
  simp [results, hf, hp', asAddr, k1]
theorem in_res2 (f : Func) (s r : Nat) (hf : f.results = #[.cell s 112, .tmp r]) (tmps : Array Value) (w : World) (b : Nat) (v0 v1 e : Value) (hp : tmps.getD s undef = .pointer (some ⟨b, 0, none⟩)) (hr : tmps.getD r undef = e)
    (hg : w.heap[b]? = some (.cells #[v0, v1] 112 (0, 0))) : (results f tmps).run Try.prog w = .ok (.tuple #[.agg #[v0, v1], e]) w := by
  have hp' : tmps[s]?.getD undef = .pointer (some ⟨b, 0, none⟩) := by simpa using hp
  have hr' : tmps[r]?.getD undef = e := by simpa using hr
  have k1 := run_loadVar_row (P := Try.prog) w b 112 112 #[v0, v1] (0, 0) _ hg Try.underlying112 rfl (by kernel_rfl)
  simp [results, hf, hp', hr', asAddr, k1]
theorem in_new2 (w : World) (o1 o2 : Obj) : ((w.alloc o1).alloc o2).heap[w.heap.size + 1]? = some o2 := by
  have := World.alloc_heap_new (w.alloc o1) o2
  rw [World.size_alloc] at this
  exact this
theorem in_new2_below (w : World) (o1 o2 : Obj) : Below w.heap.size w ((w.alloc o1).alloc o2) := ((Below.refl _ w).alloc (Nat.le_refl _) _).alloc (by simp) _

set_option maxRecDepth 100000 in
set_option maxHeartbeats 1000000 in
theorem rfail_any (p : Option Addr) (m c : Nat) (t : Nat) (ht : t < 100) (w : World) :
    Calls Try.prog 76 #[.agg #[.slice p m c, .int .i64 0], .int .i64 (t : Nat)] w fun e w' => e = .returned (inV (.slice none 0 0) t) ∧ Below w.heap.size w w' := by
  have hz := zin
  go_enter Try.func76, Try.ntmps76
  go_wp2
  refine bodyPost_ret (in_res _ 4 rfl _ _ (w.heap.size + 1) _ _ rfl (in_new2 _ _ _)) rfl ⟨rfl, in_new2_below _ _ _⟩

set_option maxRecDepth 100000 in
set_option maxHeartbeats 1000000 in
theorem rtake_bad (p : Option Addr) (m c : Nat) (e : Nat) (he : e ≠ 0) (he2 : e < 100) (w : World) :
    Calls Try.prog 65 #[inV (.slice p m c) e] w fun x w' => x = .returned (.tuple #[inV (.slice p m c) e, .int .u64 0]) ∧ Below w.heap.size w w' := by
  have hz := zin
  have hne : ¬ ((e : Int) = 0) := by omega
  go_enter Try.func65, Try.ntmps65
  go_wp2
  refine bodyPost_ret (in_res2 _ 2 3 rfl _ _ (w.heap.size + 1) _ _ _ rfl rfl (in_new2 _ _ _)) rfl ⟨rfl, in_new2_below _ _ _⟩


/-- What TakeUint hands back. -/
def TakeRT (w : World) (l : List Nat) (x : Ending) (w' : World) : Prop :=
  ∃ p m c, x = .returned (.tuple #[inV (.slice p m c) (takeE l), .int .u64 ((wholeR l).1 : Nat)]) ∧ Sl encY w.heap.size w (.slice p m c) (uintR l 0).1 ∧ Below w.heap.size w w'
theorem takeRT_bad {w w' : World} {l : List Nat} (h : (wholeR l).2.2 ≠ 0) {t : Nat} (ht : takeE l = t) (hb : Below w.heap.size w w') :
    TakeRT w l (.returned (.tuple #[inV (.slice none 0 0) t, .int .u64 0])) w' := by
  refine ⟨none, 0, 0, ?_, ?_, hb⟩
  · rw [ht, wholeR_bad h]
    simp
  · unfold uintR
    rw [if_neg h]
    exact Sl.nil _ _ _
theorem whole_any_ge {l : List Nat} (h : ∀ j y, j < l.length → l[j]? = some y → 128 ≤ y) : (wholeR l).2.2 = 21 := by
  unfold wholeR
  rw [lastI_none h, if_pos (by decide)]
theorem whole_at {l : List Nat} {k x : Nat} (hb : ∀ j y, j < k → l[j]? = some y → 128 ≤ y) (hx : l[k]? = some x) (h : x < 128) :
    wholeR l = if 10 ≤ k ∨ (k = 9 ∧ 1 < x) ∨ (0 < k ∧ x = 0) then (0, 0, 20) else (valL (l.take (k + 1)), k + 1, 0) := by
  have hg : l.getD k 0 = x := by rw [List.getD_eq_getElem?_getD, hx]; rfl
  unfold wholeR
  rw [lastI_found hb hx h, if_neg (by omega), Int.toNat_natCast, hg]
/-- More than nine bytes that are no number's end, or a tenth that is too great. -/
theorem take_long {l : List Nat} {x : Nat} (hb : ∀ j y, j < 9 → l[j]? = some y → 128 ≤ y) (hx : l[9]? = some x) (h : 1 < x) : (wholeR l).2.2 ≠ 0 ∧ takeE l = 20 := by
  have hlen := (List.getElem?_eq_some_iff.1 hx).1
  have key : (wholeR l).2.2 = 20 ∨ (wholeR l).2.2 = 21 := by
    rcases lastI_cases l with hk | ⟨k, y, hk, hy, hlow, hb2⟩
    · exact .inr (by unfold wholeR; rw [hk, if_pos (by decide)])
    · have hk9 : 9 ≤ k := by
        apply Decidable.byContradiction
        intro hlt
        have := hb k y (by omega) hy
        omega
      rw [whole_at hb2 hy hlow]
      by_cases h10 : k = 9
      · subst h10
        rw [hx] at hy; cases hy
        rw [if_pos (.inr (.inl ⟨rfl, h⟩))]; exact .inl rfl
      · rw [if_pos (.inl (by omega))]; exact .inl rfl
  unfold takeE
  rcases key with h1 | h1
  · rw [h1]; exact ⟨by decide, rfl⟩
  · rw [h1]; exact ⟨by decide, if_pos ⟨rfl, by omega⟩⟩

/-- A number that is well. -/
theorem take_good {l : List Nat} {k x : Nat} (hb : ∀ j y, j < k → l[j]? = some y → 128 ≤ y) (hx : l[k]? = some x) (h : x < 128) (hk : k ≤ 9) (hu : uv (valL (l.take (k + 1))) = l.take (k + 1)) (h9 : ¬ (k = 9 ∧ 1 < x)) :
    wholeR l = (valL (l.take (k + 1)), k + 1, 0) ∧ (uintR l 0).1 = l.drop (k + 1) := by
  have hlen := (List.getElem?_eq_some_iff.1 hx).1
  have e := whole_at hb hx h
  have hx0 : ¬ (0 < k ∧ x = 0) := by
    rintro ⟨h1, rfl⟩
    obtain ⟨p, y, e1, _, _, e4, _⟩ := uv_shape (valL (l.take (k + 1)))
    rw [hu, take_one _ _ _ hx] at e1
    obtain ⟨e5, e6⟩ := List.append_inj' e1 rfl
    have : (0 : Nat) = y := by simpa using e6
    refine e4 ?_ this.symm
    rw [← e5]
    intro h2
    have := congrArg List.length h2
    rw [List.length_take, List.length_nil] at this
    omega
  rw [if_neg (by omega)] at e
  refine ⟨e, ?_⟩
  unfold uintR
  rw [e, if_pos rfl]
theorem in_set2 {W : World} {b : Nat} {t : TypeId} {x y k v : Value} (h : W.heap[b]? = some (.cells #[x, y] t (0, 0))) : ((W.setCell ⟨b, 0, none⟩ k).setCell ⟨b, 1, none⟩ v).heap[b]? = some (.cells #[k, v] t (0, 0)) :=
  heap_setCell_same _ b 1 _ t v (heap_setCell_same W b 0 _ t k h)
theorem in_below2 {N b : Nat} {w W : World} {v0 v1 : Value} (h : Below N w W) (hb : N ≤ b) : Below N w ((W.setCell ⟨b, 0, none⟩ v0).setCell ⟨b, 1, none⟩ v1) :=
  (h.setCell (p := ⟨b, 0, none⟩) hb _).setCell (p := ⟨b, 1, none⟩) hb _
set_option maxRecDepth 100000 in
set_option maxHeartbeats 4000000 in
theorem rtake_any (a : Option Addr) (n c : Nat) (l : List Nat) (hl : Bytes l) (w : World) (hS : Sl encY w.heap.size w (.slice a n c) l) :
    Calls Try.prog 65 #[inV (.slice a n c) 0] w (TakeRT w l) := by
  have hz := zin
  have hl1 := hl.1
  obtain rfl := hS.len
  have HL := Lib.hid hl
  have HS := Lib.hid hS
  obtain ⟨M, hM⟩ : ∃ M, l.length = M := ⟨_, rfl⟩
  have HM := Lib.hid hM
  rw [hM] at hl1 HS ⊢
  clear hM hl hS
  go_enter Try.func65, Try.ntmps65
  go_wp2_with fail
  obtain ⟨N, hN⟩ : ∃ N, w.heap.size = N := ⟨_, rfl⟩
  obtain ⟨w1, hw1⟩ : ∃ w1, (w.alloc (.cells #[.slice a M c, .int .i64 0] 112)).alloc (.cells #[.slice none 0 0, .int .i64 0] 112) = w1 := ⟨_, rfl⟩
  have rA : w1.heap[N]? = some (.cells #[.slice a M c, .int .i64 0] 112 (0, 0)) := by rw [← hw1, ← hN, Below.heap_alloc _ _ _ (by simp)]; exact World.alloc_heap_new w _
  have rR : w1.heap[N + 1]? = some (.cells #[.slice none 0 0, .int .i64 0] 112 (0, 0)) := by rw [← hw1, ← hN]; exact in_new2 _ _ _
  have hb1 : Below N w w1 := by rw [← hw1, ← hN]; exact in_new2_below _ _ _
  have hz1 : w1.heap.size = N + 2 := by rw [← hw1, ← hN]; simp
  have hS1 : Sl encY w1.heap.size w1 (.slice a M c) l := by have h := HS.out; rw [hN] at h; exact (h.below hb1).mono (by omega)
  rw [hN]
  rw [hw1]
  have HNN := Lib.hid hN
  have HZ1 := Lib.hid hz1
  have HS1 := Lib.hid hS1
  have HR := Lib.hid rR
  have HA := Lib.hid rA
  have HB1 := Lib.hid hb1
  have k0 : w1.cell? ⟨N, 0, none⟩ = some (.slice a M c) := cell_of_row w1 N 0 _ _ _ rA
  have k1 : w1.cell? ⟨N, 1, none⟩ = some (.int .i64 0) := cell_of_row w1 N 1 _ _ _ rA
  clear hw1 hN rA rR hb1 hS1
  go_loop [4] (fun i => ∃ k : Nat, k ≤ M ∧ k ≤ 9 ∧ i = .int .i64 (k : Nat) ∧ ∀ j y, j < k → l[j]? = some y → 128 ≤ y) (fun i => M - (intOf i).toNat)
  case atStart => exact ⟨0, by omega, by omega, rfl, fun j y hj => by omega⟩
  case round =>
    obtain ⟨k, hk, hk9, rfl, hall⟩ := hrel
    have HALL := Lib.hid hall
    clear hall
    by_cases hlt : k < M
    · obtain ⟨x, hx⟩ : ∃ x, l[k]? = some x := ⟨l[k]'(by rw [HM.out]; exact hlt), List.getElem?_eq_getElem _⟩
      have hx2 := HL.out.2 x (List.mem_of_getElem? hx)
      obtain ⟨b, off, rfl, hbl, hc⟩ := HS1.out.at_ hx
      have hc' : w1.cell? ⟨b, off + k, none⟩ = some (.int .u8 (x : Int)) := hc
      have HX := Lib.hid hx
      clear hx hc
      by_cases h9 : k = 9 ∧ 1 < x
      · obtain ⟨rfl, hx1⟩ := h9
        have hx1i : (1 : Int) < (x : Int) := by omega
        go_wp2_with fail
        refine (rfail_any _ _ _ 20 (by decide) _).mono ?_
        rintro e w2 ⟨rfl, hb2⟩
        have rW := (hb2.block (N + 1) (by have := HZ1.out; omega)).trans HR.out
        have q0 : w2.cell? ⟨N + 1, 0, none⟩ = some (.slice none 0 0) := cell_of_row w2 (N + 1) 0 _ _ _ rW
        have q1 : w2.cell? ⟨N + 1, 1, none⟩ = some (.int .i64 0) := cell_of_row w2 (N + 1) 1 _ _ _ rW
        have f0 := frozen_of_row w2 (N + 1) 0 _ _ rW
        have f1 := frozen_of_row w2 (N + 1) 1 _ _ rW
        have HRW := Lib.hid rW
        have HB2 : Hid (Below N w w2) := Lib.hid (HB1.out.trans (hb2.mono (by have := HZ1.out; omega)))
        clear rW hb2
        go_wp2
        refine bodyPost_ret (in_res2 _ 2 3 rfl _ _ (N + 1) _ _ _ rfl rfl (in_set2 HRW.out)) rfl ?_
        obtain ⟨t1, t2⟩ := take_long HALL.out HX.out hx1
        exact takeRT_bad t1 t2 (by rw [HNN.out]; exact in_below2 HB2.out (by omega))
      · have h9i : ¬ ((k : Int) = 9 ∧ (1 : Int) < (x : Int)) := by omega
        by_cases h128 : 128 ≤ x
        · have hk8 : k ≤ 8 := by omega
          have hk8i : ((k : Int) == 9) = false := beq_eq_false_iff_ne.2 (by omega)
          have hge : (128 : Int) ≤ (x : Int) := by omega
          go_wp2_with fail
          refine ⟨⟨k + 1, by omega, by omega, rfl, fun j y hj hy => ?_⟩, by show M - ((k : Int) + 1).toNat < M - ((k : Int)).toNat; omega⟩
          by_cases hj2 : j = k
          · subst hj2
            rw [HX.out] at hy; cases hy
            exact h128
          · exact HALL.out j y (by omega) hy
        · have hlow : ¬ (128 : Int) ≤ (x : Int) := by omega
          have HV : Hid (valL (l.take (k + 1)) < 18446744073709551616) := Lib.hid (valL_take hk9 HX.out (by omega))
          obtain ⟨T, hT⟩ : ∃ T, l.take (k + 1) = T := ⟨_, rfl⟩
          have HT := Lib.hid hT
          have hTl : T.length = k + 1 := by rw [← hT, List.length_take, HM.out]; omega
          have HTL := Lib.hid hTl
          rw [hT] at HV
          clear hT hTl
          go_upto_region 6 with fail
          go_cut [31] from 18 to 30 (fun cv wx => cv = .bool false ∧ wx = w1)
          case first =>
            by_cases hk9e : k = 9
            · subst hk9e
              have hx1 : ¬ (1 : Int) < (x : Int) := by omega
              go_wp2_with fail
              go_meet
              exact ⟨rfl, rfl⟩
            · have hk9n : ¬ (9 : Int) < (k : Int) := by omega
              have hk8i : ((k : Int) == 9) = false := beq_eq_false_iff_ne.2 (by omega)
              go_wp2_with fail
              go_meet
              exact ⟨rfl, rfl⟩
          case rest =>
            obtain ⟨rfl, hwc⟩ := hcut
            rw [hwc]
            clear hwc h9i
            go_wp2_with fail
            go_loop [5, 6] (fun nv kv => ∃ j : Nat, j ≤ k + 1 ∧ kv = .int .i64 ((j : Int) - 1) ∧ nv = .int .u64 (valL (T.drop j) : Nat)) (fun nv kv => (intOf kv + 1).toNat)
            case atStart => exact ⟨k + 1, by omega, by simp, by rw [List.drop_of_length_le (by rw [HTL.out]; omega)]; rfl⟩
            case round =>
              obtain ⟨j, hj, rfl, rfl⟩ := hrel
              cases j with
              | succ j =>
                obtain ⟨y, hy⟩ : ∃ y, l[j]? = some y := ⟨l[j]'(by rw [HM.out]; omega), List.getElem?_eq_getElem _⟩
                have hyb := HL.out.2 y (List.mem_of_getElem? hy)
                obtain ⟨b', off', e, hbl', hcy⟩ := HS1.out.at_ hy
                cases e
                have hcy' : w1.cell? ⟨b, off + j, none⟩ = some (.int .u8 (y : Int)) := hcy
                have hTy : T[j]? = some y := by rw [← HT.out, List.getElem?_take, if_pos (by omega)]; exact hy
                have hstep : valL (T.drop j) = y % 128 + 128 * valL (T.drop (j + 1)) := by
                  have := (List.getElem?_eq_some_iff.1 hTy)
                  obtain ⟨h1, h2⟩ := this
                  rw [List.drop_eq_getElem_cons h1, h2]
                  rfl
                have hb1 := valL_drop j T
                have hb2 := HV.out
                obtain ⟨V, hV⟩ : ∃ V, valL (T.drop (j + 1)) = V := ⟨_, rfl⟩
                rw [hV] at hstep ⊢
                have HV2 := Lib.hid hV
                have HST := Lib.hid hstep
                have g1 : (V : Int) * 128 + (y : Int) % 128 < 18446744073709551616 := by omega
                have g2 : ((j + 1 : Nat) : Int) - 1 = (j : Int) := by omega
                rw [g2]
                clear hy hcy hTy hV hstep hb1 hb2 g2
                go_wp2_with fail
                refine ⟨⟨j, by omega, rfl, ?_⟩, by show ((j : Int) - 1 + 1).toNat < ((j : Int) + 1).toNat; omega⟩
                rw [HST.out]
                congr 1
                omega
              | zero =>
                rw [show ((0 : Nat) : Int) - 1 = -1 from rfl, List.drop_zero]
                have hcap := HS1.out.capb
                have huv := uv_len10 HV.out
                obtain ⟨V, hV⟩ : ∃ V, valL T = V := ⟨_, rfl⟩
                have HVV := Lib.hid hV
                rw [hV] at HV huv ⊢
                have HUV := Lib.hid huv
                have HST : Hid (Sl encY w1.heap.size w1 (.slice (some ⟨b, off, none⟩) (k + 1) c) T) := Lib.hid (by have := HS1.out.take (k := k + 1) (by omega); rw [HT.out] at this; exact this)
                clear hV huv
                go_upto_region 14 with fail
                refine region_rel (l := _) (by kernel_rfl) (by decide +kernel) (fun v => { tmps := #[inV (Value.slice (some ⟨b, off, none⟩) M c) 0, Value.pointer (some ⟨N, 0, none⟩), Value.pointer (some ⟨N + 1, 0, none⟩), u3, Value.int .i64 (k : Nat), Value.int .u64 (V : Nat), Value.int .i64 (-1), Value.pointer (some ⟨N, 1, none⟩), Value.int .i64 0, Value.bool false, undef, Value.int .i64 (k : Nat), Value.pointer (some ⟨N, 0, none⟩), Value.slice (some ⟨b, off, none⟩) M c, Value.int .i64 (M : Nat), Value.bool true, u16, u17, u18, u19, u20, u21, u22, u23, u24, u25, u26, u27, u28, u29, u30, Value.bool false, u32, u33, Value.pointer (some ⟨N, 0, none⟩), Value.slice (some ⟨b, off, none⟩) M c, Value.int .i64 (k : Nat), Value.pointer (some ⟨b, off + k, none⟩), Value.int .u8 (x : Nat), Value.bool false, Value.int .i64 (k : Nat), Value.int .i64 (-1), Value.bool false, u43, u44, u45, u46, u47, u48, u49, u50, u51, u52, u53, u54, v 0, v 1, v 2, v 3, v 4, v 5, v 6, v 7, v 8, u64, u65, u66, u67, u68, u69, u70, u71, u72, u73, undef, undef], defers := [] }) (fun W => Below w1.heap.size w1 W) (fun i u W => match i with
                  | 0 => u = .int .u64 (V : Nat)
                  | 1 => ∃ p m d, u = .slice p m d ∧ Sl encY W.heap.size W u (uv V)
                  | 2 => u = .pointer (some ⟨N, 0, none⟩)
                  | 3 => u = .slice (some ⟨b, off, none⟩) M c
                  | 4 => u = .int .i64 (k : Nat)
                  | 5 => u = .int .i64 ((k : Int) + 1)
                  | 6 => u = .slice (some ⟨b, off, none⟩) (k + 1) c
                  | 7 => u = .bool (decide (uv V = T))
                  | 8 => u = .bool (!decide (uv V = T))
                  | _ => True) (fun A B => Below A.heap.size A B) ?hC ?hV (fun i => match i with | 0 => u55 | 1 => u56 | 2 => u57 | 3 => u58 | 4 => u59 | 5 => u60 | 6 => u61 | 7 => u62 | _ => u63) ?h0 ?hop ?hend
                case hC => exact fun A B h h2 => h.trans (h2.mono h.size)
                case h0 => exact (Below.refl _ w1).drew
                case hV =>
                  intro i u A B h hx
                  match i, h with
                  | 1, ⟨p, m, d, e, h⟩ => exact ⟨p, m, d, e, (h.below hx).mono hx.size⟩
                  | 0, h => exact h
                  | 2, h => exact h
                  | 3, h => exact h
                  | 4, h => exact h
                  | 5, h => exact h
                  | 6, h => exact h
                  | 7, h => exact h
                  | 8, h => exact h
                  | n + 9, h => trivial
                case hop =>
                  simp only [AllDo]
                  refine ⟨?o0, ?o1, ?o2, ?o3, ?o4, ?o5, ?o6, ?o7, ?o8, trivial⟩
                  all_goals intro v W hc hd Q hQ
                  all_goals simp [Region.binds] at hd
                  all_goals rw [if_pos (show Region.wanted _ _ = true from rfl)]
                  case o0 =>
                    go_wp2
                    exact ⟨by simp [updV, hd], Below.refl _ _⟩
                  case o1 =>
                    have HU := Lib.hid (refUint_any V HV.out W)
                    unfold RefU at HU
                    go_wp2_with fail
                    refine HU.out.mono ?_
                    rintro e W' ⟨vv, rfl, hown, hb'⟩
                    have HOW := Lib.hid (Sl.of_owns hown)
                    obtain ⟨p, m, d, rfl⟩ := ownsRow_form hown
                    clear hown
                    go_wp2
                    refine ⟨.slice p m d, ?_, hb', p, m, d, rfl, HOW.out⟩
                    simp [updV, hd]
                  case o2 =>
                    go_wp2
                    exact ⟨by simp [updV, hd], Below.refl _ _⟩
                  case o3 =>
                    have q0 : W.cell? ⟨N, 0, none⟩ = some (.slice (some ⟨b, off, none⟩) M c) := cell_of_row W N 0 _ _ _ ((hc.block N (by have := HZ1.out; omega)).trans HA.out)
                    go_wp2
                    exact ⟨by simp [updV, hd], Below.refl _ _⟩
                  case o4 =>
                    go_wp2
                    exact ⟨by simp [updV, hd], Below.refl _ _⟩
                  case o5 =>
                    go_wp2
                    exact ⟨by simp [updV, hd], Below.refl _ _⟩
                  case o6 =>
                    go_wp2
                    exact ⟨by simp [updV, hd], Below.refl _ _⟩
                  case o7 =>
                    obtain ⟨⟨⟨p, m, d, h1⟩, hSl⟩, h6, _⟩ := hd
                    rw [h1] at hSl
                    have HSM := Lib.hid (sameY_any p _ m d (k + 1) c (uv V) T W (by have := HUV.out; omega) (by have := HTL.out; omega) hSl ((HST.out.below hc).mono hc.size))
                    clear hSl
                    go_wp2_with fail
                    refine HSM.out.mono ?_
                    rintro e W' ⟨rfl, hb'⟩
                    go_wp2
                    refine ⟨.bool (decide (uv V = T)), ?_, hb', rfl⟩
                    simp [updV, h1, h6]
                  case o8 =>
                    go_wp2
                    exact ⟨by simp [updV, hd], Below.refl _ _⟩
                case hend =>
                  intro v W hc hv
                  have e8 := hv 8 (by decide)
                  have hz2 := hc.size
                  have HC := Lib.hid hc
                  have rW := (hc.block N (by have := HZ1.out; omega)).trans HA.out
                  have q0 : W.cell? ⟨N, 0, none⟩ = some (.slice (some ⟨b, off, none⟩) M c) := cell_of_row W N 0 _ _ _ rW
                  have q1 : W.cell? ⟨N, 1, none⟩ = some (.int .i64 0) := cell_of_row W N 1 _ _ _ rW
                  have fz := frozen_of_row W N 0 _ _ rW
                  have HRA := Lib.hid rW
                  clear hv hc rW
                  by_cases hc3 : uv V = T
                  · rw [decide_eq_true hc3] at e8
                    have rR := (HC.out.block (N + 1) (by have := HZ1.out; omega)).trans HR.out
                    have p0 : W.cell? ⟨N + 1, 0, none⟩ = some (.slice none 0 0) := cell_of_row W (N + 1) 0 _ _ _ rR
                    have p1 : W.cell? ⟨N + 1, 1, none⟩ = some (.int .i64 0) := cell_of_row W (N + 1) 1 _ _ _ rR
                    have f0 := frozen_of_row W (N + 1) 0 _ _ rR
                    have f1 := frozen_of_row W (N + 1) 1 _ _ rR
                    have HRR := Lib.hid rR
                    clear rR
                    go_wp2
                    all_goals
                      refine bodyPost_ret (in_res2 _ 2 3 rfl _ _ (N + 1) _ _ _ rfl rfl (in_set2 ((Below.heap_setCell W ⟨N, 0, none⟩ _ (N + 1) (by simp)).trans HRR.out))) rfl ?_
                      have hHB : Below N w W := HB1.out.trans (HC.out.mono (by have := HZ1.out; omega))
                      have hHB2 : ∀ u v, Below N w (((W.setCell ⟨N, 0, none⟩ u).setCell ⟨N + 1, 0, none⟩ v).setCell ⟨N + 1, 1, none⟩ (.int .i64 0)) := fun u v => in_below2 (b := N + 1) (hHB.setCell (p := ⟨N, 0, none⟩) (Nat.le_refl N) _) (by omega)
                      have ht := take_good HALL.out HX.out (by omega) hk9 (by rw [HT.out, HVV.out]; exact hc3) (by omega)
                      rw [HT.out, HVV.out] at ht
                    · refine ⟨_, _, _, by rw [show takeE l = 0 from (takeE_0 l).2 (by rw [ht.1])]; rw [ht.1]; rfl, ?_, by rw [HNN.out]; exact hHB2 _ _⟩
                      rw [ht.2]
                      have hM : M = k + 1 := by omega
                      refine .inl ⟨List.drop_eq_nil_of_le (by rw [HM.out]; omega), _, _, by rw [hM, Nat.sub_self], fun h => by cases h⟩
                    · refine ⟨_, _, _, by rw [show takeE l = 0 from (takeE_0 l).2 (by rw [ht.1])]; rw [ht.1]; rfl, ?_, by rw [HNN.out]; exact hHB2 _ _⟩
                      rw [ht.2]
                      exact HS.out.from_ (by omega)
                  · rw [decide_eq_false hc3] at e8
                    go_wp2_with fail
                    refine (rfail_any _ _ _ 20 (by decide) _).mono ?_
                    rintro e w2 ⟨rfl, hb2⟩
                    have rW := (hb2.block (N + 1) (by have := HZ1.out; omega)).trans ((HC.out.block (N + 1) (by have := HZ1.out; omega)).trans HR.out)
                    have q0 : w2.cell? ⟨N + 1, 0, none⟩ = some (.slice none 0 0) := cell_of_row w2 (N + 1) 0 _ _ _ rW
                    have q1 : w2.cell? ⟨N + 1, 1, none⟩ = some (.int .i64 0) := cell_of_row w2 (N + 1) 1 _ _ _ rW
                    have f0 := frozen_of_row w2 (N + 1) 0 _ _ rW
                    have f1 := frozen_of_row w2 (N + 1) 1 _ _ rW
                    have HRW := Lib.hid rW
                    have HB2 : Hid (Below N w w2) := Lib.hid ((HB1.out.trans (HC.out.mono (by have := HZ1.out; omega))).trans (hb2.mono (by have := HZ1.out; omega)))
                    clear rW hb2
                    go_wp2
                    refine bodyPost_ret (in_res2 _ 2 3 rfl _ _ (N + 1) _ _ _ rfl rfl (in_set2 HRW.out)) rfl ?_
                    have hx0 : 0 < k ∧ x = 0 := by
                      apply Decidable.byContradiction
                      intro hno
                      refine hc3 ?_
                      have e0 : T = l.take k ++ [x] := by rw [← HT.out]; exact take_one _ _ _ HX.out
                      rw [← HVV.out, e0]
                      refine uv_of_val x (by omega) _ (fun y hy => ?_) (fun hne => ?_)
                      · obtain ⟨j, hj, hjy⟩ := List.mem_take_iff_getElem.1 hy
                        have hy2 : l[j]? = some y := by rw [List.getElem?_eq_getElem (by omega), hjy]
                        exact ⟨HALL.out j y (by omega) hy2, HL.out.2 y (List.mem_of_getElem? hy2)⟩
                      · intro h0
                        refine hno ⟨?_, h0⟩
                        apply Decidable.byContradiction
                        intro hk0
                        exact hne (by rw [show k = 0 from by omega, List.take_zero])
                    have ew := whole_at HALL.out HX.out (by omega)
                    rw [if_pos (.inr (.inr hx0))] at ew
                    exact takeRT_bad (by rw [ew]; decide) (by unfold takeE; rw [ew]; rfl) (by rw [HNN.out]; exact in_below2 HB2.out (by omega))
    · obtain rfl : k = M := by omega
      go_wp2_with fail
      refine (rfail_any _ _ _ 21 (by decide) _).mono ?_
      rintro e w2 ⟨rfl, hb2⟩
      have rW := (hb2.block (N + 1) (by have := HZ1.out; omega)).trans HR.out
      have q0 : w2.cell? ⟨N + 1, 0, none⟩ = some (.slice none 0 0) := cell_of_row w2 (N + 1) 0 _ _ _ rW
      have q1 : w2.cell? ⟨N + 1, 1, none⟩ = some (.int .i64 0) := cell_of_row w2 (N + 1) 1 _ _ _ rW
      have f0 := frozen_of_row w2 (N + 1) 0 _ _ rW
      have f1 := frozen_of_row w2 (N + 1) 1 _ _ rW
      have HRW := Lib.hid rW
      have HB2 : Hid (Below N w w2) := Lib.hid (HB1.out.trans (hb2.mono (by have := HZ1.out; omega)))
      clear rW hb2
      go_wp2
      refine bodyPost_ret (in_res2 _ 2 3 rfl _ _ (N + 1) _ _ _ rfl rfl (in_set2 HRW.out)) rfl ?_
      have e21 : (wholeR l).2.2 = 21 := whole_any_ge (fun j y hj hy => HALL.out j y (by rw [← HM.out]; exact hj) hy)
      exact takeRT_bad (by rw [e21]; decide) (by unfold takeE; rw [if_neg (by have := HM.out; omega), e21]) (by rw [HNN.out]; exact in_below2 HB2.out (by omega))
end Go.Proofs.Ytpllbojmonfeiaa

/- What the document reads of a region, frame by frame, beside the journal's own order. Plain mathematics. -/
namespace Go.Proofs.Ytpllbojmonfeiaa
open Go.RowKit SumM
set_option linter.unusedVariables false

/-- The first i frames are taken, and it has come to s. -/
structure RunTo (ks : List (Nat × List Nat)) (i : Nat) (s : OrdS) : Prop where
  le : i ≤ ks.length
  tk : takeK o0 ks = i + takeK s (ks.drop i)
  en : endK o0 ks = endK s (ks.drop i)
theorem RunTo.start (ks : List (Nat × List Nat)) : RunTo ks 0 o0 := ⟨Nat.zero_le _, by simp, by simp⟩
theorem RunTo.step {ks : List (Nat × List Nat)} {i : Nat} {s s' : OrdS} {x : Nat × List Nat} (h : RunTo ks i s) (hx : ks[i]? = some x) (ht : takeS s x.1 x.2 = (s', true)) : RunTo ks (i + 1) s' := by
  obtain ⟨h1, h2⟩ := List.getElem?_eq_some_iff.1 hx
  have ed : ks.drop i = x :: ks.drop (i + 1) := by rw [List.drop_eq_getElem_cons h1, h2]
  have ht2 : (takeS s x.1 x.2).2 = true := by rw [ht]
  refine ⟨h1, ?_, ?_⟩
  · rw [h.tk, ed]
    show i + (if (takeS s x.1 x.2).2 = true then takeK (takeS s x.1 x.2).1 (ks.drop (i + 1)) + 1 else 0) = _
    rw [if_pos ht2, ht]
    show i + (takeK s' (ks.drop (i + 1)) + 1) = _
    omega
  · rw [h.en, ed]
    show (if (takeS s x.1 x.2).2 = true then endK (takeS s x.1 x.2).1 (ks.drop (i + 1)) else _) = _
    rw [if_pos ht2, ht]
theorem RunTo.stop {ks : List (Nat × List Nat)} {i : Nat} {s s' : OrdS} {x : Nat × List Nat} (h : RunTo ks i s) (hx : ks[i]? = some x) (ht : takeS s x.1 x.2 = (s', false)) : takeK o0 ks = i ∧ endK o0 ks = s' := by
  obtain ⟨h1, h2⟩ := List.getElem?_eq_some_iff.1 hx
  have ed : ks.drop i = x :: ks.drop (i + 1) := by rw [List.drop_eq_getElem_cons h1, h2]
  have ht2 : ¬ (takeS s x.1 x.2).2 = true := by rw [ht]; exact Bool.false_ne_true
  refine ⟨?_, ?_⟩
  · rw [h.tk, ed]
    show i + (if (takeS s x.1 x.2).2 = true then _ else 0) = _
    rw [if_neg ht2]; omega
  · rw [h.en, ed]
    show (if (takeS s x.1 x.2).2 = true then _ else (takeS s x.1 x.2).1) = _
    rw [if_neg ht2, ht]
theorem RunTo.fin {ks : List (Nat × List Nat)} {s : OrdS} (h : RunTo ks ks.length s) : takeK o0 ks = ks.length ∧ endK o0 ks = s := by
  have h1 := h.tk
  have h2 := h.en
  rw [List.drop_length] at h1 h2
  exact ⟨h1, h2⟩
/-- Too few frames for the pieces and the frame that is ready. -/
theorem endK_few : ∀ (ks : List (Nat × List Nat)) (s : OrdS), s.age ≠ 0 → s.ready = false → ks.length < s.pieces + 1 → (endK s ks).ready = false
  | [], s, _, hr, _ => hr
  | x :: xs, s, ha, hr, hl => by
    have key : (takeS s x.1 x.2).1.ready = false ∧ ((takeS s x.1 x.2).1.age ≠ 0 ∧ s.pieces ≤ (takeS s x.1 x.2).1.pieces + 1) := by
      rw [List.length_cons] at hl
      unfold takeS
      by_cases h1 : x.1 ≠ s.next
      · rw [if_pos h1]; exact ⟨hr, ha, by show s.pieces ≤ s.pieces + 1; omega⟩
      · rw [if_neg h1]
        rcases next_kinds s with ⟨g1, g2⟩ | ⟨g1, _, g3⟩ | ⟨g1, _, g3, _⟩ | ⟨_, _, _, g4⟩
        · exact absurd g2 ha
        · rw [if_neg (by omega), if_pos (by omega)]; exact ⟨hr, ha, by show s.pieces ≤ s.pieces - 1 + 1; omega⟩
        · omega
        · rw [g4] at hr; cases hr
    obtain ⟨k1, k2, k3⟩ := key
    show (if (takeS s x.1 x.2).2 = true then endK (takeS s x.1 x.2).1 xs else (takeS s x.1 x.2).1).ready = false
    split
    · exact endK_few xs _ k2 k1 (by rw [List.length_cons] at hl; omega)
    · exact k1

/-- Where a frame begins. -/
theorem posF_get : ∀ (ks : List (Nat × List Nat)) (a k : Nat) (x : Nat × List Nat), ks[k]? = some x → (posF a ks)[k]? = some (a + (joinF (ks.take k)).length, x.1, x.2)
  | [], _, _, _, h => by cases h
  | y :: ks, a, 0, x, h => by
    obtain rfl : y = x := by simpa using h
    show some (a, y.1, y.2) = _
    simp [joinF]
  | y :: ks, a, k + 1, x, h => by
    have ih := posF_get ks (a + (y.2.length + 7)) k x (by simpa using h)
    show (posF (a + (y.2.length + 7)) ks)[k]? = _
    rw [ih, List.take_succ_cons, joinF_cons, List.length_append, frame_len]
    congr 2
    omega

/-- What counts, as the frames that were taken tell it. -/
theorem kept_run {l : List Nat} {ks : List (Nat × List Nat)} {rest : List Nat} (e : l = joinF ks ++ rest) (hk : ∀ x ∈ ks, okF x) (hr : rest = [] ∨ readE rest ≠ 0) {m a : Nat} (h1 : takeK o0 ks = m) (h2 : endK o0 ks = ⟨a, 0, true⟩) :
    keptS l = (a, cntK 4 (ks.take m), (joinF (ks.take m)).length) ∧ snapL (l.take (joinF (ks.take m)).length) = (bodK 2 (ks.take m)).flatten ∧ recsL (l.take (joinF (ks.take m)).length) = bodK 4 (ks.take m) := by
  have hkj := kept_join ks rest hk hr
  rw [h2, if_pos rfl, h1] at hkj
  obtain ⟨e1, e2⟩ := endK_take ks o0 sane0 (by rw [h2])
  rw [h1] at e1 e2
  have hle := takeK_le ks o0
  rw [h1] at hle
  have hsp : joinF ks = joinF (ks.take m) ++ joinF (ks.drop m) := by rw [← joinF_append, List.take_append_drop]
  have htk : l.take (joinF (ks.take m)).length = joinF (ks.take m) := by
    rw [e, hsp, List.append_assoc, List.take_left']; rfl
  have hok : ∀ x ∈ ks.take m, okF x := fun x hx => hk x (List.mem_of_mem_take hx)
  have hsc := (scan_join0 (ks.take m) [] (.inl rfl) hok).1
  rw [List.append_nil] at hsc
  have hri := (take_rises (ks.take m) o0 sane0 (by rw [e2, List.length_take]; omega)).1
  refine ⟨by rw [e]; exact hkj, ?_, ?_⟩
  · rw [htk]; unfold snapL; rw [hsc, bodF_pos 2 _ _ hri]
  · rw [htk]; unfold recsL; rw [hsc, bodF_pos 4 _ _ hri]
/-- What doesn't count. -/
theorem kept_not {l : List Nat} {ks : List (Nat × List Nat)} {rest : List Nat} (e : l = joinF ks ++ rest) (hk : ∀ x ∈ ks, okF x) (hr : rest = [] ∨ readE rest ≠ 0) (h : (endK o0 ks).ready = false) : keptS l = (0, 0, 0) := by
  have hkj := kept_join ks rest hk hr
  rw [h, if_neg (by decide)] at hkj
  rw [e]; exact hkj

/-- The head as it is read. -/
theorem take_head1 {b : List Nat} (h : headOk b = true) : takeS o0 1 b = (⟨headA b, headP b, false⟩, true) := by
  show (if 1 ≠ OrdS.next o0 then _ else if 1 = 1 then (OrdS.mk (headA b) (headP b) false, headOk b) else _) = _
  rw [if_neg (by decide), if_pos rfl, h]
theorem take_head0 {b : List Nat} (h : headOk b = false) : ∃ s, takeS o0 1 b = (s, false) ∧ s.ready = false := by
  refine ⟨⟨headA b, headP b, false⟩, ?_, rfl⟩
  show (if 1 ≠ OrdS.next o0 then _ else if 1 = 1 then (OrdS.mk (headA b) (headP b) false, headOk b) else _) = _
  rw [if_neg (by decide), if_pos rfl, h]
theorem take_other0 {k : Nat} {b : List Nat} (h : k ≠ 1) : takeS o0 k b = (o0, false) := by
  unfold takeS
  rw [if_pos (show k ≠ OrdS.next o0 from h)]
/-- The piece that must come. -/
theorem next_piece {a p : Nat} (ha : a ≠ 0) (hp : 0 < p) : OrdS.next ⟨a, p, false⟩ = 2 := by
  show (if a = 0 then 1 else if 0 < p then 2 else _) = 2
  rw [if_neg ha, if_pos hp]
theorem next_rdy {a : Nat} (ha : a ≠ 0) : OrdS.next ⟨a, 0, false⟩ = 3 := by
  show (if a = 0 then 1 else if 0 < 0 then 2 else if false = true then 4 else 3) = 3
  rw [if_neg ha, if_neg (by omega), if_neg (by decide)]
theorem next_rec {a : Nat} (ha : a ≠ 0) : OrdS.next ⟨a, 0, true⟩ = 4 := by
  show (if a = 0 then 1 else if 0 < 0 then 2 else if true = true then 4 else 3) = 4
  rw [if_neg ha, if_neg (by omega), if_pos rfl]
theorem take_kind {s : OrdS} {k : Nat} {b : List Nat} (h : k ≠ s.next) : takeS s k b = (s, false) := by unfold takeS; rw [if_pos h]
theorem take_pc {a p : Nat} {b : List Nat} (ha : a ≠ 0) (hp : 0 < p) : takeS ⟨a, p, false⟩ 2 b = (⟨a, p - 1, false⟩, decide (b.length = 4096) || (decide (p - 1 = 0) && decide (0 < b.length))) := by
  unfold takeS
  rw [if_neg (by rw [next_piece ha hp]; decide), if_neg (by decide), if_pos rfl]
theorem take_rdy {a : Nat} {b : List Nat} (ha : a ≠ 0) : takeS ⟨a, 0, false⟩ 3 b = (⟨a, 0, decide (b.length = 0)⟩, decide (b.length = 0)) := by
  unfold takeS
  rw [if_neg (by rw [next_rdy ha]; decide), if_neg (by decide), if_neg (by decide), if_pos rfl]
theorem take_rc {a : Nat} {b : List Nat} (ha : a ≠ 0) : takeS ⟨a, 0, true⟩ 4 b = (⟨a, 0, true⟩, true) := by
  unfold takeS
  rw [if_neg (by rw [next_rec ha]; decide), if_neg (by decide), if_neg (by decide), if_neg (by decide)]

/-- The frames of a region, and how far it has been read: the head, then pieces. -/
structure Frm (l : List Nat) (ks : List (Nat × List Nat)) : Prop where
  ok : ∀ x ∈ ks, okF x
  sc : scanL l 0 = posF 0 ks
  len : ks.length * 7 ≤ l.length
  not : (endK o0 ks).ready = false → keptS l = (0, 0, 0)
  run : ∀ m a, takeK o0 ks = m → endK o0 ks = ⟨a, 0, true⟩ → keptS l = (a, cntK 4 (ks.take m), (joinF (ks.take m)).length) ∧ snapL (l.take (joinF (ks.take m)).length) = (bodK 2 (ks.take m)).flatten ∧ recsL (l.take (joinF (ks.take m)).length) = bodK 4 (ks.take m)
  bd : ∀ m, (joinF (ks.take m)).length ≤ l.length
theorem frm_of (l : List Nat) (hb : ∀ x ∈ l, x < 256) : ∃ ks, Frm l ks := by
  obtain ⟨ks, rest, e, h2, h3, h4⟩ := split0 l hb
  have hlen : (joinF ks).length + rest.length = l.length := by rw [e, List.length_append]
  refine ⟨ks, h2, h4, ?_, kept_not e h2 h3, fun m a h5 h6 => kept_run e h2 h3 h5 h6, fun m => ?_⟩
  · have := joinF_length ks
    omega
  · have hsp : joinF ks = joinF (ks.take m) ++ joinF (ks.drop m) := by rw [← joinF_append, List.take_append_drop]
    rw [hsp, List.length_append] at hlen
    omega
theorem take_snoc {ks : List (Nat × List Nat)} {i : Nat} {x : Nat × List Nat} (h : ks[i]? = some x) (k : Nat) : bodK k (ks.take (i + 1)) = if x.1 = k then bodK k (ks.take i) ++ [x.2] else bodK k (ks.take i) := by
  rw [take_one _ _ _ h, bodK_append]
  unfold bodK
  by_cases hx : x.1 = k
  · rw [if_pos hx]
    simp [hx]
  · rw [if_neg hx]
    simp [hx]
theorem joinF_take {ks : List (Nat × List Nat)} {i : Nat} {x : Nat × List Nat} (h : ks[i]? = some x) : (joinF (ks.take (i + 1))).length = (joinF (ks.take i)).length + (x.2.length + 7) := by
  rw [take_one _ _ _ h, joinF_snoc, List.length_append, frame_len]
end Go.Proofs.Ytpllbojmonfeiaa

/- The document's own journal: set, Region, Begin. -/
namespace Go.Proofs.Ytpllbojmonfeiaa
open Go.RowKit SumM
set_option linter.unusedVariables false
attribute [local go_sem] Oper.semAt_some

/-- The document's journal as a value. -/
abbrev jdC (A B : Value) (cap reg ag : Int) (sn rc : Value) (en : Int) : Array Value := #[A, B, .int .i64 cap, .int .i64 reg, .int .u64 ag, sn, rc, .int .i64 en]
abbrev jdV (A B : Value) (cap reg ag : Int) (sn rc : Value) (en : Int) : Value := .agg #[A, B, .int .i64 cap, .int .i64 reg, .int .u64 ag, sn, rc, .int .i64 en]
theorem zjd (w : World) : (zeroValue rjT).run Try.prog w = .ok (jdV (.slice none 0 0) (.slice none 0 0) 0 0 0 (.slice none 0 0) (.slice none 0 0) 0) w := by kernel_rfl
theorem jd_res (f : Func) (s : Nat) (hf : f.results = #[.cell s rjT]) (tmps : Array Value) (w : World) (b : Nat) (v0 v1 v2 v3 v4 v5 v6 v7 : Value) (hp : tmps.getD s undef = .pointer (some ⟨b, 0, none⟩))
    (hg : w.heap[b]? = some (.cells #[v0, v1, v2, v3, v4, v5, v6, v7] rjT (0, 0))) : (results f tmps).run Try.prog w = .ok (.agg #[v0, v1, v2, v3, v4, v5, v6, v7]) w := by
  have hp' : tmps[s]?.getD undef = .pointer (some ⟨b, 0, none⟩) := by simpa using hp
  have k1 := run_loadVar_row (P := Try.prog) w b rjT rjT #[v0, v1, v2, v3, v4, v5, v6, v7] (0, 0) _ hg Try.underlying36 rfl (by kernel_rfl)
  simp [results, hf, hp', asAddr, k1]
theorem jd_res2 (f : Func) (s r : Nat) (hf : f.results = #[.cell s rjT, .tmp r]) (tmps : Array Value) (w : World) (b : Nat) (v0 v1 v2 v3 v4 v5 v6 v7 e : Value) (hp : tmps.getD s undef = .pointer (some ⟨b, 0, none⟩)) (hr : tmps.getD r undef = e)
    (hg : w.heap[b]? = some (.cells #[v0, v1, v2, v3, v4, v5, v6, v7] rjT (0, 0))) : (results f tmps).run Try.prog w = .ok (.tuple #[.agg #[v0, v1, v2, v3, v4, v5, v6, v7], e]) w := by
  have hp' : tmps[s]?.getD undef = .pointer (some ⟨b, 0, none⟩) := by simpa using hp
  have hr' : tmps[r]?.getD undef = e := by simpa using hr
  have k1 := run_loadVar_row (P := Try.prog) w b rjT rjT #[v0, v1, v2, v3, v4, v5, v6, v7] (0, 0) _ hg Try.underlying36 rfl (by kernel_rfl)
  simp [results, hf, hp', hr', asAddr, k1]

set_option maxRecDepth 100000 in
set_option maxHeartbeats 2000000 in
theorem jregion_any (a0 a1 : Option Addr) (n0 c0 n1 c1 : Nat) (cap reg ag : Int) (p q : Option Addr) (m k d e : Nat) (en : Int) (r : Nat) (hr : r = 0 ∨ r = 1) (w : World) :
    Calls Try.prog 51 #[jdV (.slice a0 n0 c0) (.slice a1 n1 c1) cap reg ag (.slice p m d) (.slice q k e) en, .int .i64 (r : Nat)] w fun x w' => x = .returned (if r = 0 then .slice a0 n0 c0 else .slice a1 n1 c1) ∧ Below w.heap.size w w' := by
  have hz := zjd
  have hb1 : Below w.heap.size w (w.alloc (.cells #[.slice a0 n0 c0, .slice a1 n1 c1, .int .i64 cap, .int .i64 reg, .int .u64 ag, .slice p m d, .slice q k e, .int .i64 en] rjT)) := (Below.refl _ _).alloc (Nat.le_refl _) _
  rcases hr with rfl | rfl
  · rw [if_pos rfl]
    go_enter Try.func51, Try.ntmps51
    go_wp2
    go_ret
    exact ⟨rfl, hb1⟩
  · rw [if_neg (by decide)]
    go_enter Try.func51, Try.ntmps51
    go_wp2
    go_ret
    exact ⟨rfl, hb1⟩
set_option maxRecDepth 100000 in
set_option maxHeartbeats 2000000 in
theorem jset_any (a0 a1 : Option Addr) (n0 c0 n1 c1 : Nat) (cap reg ag : Int) (p q : Option Addr) (m k d e : Nat) (en : Int) (r : Nat) (hr : r = 0 ∨ r = 1) (x : Option Addr) (xn xc : Nat) (w : World) :
    Calls Try.prog 50 #[jdV (.slice a0 n0 c0) (.slice a1 n1 c1) cap reg ag (.slice p m d) (.slice q k e) en, .int .i64 (r : Nat), .slice x xn xc] w fun y w' =>
      y = .returned (jdV (if r = 0 then .slice x xn xc else .slice a0 n0 c0) (if r = 0 then .slice a1 n1 c1 else .slice x xn xc) cap reg ag (.slice p m d) (.slice q k e) en) ∧ Below w.heap.size w w' := by
  have hz := zjd
  rcases hr with rfl | rfl
  · rw [if_pos rfl, if_pos rfl]
    go_enter Try.func50, Try.ntmps50
    go_wp2
    refine bodyPost_ret (jd_res _ 6 rfl _ _ (w.heap.size + 1) _ _ _ _ _ _ _ _ rfl (in_new2 _ _ _)) rfl ⟨rfl, in_new2_below _ _ _⟩
  · rw [if_neg (by decide), if_neg (by decide)]
    go_enter Try.func50, Try.ntmps50
    go_wp2
    refine bodyPost_ret (jd_res _ 6 rfl _ _ (w.heap.size + 1) _ _ _ _ _ _ _ _ rfl (in_new2 _ _ _)) rfl ⟨rfl, in_new2_below _ _ _⟩

theorem own_blockJ {W : World} {base e s n : Nat} {v : Value} {xs : List Value} (h : W.ownsRow base e s v n xs) : ∀ ad m c, v = .slice (some ad) m c → base ≤ ad.block := fun ad m c hv => by
  rcases h.2 with ⟨e0, _⟩ | ⟨g, cap, cur, e0, hg, _⟩
  · rw [e0] at hv; cases hv
  · rw [e0] at hv; cases hv; exact hg
/-- The frames of a snapshot's first pieces. -/
def pcs (l : List Nat) (i : Nat) : List (Nat × List Nat) := (List.range i).map fun j => (2, chunkAt l j)
theorem pcs_succ (l : List Nat) (i : Nat) : joinF (pcs l (i + 1)) = joinF (pcs l i) ++ frameL 2 (chunkAt l i) := by
  unfold pcs
  rw [List.range_succ, List.map_append, joinF_append]
  simp [joinF]
theorem pcs_all (age : Nat) (l : List Nat) : joinF (beginFs age l) = frameL 1 (headB age l.length) ++ (joinF (pcs l (piecesN l.length)) ++ frameL 3 []) := by
  unfold beginFs pcs chunksL
  rw [joinF_cons, joinF_append, List.map_map]
  simp [joinF, Function.comp_def]
theorem pcs_len (l : List Nat) : ∀ i, i ≤ piecesN l.length → (joinF (pcs l i)).length ≤ l.length + 7 * i
  | i, h => by
    have h1 := joinF_length (pcs l i)
    have h2 : (pcs l i).length = i := by simp [pcs]
    have h3 : ((pcs l i).map Prod.snd).flatten.length ≤ l.length := by
      have e : (pcs l i).map Prod.snd = (List.range i).map (chunkAt l) := by simp [pcs, Function.comp_def]
      rw [e]
      have hc := chunksL_flat l
      have hp : ((List.range i).map (chunkAt l)) <+: chunksL l := by
        unfold chunksL
        refine ⟨(List.range (piecesN l.length - i)).map (fun j => chunkAt l (i + j)), ?_⟩
        rw [show piecesN l.length = i + (piecesN l.length - i) from by omega, List.range_add, List.map_append, List.map_map]
        simp [Function.comp_def]
      obtain ⟨z, hz⟩ := hp
      have := congrArg List.length hc
      rw [← hz, List.flatten_append, List.length_append] at this
      omega
    rw [h2] at h1
    omega
theorem Parts.three (w : World) (v u x : Value) (l m k : List Nat) (t : TypeId) (hS : Sl encY w.heap.size w v l) (hT : Sl encY w.heap.size w u m) (hU : Sl encY w.heap.size w x k) : Parts (w.alloc (.cells #[v, u, x] t)).heap.size (w.alloc (.cells #[v, u, x] t)) (.slice (some ⟨w.heap.size, 0, none⟩) 3 3) [l, m, k] := by
  refine .inr ⟨w.heap.size, 0, 3, rfl, by simp, fun j y hj => ?_⟩
  match j, hj with
  | 0, hj =>
    cases hj
    exact ⟨v, by rw [cell_new_row]; rfl, (hS.below ((Below.refl _ w).alloc (Nat.le_refl _) _)).mono (by simp)⟩
  | 1, hj =>
    cases hj
    exact ⟨u, by rw [cell_new_row]; rfl, (hT.below ((Below.refl _ w).alloc (Nat.le_refl _) _)).mono (by simp)⟩
  | 2, hj =>
    cases hj
    exact ⟨x, by rw [cell_new_row]; rfl, (hU.below ((Below.refl _ w).alloc (Nat.le_refl _) _)).mono (by simp)⟩
  | j + 3, hj => simp at hj

set_option maxRecDepth 100000 in
set_option maxHeartbeats 4000000 in
theorem jbegin_any (age : Nat) (h0 : 0 < age) (ha : age < 18446744073709551616) (a : Option Addr) (n c : Nat) (l : List Nat) (hl : ∀ x ∈ l, x < 256) (hn : l.length ≤ 1000000) (w : World) (hS : Sl encY w.heap.size w (.slice a n c) l) :
    Calls Try.prog 49 #[.int .u64 (age : Nat), .slice a n c] w fun e w' => ∃ p k d, e = .returned (.slice p k d) ∧ Sl encY w'.heap.size w' (.slice p k d) (joinF (beginFs age l)) ∧ Below w.heap.size w w' ∧ ∀ ad m e, Value.slice p k d = .slice (some ad) m e → w.heap.size ≤ ad.block := by
  obtain rfl := hS.len
  have HL := Lib.hid hl
  have HS := Lib.hid hS
  obtain ⟨M, hM⟩ : ∃ M, l.length = M := ⟨_, rfl⟩
  have HM := Lib.hid hM
  have HA := Lib.hid ha
  rw [hM] at hn HS ⊢
  clear hM hl hS ha
  have HST : Hid (Sl encY (w.alloc (.cells #[] 5)).heap.size (w.alloc (.cells #[] 5)) (.slice (some ⟨w.heap.size, 0, none⟩) 0 0) (joinF (pcs l 0))) := Lib.hid (Sl.of_owns (ownsRow_empty w _))
  go_enter Try.func49, Try.ntmps49
  go_wp2_with fail
  go_loopw [5, 6, 7] (fun nv bv iv wr => ∃ i p k d, i ≤ piecesN M ∧ nv = .int .i64 (i : Nat) ∧ iv = .int .i64 (4096 * (i : Nat) : Int) ∧ bv = .slice p k d ∧ Sl encY wr.heap.size wr (.slice p k d) (joinF (pcs l i)) ∧ Below w.heap.size w wr) (fun nv _ _ _ => piecesN M - (intOf nv).toNat)
  case atStart => exact ⟨0, _, _, _, Nat.zero_le _, rfl, rfl, rfl, HST.out, (Below.refl _ _).alloc (Nat.le_refl _) _⟩
  case round =>
    obtain ⟨i, p, k, d, hi, rfl, rfl, rfl, hsl, hbw⟩ := hrel
    have HSL := Lib.hid hsl
    have HBW := Lib.hid hbw
    clear hsl hbw
    by_cases hlt : i < piecesN M
    · have hlt2 : 4096 * i < M := (pieces_lt i M).1 hlt
      have hlti : 4096 * (i : Int) < (M : Int) := by omega
      obtain ⟨T, hT⟩ : ∃ T, (chunkAt l i).length = T := ⟨_, rfl⟩
      have hT2 := hT
      rw [chunkAt_len, HM.out] at hT2
      have HTX : Hid ((M < 4096 * i + 4096 → 4096 * i + T = M) ∧ (¬ M < 4096 * i + 4096 → T = 4096)) := Lib.hid ⟨fun _ => by omega, fun _ => by omega⟩
      have hT4 : T ≤ 4096 := by omega
      have hTM : 4096 * i + T ≤ M := by omega
      obtain ⟨b, off, rfl⟩ : ∃ b off, a = some ⟨b, off, none⟩ := by
        obtain ⟨x, hx⟩ : ∃ x, l[4096 * i]? = some x := ⟨l[4096 * i]'(by rw [HM.out]; exact hlt2), List.getElem?_eq_getElem _⟩
        obtain ⟨b, off, e, _⟩ := HS.out.at_ hx
        exact ⟨b, off, e⟩
      have hcap := HS.out.capb
      have hSw := HS.out.below HBW.out
      have HCH : Hid (Sl encY wr.heap.size wr (.slice (some ⟨b, off + 4096 * i, none⟩) T (c - 4096 * i)) (chunkAt l i)) := Lib.hid (by
        have h1 := (hSw.drop hlt2).take (k := T) (by omega)
        have h2 : (l.drop (4096 * i)).take T = chunkAt l i := by
          unfold chunkAt
          rcases (by omega : T = 4096 ∨ T = M - 4096 * i ∧ T ≤ 4096) with h | ⟨h, h3⟩
          · rw [h]
          · rw [List.take_of_length_le (by rw [List.length_drop, HM.out]; omega), List.take_of_length_le (by rw [List.length_drop, HM.out]; omega)]
        rw [h2] at h1
        exact h1.mono HBW.out.size)
      have HCB : Hid (∀ x ∈ chunkAt l i, x < 256) := Lib.hid (fun x hx => HL.out x (List.mem_of_mem_drop (List.mem_of_mem_take hx)))
      have HT := Lib.hid hT
      clear hT hSw
      clear hT2
      go_upto_if 27 with fail
      go_cut [8] from 27 to 29 (fun tv wx => tv = .int .i64 (4096 * (i : Int) + (T : Int)) ∧ wx = wr)
      case first =>
        by_cases hto : M < 4096 * i + 4096
        · have htoi : (M : Int) < 4096 * (i : Int) + 4096 := by omega
          go_wp2_with fail
          go_meet
          exact ⟨congrArg (fun z : Int => Value.int .i64 z) (by have := HTX.out.1 hto; omega), rfl⟩
        · have htoi : ¬ (M : Int) < 4096 * (i : Int) + 4096 := by omega
          go_wp2_with fail
          go_meet
          exact ⟨congrArg (fun z : Int => Value.int .i64 z) (by have := HTX.out.2 hto; omega), rfl⟩
      case rest =>
        obtain ⟨rfl, hwc⟩ := hcut
        rw [hwc]
        clear hwc
        have HWR := Lib.hid (refWrite_any 2 _ _ _ (chunkAt l i) ⟨by rw [HT.out]; omega, HCB.out⟩ wr HCH.out)
        have hwe : writeE 2 (chunkAt l i) = 0 := by unfold writeE; rw [if_neg (by omega), if_neg (by rw [HT.out]; omega)]
        have HWL : Hid (writeL 2 (chunkAt l i) = frameL 2 (chunkAt l i)) := Lib.hid (if_pos hwe)
        rw [hwe, HWL.out] at HWR
        have hsz : (joinF (pcs l i)).length ≤ M + 7 * i := by have := pcs_len l i (by rw [HM.out]; exact hi); rw [HM.out] at this; exact this
        have hpl := piecesN_le M
        have hfl : (frameL 2 (chunkAt l i)).length = T + 7 := by rw [frame_len, HT.out]
        have HSZ : Hid ((joinF (pcs l i)).length + (frameL 2 (chunkAt l i)).length ≤ 1048576) := Lib.hid (by
          have hpn : piecesN M ≤ 245 := by unfold piecesN; split <;> omega
          omega)
        clear hwe hsz hpl hfl
        go_wp2_with fail
        refine HWR.out.mono ?_
        rintro e w1 ⟨v1, rfl, hs1, hb1⟩
        obtain ⟨q, d1, rfl⟩ := hs1.form
        have HPT := Lib.hid (Parts.two w1 _ _ _ _ 22 ((HSL.out.below hb1).mono hb1.size) hs1)
        have HJ := Lib.hid (joinY_any _ _ _ [joinF (pcs l i), frameL 2 (chunkAt l i)] (by have := HSZ.out; simp; omega) (by simp) _ HPT.out)
        have HB1 := Lib.hid (HBW.out.trans (hb1.mono HBW.out.size))
        clear hs1 hb1
        go_wp2_with fail
        refine HJ.out.mono ?_
        rintro e w3 ⟨v3, rfl, hown3, hb3⟩
        have HO3 := Lib.hid (Sl.of_owns hown3)
        obtain ⟨p3, n3, c3, rfl⟩ := ownsRow_form hown3
        have HB3 := Lib.hid ((HB1.out.alloc HB1.out.size _).trans (hb3.mono (by have := HB1.out.size; simp; omega)) : Below w.heap.size w w3)
        clear hown3 hb3
        go_wp2_with fail
        refine ⟨⟨i + 1, p3, n3, c3, hlt, rfl, congrArg (fun z : Int => Value.int .i64 z) (by omega), rfl, ?_, HB3.out⟩, by show piecesN M - ((i : Int) + 1).toNat < piecesN M - ((i : Int)).toNat; omega⟩
        rw [pcs_succ]
        have := HO3.out
        simpa using this
    · have hge : ¬ 4096 * i < M := fun h => hlt ((pieces_lt i M).2 h)
      have hgei : ¬ 4096 * (i : Int) < (M : Int) := by omega
      obtain rfl : i = piecesN M := by omega
      have HU := Lib.hid (refUint_any age HA.out wr)
      unfold RefU at HU
      have hpl := piecesN_le M
      go_wp2_with fail
      refine HU.out.mono ?_
      rintro e w1 ⟨v1, rfl, hown1, hb1⟩
      have HO1 := Lib.hid hown1
      have HB1 := Lib.hid hb1
      obtain ⟨p1, n1, c1, rfl⟩ := ownsRow_form hown1
      have HU2 := Lib.hid (refUint_any (piecesN M) (by omega) w1)
      unfold RefU at HU2
      clear hown1 hb1 HU
      go_wp2_with fail
      refine HU2.out.mono ?_
      rintro e w2 ⟨v2, rfl, hown2, hb2⟩
      have HO2 := Lib.hid (Sl.of_owns hown2)
      have HO1' := Lib.hid (((Sl.of_owns HO1.out).below hb2).mono hb2.size)
      obtain ⟨p2, n2, c2, rfl⟩ := ownsRow_form hown2
      have HB2 := Lib.hid (HB1.out.trans (hb2.mono HB1.out.size))
      have HPT := Lib.hid (Parts.two w2 _ _ _ _ 22 HO1'.out HO2.out)
      have hul1 := uv_len10 HA.out
      have hul2 := uv_len10 (n := piecesN M) (by omega)
      have HJ := Lib.hid (joinY_any _ _ _ [uv age, uv (piecesN M)] (by simp; omega) (by simp) _ HPT.out)
      clear hown2 hb2 HB1 HO1 HU2
      go_wp2_with fail
      refine HJ.out.mono ?_
      rintro e w3 ⟨v3, rfl, hown3, hb3⟩
      have HO3 : Hid (Sl encY w3.heap.size w3 v3 (headB age M)) := Lib.hid (by have := Sl.of_owns hown3; simpa [headB] using this)
      obtain ⟨p3, n3, c3, rfl⟩ := ownsRow_form hown3
      have HB3 := Lib.hid ((HB2.out.alloc HB2.out.size _).trans (hb3.mono (by have := HB2.out.size; simp; omega)) : Below wr.heap.size wr w3)
      have hhl := headB_len age M HA.out (by omega)
      have hhb : ∀ x ∈ headB age M, x < 256 := fun x hx => by
        unfold headB at hx
        rcases List.mem_append.1 hx with h | h
        · exact uv_byte _ x h
        · exact uv_byte _ x h
      have HW1 := Lib.hid (refWrite_any 1 _ _ _ (headB age M) ⟨by omega, hhb⟩ w3 HO3.out)
      have hwe : writeE 1 (headB age M) = 0 := by unfold writeE; rw [if_neg (by omega), if_neg (by omega)]
      have HWL : Hid (writeL 1 (headB age M) = frameL 1 (headB age M)) := Lib.hid (if_pos hwe)
      rw [hwe, HWL.out] at HW1
      have HHL := Lib.hid hhl
      clear hwe hown3 hb3 hhl hhb
      go_wp2_with fail
      refine HW1.out.mono ?_
      rintro e w4 ⟨v4, rfl, hs4, hb4⟩
      obtain ⟨q4, d4, rfl⟩ := hs4.form
      have HS4 := Lib.hid hs4
      have HB4 := Lib.hid (HB3.out.trans (hb4.mono HB3.out.size))
      have HW3 := Lib.hid (refWrite_any 3 none 0 0 [] ⟨by simp, fun x hx => by cases hx⟩ w4 (Sl.nil _ _ _))
      have HW3L : Hid (writeL 3 [] = frameL 3 []) := Lib.hid (if_pos rfl)
      rw [show writeE 3 [] = 0 from rfl, HW3L.out] at HW3
      clear hs4 hb4 HW1
      go_wp2_with fail
      refine HW3.out.mono ?_
      rintro e w5 ⟨v5, rfl, hs5, hb5⟩
      obtain ⟨q5, d5, rfl⟩ := hs5.form
      have HB5 := Lib.hid (HB4.out.trans (hb5.mono HB4.out.size))
      have HP3 := Lib.hid (Parts.three w5 _ _ _ _ _ _ 22 ((HS4.out.below hb5).mono hb5.size) ((HSL.out.below HB5.out).mono HB5.out.size) hs5)
      have HFL : Hid ((frameL 1 (headB age M)).length + ((joinF (pcs l (piecesN M))).length + (frameL 3 []).length) ≤ 1048576) := Lib.hid (by
        rw [frame_len, frame_len]
        have h1 := pcs_len l (piecesN M) (by rw [HM.out]; exact Nat.le_refl _)
        rw [HM.out] at h1
        have h2 := HHL.out
        have hpn : piecesN M ≤ 245 := by unfold piecesN; split <;> omega
        simp
        omega)
      have HJ3 := Lib.hid (joinY_any _ _ _ [frameL 1 (headB age M), joinF (pcs l (piecesN M)), frameL 3 []] (by have := HFL.out; simp; omega) (by simp) _ HP3.out)
      clear hs5 hb5 HW3
      go_wp2_with fail
      refine HJ3.out.mono ?_
      rintro e w6 ⟨v6, rfl, hown6, hb6⟩
      have HO6 : Hid (Sl encY w6.heap.size w6 v6 (joinF (beginFs age l))) := Lib.hid (by
        have := Sl.of_owns hown6
        rw [pcs_all, HM.out]
        simpa using this)
      obtain ⟨p6, n6, c6, rfl⟩ := ownsRow_form hown6
      have HNW : Hid (∀ ad m e, Value.slice p6 n6 c6 = .slice (some ad) m e → w.heap.size ≤ ad.block) := Lib.hid (fun ad m e h => by
        have h1 := own_blockJ hown6 ad m e h
        have h2 := HB5.out.size
        have h3 := HBW.out.size
        simp at h1
        omega)
      have HB6 := Lib.hid (HBW.out.trans (((HB5.out.alloc HB5.out.size _).trans (hb6.mono (by have := HB5.out.size; simp; omega))).mono HBW.out.size) : Below w.heap.size w w6)
      clear hown6 hb6
      go_wp2
      go_ret
      exact ⟨_, _, _, rfl, HO6.out, HB6.out, HNW.out⟩
end Go.Proofs.Ytpllbojmonfeiaa
