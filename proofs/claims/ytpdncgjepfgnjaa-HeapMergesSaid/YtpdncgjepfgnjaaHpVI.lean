/- A row of things, and slices.Values of it, as a promise for whatever its caller's invariant is. -/
import Derived.Test.YtpdncgjepfgnjaaHpEI
namespace Go.Proofs.Ytpdncgjepfgnjaa
open Go.RowKit
set_option linter.unusedVariables false
attribute [local go_sem] Oper.semAt_some

/-- A slice's things. -/
def PrsI (n : Nat) (W : World) (sv : Value) (xs : List Int) : Prop :=
  (xs = [] ∧ ∃ a c, sv = .slice a 0 c) ∨ ∃ b off cap, sv = .slice (some ⟨b, off, none⟩) xs.length cap ∧ b < n ∧ xs.length ≤ cap ∧ ∀ j x, xs[j]? = some x → W.cell? ⟨b, off + j, none⟩ = some (.int .i64 x)
section
variable {n : Nat} {W : World} {a : Option Addr} {m c k : Nat} {xs : List Int}
theorem PrsI.len (h : PrsI n W (.slice a m c) xs) : m = xs.length := by
  rcases h with ⟨rfl, _, _, e⟩ | ⟨b, off, cap, e, _⟩
  · cases e; rfl
  · cases e; rfl
theorem PrsI.at_ (h : PrsI n W (.slice a m c) xs) {x : Int} (hx : xs[k]? = some x) :
    ∃ b off, a = some ⟨b, off, none⟩ ∧ b < n ∧ W.cell? ⟨b, off + k, none⟩ = some (.int .i64 x) := by
  rcases h with ⟨rfl, _⟩ | ⟨b, off, cap, e, hb, _, hc⟩
  · simp at hx
  · cases e
    exact ⟨b, off, rfl, hb, hc k x hx⟩
/-- What stands in a slice does not lie in these blocks. -/
def OffI (own : List Nat) (sv : Value) : Prop := ∀ ad n c, sv = .slice (some ad) n c → 0 < n → ad.block ∉ own
theorem PrsI.but {own : List Nat} {W' : World} {sv : Value} (h : PrsI n W sv xs) (hb : But own W W') (ho : OffI own sv) (hn : n ≤ W.heap.size) : PrsI n W' sv xs := by
  rcases h with h | ⟨b, off, cap, e, hlt, hcap, hc⟩
  · exact .inl h
  · rcases Nat.eq_zero_or_pos xs.length with h0 | h0
    · obtain rfl := List.eq_nil_of_length_eq_zero h0
      exact .inl ⟨rfl, _, _, by rw [e]; rfl⟩
    · have hk := hb.block b (by omega) (ho _ _ _ e h0)
      exact .inr ⟨b, off, cap, e, hlt, hcap, fun j x hj => (World.cell?_of_block (a := ⟨b, off + j, none⟩) hk).trans (hc j x hj)⟩
theorem PrsI.below {N : Nat} {W' : World} {sv : Value} (h : PrsI n W sv xs) (hb : Below N W W') (hn : n ≤ N) : PrsI n W' sv xs := by
  rcases h with h | ⟨b, off, cap, e, hlt, hcap, hc⟩
  · exact .inl h
  · exact .inr ⟨b, off, cap, e, hlt, hcap, fun j x hj => (hb.cell (p := ⟨b, off + j, none⟩) (by simp; omega)).trans (hc j x hj)⟩
theorem PrsI.mono {n' : Nat} {sv : Value} (h : PrsI n W sv xs) (hn : n ≤ n') : PrsI n' W sv xs := by
  rcases h with h | ⟨b, off, cap, e, hlt, hcap, hc⟩
  · exact .inl h
  · exact .inr ⟨b, off, cap, e, by omega, hcap, hc⟩
end

theorem valuesI (a : Option Addr) (n c : Nat) (w : World) :
    Calls Try.prog 37 #[.slice a n c] w fun e w' => e = .returned (.func (.func 62) #[] #[.pointer (some ⟨w.heap.size, 0, none⟩)]) ∧ w' = w.alloc (.cells #[.slice a n c] 66) := by
  go_enter Try.func37, Try.ntmps37
  go_wp2
  go_ret
  exact ⟨rfl, rfl⟩

/-- What Values asks of its caller's invariant. -/
structure ValCI {σ : Type} (Bv B : Nat) (sv : Value) (xs : List Int) (pos : σ → Nat) (J : σ → World → Prop) (Jm : σ → Int → World → Prop) (Af : σ → σ → Prop) (En : σ → World → Prop) : Prop where
  box : ∀ s W, J s W → W.cell? ⟨Bv, 0, none⟩ = some sv
  row : ∀ s W, J s W → ∃ n, PrsI n W sv xs
  le : ∀ s W, J s W → pos s ≤ xs.length
  step : ∀ s W x, J s W → B + 2 ≤ W.heap.size → xs[pos s]? = some x → Jm s x W
  done : ∀ s W, J s W → pos s = xs.length → En s W
  next : ∀ s s', Af s s' → pos s' = pos s + 1

set_option maxRecDepth 100000 in
set_option maxHeartbeats 4000000 in
theorem values1I {σ : Type} {Bv B : Nat} {a : Option Addr} {n c : Nat} {xs : List Int} (hx : xs.length ≤ 1073741824) {pos : σ → Nat} {J : σ → World → Prop} {Jm : σ → Int → World → Prop} {Jx : Code → World → Prop} {Af : σ → σ → Prop} {En : σ → World → Prop} {s0 : σ} (hp0 : pos s0 = 0)
    (hC : ValCI Bv B (.slice a n c) xs pos J Jm Af En) :
    SeqG Fence.wide 2 Try.prog 62 #[.pointer (some ⟨Bv, 0, none⟩)] (fun (x : Int) => #[valI x]) B J Jm Jx Af En s0 := by
  intro l Rd Dn W hRd hDn hRz hDz hR0 hJ0 hY
  have HC := Lib.hid hC
  have HY := Lib.hid hY
  have HR := Lib.hid hRd
  have HZ := Lib.hid hRz
  have c0 := hC.box s0 W hJ0
  obtain ⟨q, hq⟩ := hC.row s0 W hJ0
  obtain rfl := hq.len
  have HP0 := Lib.hid hp0
  obtain ⟨N, hN⟩ : ∃ N, xs.length = N := ⟨_, rfl⟩
  have HN := Lib.hid hN
  rw [hN] at hC HC c0 hx
  clear hC hY hRd hRz hDz hq hp0 hN
  refine callsIn_of_wp Try.func62 rfl trivial ?_ rfl
  simp only [Try.ntmps62, List.size_toArray, List.length_cons, List.length_nil, Nat.reduceAdd, Nat.reduceSub, Array.replicate_succ, Array.replicate_zero, List.push_toArray, List.append_toArray, List.nil_append, List.cons_append]
  gi_wp2
  gi_loopw [4, 7] (fun _ i wr => ∃ s, i = .int .i64 ((pos s : Nat) : Int) ∧ J s wr ∧ Rd wr) (fun _ i _ => N - (intOf i).toNat)
  case atStart => exact ⟨s0, by rw [HP0.out]; rfl, hJ0, hR0⟩
  case round =>
    obtain ⟨s, rfl, hJ, hR⟩ := hrel
    have hle := HC.out.le s wr hJ
    rw [HN.out] at hle
    obtain ⟨k, hk⟩ : ∃ k, pos s = k := ⟨_, rfl⟩
    have HK := Lib.hid hk
    rw [hk] at hle ⊢
    have hbz := HZ.out wr hR
    have HJ := Lib.hid hJ
    have HRD := Lib.hid hR
    obtain ⟨q, hq⟩ := HC.out.row s wr hJ
    clear hk hJ hR hJ0 hR0 c0
    by_cases hlt : k < N
    · obtain ⟨x, hxk⟩ : ∃ x, xs[k]? = some x := ⟨_, List.getElem?_eq_getElem (by rw [HN.out]; exact hlt)⟩
      obtain ⟨b, off, rfl, hb, d0⟩ := hq.at_ hxk
      have hJm := HC.out.step s wr x HJ.out hbz (by rw [HK.out]; exact hxk)
      have HKR := HRD.out
      obtain ⟨fn, tmps, assign, body, hy, hRR⟩ := HY.out s x _ HKR hJm
      unfold valI at hy
      have HRR := Lib.hid hRR
      have b1 : (0 : Int) ≤ k := by omega
      have b2 : (k : Int) < N := by omega
      clear hJm HKR hRR hq hxk
      gi_wp2_with fail
      refine HRR.out.mono ?_
      rintro e3 W4 (⟨rfl, hR4, s', hAf, hJ4⟩ | ⟨rfl, c', hDn4, hJx4⟩)
      · have HR4 := Lib.hid hR4
        have HJ4 := Lib.hid hJ4
        have hnx := HC.out.next s s' hAf
        rw [HK.out] at hnx
        have HNX := Lib.hid hnx
        clear hR4 hJ4 hAf hnx
        gi_wp2
        go_roundw
        case rel => exact ⟨s', by rw [HNX.out]; go_num, HJ4.out, HR4.out⟩
        case measure => simp [intOf]; omega
      · gi_wp2
        refine bodyPost_ret (results_none rfl _ _ _) rfl ?_
        exact ⟨⟨_, rfl⟩, .inr ⟨c', hDn4, hJx4⟩⟩
    · obtain rfl : k = N := by omega
      clear hq
      gi_wp2
      refine bodyPost_end (results_none rfl _ _ _) rfl ?_
      exact ⟨⟨_, rfl⟩, .inl ⟨HRD.out, s, HC.out.done s wr HJ.out (HK.out.trans HN.out.symm), HJ.out⟩⟩

end Go.Proofs.Ytpdncgjepfgnjaa
