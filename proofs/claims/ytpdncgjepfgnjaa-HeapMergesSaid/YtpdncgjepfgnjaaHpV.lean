/- A row of things, and slices.Values of it, as a promise for whatever its caller's invariant is. -/
import Derived.Test.YtpdncgjepfgnjaaHpE
namespace Go.Proofs.Ytpdncgjepfgnjaa
open Go.RowKit
set_option linter.unusedVariables false
attribute [local go_sem] Oper.semAt_some

/-- A slice's things. -/
def PrsP (n : Nat) (W : World) (sv : Value) (xs : List (Int × Int)) : Prop :=
  (xs = [] ∧ ∃ a c, sv = .slice a 0 c) ∨ ∃ b off cap, sv = .slice (some ⟨b, off, none⟩) xs.length cap ∧ b < n ∧ xs.length ≤ cap ∧ ∀ j x, xs[j]? = some x → W.cell? ⟨b, off + j * 2, none⟩ = some (.int .i64 x.1) ∧ W.cell? ⟨b, off + j * 2 + 1, none⟩ = some (.int .i64 x.2)
section
variable {n : Nat} {W : World} {a : Option Addr} {m c k : Nat} {xs : List (Int × Int)}
theorem PrsP.len (h : PrsP n W (.slice a m c) xs) : m = xs.length := by
  rcases h with ⟨rfl, _, _, e⟩ | ⟨b, off, cap, e, _⟩
  · cases e; rfl
  · cases e; rfl
theorem PrsP.at_ (h : PrsP n W (.slice a m c) xs) {x : Int × Int} (hx : xs[k]? = some x) :
    ∃ b off, a = some ⟨b, off, none⟩ ∧ b < n ∧ W.cell? ⟨b, off + k * 2, none⟩ = some (.int .i64 x.1) ∧ W.cell? ⟨b, off + k * 2 + 1, none⟩ = some (.int .i64 x.2) := by
  rcases h with ⟨rfl, _⟩ | ⟨b, off, cap, e, hb, _, hc⟩
  · simp at hx
  · cases e
    obtain ⟨h1, h2⟩ := hc k x hx
    exact ⟨b, off, rfl, hb, h1, h2⟩
/-- What stands in a slice does not lie in these blocks. -/
def OffP (own : List Nat) (sv : Value) : Prop := ∀ ad n c, sv = .slice (some ad) n c → 0 < n → ad.block ∉ own
theorem PrsP.but {own : List Nat} {W' : World} {sv : Value} (h : PrsP n W sv xs) (hb : But own W W') (ho : OffP own sv) (hn : n ≤ W.heap.size) : PrsP n W' sv xs := by
  rcases h with h | ⟨b, off, cap, e, hlt, hcap, hc⟩
  · exact .inl h
  · rcases Nat.eq_zero_or_pos xs.length with h0 | h0
    · obtain rfl := List.eq_nil_of_length_eq_zero h0
      exact .inl ⟨rfl, _, _, by rw [e]; rfl⟩
    · have hk := hb.block b (by omega) (ho _ _ _ e h0)
      exact .inr ⟨b, off, cap, e, hlt, hcap, fun j x hj => ⟨(World.cell?_of_block (a := ⟨b, off + j * 2, none⟩) hk).trans (hc j x hj).1, (World.cell?_of_block (a := ⟨b, off + j * 2 + 1, none⟩) hk).trans (hc j x hj).2⟩⟩
theorem PrsP.below {N : Nat} {W' : World} {sv : Value} (h : PrsP n W sv xs) (hb : Below N W W') (hn : n ≤ N) : PrsP n W' sv xs := by
  rcases h with h | ⟨b, off, cap, e, hlt, hcap, hc⟩
  · exact .inl h
  · exact .inr ⟨b, off, cap, e, hlt, hcap, fun j x hj => ⟨(hb.cell (p := ⟨b, off + j * 2, none⟩) (by simp; omega)).trans (hc j x hj).1, (hb.cell (p := ⟨b, off + j * 2 + 1, none⟩) (by simp; omega)).trans (hc j x hj).2⟩⟩
theorem PrsP.mono {n' : Nat} {sv : Value} (h : PrsP n W sv xs) (hn : n ≤ n') : PrsP n' W sv xs := by
  rcases h with h | ⟨b, off, cap, e, hlt, hcap, hc⟩
  · exact .inl h
  · exact .inr ⟨b, off, cap, e, by omega, hcap, hc⟩
end

theorem valuesP (a : Option Addr) (n c : Nat) (w : World) :
    Calls Try.prog 19 #[.slice a n c] w fun e w' => e = .returned (.func (.func 48) #[] #[.pointer (some ⟨w.heap.size, 0, none⟩)]) ∧ w' = w.alloc (.cells #[.slice a n c] 29) := by
  go_enter Try.func19, Try.ntmps19
  go_wp2
  go_ret
  exact ⟨rfl, rfl⟩

/-- What Values asks of its caller's invariant. -/
structure ValC {σ : Type} (Bv B : Nat) (sv : Value) (xs : List (Int × Int)) (pos : σ → Nat) (J : σ → World → Prop) (Jm : σ → Int × Int → World → Prop) (Af : σ → σ → Prop) (En : σ → World → Prop) : Prop where
  box : ∀ s W, J s W → W.cell? ⟨Bv, 0, none⟩ = some sv
  row : ∀ s W, J s W → ∃ n, PrsP n W sv xs
  le : ∀ s W, J s W → pos s ≤ xs.length
  step : ∀ s W x o, J s W → B + 2 ≤ W.heap.size → xs[pos s]? = some x → Jm s x (W.alloc o)
  done : ∀ s W, J s W → pos s = xs.length → En s W
  next : ∀ s s', Af s s' → pos s' = pos s + 1

set_option maxRecDepth 100000 in
set_option maxHeartbeats 4000000 in
theorem values1P {σ : Type} {Bv B : Nat} {a : Option Addr} {n c : Nat} {xs : List (Int × Int)} (hx : xs.length ≤ 1073741824) {pos : σ → Nat} {J : σ → World → Prop} {Jm : σ → Int × Int → World → Prop} {Jx : Code → World → Prop} {Af : σ → σ → Prop} {En : σ → World → Prop} {s0 : σ} (hp0 : pos s0 = 0)
    (hC : ValC Bv B (.slice a n c) xs pos J Jm Af En) :
    SeqG Fence.wide 2 Try.prog 48 #[.pointer (some ⟨Bv, 0, none⟩)] (fun (x : Int × Int) => #[valP x]) B J Jm Jx Af En s0 := by
  intro l Rd Dn W hRd hDn hRz hDz hR0 hJ0 hY
  have HC := Lib.hid hC
  have HY := Lib.hid hY
  have HR := Lib.hid hRd
  have HZ := Lib.hid hRz
  have c0 := hC.box s0 W hJ0
  obtain ⟨q, hq⟩ := hC.row s0 W hJ0
  obtain rfl := hq.len
  have HP0 := Lib.hid hp0
  obtain ⟨N, hN⟩ : ∃ N, xs.length = N := ⟨_, rfl⟩
  have HN := Lib.hid hN
  rw [hN] at hC HC c0 hx
  clear hC hY hRd hRz hDz hq hp0 hN
  refine callsIn_of_wp Try.func48 rfl trivial ?_ rfl
  simp only [Try.ntmps48, List.size_toArray, List.length_cons, List.length_nil, Nat.reduceAdd, Nat.reduceSub, Array.replicate_succ, Array.replicate_zero, List.push_toArray, List.append_toArray, List.nil_append, List.cons_append]
  gi_wp2
  gi_loopw [4, 7] (fun _ i wr => ∃ s, i = .int .i64 ((pos s : Nat) : Int) ∧ J s wr ∧ Rd wr) (fun _ i _ => N - (intOf i).toNat)
  case atStart => exact ⟨s0, by rw [HP0.out]; rfl, hJ0, hR0⟩
  case round =>
    obtain ⟨s, rfl, hJ, hR⟩ := hrel
    have hle := HC.out.le s wr hJ
    rw [HN.out] at hle
    obtain ⟨k, hk⟩ : ∃ k, pos s = k := ⟨_, rfl⟩
    have HK := Lib.hid hk
    rw [hk] at hle ⊢
    have hbz := HZ.out wr hR
    have HJ := Lib.hid hJ
    have HRD := Lib.hid hR
    obtain ⟨q, hq⟩ := HC.out.row s wr hJ
    clear hk hJ hR hJ0 hR0 c0
    by_cases hlt : k < N
    · obtain ⟨x, hxk⟩ : ∃ x, xs[k]? = some x := ⟨_, List.getElem?_eq_getElem (by rw [HN.out]; exact hlt)⟩
      obtain ⟨b, off, rfl, hb, d0, d1⟩ := hq.at_ hxk
      have hJm := fun o => HC.out.step s wr x o HJ.out hbz (by rw [HK.out]; exact hxk)
      have HKR : ∀ o, Rd (wr.alloc o) := fun o => HR.out wr _ ⟨heap_alloc_old' wr o B (by omega), heap_alloc_old' wr o (B + 1) (by omega)⟩ HRD.out
      obtain ⟨x, u⟩ := x
      simp only at d0 d1
      obtain ⟨fn, tmps, assign, body, hy, hRR⟩ := HY.out s (x, u) _ (HKR (.cells #[.int .i64 x, .int .i64 u] 27)) (hJm (.cells #[.int .i64 x, .int .i64 u] 27))
      unfold valP at hy
      have HRR := Lib.hid hRR
      have b1 : (0 : Int) ≤ k := by omega
      have b2 : (k : Int) < N := by omega
      clear hJm HKR hRR hq hxk
      gi_wp2_with fail
      refine HRR.out.mono ?_
      rintro e3 W4 (⟨rfl, hR4, s', hAf, hJ4⟩ | ⟨rfl, c', hDn4, hJx4⟩)
      · have HR4 := Lib.hid hR4
        have HJ4 := Lib.hid hJ4
        have hnx := HC.out.next s s' hAf
        rw [HK.out] at hnx
        have HNX := Lib.hid hnx
        clear hR4 hJ4 hAf hnx
        gi_wp2
        go_roundw
        case rel => exact ⟨s', by rw [HNX.out]; go_num, HJ4.out, HR4.out⟩
        case measure => simp [intOf]; omega
      · gi_wp2
        refine bodyPost_ret (results_none rfl _ _ _) rfl ?_
        exact ⟨⟨_, rfl⟩, .inr ⟨c', hDn4, hJx4⟩⟩
    · obtain rfl : k = N := by omega
      clear hq
      gi_wp2
      refine bodyPost_end (results_none rfl _ _ _) rfl ?_
      exact ⟨⟨_, rfl⟩, .inl ⟨HRD.out, s, HC.out.done s wr HJ.out (HK.out.trans HN.out.symm), HJ.out⟩⟩

end Go.Proofs.Ytpdncgjepfgnjaa
