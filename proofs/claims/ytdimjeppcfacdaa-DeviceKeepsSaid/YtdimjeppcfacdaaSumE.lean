/- The contract of sum.Open. -/
import Derived.Test.YtdimjeppcfacdaaSumD
import Derived.Test.YtdimjeppcfacdaaShelf
namespace Go.Proofs.Ytdimjeppcfacdaa
open Go.RowKit SumM

theorem bytesIn_of {w : World} {n : Nat} {a : Option Addr} {m c : Nat} {l : List Nat} (h : Sl encY n w (.slice a m c) l) : Lib.BytesIn w a m (l.map Int.ofNat) := by
  intro hm
  rcases h with ⟨rfl, a', c', e, _⟩ | ⟨b, off, cap, e, hb, _, hc⟩
  · cases e; omega
  · cases e
    refine ⟨b, off, rfl, fun i hi => ?_⟩
    rw [hc i (l[i]) (List.getElem?_eq_getElem hi)]
    simp [encY, List.getD, hi]
theorem bytesOf_inj {l k : List Nat} (hl : ∀ x ∈ l, x < 256) (hk : ∀ x ∈ k, x < 256) (h : Lib.bytesOf (l.map Int.ofNat) = Lib.bytesOf (k.map Int.ofNat)) : l = k := by
  have e : ∀ (m : List Nat), (∀ x ∈ m, x < 256) → (Lib.bytesOf (m.map Int.ofNat)).map UInt8.toNat = m := by
    intro m hm
    unfold Lib.bytesOf
    rw [List.map_map, List.map_map]
    conv => rhs; rw [← List.map_id m]
    apply List.map_congr_left
    intro x hx
    have := hm x hx
    simp; omega
  rw [← e l hl, ← e k hk, h]

theorem equal_any (a b : Option Addr) (n c m d : Nat) (l k : List Nat) (hl : Bytes l) (hk : Bytes k) (w : World) (hS : Sl encY w.heap.size w (.slice a n c) l) (hT : Sl encY w.heap.size w (.slice b m d) k) :
    Calls Try.prog 117 #[.slice a n c, .slice b m d] w fun e w' => e = .returned (.bool (decide (l = k))) ∧ w = w' := by
  have h := Try.bytes_Equal_all a b n c m d (l.map Int.ofNat) (k.map Int.ofNat) w (by simp [hS.len]) (by simp [hT.len]) (bytesIn_of hS) (bytesIn_of hT)
  refine h.mono ?_
  rintro e w' ⟨rfl, rfl⟩
  refine ⟨?_, rfl⟩
  have : (Lib.bytesOf (l.map Int.ofNat) == Lib.bytesOf (k.map Int.ofNat)) = decide (l = k) := by
    rw [Bool.eq_iff_iff, beq_iff_eq, decide_eq_true_eq]
    exact ⟨bytesOf_inj hl.2 hk.2, fun e => by rw [e]⟩
  rw [this]

/-- What stands ahead of its sum. -/
def openL (l : List Nat) : Option (List Nat) := if l.length < 4 then none else if sealL (l.take (l.length - 4)) = l then some (l.take (l.length - 4)) else none
theorem sum4_bytes (s : Nat) : ∀ x ∈ sum4 s, x < 256 := by
  intro x hx
  simp [sum4] at hx
  omega
theorem seal_bytes {l : List Nat} (h : ∀ x ∈ l, x < 256) : ∀ x ∈ sealL l, x < 256 := by
  intro x hx
  rcases List.mem_append.1 hx with h1 | h1
  · exact h x h1
  · exact sum4_bytes _ x h1
theorem seal_take (l : List Nat) : (sealL l).take l.length = l := by simp [sealL]
theorem Sl.cut {α : Type} {enc : α → Value} {n : Nat} {W : World} {b off m c k : Nat} {l : List α} (h : Sl enc n W (.slice (some ⟨b, off, none⟩) m c) l) (hk : k ≤ l.length) (d : Nat) (hd : k ≤ d) : Sl enc n W (.slice (some ⟨b, off, none⟩) k d) (l.take k) := by
  rcases h with ⟨rfl, a', c', e, _⟩ | ⟨b', off', cap, e, hb, hcap, hc⟩
  · cases e
    simp at hk
    subst hk
    exact .inl ⟨rfl, _, _, rfl, fun h => by cases h⟩
  · cases e
    have hl : (l.take k).length = k := by simp; omega
    refine .inr ⟨b, off, d, by rw [hl], hb, by rw [hl]; exact hd, fun j x hj => ?_⟩
    rw [List.getElem?_take] at hj
    split at hj
    · exact hc j x hj
    · cases hj

set_option maxRecDepth 100000 in
set_option maxHeartbeats 1000000 in
theorem open_any (a : Option Addr) (n c : Nat) (l : List Nat) (hl : Bytes l) (w : World) (hS : Sl encY w.heap.size w (.slice a n c) l) :
    Calls Try.prog 80 #[.slice a n c] w fun e w' => ∃ v, e = .returned (.tuple #[v, .bool (openL l).isSome]) ∧ Sl encY w'.heap.size w' v ((openL l).getD []) ∧ Below w.heap.size w w' := by
  obtain rfl := hS.len
  by_cases h4 : l.length < 4
  · rw [show openL l = none from if_pos h4]
    obtain ⟨hl1, _⟩ := hl
    obtain ⟨n, hn⟩ : ∃ n, l.length = n := ⟨_, rfl⟩
    rw [hn] at h4 hl1 ⊢
    clear hn hS
    go_enter Try.func80, Try.ntmps80
    go_wp2
    go_ret2
    exact ⟨_, rfl, Sl.nil _ _ _, Below.refl _ _⟩
  · obtain ⟨b, off, rfl, hb, hcap⟩ : ∃ b off, a = some ⟨b, off, none⟩ ∧ b < w.heap.size ∧ l.length ≤ c := by
      rcases hS with ⟨rfl, _⟩ | ⟨b, off, cap, e, hb, hcap, _⟩
      · simp at h4
      · cases e; exact ⟨b, off, rfl, hb, hcap⟩
    have hT := hS.cut (k := l.length - 4) (by omega) c (by omega)
    have hlt : Bytes (l.take (l.length - 4)) := ⟨by have := hl.1; simp; omega, fun x hx => hl.2 x (List.mem_of_mem_take hx)⟩
    have hlen : (l.take (l.length - 4)).length = l.length - 4 := by simp
    have hop : openL l = if sealL (l.take (l.length - 4)) = l then some (l.take (l.length - 4)) else none := if_neg h4
    obtain ⟨t, ht⟩ : ∃ t, l.take (l.length - 4) = t := ⟨_, rfl⟩
    rw [ht] at hT hlt hlen hop
    have HSE := Lib.hid (seal_any _ _ _ t hlt w hT)
    have HS := Lib.hid hS
    have HO := Lib.hid hop
    have HB := Lib.hid hl
    have hl1 := hl.1
    obtain ⟨n, hn⟩ : ∃ n, l.length = n := ⟨_, rfl⟩
    obtain ⟨m, hm⟩ : ∃ m, n - 4 = m := ⟨_, rfl⟩
    have hnm : n = m + 4 := by omega
    rw [hn] at h4 hlen hcap hl1 HSE HS ⊢
    rw [hm] at hlen HSE
    have hsub : ((n : Int) - 4) = (m : Int) := by omega
    have HM := Lib.hid hnm
    have HTL := Lib.hid hlen
    have HLT := Lib.hid hlt
    have hmc : m ≤ c := by omega
    have hml : m ≤ 1048576 := by omega
    clear ht hop hS hT hlt hl hn hm hnm hlen
    go_enter Try.func80, Try.ntmps80
    go_wp2_with (go_at_call 81; refine HSE.out.mono ?_; rintro e w1 ⟨v, rfl, hown, hb1⟩)
    have hSv := Sl.of_owns hown
    have hsl : (sealL t).length = m + 4 := by rw [seal_len, HTL.out]
    have hbb : Bytes (sealL t) := ⟨by rw [hsl]; have := HM.out; omega, seal_bytes HLT.out.2⟩
    have hfin : Sl encY w1.heap.size w1 v (sealL t) := hSv
    obtain ⟨g, cap, rfl, hmcap⟩ : ∃ g cap, v = .slice (some ⟨g, 0, none⟩) (m + 4) cap ∧ m ≤ cap := by
      rcases hown.2 with ⟨_, e⟩ | ⟨g, cap, cur, e, _, _, hn, _⟩
      · rw [hsl] at e; omega
      · rw [hsl] at e hn; exact ⟨g, cap, e, by omega⟩
    have HST := Lib.hid (HS.out.below hb1)
    have HEQ := Lib.hid (equal_any _ _ _ _ _ _ (sealL t) l hbb HB.out w1 hSv (HST.out.mono hb1.size))
    have hcut := hfin.cut (k := m) (by rw [hsl]; omega) m (Nat.le_refl _)
    rw [show m = t.length from HTL.out.symm, seal_take, HTL.out] at hcut
    have HC := Lib.hid hcut
    clear hcut hfin hbb hsl hSv hown
    by_cases heq : sealL t = l
    · rw [show decide (sealL t = l) = true from decide_eq_true heq] at HEQ
      have HR : Hid (openL l = some t) := Lib.hid (by rw [HO.out, if_pos heq])
      clear heq
      go_wp2_with (go_at_call 117; refine HEQ.out.mono ?_; rintro e w' ⟨rfl, rfl⟩)
      go_ret2
      refine ⟨_, by rw [HR.out]; rfl, by rw [HR.out]; exact HC.out, hb1⟩
    · rw [show decide (sealL t = l) = false from decide_eq_false heq] at HEQ
      have HR : Hid (openL l = none) := Lib.hid (by rw [HO.out, if_neg heq])
      clear heq
      go_wp2_with (go_at_call 117; refine HEQ.out.mono ?_; rintro e w' ⟨rfl, rfl⟩)
      go_ret2
      exact ⟨_, by rw [HR.out]; rfl, by rw [HR.out]; exact Sl.nil _ _ _, hb1⟩
end Go.Proofs.Ytdimjeppcfacdaa
