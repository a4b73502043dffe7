/- The contract of sum.Open. -/
import Derived.Test.YtocmfdahnekboaaDoorSumD
import Derived.Test.YtocmfdahnekboaaDoorShelf
import Derived.Test.YtocmfdahnekboaaDoorRefJ
import Derived.Lib.SlBytesConst
import Derived.Test.YtocmfdahnekboaaDoorOpenP
import Derived.RegionTactic
namespace Go.Proofs.YtocmfdahnekboaaDoor
open Go.RowKit SumM

theorem bytesIn_of {w : World} {n : Nat} {a : Option Addr} {m c : Nat} {l : List Nat} (h : Sl encY n w (.slice a m c) l) : Lib.BytesIn w a m (l.map Int.ofNat) := by
  intro hm
  rcases h with ⟨rfl, a', c', e, _⟩ | ⟨b, off, cap, e, hb, _, hc⟩
  · cases e; omega
  · cases e
    refine ⟨b, off, rfl, fun i hi => ?_⟩
    rw [hc i (l[i]) (List.getElem?_eq_getElem hi)]
    simp [encY, List.getD, hi]
theorem bytesOf_inj {l k : List Nat} (hl : ∀ x ∈ l, x < 256) (hk : ∀ x ∈ k, x < 256) (h : Lib.bytesOf (l.map Int.ofNat) = Lib.bytesOf (k.map Int.ofNat)) : l = k := by
  have e : ∀ (m : List Nat), (∀ x ∈ m, x < 256) → (Lib.bytesOf (m.map Int.ofNat)).map UInt8.toNat = m := by
    intro m hm
    unfold Lib.bytesOf
    rw [List.map_map, List.map_map]
    conv => rhs; rw [← List.map_id m]
    apply List.map_congr_left
    intro x hx
    have := hm x hx
    simp; omega
  rw [← e l hl, ← e k hk, h]

theorem equal_any (a b : Option Addr) (n c m d : Nat) (l k : List Nat) (hl : Bytes l) (hk : Bytes k) (w : World) (hS : Sl encY w.heap.size w (.slice a n c) l) (hT : Sl encY w.heap.size w (.slice b m d) k) :
    Calls Tryd.prog 77 #[.slice a n c, .slice b m d] w fun e w' => e = .returned (.bool (decide (l = k))) ∧ w = w' := by
  have h := Tryd.bytes_Equal_all a b n c m d (l.map Int.ofNat) (k.map Int.ofNat) w (by simp [hS.len]) (by simp [hT.len]) (bytesIn_of hS) (bytesIn_of hT)
  refine h.mono ?_
  rintro e w' ⟨rfl, rfl⟩
  refine ⟨?_, rfl⟩
  have : (Lib.bytesOf (l.map Int.ofNat) == Lib.bytesOf (k.map Int.ofNat)) = decide (l = k) := by
    rw [Bool.eq_iff_iff, beq_iff_eq, decide_eq_true_eq]
    exact ⟨bytesOf_inj hl.2 hk.2, fun e => by rw [e]⟩
  rw [this]

/-- What stands ahead of its sum. -/
def openL (l : List Nat) : Option (List Nat) := if l.length < 4 then none else if sealL (l.take (l.length - 4)) = l then some (l.take (l.length - 4)) else none
theorem sum4_bytes (s : Nat) : ∀ x ∈ sum4 s, x < 256 := by
  intro x hx
  simp [sum4] at hx
  omega
theorem seal_bytes {l : List Nat} (h : ∀ x ∈ l, x < 256) : ∀ x ∈ sealL l, x < 256 := by
  intro x hx
  rcases List.mem_append.1 hx with h1 | h1
  · exact h x h1
  · exact sum4_bytes _ x h1
theorem seal_take (l : List Nat) : (sealL l).take l.length = l := by simp [sealL]
theorem Sl.cut {α : Type} {enc : α → Value} {n : Nat} {W : World} {b off m c k : Nat} {l : List α} (h : Sl enc n W (.slice (some ⟨b, off, none⟩) m c) l) (hk : k ≤ l.length) (d : Nat) (hd : k ≤ d) : Sl enc n W (.slice (some ⟨b, off, none⟩) k d) (l.take k) := by
  rcases h with ⟨rfl, a', c', e, _⟩ | ⟨b', off', cap, e, hb, hcap, hc⟩
  · cases e
    simp at hk
    subst hk
    exact .inl ⟨rfl, _, _, rfl, fun h => by cases h⟩
  · cases e
    have hl : (l.take k).length = k := by simp; omega
    refine .inr ⟨b, off, d, by rw [hl], hb, by rw [hl]; exact hd, fun j x hj => ?_⟩
    rw [List.getElem?_take] at hj
    split at hj
    · exact hc j x hj
    · cases hj

set_option maxRecDepth 100000 in
set_option maxHeartbeats 1000000 in
theorem open_any (a : Option Addr) (n c : Nat) (l : List Nat) (hl : Bytes l) (w : World) (hS : Sl encY w.heap.size w (.slice a n c) l) :
    Calls Tryd.prog 72 #[.slice a n c] w fun e w' => ∃ v, e = .returned (.tuple #[v, .bool (openL l).isSome]) ∧ Sl encY w'.heap.size w' v ((openL l).getD []) ∧ Below w.heap.size w w' := by
  obtain rfl := hS.len
  by_cases h4 : l.length < 4
  · rw [show openL l = none from if_pos h4]
    obtain ⟨hl1, _⟩ := hl
    obtain ⟨n, hn⟩ : ∃ n, l.length = n := ⟨_, rfl⟩
    rw [hn] at h4 hl1 ⊢
    clear hn hS
    go_enter Tryd.func72, Tryd.ntmps72
    go_wp2
    go_ret2
    exact ⟨_, rfl, Sl.nil _ _ _, Below.refl _ _⟩
  · obtain ⟨b, off, rfl, hb, hcap⟩ : ∃ b off, a = some ⟨b, off, none⟩ ∧ b < w.heap.size ∧ l.length ≤ c := by
      rcases hS with ⟨rfl, _⟩ | ⟨b, off, cap, e, hb, hcap, _⟩
      · simp at h4
      · cases e; exact ⟨b, off, rfl, hb, hcap⟩
    have hT := hS.cut (k := l.length - 4) (by omega) c (by omega)
    have hlt : Bytes (l.take (l.length - 4)) := ⟨by have := hl.1; simp; omega, fun x hx => hl.2 x (List.mem_of_mem_take hx)⟩
    have hlen : (l.take (l.length - 4)).length = l.length - 4 := by simp
    have hop : openL l = if sealL (l.take (l.length - 4)) = l then some (l.take (l.length - 4)) else none := if_neg h4
    obtain ⟨t, ht⟩ : ∃ t, l.take (l.length - 4) = t := ⟨_, rfl⟩
    rw [ht] at hT hlt hlen hop
    have HSE := Lib.hid (seal_any _ _ _ t hlt w hT)
    have HS := Lib.hid hS
    have HO := Lib.hid hop
    have HB := Lib.hid hl
    have hl1 := hl.1
    obtain ⟨n, hn⟩ : ∃ n, l.length = n := ⟨_, rfl⟩
    obtain ⟨m, hm⟩ : ∃ m, n - 4 = m := ⟨_, rfl⟩
    have hnm : n = m + 4 := by omega
    rw [hn] at h4 hlen hcap hl1 HSE HS ⊢
    rw [hm] at hlen HSE
    have hsub : ((n : Int) - 4) = (m : Int) := by omega
    have HM := Lib.hid hnm
    have HTL := Lib.hid hlen
    have HLT := Lib.hid hlt
    have hmc : m ≤ c := by omega
    have hml : m ≤ 1048576 := by omega
    clear ht hop hS hT hlt hl hn hm hnm hlen
    go_enter Tryd.func72, Tryd.ntmps72
    go_wp2_with (go_at_call 48; refine HSE.out.mono ?_; rintro e w1 ⟨v, rfl, hown, hb1⟩)
    have hSv := Sl.of_owns hown
    have hsl : (sealL t).length = m + 4 := by rw [seal_len, HTL.out]
    have hbb : Bytes (sealL t) := ⟨by rw [hsl]; have := HM.out; omega, seal_bytes HLT.out.2⟩
    have hfin : Sl encY w1.heap.size w1 v (sealL t) := hSv
    obtain ⟨g, cap, rfl, hmcap⟩ : ∃ g cap, v = .slice (some ⟨g, 0, none⟩) (m + 4) cap ∧ m ≤ cap := by
      rcases hown.2 with ⟨_, e⟩ | ⟨g, cap, cur, e, _, _, hn, _⟩
      · rw [hsl] at e; omega
      · rw [hsl] at e hn; exact ⟨g, cap, e, by omega⟩
    have HST := Lib.hid (HS.out.below hb1)
    have HEQ := Lib.hid (equal_any _ _ _ _ _ _ (sealL t) l hbb HB.out w1 hSv (HST.out.mono hb1.size))
    have hcut := hfin.cut (k := m) (by rw [hsl]; omega) m (Nat.le_refl _)
    rw [show m = t.length from HTL.out.symm, seal_take, HTL.out] at hcut
    have HC := Lib.hid hcut
    clear hcut hfin hbb hsl hSv hown
    by_cases heq : sealL t = l
    · rw [show decide (sealL t = l) = true from decide_eq_true heq] at HEQ
      have HR : Hid (openL l = some t) := Lib.hid (by rw [HO.out, if_pos heq])
      clear heq
      go_wp2_with (go_at_call 77; refine HEQ.out.mono ?_; rintro e w' ⟨rfl, rfl⟩)
      go_ret2
      refine ⟨_, by rw [HR.out]; rfl, by rw [HR.out]; exact HC.out, hb1⟩
    · rw [show decide (sealL t = l) = false from decide_eq_false heq] at HEQ
      have HR : Hid (openL l = none) := Lib.hid (by rw [HO.out, if_neg heq])
      clear heq
      go_wp2_with (go_at_call 77; refine HEQ.out.mono ?_; rintro e w' ⟨rfl, rfl⟩)
      go_ret2
      exact ⟨_, by rw [HR.out]; rfl, by rw [HR.out]; exact Sl.nil _ _ _, hb1⟩
end Go.Proofs.YtocmfdahnekboaaDoor

/- Contracts of the document's own answers for layer 3: bit by bit. -/
namespace Go.Proofs.YtocmfdahnekboaaDoor
open Go.RowKit SumM

theorem bitA (y k : Nat) (hy : y < 256) : bits .and .u32 ((y : Int) / 2 ^ k % 4294967296) 1 = ((y / 2 ^ k % 2 : Nat) : Int) := by
  have h1 : ((y : Int) / 2 ^ k) = ((y / 2 ^ k : Nat) : Int) := by rw [Int.natCast_ediv]; norm_cast
  have h2 := Nat.div_le_self y (2 ^ k)
  rw [h1]
  generalize y / 2 ^ k = z at h2 ⊢
  rw [show ((z : Int) % 4294967296) = (z : Int) from by omega, show (1 : Int) = ((1 : Nat) : Int) from rfl, u32_and_nat _ _ (by omega) (by decide), Nat.and_one_is_mod]
theorem bitB (q : Nat) (hq : q < 4294967296) : bits .and .u32 (q : Int) 1 = ((q % 2 : Nat) : Int) := by
  rw [show (1 : Int) = ((1 : Nat) : Int) from rfl, u32_and_nat _ _ hq (by decide), Nat.and_one_is_mod]
theorem refBit_walk {q c : Nat} (hq : q < 4294967296) (h : c ≠ q % 2) : bits .xor .u32 ((q : Int) / 2) 2197175160 = ((refBit q c : Nat) : Int) := by
  rw [show (q : Int) / 2 = ((q / 2 : Nat) : Int) from by omega, show (2197175160 : Int) = ((2197175160 : Nat) : Int) from rfl, u32_xor_nat _ _ (by omega) (by decide)]
  unfold refBit; rw [if_pos h]; rfl
theorem sumL_eq (l : List Nat) (hl : ∀ x ∈ l, x < 256) : bits .xor .u32 ((updAll 4294967295 l : Nat) : Int) 4294967295 = ((sumL l : Nat) : Int) := by
  rw [show (4294967295 : Int) = ((4294967295 : Nat) : Int) from rfl, u32_xor_nat _ _ (updAll_lt l (by decide) hl) (by decide), Nat.xor_comm, ← not_xor (updAll_lt l (by decide) hl)]; rfl

set_option maxRecDepth 100000 in
set_option maxHeartbeats 2000000 in
theorem refOf_any (a : Option Addr) (n c : Nat) (l : List Nat) (hl : Bytes l) (w : World) (hS : Sl encY w.heap.size w (.slice a n c) l) :
    Calls Tryd.prog 66 #[.slice a n c] w fun e w' => e = .returned (.int .u32 (sumL l : Nat)) ∧ w = w' := by
  obtain rfl := hS.len
  have HS := Lib.hid hS
  obtain ⟨hl1, hl2⟩ := hl
  have HL2 := Lib.hid hl2
  clear hS hl2
  obtain ⟨n, hn⟩ : ∃ n, l.length = n := ⟨_, rfl⟩
  have HL := Lib.hid hn
  rw [hn] at hl1 ⊢
  clear hn
  go_enter Tryd.func66, Tryd.ntmps66
  go_wp2
  go_loop [3, 4] (fun v i => ∃ k : Nat, k ≤ n ∧ i = .int .i64 k ∧ v = .int .u32 (updAll 4294967295 (l.take k) : Nat)) (fun _ i => n - (intOf i).toNat)
  case atStart => exact ⟨0, by omega, rfl, rfl⟩
  case round =>
    obtain ⟨k, hk, rfl, rfl⟩ := hrel
    have hr := updAll_lt (r := 4294967295) (l.take k) (by decide) (fun x hx => HL2.out x (List.mem_of_mem_take hx))
    by_cases hlt : k < n
    · obtain ⟨y, hy⟩ : ∃ y, l[k]? = some y := ⟨l[k]'(by rw [HL.out]; exact hlt), List.getElem?_eq_getElem _⟩
      obtain ⟨b, off, rfl, hb, hc⟩ := HS.out.at_ hy
      have hyb := HL2.out y (List.mem_of_getElem? hy)
      have hcy : w.cell? ⟨b, off + k, none⟩ = some (.int .u8 (y : Int)) := hc
      have HTK : Hid (updAll 4294967295 (l.take (k + 1)) = upd (updAll 4294967295 (l.take k)) y) := Lib.hid (by rw [take_one _ _ _ hy, updAll_snoc])
      obtain ⟨r, hre⟩ : ∃ r, updAll 4294967295 (l.take k) = r := ⟨_, rfl⟩
      rw [hre] at hr HTK ⊢
      clear hre hy hc
      go_wp2
      go_loop [3, 5] (fun v i => ∃ j : Nat, j ≤ 8 ∧ i = .int .i64 j ∧ v = .int .u32 (refN y j r : Nat)) (fun _ i => 8 - (intOf i).toNat)
      case atStart => exact ⟨0, by omega, rfl, rfl⟩
      case round =>
        obtain ⟨j, hj, rfl, rfl⟩ := hrel
        have hq := refN_lt y hr j
        by_cases hj8 : j < 8
        · have hA := bitA y j hyb
          have HS2 : Hid (refN y (j + 1) r = refBit (refN y j r) (y / 2 ^ j % 2)) := Lib.hid rfl
          obtain ⟨q, hqe⟩ : ∃ q, refN y j r = q := ⟨_, rfl⟩
          rw [hqe] at hq HS2 ⊢
          have hB := bitB q hq
          obtain ⟨u, hu⟩ : ∃ u, y / 2 ^ j % 2 = u := ⟨_, rfl⟩
          rw [hu] at hA HS2
          clear hu hqe
          by_cases hud : u = q % 2
          · have hne : ((u : Int) != ((q % 2 : Nat) : Int)) = false := by rw [hud]; simp
            have HU : Hid (refBit q u = q / 2) := Lib.hid (by unfold refBit; rw [if_neg (by simp [hud])])
            obtain ⟨d, hd⟩ : ∃ d, q % 2 = d := ⟨_, rfl⟩
            rw [hd] at hB hne
            clear hud hd
            go_wp2
            go_round
            case rel => exact ⟨j + 1, by omega, by go_num, by rw [HS2.out, HU.out]; push_cast; rfl⟩
            case measure => simp [intOf]; omega
          · have hne : ((u : Int) != ((q % 2 : Nat) : Int)) = true := by rw [bne_iff_ne]; omega
            have HU := Lib.hid (refBit_walk hq hud)
            obtain ⟨d, hd⟩ : ∃ d, q % 2 = d := ⟨_, rfl⟩
            rw [hd] at hB hne
            clear hud hd
            go_wp2
            go_round
            case rel => exact ⟨j + 1, by omega, by go_num, by rw [HS2.out, ← HU.out]⟩
            case measure => simp [intOf]; omega
        · obtain rfl : j = 8 := by omega
          have HU : Hid (refN y 8 r = upd r y) := Lib.hid (refN_upd r y hyb)
          go_wp2
          go_round
          case rel => exact ⟨k + 1, by omega, by go_num, by rw [HTK.out, HU.out]⟩
          case measure => simp [intOf]; omega
    · obtain rfl : k = n := by omega
      have HE := Lib.hid (sumL_eq l HL2.out)
      rw [List.take_of_length_le (by rw [HL.out]; omega)] at hr ⊢
      go_wp2
      go_ret
      exact ⟨ret_u32 HE.out, rfl⟩

theorem sum4_div (s : Nat) (hs : s < 4294967296) : s / 16777216 % 256 = s / 16777216 := by omega
set_option maxRecDepth 100000 in
set_option maxHeartbeats 1000000 in
theorem refSeal_any (a : Option Addr) (n c : Nat) (l : List Nat) (hl : Bytes l) (w : World) (hS : Sl encY w.heap.size w (.slice a n c) l) :
    Calls Tryd.prog 55 #[.slice a n c] w fun e w' => ∃ v, e = .returned v ∧ w'.ownsRow w.heap.size 5 1 v (sealL l).length ((sealL l).map encY) ∧ Below w.heap.size w w' := by
  have HO := Lib.hid (refOf_any a n c l hl w hS)
  have HC := Lib.hid (copyY_any a n c l hl.1 w hS)
  have hl1 := hl.1
  have hs := sumL_lt l
  clear hS hl
  go_enter Tryd.func55, Tryd.ntmps55
  have HQ : Hid (∀ (w3 : World), Sl encY (w3.alloc (.cells #[Value.int .u8 ((sumL l : Int) % 256), Value.int .u8 ((sumL l : Int) / 256 % 256), Value.int .u8 ((sumL l : Int) / 65536 % 256), Value.int .u8 ((sumL l : Int) / 16777216)] 5)).heap.size (w3.alloc (.cells #[Value.int .u8 ((sumL l : Int) % 256), Value.int .u8 ((sumL l : Int) / 256 % 256), Value.int .u8 ((sumL l : Int) / 65536 % 256), Value.int .u8 ((sumL l : Int) / 16777216)] 5)) (.slice (some ⟨w3.heap.size, 0, none⟩) 4 4) (sum4 (sumL l))) :=
    Lib.hid fun w3 => Sl.lit encY w3 5 (sum4 (sumL l)) _ (by simp [sum4, encY]; omega)
  go_wp2_with (first | (go_at_call 66; refine HO.out.mono ?_; rintro e w' ⟨rfl, rfl⟩) | (go_at_call 56; refine HC.out.mono ?_; rintro e w1 ⟨v1, rfl, hown1, hb1⟩; have HOW := Lib.hid hown1; clear hown1) | (at_builtin; refine wpList_append_bytes _ rfl (.tmp 7) (.tmp 22) rfl w.heap.size _ l.length (l.map encY) rfl (HOW.out.alloc _) _ _ (sum4 (sumL l)) rfl (HQ.out w1) (by simp [sum4]; omega) (by have := hb1.size; simp; omega) ?_))
  intro v4 w4 hown4 hg4
  have hb4 : Below w.heap.size w w4 := below_grown (HOW.out.alloc _) (by have := hb1.size; simp; omega) (hb1.alloc hb1.size _) hg4
  have HO4 : Hid (w4.ownsRow w.heap.size 5 1 v4 (sealL l).length ((sealL l).map encY)) := Lib.hid (by rw [seal_len]; unfold sealL; rw [List.map_append]; exact hown4)
  clear hown4 hg4
  go_wp2
  go_ret
  exact ⟨_, rfl, HO4.out, hb4⟩

set_option maxRecDepth 100000 in
set_option maxHeartbeats 1000000 in
theorem refOpen_any (a : Option Addr) (n c : Nat) (l : List Nat) (hl : Bytes l) (w : World) (hS : Sl encY w.heap.size w (.slice a n c) l) :
    Calls Tryd.prog 41 #[.slice a n c] w fun e w' => ∃ v, e = .returned (.tuple #[v, .bool (openL l).isSome]) ∧ Sl encY w'.heap.size w' v ((openL l).getD []) ∧ Below w.heap.size w w' := by
  obtain rfl := hS.len
  by_cases h4 : l.length < 4
  · rw [show openL l = none from if_pos h4]
    obtain ⟨hl1, _⟩ := hl
    obtain ⟨n, hn⟩ : ∃ n, l.length = n := ⟨_, rfl⟩
    rw [hn] at h4 hl1 ⊢
    clear hn hS
    go_enter Tryd.func41, Tryd.ntmps41
    go_wp2
    go_ret2
    exact ⟨_, rfl, Sl.nil _ _ _, Below.refl _ _⟩
  · obtain ⟨b, off, rfl, hb, hcap⟩ : ∃ b off, a = some ⟨b, off, none⟩ ∧ b < w.heap.size ∧ l.length ≤ c := by
      rcases hS with ⟨rfl, _⟩ | ⟨b, off, cap, e, hb, hcap, _⟩
      · simp at h4
      · cases e; exact ⟨b, off, rfl, hb, hcap⟩
    have hT := hS.cut (k := l.length - 4) (by omega) c (by omega)
    have hlt : Bytes (l.take (l.length - 4)) := ⟨by have := hl.1; simp; omega, fun x hx => hl.2 x (List.mem_of_mem_take hx)⟩
    have hlen : (l.take (l.length - 4)).length = l.length - 4 := by simp
    have hop : openL l = if sealL (l.take (l.length - 4)) = l then some (l.take (l.length - 4)) else none := if_neg h4
    obtain ⟨t, ht⟩ : ∃ t, l.take (l.length - 4) = t := ⟨_, rfl⟩
    rw [ht] at hT hlt hlen hop
    have HSE := Lib.hid (refSeal_any _ _ _ t hlt w hT)
    have HS := Lib.hid hS
    have HO := Lib.hid hop
    have HB := Lib.hid hl
    have hl1 := hl.1
    have HT := Lib.hid hT
    obtain ⟨n, hn⟩ : ∃ n, l.length = n := ⟨_, rfl⟩
    obtain ⟨m, hm⟩ : ∃ m, n - 4 = m := ⟨_, rfl⟩
    have hnm : n = m + 4 := by omega
    rw [hn] at h4 hlen hcap hl1 HSE HS HT ⊢
    rw [hm] at hlen HSE HT
    have hsub : ((n : Int) - 4) = (m : Int) := by omega
    have HM := Lib.hid hnm
    have HTL := Lib.hid hlen
    have HLT := Lib.hid hlt
    have hmc : m ≤ c := by omega
    have hml : m ≤ 1048576 := by omega
    clear ht hop hS hT hlt hl hn hm hnm hlen
    go_enter Tryd.func41, Tryd.ntmps41
    go_wp2_with (go_at_call 55; refine HSE.out.mono ?_; rintro e w1 ⟨v, rfl, hown, hb1⟩)
    have hSv := Sl.of_owns hown
    have hsl : (sealL t).length = m + 4 := by rw [seal_len, HTL.out]
    have hbb : Bytes (sealL t) := ⟨by rw [hsl]; have := HM.out; omega, seal_bytes HLT.out.2⟩
    obtain ⟨g, cap, rfl⟩ : ∃ g cap, v = .slice (some ⟨g, 0, none⟩) (m + 4) cap := by
      rcases hown.2 with ⟨_, e⟩ | ⟨g, cap, cur, e, _⟩
      · rw [hsl] at e; omega
      · rw [hsl] at e; exact ⟨g, cap, e⟩
    have HST := Lib.hid (HS.out.below hb1)
    have HEQ := Lib.hid (sameY_any _ _ _ _ _ _ (sealL t) l w1 hbb.1 HB.out.1 hSv (HST.out.mono hb1.size))
    clear hbb hsl hSv hown
    by_cases heq : sealL t = l
    · rw [show decide (sealL t = l) = true from decide_eq_true heq] at HEQ
      have HR : Hid (openL l = some t) := Lib.hid (by rw [HO.out, if_pos heq])
      clear heq
      go_wp2_with (first | (go_at_call 54; refine HEQ.out.mono ?_; rintro e w2 ⟨rfl, hb2⟩; have hb02 := hb1.trans (hb2.mono hb1.size); have HT2 := Lib.hid ((HT.out.below hb02).mono hb02.size)) | (go_at_call 56; refine (copyY_any _ _ _ t HLT.out.1 _ HT2.out).mono ?_; rintro e w3 ⟨v3, rfl, hown3, hb3⟩; have H3 := Lib.hid (Sl.of_owns hown3); clear hown3))
      go_ret2
      exact ⟨_, by rw [HR.out]; rfl, by rw [HR.out]; exact H3.out, hb02.trans (hb3.mono hb02.size)⟩
    · rw [show decide (sealL t = l) = false from decide_eq_false heq] at HEQ
      have HR : Hid (openL l = none) := Lib.hid (by rw [HO.out, if_neg heq])
      clear heq
      go_wp2_with (go_at_call 54; refine HEQ.out.mono ?_; rintro e w2 ⟨rfl, hb2⟩)
      go_ret2
      exact ⟨_, by rw [HR.out]; rfl, by rw [HR.out]; exact Sl.nil _ _ _, hb1.trans (hb2.mono hb1.size)⟩
end Go.Proofs.YtocmfdahnekboaaDoor

/- The document's examples of layer 3 are answered as it says. -/
namespace Go.Proofs.YtocmfdahnekboaaDoor
open Go.RowKit SumM

theorem of_at (N : Nat) (v : Value) (l : List Nat) (hl : Bytes l) (w : World) (hN : w.heap.size = N) (hS : Sl encY N w v l) :
    Calls Tryd.prog 64 #[.slice (some ⟨N, 0, none⟩) 1 1] (w.alloc (.cells #[v] 22)) fun e w' => e = .returned (.int .u32 (sumL l : Nat)) ∧ Below N w w' := by
  subst hN
  exact of_one v l hl w hS
/-- sum.Of of nothing. -/
theorem of_nil (w : World) : Calls Tryd.prog 64 #[.slice none 0 0] w fun e w' => e = .returned (.int .u32 0) ∧ Below w.heap.size w w' := by
  refine (of_any none 0 0 [] (by decide) (fun l hl => by cases hl) w (Parts.nil _ _)).mono ?_
  rintro e w' ⟨rfl, hb⟩
  exact ⟨rfl, hb⟩
theorem lit_at (N : Nat) (w : World) (hN : w.heap.size = N) (xs : List Nat) (n : Nat) (hn : xs.length = n) (cs : Array Value) (fr : Nat × Nat) (h : cs = (xs.map encY).toArray) : Sl encY (w.alloc (.cells cs 5 fr)).heap.size (w.alloc (.cells cs 5 fr)) (.slice (some ⟨N, 0, none⟩) n n) xs := by
  subst hN; subst hn
  refine .inr ⟨w.heap.size, 0, xs.length, rfl, by simp, Nat.le_refl _, fun j x hj => ?_⟩
  have h2 := World.alloc_heap_new w (.cells cs 5 fr)
  simp only [World.cell?]
  rw [h2, h, Nat.zero_add]
  simp [hj]
theorem below_lit {w W : World} (h : Below w.heap.size w W) (o : Obj) : Below w.heap.size w (W.alloc o) := h.alloc h.size _

theorem s9 : sumL [49, 50, 51, 52, 53, 54, 55, 56, 57] = 3808858755 := by decide +kernel
theorem s5 : ext (sumL [49, 50, 51, 52, 53]) [54, 55, 56, 57] = 3808858755 := by decide +kernel
theorem sab : openL (sealL [97, 98]) = some [97, 98] := by decide +kernel
theorem s12 : openL [1, 2, 3, 4, 5] = none := by decide +kernel
theorem bab : Bytes (sealL [97, 98]) := ⟨by decide +kernel, by decide +kernel⟩

end Go.Proofs.YtocmfdahnekboaaDoor
namespace Go.Proofs.YtocmfdahnekboaaDoor
open Go.RowKit SumM
theorem step_below {w W W' : World} (h : Below w.heap.size w W) (h' : Below W.heap.size W W') : Below w.heap.size w W' := h.trans (h'.mono h.size)
theorem hS_step {α : Type} {enc : α → Value} {W W' : World} {v : Value} {xs : List α} (h : Sl enc W.heap.size W v xs) (h' : Below W.heap.size W W') : Sl enc W'.heap.size W' v xs := (h.below h').mono h'.size
theorem seal_Bytes {l : List Nat} (h : Bytes l) (h2 : l.length ≤ 2000) : Bytes (sealL l) := ⟨by rw [seal_len]; omega, seal_bytes h.2⟩
theorem open_seal (l : List Nat) : openL (sealL l) = some l := by
  unfold openL
  rw [seal_len, if_neg (by omega), show l.length + 4 - 4 = l.length from by omega, seal_take, if_pos rfl]
theorem sum_two (l k : List Nat) (hl : ∀ x ∈ l, x < 256) : sumL (l ++ k) = ext (sumL l) k := ext_append 0 (by decide) l k hl
/-- sum.Of of two slices. -/
theorem of_two (v u : Value) (l k : List Nat) (hl : Bytes l) (hk : Bytes k) (w : World) (hS : Sl encY w.heap.size w v l) (hT : Sl encY w.heap.size w u k) :
    Calls Tryd.prog 64 #[.slice (some ⟨w.heap.size, 0, none⟩) 2 2] (w.alloc (.cells #[v, u] 22)) fun e w' => e = .returned (.int .u32 (sumL (l ++ k) : Nat)) ∧ Below w.heap.size w w' := by
  refine (of_any _ 2 2 [l, k] (by simp) (fun x hx => by simp at hx; rcases hx with rfl | rfl; exact hl; exact hk) _ (Parts.two w v u l k _ hS hT)).mono ?_
  rintro e w' ⟨rfl, hb⟩
  exact ⟨by simp, ((Below.refl _ w).alloc (Nat.le_refl _) _).trans (hb.mono (by simp))⟩
end Go.Proofs.YtocmfdahnekboaaDoor

/- The document's Turn: bits turned from a place on. -/
namespace Go.Proofs.YtocmfdahnekboaaDoor
open Go.RowKit SumM

/-- The j-th byte of a number. -/
def byteAt (D j : Nat) : Nat := D / 256 ^ j % 256
def digits (D n : Nat) : List Nat := (List.range n).map (byteAt D)
theorem byteAt_eq (D j : Nat) : byteAt D j = (D >>> (8 * j)) % 2 ^ 8 := by
  unfold byteAt
  rw [Nat.shiftRight_eq_div_pow, Nat.pow_mul]
theorem byteAt_xor (D E j : Nat) : byteAt (D ^^^ E) j = byteAt D j ^^^ byteAt E j := by
  rw [byteAt_eq, byteAt_eq, byteAt_eq, Nat.shiftRight_xor_distrib, Nat.xor_mod_two_pow]
theorem byteAt_pow (i j : Nat) : byteAt (2 ^ i) j = if i / 8 = j then 2 ^ (i % 8) else 0 := by
  rw [byteAt_eq, Nat.shiftRight_eq_div_pow]
  by_cases h : 8 * j ≤ i
  · rw [Nat.pow_div h (by decide)]
    by_cases h2 : i / 8 = j
    · rw [if_pos h2, show i - 8 * j = i % 8 from by omega, Nat.mod_eq_of_lt]
      exact Nat.pow_lt_pow_right (by decide) (by omega)
    · rw [if_neg h2]
      obtain ⟨t, ht⟩ : ∃ t, i - 8 * j = 8 + t := ⟨i - 8 * j - 8, by omega⟩
      rw [ht, Nat.pow_add, Nat.mul_mod_right]
  · rw [if_neg (by omega), Nat.div_eq_of_lt (Nat.pow_lt_pow_right (by decide) (by omega))]
theorem digits_len (D n : Nat) : (digits D n).length = n := by simp [digits]
theorem digits_lt (D n : Nat) : ∀ x ∈ digits D n, x < 256 := by
  intro x hx
  obtain ⟨j, _, rfl⟩ := List.mem_map.1 hx
  exact Nat.mod_lt _ (by decide)
theorem digits_get (D n j : Nat) (h : j < n) : (digits D n)[j]? = some (byteAt D j) := by simp [digits, h]
theorem num_digits (D n : Nat) : num (digits D n) = D % 256 ^ n := by
  induction n generalizing D with
  | zero => show 0 = _; rw [Nat.pow_zero, Nat.mod_one]
  | succ n ih =>
    have e : digits D (n + 1) = D % 256 :: digits (D / 256) n := by
      unfold digits
      rw [List.range_succ_eq_map, List.map_cons, List.map_map]
      congr 1
      · unfold byteAt; rw [Nat.pow_zero, Nat.div_one]
      · apply List.map_congr_left
        intro j _
        show byteAt D (j + 1) = byteAt (D / 256) j
        unfold byteAt
        rw [Nat.pow_succ, Nat.mul_comm, Nat.div_div_eq_div_mul]
    rw [e]
    show D % 256 + 256 * num (digits (D / 256) n) = _
    rw [ih, Nat.pow_succ, Nat.mul_comm (256 ^ n), Nat.mod_mul]

/-- What bits are turned, of the mask's first k. -/
def turnD (at' m k : Nat) : Nat := m % 2 ^ k * 2 ^ at'
theorem turnD_zero (at' m : Nat) : turnD at' m 0 = 0 := by unfold turnD; rw [Nat.pow_zero, Nat.mod_one, Nat.zero_mul]
theorem mod_succ (m k : Nat) : m % 2 ^ (k + 1) = m % 2 ^ k + 2 ^ k * (m / 2 ^ k % 2) := by rw [Nat.pow_succ, Nat.mod_mul]
theorem turnD_no (at' m k : Nat) (h : m / 2 ^ k % 2 = 0) : turnD at' m (k + 1) = turnD at' m k := by unfold turnD; rw [mod_succ, h, Nat.mul_zero, Nat.add_zero]
theorem turnD_yes (at' m k : Nat) (h : m / 2 ^ k % 2 = 1) : turnD at' m (k + 1) = turnD at' m k ^^^ 2 ^ (at' + k) := by
  have hlt : turnD at' m k < 2 ^ (at' + k) := by
    unfold turnD
    rw [Nat.pow_add, Nat.mul_comm]
    exact Nat.mul_lt_mul_of_pos_left (Nat.mod_lt _ (Nat.two_pow_pos k)) (Nat.two_pow_pos at')
  have e : turnD at' m (k + 1) = 2 ^ (at' + k) * 1 + turnD at' m k := by
    unfold turnD
    rw [mod_succ, h, Nat.mul_one, Nat.mul_one, Nat.add_mul, Nat.pow_add, Nat.mul_comm (2 ^ k) (2 ^ at'), Nat.add_comm]
  rw [e]
  have h2 := Nat.two_pow_add_eq_or_of_lt hlt 1
  rw [h2, Nat.mul_one]
  apply Nat.eq_of_testBit_eq
  intro i
  rw [Nat.testBit_or, Nat.testBit_xor, Nat.testBit_two_pow]
  by_cases hi : at' + k = i
  · subst hi
    rw [Nat.testBit_lt_two_pow hlt]; simp
  · simp [hi]

/-- The bytes with those bits turned. -/
def turnL (l : List Nat) (D : Nat) : List Nat := xorL l (digits D l.length)
theorem turnL_len (l : List Nat) (D : Nat) : (turnL l D).length = l.length := by simp [turnL, xorL, digits]
theorem turnL_get (l : List Nat) (D j : Nat) (x : Nat) (h : l[j]? = some x) : (turnL l D)[j]? = some (x ^^^ byteAt D j) := by
  have hj := (List.getElem?_eq_some_iff.1 h).1
  unfold turnL xorL
  rw [List.getElem?_zipWith, h, digits_get _ _ _ hj]
theorem turnL_lt (l : List Nat) (D : Nat) (hl : ∀ x ∈ l, x < 256) : ∀ x ∈ turnL l D, x < 256 := by
  intro x hx
  obtain ⟨j, hj⟩ := List.getElem?_of_mem hx
  have hlt : j < l.length := by have := (List.getElem?_eq_some_iff.1 hj).1; rw [turnL_len] at this; exact this
  rw [turnL_get l D j l[j] (List.getElem?_eq_getElem hlt)] at hj
  cases hj
  exact Nat.xor_lt_two_pow (n := 8) (hl _ (List.getElem_mem _)) (Nat.mod_lt _ (by decide))
theorem turnL_zero (l : List Nat) : turnL l 0 = l := by
  apply List.ext_getElem?
  intro j
  cases h : l[j]? with
  | none => rw [List.getElem?_eq_none_iff, turnL_len]; exact List.getElem?_eq_none_iff.1 h
  | some x => rw [turnL_get l 0 j x h]; unfold byteAt; simp
theorem turnL_set (l : List Nat) (D i x : Nat) (hi : i / 8 < l.length) (h : (turnL l D)[i / 8]? = some x) : (turnL l D).set (i / 8) (x ^^^ 2 ^ (i % 8)) = turnL l (D ^^^ 2 ^ i) := by
  apply List.ext_getElem?
  intro j
  rw [List.getElem?_set]
  by_cases hj : j < l.length
  · have hg := List.getElem?_eq_getElem hj
    rw [turnL_get l (D ^^^ 2 ^ i) j _ hg, byteAt_xor, byteAt_pow]
    by_cases e : i / 8 = j
    · subst e
      rw [turnL_get l D _ _ hg] at h
      cases h
      simp [turnL_len, hi, Nat.xor_assoc]
    · rw [if_neg e, if_neg e, Nat.xor_zero]; exact turnL_get l D j _ hg
  · rw [if_neg (by omega)]
    rw [List.getElem?_eq_none (by rw [turnL_len]; omega), List.getElem?_eq_none (by rw [turnL_len]; omega)]
theorem turnL_out (l : List Nat) (D i : Nat) (hi : l.length ≤ i / 8) : turnL l (D ^^^ 2 ^ i) = turnL l D := by
  apply List.ext_getElem?
  intro j
  cases h : l[j]? with
  | none => rw [List.getElem?_eq_none (by rw [turnL_len]; exact List.getElem?_eq_none_iff.1 h), List.getElem?_eq_none (by rw [turnL_len]; exact List.getElem?_eq_none_iff.1 h)]
  | some x =>
    have := (List.getElem?_eq_some_iff.1 h).1
    rw [turnL_get l _ j x h, turnL_get l _ j x h, byteAt_xor, byteAt_pow, if_neg (by omega), Nat.xor_zero]

/-- Turned bytes have the same sum just if they are the same. -/
theorem turn_sum (l : List Nat) (hl : ∀ x ∈ l, x < 256) (at' m : Nat) (hat : at' < 8 * l.length) (hm : m < 4294967296) : (sumL (turnL l (m * 2 ^ at')) = sumL l) ↔ turnL l (m * 2 ^ at') = l := by
  constructor
  · intro h
    have hnum := num_digits (m * 2 ^ at') l.length
    have e256 : (256 : Nat) ^ l.length = 2 ^ at' * 2 ^ (8 * l.length - at') := by
      rw [show (256 : Nat) = 2 ^ 8 from rfl, ← Nat.pow_mul, ← Nat.pow_add]; congr 1; omega
    rw [e256, Nat.mul_comm m, Nat.mul_mod_mul_left] at hnum
    by_cases h0 : m % 2 ^ (8 * l.length - at') = 0
    · have hz : ∀ n D, num (digits D n) = 0 → ∀ x ∈ digits D n, x = 0 := by
        intro n D hn
        have key : ∀ (k : List Nat), num k = 0 → ∀ x ∈ k, x = 0 := by
          intro k
          induction k with
          | nil => intro _ x hx; cases hx
          | cons b k ih =>
            intro h x hx
            have h' : b + 256 * num k = 0 := h
            rcases List.mem_cons.1 hx with rfl | hx
            · omega
            · exact ih (by omega) x hx
        exact key _ hn
      rw [h0, Nat.mul_zero] at hnum
      have hall := hz _ _ hnum
      rw [Nat.mul_comm (2 ^ at')] at hall
      have hd : digits (m * 2 ^ at') l.length = List.replicate l.length 0 := by
        apply List.eq_replicate_iff.2
        exact ⟨digits_len _ _, hall⟩
      unfold turnL
      rw [hd]; exact xor_zeros l
    · have hlt : m % 2 ^ (8 * l.length - at') < 4294967296 := Nat.lt_of_le_of_lt (Nat.mod_le _ _) hm
      rw [Nat.mul_comm (2 ^ at')] at hnum
      exact absurd h (turns_differ l (digits (m * 2 ^ at') l.length) hl (digits_lt _ _) (digits_len _ _).symm at' _ hlt h0 hnum (by omega))
  · intro h; rw [h]
end Go.Proofs.YtocmfdahnekboaaDoor
