/- The contract of the document's reader of texts. -/
import Derived.Test.YtndbpmhdpjlncaaDoorRefReadM
import Derived.Test.YtndbpmhdpjlncaaDoorRefText
import Derived.Test.YtndbpmhdpjlncaaDoorSetP
namespace Go.Proofs.YtndbpmhdpjlncaaDoor
open Go.RowKit Go.Shelf

theorem idx_at (s : ByteArray) (z : Int) (i : Nat) (c : UInt8) (hz : z = (i : Int)) (hc : s.data.toList[i]? = some c) (w : World) :
    (Instr.index 9 (.string s) (.int .i64 z)).run Tryd.prog w = .ok (.int .u8 (c.toNat : Int)) w := by
  subst hz
  have hlt : i < s.size := by have := (List.getElem?_eq_some_iff.1 hc).1; simpa using this
  rw [run_index_string w 9 s .i64 _ Tryd.underlying9, dif_pos ⟨by omega, by omega⟩]
  have e : ((i : Int)).toNat = i := by omega
  simp only [e]
  have e2 : s[i] = c := by
    have := (List.getElem?_eq_some_iff.1 hc).2
    rw [← this]; simp; rfl
  rw [e2]
theorem valW_lt2 (u : List UInt8) (hd : ∀ c ∈ u, isDig c = true) (hl : u.length ≤ 2) : valW u < 100 ∧ (u.length < 2 → valW u < 10) := by
  have key : ∀ c, isDig c = true → c.toNat - 48 ≤ 9 := by
    intro c h; unfold isDig at h; simp only [Bool.and_eq_true, decide_eq_true_eq] at h; omega
  match u, hd, hl with
  | [], _, _ => exact ⟨by decide, fun _ => by decide⟩
  | [c], hd, _ =>
    have := key c (hd c (by simp))
    have e : valW [c] = c.toNat - 48 := by simp [valW]
    rw [e]; exact ⟨by omega, fun _ => by omega⟩
  | [c, d], hd, _ =>
    have := key c (hd c (by simp))
    have := key d (hd d (by simp))
    have e : valW [c, d] = (c.toNat - 48) * 10 + (d.toNat - 48) := by simp [valW]
    rw [e]; exact ⟨by omega, fun h => by simp at h⟩

/-- What holds between two bytes: the items got, the word begun, how many bytes are read. -/
def InvX (l m : List UInt8) (M : Nat) (w : World) (o n d i : Value) (wr : World) : Prop :=
  ∃ (g : Nat) (pa : Option Addr) (pc : Nat) (z : Int), g < 18446744073709551616 ∧ o = .slice pa (items g).length pc ∧ i = .int .i64 z ∧ wr.ownsRow w.heap.size 3 1 (.slice pa (items g).length pc) (items g).length ((items g).map encI) ∧ Below w.heap.size w wr ∧
    ((∃ (u : List UInt8) (k : Nat), k ≤ M ∧ n = .int .i64 (valW u : Nat) ∧ d = .int .i64 (u.length : Nat) ∧ z = (k : Int) + 1 ∧ (∀ c ∈ u, isDig c = true) ∧ u.length ≤ 2 ∧
        (k = 0 → u = [] ∧ g = 0) ∧ (0 < k → u.length ≠ 0 ∨ (items g).length ≠ 0) ∧ (0 < M → readS l = goOn g (u ++ m.drop k))) ∨
      (z = (M : Int) + 2 ∧ readS l = some g))
theorem word_bad {g : Nat} {u : List UInt8} (hg : g < 18446744073709551616) (hd : ∀ c ∈ u, isDig c = true) (hl : u.length ≤ 2)
    (h : u.length = 0 ∨ 63 < valW u ∨ (u.length = 2 ∧ valW u < 10) ∨ (∃ x, (items g)[(items g).length - 1]? = some x ∧ valW u ≤ x)) : rdStep (some g) u = none := by
  rcases rd_word g u hg hd hl with ⟨_, h1⟩ | ⟨⟨o1, o2, o3, o4⟩, _⟩
  · exact h1
  · rcases h with h | h | h | ⟨x, hx, h⟩
    · exact absurd h o1
    · omega
    · exact absurd h o3
    · have := o4 x hx; omega
theorem word_ok {g : Nat} {u : List UInt8} (hg : g < 18446744073709551616) (hd : ∀ c ∈ u, isDig c = true) (hl : u.length ≤ 2)
    (o1 : u.length ≠ 0) (o2 : valW u ≤ 63) (o3 : ¬ (u.length = 2 ∧ valW u < 10)) (o4 : ∀ x, (items g)[(items g).length - 1]? = some x → x < valW u) :
    ∃ g', rdStep (some g) u = some g' ∧ g' < 18446744073709551616 ∧ items g' = items g ++ [valW u] := by
  rcases rd_word g u hg hd hl with ⟨h, _⟩ | ⟨_, h1⟩
  · exfalso
    rcases h with h | h | h | ⟨x, hx, h⟩
    · exact o1 h
    · omega
    · exact o3 h
    · have := o4 x hx; omega
  · exact h1
theorem drop_at {m : List UInt8} {k : Nat} {c : UInt8} (h : m[k]? = some c) : m.drop k = c :: m.drop (k + 1) := by
  rw [List.drop_eq_getElem_cons (List.getElem?_eq_some_iff.1 h).1, (List.getElem?_eq_some_iff.1 h).2]
theorem ret_two {x a y b : Int} (h1 : x = a) (h2 : y = b) : Ending.returned (.tuple #[.int .u64 x, .int .i64 y]) = .returned (.tuple #[.int .u64 a, .int .i64 b]) := by rw [h1, h2]
theorem u8_ne {c : UInt8} {n : Nat} (hn : n < 256) (h : c ≠ UInt8.ofNat n) : (c.toNat : Int) ≠ (n : Int) := by
  intro e
  apply h
  apply UInt8.toNat_inj.1
  rw [UInt8.toNat_ofNat']
  omega

set_option maxRecDepth 100000 in
set_option maxHeartbeats 1000000 in
theorem refRead_out (s : ByteArray) (w : World) (hm : s.size ≤ 1048576) (hout : ¬ ∃ m, s.data.toList = 123 :: (m ++ [125])) :
    Calls Tryd.prog 26 #[.string s] w fun e w' => e = .returned (.tuple #[.int .u64 0, .int .i64 20]) ∧ Below w.heap.size w w' := by
  have hlen : s.data.toList.length = s.size := by simp
  have HI := Lib.hid (idx_at s)
  obtain ⟨N, hN⟩ : ∃ N, s.size = N := ⟨_, rfl⟩
  rw [hN] at hm
  by_cases h2 : N < 2
  · have h2' : (N : Int) < 2 := by omega
    clear hout hlen HI
    go_enter Tryd.func26, Tryd.ntmps26
    go_wp2
    go_ret2
    exact ⟨rfl, Below.refl _ _⟩
  · have h2' : ¬ (N : Int) < 2 := by omega
    obtain ⟨c0, l1, hl1⟩ : ∃ c0 l1, s.data.toList = c0 :: l1 := by
      cases hl : s.data.toList with
      | nil => rw [hl] at hlen; simp at hlen; omega
      | cons c l1 => exact ⟨c, l1, rfl⟩
    have hi0 : ∀ w, (Instr.index 9 (.string s) (.int .i64 0)).run Tryd.prog w = .ok (.int .u8 (c0.toNat : Int)) w := HI.out 0 0 c0 rfl (by rw [hl1]; rfl)
    by_cases h3 : c0 = 123
    · subst h3
      have hne : l1 ≠ [] := by rintro rfl; rw [hl1] at hlen; simp at hlen; omega
      have hj : s.data.toList[N - 1]? = some (l1.getLast hne) := by
        rw [hl1, show N - 1 = (N - 2) + 1 by omega, List.getElem?_cons_succ, List.getLast_eq_getElem, List.getElem?_eq_getElem (by rw [hl1] at hlen; simp at hlen; omega)]
        congr 1
        have : l1.length - 1 = N - 2 := by rw [hl1] at hlen; simp at hlen; omega
        simp [this]
      have hiN : ∀ w, (Instr.index 9 (.string s) (.int .i64 ((N : Int) - 1))).run Tryd.prog w = .ok (.int .u8 ((l1.getLast hne).toNat : Int)) w := HI.out _ (N - 1) _ (by omega) hj
      have hc : l1.getLast hne ≠ 125 := fun h => hout ⟨l1.dropLast, by rw [hl1, ← h, List.dropLast_concat_getLast]⟩
      have hx : ((l1.getLast hne).toNat : Int) ≠ 125 := u8_ne (n := 125) (by decide) hc
      obtain ⟨x, hxe⟩ : ∃ x : Int, ((l1.getLast hne).toNat : Int) = x := ⟨_, rfl⟩
      rw [hxe] at hx
      simp only [hxe] at hiN
      clear hout hlen HI hj hc hl1 hxe
      have hi0 : ∀ w, (Instr.index 9 (.string s) (.int .i64 0)).run Tryd.prog w = .ok (.int .u8 123) w := hi0
      go_enter Tryd.func26, Tryd.ntmps26
      go_wp2
      go_ret2
      exact ⟨rfl, Below.refl _ _⟩
    · have hx : (c0.toNat : Int) ≠ 123 := u8_ne (n := 123) (by decide) h3
      obtain ⟨x, hxe⟩ : ∃ x : Int, (c0.toNat : Int) = x := ⟨_, rfl⟩
      rw [hxe] at hx
      simp only [hxe] at hi0
      clear hout hlen HI hl1 h3 hxe
      go_enter Tryd.func26, Tryd.ntmps26
      go_wp2
      go_ret2
      exact ⟨rfl, Below.refl _ _⟩

set_option maxRecDepth 100000 in
set_option maxHeartbeats 4000000 in
theorem refRead_in (s : ByteArray) (m : List UInt8) (w : World) (hm : s.size ≤ 1048576) (hin : s.data.toList = 123 :: (m ++ [125])) :
    Calls Tryd.prog 26 #[.string s] w fun e w' => e = .returned (.tuple #[.int .u64 ((readS s.data.toList).getD 0 : Nat), .int .i64 (errN (readS s.data.toList))]) ∧ Below w.heap.size w w' := by
  obtain ⟨i0, hi, hz0, hz1, hz2⟩ := info_parts infoInt
  have hlen : s.data.toList.length = s.size := by simp
  have HI := Lib.hid (idx_at s)
  obtain ⟨N, hN⟩ : ∃ N, s.size = N := ⟨_, rfl⟩
  rw [hN] at hm hlen
  obtain ⟨M, hM⟩ : ∃ M, m.length = M := ⟨_, rfl⟩
  have hNM : N = M + 2 := by rw [hin] at hlen; simp at hlen; omega
  have HNM := Lib.hid hNM
  have h2 : (2 : Int) ≤ (N : Int) := by omega
  have hi0 : ∀ w, (Instr.index 9 (.string s) (.int .i64 0)).run Tryd.prog w = .ok (.int .u8 123) w := HI.out 0 0 123 rfl (by rw [hin]; rfl)
  have hiN : ∀ w, (Instr.index 9 (.string s) (.int .i64 ((N : Int) - 1))).run Tryd.prog w = .ok (.int .u8 125) w := HI.out _ (M + 1) 125 (by omega) (by rw [hin, List.getElem?_cons_succ, List.getElem?_append_right (by omega), hM]; simp)
  have HX : Hid (∀ (k : Nat) (c : UInt8), m[k]? = some c → s.data.toList[k + 1]? = some c) := Lib.hid (fun k c h => by rw [hin, List.getElem?_cons_succ, List.getElem?_append_left (List.getElem?_eq_some_iff.1 h).1, h])
  have HRS : Hid (readS s.data.toList = if m = [] then some 0 else goOn 0 m) := Lib.hid (by rw [hin]; exact readS_in m)
  have HM := Lib.hid hM
  clear hM hin hlen hNM
  go_enter Tryd.func26, Tryd.ntmps26
  go_wp2
  go_loopw [4, 5, 6, 7] (fun o n d i wr => InvX s.data.toList m M w o n d i wr) (fun _ _ _ i _ => N - (intOf i).toNat)
  case atStart =>
    refine ⟨0, _, _, 1, by decide, by rw [items_zero]; rfl, rfl, by rw [items_zero]; exact ownsRow_empty w _, (Below.refl _ _).alloc (Nat.le_refl _) _, .inl ⟨[], 0, by omega, rfl, rfl, by omega, (fun c h => by cases h), by decide, (fun _ => ⟨rfl, rfl⟩), (fun h => by omega), fun h => ?_⟩⟩
    rw [HRS.out, if_neg (by intro h0; have := HM.out; rw [h0] at this; simp at this; omega)]
    rfl
  case round =>
    obtain ⟨g, pa, pc, z, hg, rfl, rfl, hown, hnx, hst⟩ := hrel
    have hGle : (items g).length ≤ 64 := by have := cnt_le g; unfold cnt at this; exact this
    rcases hst with ⟨u, k, hk, rfl, rfl, hz, hd, hul, hk0, hk1, hS⟩ | ⟨hz, hS⟩
    · have HZ := Lib.hid hz
      have hv := valW_lt2 u hd hul
      by_cases hkM : k < M
      · obtain ⟨c, hc⟩ : ∃ c, m[k]? = some c := ⟨m[k]'(by rw [HM.out]; exact hkM), List.getElem?_eq_getElem _⟩
        have hS' : readS s.data.toList = goOn g (u ++ c :: m.drop (k + 1)) := by rw [hS (by omega), drop_at hc]
        have hiz : ∀ w, (Instr.index 9 (.string s) (.int .i64 z)).run Tryd.prog w = .ok (.int .u8 (c.toNat : Int)) w := HI.out z (k + 1) c (by rw [hz]; rfl) (HX.out k c hc)
        have hzN : z < (N : Int) := by have := HNM.out; omega
        have hzz1 : 1 ≤ z := by omega
        have hzl : z < (N : Int) - 1 := by have := HNM.out; omega
        clear hS hz hc
        by_cases hdig : isDig c = true ∧ u.length < 2
        · obtain ⟨hd1, hd2⟩ := hdig
          have hdd := hd1
          unfold isDig at hdd
          simp only [Bool.and_eq_true, decide_eq_true_eq] at hdd
          have HV := Lib.hid (valW_snoc u c)
          have HLu : Hid ((u ++ [c]).length = u.length + 1) := Lib.hid (by simp)
          have HD2 : Hid (∀ x ∈ u ++ [c], isDig x = true) := Lib.hid (fun x hx => by
            rcases List.mem_append.1 hx with h | h
            · exact hd x h
            · rw [List.mem_singleton.1 h]; exact hd1)
          have HSS : Hid (0 < M → readS s.data.toList = goOn g ((u ++ [c]) ++ m.drop (k + 1))) := Lib.hid (fun _ => by rw [List.append_assoc]; exact hS')
          obtain ⟨u', hu'⟩ : ∃ u', u ++ [c] = u' := ⟨_, rfl⟩
          rw [hu'] at HV HLu HD2 HSS
          have hvl := hv.2 hd2
          obtain ⟨L, hL⟩ : ∃ L, u.length = L := ⟨_, rfl⟩
          obtain ⟨V, hV⟩ : ∃ V, valW u = V := ⟨_, rfl⟩
          have hy1 : (48 : Int) ≤ (c.toNat : Int) := by omega
          have hy2 : (c.toNat : Int) ≤ 57 := by omega
          have HV2 : Hid ((valW u' : Int) = (V : Int) * 10 + ((c.toNat : Int) - 48)) := Lib.hid (by rw [HV.out, hV]; omega)
          rw [hL] at HLu hd2 ⊢
          rw [hV] at hvl ⊢
          obtain ⟨y, hy⟩ : ∃ y : Int, (c.toNat : Int) = y := ⟨_, rfl⟩
          rw [hy] at hy1 hy2 HV2
          simp only [hy] at hiz
          clear hdd HV hd hd1 hS' hu' hv hL hV hy hk0 hk1 hul
          have hL2 : (L : Int) < 2 := by omega
          go_wp2
          go_roundw
          case rel => exact ⟨g, pa, pc, _, hg, rfl, rfl, hown, hnx, .inl ⟨u', k + 1, by omega, by rw [HV2.out], by rw [HLu.out]; go_num, by have := HZ.out; omega, HD2.out, by rw [HLu.out]; omega, (fun h => by omega), (fun _ => .inl (by rw [HLu.out]; omega)), HSS.out⟩⟩
          case measure => simp [intOf]; omega
        · by_cases hcom : c = 44
          · subst hcom
            have hiz : ∀ w, (Instr.index 9 (.string s) (.int .i64 z)).run Tryd.prog w = .ok (.int .u8 44) w := hiz
            have HE : Hid (rdStep (some g) u = none → readS s.data.toList = none) := Lib.hid (fun h => by rw [hS', goOn_comma g u _ hd, h]; rfl)
            have HK : Hid (∀ g', rdStep (some g) u = some g' → readS s.data.toList = goOn g' ([] ++ m.drop (k + 1))) := Lib.hid (fun g' h => by rw [hS', goOn_comma g u _ hd, h]; rfl)
            have BAD := Lib.hid (word_bad hg hd hul)
            have OKK := Lib.hid (word_ok hg hd hul)
            have LAST : Hid ((items g).length ≠ 0 → ∃ x, (items g)[(items g).length - 1]? = some x ∧ ∃ b off, pa = some ⟨b, off, none⟩ ∧ wr.cell? ⟨b, off + ((items g).length - 1), none⟩ = some (.int .i64 (x : Nat))) := Lib.hid (fun h => by
              rcases Sl.of_owns (enc := encI) hown with ⟨e, h0⟩ | ⟨b, off, cap, e, _, _, hc⟩
              · rw [h0] at h; exact absurd rfl h
              · have hx : (items g)[(items g).length - 1]? = some ((items g)[(items g).length - 1]'(by omega)) := List.getElem?_eq_getElem _
                simp only [Value.slice.injEq] at e
                exact ⟨_, hx, b, off, e.1, hc _ _ hx⟩)
            have hvl := hv.2
            have hvb := hv.1
            obtain ⟨L, hL⟩ : ∃ L, u.length = L := ⟨_, rfl⟩
            obtain ⟨V, hV⟩ : ∃ V, valW u = V := ⟨_, rfl⟩
            obtain ⟨G, hG⟩ : ∃ G, (items g).length = G := ⟨_, rfl⟩
            rw [hL, hV, hG] at BAD OKK
            rw [hG] at LAST hown hGle
            rw [hL, hV] at hvl
            rw [hV] at hvb
            rw [hL] at hul
            rw [hL, hV, hG]
            have HG := Lib.hid hG
            clear hS' hdig hL hV hG hd hk0 hk1 hv
            rcases (show L = 0 ∨ L = 1 ∨ L = 2 by omega) with rfl | rfl | rfl
            · have HNONE := Lib.hid (HE.out (BAD.out (.inl rfl)))
              clear OKK BAD HE HK LAST hown
              go_wp2
              go_ret2
              exact ⟨by rw [HNONE.out]; rfl, hnx⟩
            · have hv10 : V < 10 := hvl (by omega)
              clear hvl
              cases G with
              | zero =>
                have hnil := List.eq_nil_of_length_eq_zero HG.out
                obtain ⟨g', hg1, hg', hit⟩ := OKK.out (by decide) (by omega) (by omega) (fun x hx => by rw [hnil] at hx; simp at hx)
                have HSOME := Lib.hid (HK.out g' hg1)
                have HIT := Lib.hid hit
                clear hg1 hit OKK BAD HE HK LAST
                go_wp2_with (at_builtin; refine wpList_append_own _ rfl _ _ 27 rfl w.heap.size 3 i0 (.int .i64 0) 1 8 Tryd.underlying27 hi hz0 hz1 hz2 rfl (by decide) _ _ _ rfl (hown.alloc _) ⟨wr.heap.size, 0, none⟩ 1 1 [encI V] rfl rfl ?c1 ?c2 ?c3 ?c4 ?c5 ?_)
                case c1 => exact cell_one_new _ _ _
                case c2 => intro u hu; simp at hu; subst hu; rfl
                case c3 => unfold maxLen; omega
                case c4 => omega
                case c5 => have := hnx.size; simp; omega
                intro v' w1 hown' hgrow _
                have hb1 := below_append hown hnx.size hnx hgrow
                obtain ⟨pa', pc', rfl⟩ := owns_slice hown'
                have R := Lib.hid hown'
                have HGL : Hid ((items g').length = 0 + 1) := Lib.hid (by rw [HIT.out, List.length_append, HG.out]; rfl)
                clear hown' hgrow hown hnx
                go_wp2
                go_roundw
                case rel => exact ⟨g', _, _, _, hg', by rw [HGL.out], rfl, by rw [HGL.out, HIT.out]; simpa [hnil] using R.out, hb1, .inl ⟨[], k + 1, by omega, rfl, rfl, by have := HZ.out; omega, (fun c h => by cases h), by decide, (fun h => by omega), (fun _ => .inr (by rw [HIT.out]; simp)), (fun _ => HSOME.out)⟩⟩
                case measure => simp [intOf]; omega
              | succ J =>
                obtain ⟨x, hx, b, off, hpa, hcell⟩ := LAST.out (by omega)
                rw [Nat.add_sub_cancel] at hcell
                subst hpa
                by_cases hxv : V ≤ x
                · have HNONE := Lib.hid (HE.out (BAD.out (.inr (.inr (.inr ⟨x, hx, hxv⟩)))))
                  clear hx
                  clear OKK BAD HE HK LAST hown
                  go_wp2
                  go_ret2
                  exact ⟨by rw [HNONE.out]; rfl, hnx⟩
                · have hxv : x < V := by omega
                  obtain ⟨g', hg1, hg', hit⟩ := OKK.out (by decide) (by omega) (by omega) (fun y hy => by rw [hx] at hy; cases hy; exact hxv)
                  have HSOME := Lib.hid (HK.out g' hg1)
                  have HIT := Lib.hid hit
                  clear hx hg1 hit OKK BAD HE HK LAST
                  go_wp2_with (at_builtin; refine wpList_append_own _ rfl _ _ 27 rfl w.heap.size 3 i0 (.int .i64 0) 1 8 Tryd.underlying27 hi hz0 hz1 hz2 rfl (by decide) _ _ _ rfl (hown.alloc _) ⟨wr.heap.size, 0, none⟩ 1 1 [encI V] rfl rfl ?c1 ?c2 ?c3 ?c4 ?c5 ?_)
                  case c1 => exact cell_one_new _ _ _
                  case c2 => intro u hu; simp at hu; subst hu; rfl
                  case c3 => unfold maxLen; omega
                  case c4 => omega
                  case c5 => have := hnx.size; simp; omega
                  intro v' w1 hown' hgrow _
                  have hb1 := below_append hown hnx.size hnx hgrow
                  obtain ⟨pa', pc', rfl⟩ := owns_slice hown'
                  have R := Lib.hid hown'
                  have HGL : Hid ((items g').length = (J + 1) + 1) := Lib.hid (by rw [HIT.out, List.length_append, HG.out]; rfl)
                  clear hown' hgrow hown hnx
                  go_wp2
                  go_roundw
                  case rel => exact ⟨g', _, _, _, hg', by rw [HGL.out], rfl, by rw [HGL.out, HIT.out]; simpa using R.out, hb1, .inl ⟨[], k + 1, by omega, rfl, rfl, by have := HZ.out; omega, (fun c h => by cases h), by decide, (fun h => by omega), (fun _ => .inr (by rw [HIT.out]; simp)), (fun _ => HSOME.out)⟩⟩
                  case measure => simp [intOf]; omega
            · clear hvl
              by_cases h63 : 63 < V
              · have HNONE := Lib.hid (HE.out (BAD.out (.inr (.inl h63))))
                clear OKK BAD HE HK LAST hown
                go_wp2
                go_ret2
                exact ⟨by rw [HNONE.out]; rfl, hnx⟩
              · have h63 : V ≤ 63 := by omega
                by_cases h10 : V < 10
                · have HNONE := Lib.hid (HE.out (BAD.out (.inr (.inr (.inl ⟨rfl, h10⟩)))))
                  clear OKK BAD HE HK LAST hown
                  go_wp2
                  go_ret2
                  exact ⟨by rw [HNONE.out]; rfl, hnx⟩
                · have h10 : 10 ≤ V := by omega
                  cases G with
                  | zero =>
                    have hnil := List.eq_nil_of_length_eq_zero HG.out
                    obtain ⟨g', hg1, hg', hit⟩ := OKK.out (by decide) (by omega) (by omega) (fun x hx => by rw [hnil] at hx; simp at hx)
                    have HSOME := Lib.hid (HK.out g' hg1)
                    have HIT := Lib.hid hit
                    clear hg1 hit OKK BAD HE HK LAST
                    go_wp2_with (at_builtin; refine wpList_append_own _ rfl _ _ 27 rfl w.heap.size 3 i0 (.int .i64 0) 1 8 Tryd.underlying27 hi hz0 hz1 hz2 rfl (by decide) _ _ _ rfl (hown.alloc _) ⟨wr.heap.size, 0, none⟩ 1 1 [encI V] rfl rfl ?c1 ?c2 ?c3 ?c4 ?c5 ?_)
                    case c1 => exact cell_one_new _ _ _
                    case c2 => intro u hu; simp at hu; subst hu; rfl
                    case c3 => unfold maxLen; omega
                    case c4 => omega
                    case c5 => have := hnx.size; simp; omega
                    intro v' w1 hown' hgrow _
                    have hb1 := below_append hown hnx.size hnx hgrow
                    obtain ⟨pa', pc', rfl⟩ := owns_slice hown'
                    have R := Lib.hid hown'
                    have HGL : Hid ((items g').length = 0 + 1) := Lib.hid (by rw [HIT.out, List.length_append, HG.out]; rfl)
                    clear hown' hgrow hown hnx
                    go_wp2
                    go_roundw
                    case rel => exact ⟨g', _, _, _, hg', by rw [HGL.out], rfl, by rw [HGL.out, HIT.out]; simpa [hnil] using R.out, hb1, .inl ⟨[], k + 1, by omega, rfl, rfl, by have := HZ.out; omega, (fun c h => by cases h), by decide, (fun h => by omega), (fun _ => .inr (by rw [HIT.out]; simp)), (fun _ => HSOME.out)⟩⟩
                    case measure => simp [intOf]; omega
                  | succ J =>
                    obtain ⟨x, hx, b, off, hpa, hcell⟩ := LAST.out (by omega)
                    rw [Nat.add_sub_cancel] at hcell
                    subst hpa
                    by_cases hxv : V ≤ x
                    · have HNONE := Lib.hid (HE.out (BAD.out (.inr (.inr (.inr ⟨x, hx, hxv⟩)))))
                      clear hx
                      clear OKK BAD HE HK LAST hown
                      go_wp2
                      go_ret2
                      exact ⟨by rw [HNONE.out]; rfl, hnx⟩
                    · have hxv : x < V := by omega
                      obtain ⟨g', hg1, hg', hit⟩ := OKK.out (by decide) (by omega) (by omega) (fun y hy => by rw [hx] at hy; cases hy; exact hxv)
                      have HSOME := Lib.hid (HK.out g' hg1)
                      have HIT := Lib.hid hit
                      clear hx hg1 hit OKK BAD HE HK LAST
                      go_wp2_with (at_builtin; refine wpList_append_own _ rfl _ _ 27 rfl w.heap.size 3 i0 (.int .i64 0) 1 8 Tryd.underlying27 hi hz0 hz1 hz2 rfl (by decide) _ _ _ rfl (hown.alloc _) ⟨wr.heap.size, 0, none⟩ 1 1 [encI V] rfl rfl ?c1 ?c2 ?c3 ?c4 ?c5 ?_)
                      case c1 => exact cell_one_new _ _ _
                      case c2 => intro u hu; simp at hu; subst hu; rfl
                      case c3 => unfold maxLen; omega
                      case c4 => omega
                      case c5 => have := hnx.size; simp; omega
                      intro v' w1 hown' hgrow _
                      have hb1 := below_append hown hnx.size hnx hgrow
                      obtain ⟨pa', pc', rfl⟩ := owns_slice hown'
                      have R := Lib.hid hown'
                      have HGL : Hid ((items g').length = (J + 1) + 1) := Lib.hid (by rw [HIT.out, List.length_append, HG.out]; rfl)
                      clear hown' hgrow hown hnx
                      go_wp2
                      go_roundw
                      case rel => exact ⟨g', _, _, _, hg', by rw [HGL.out], rfl, by rw [HGL.out, HIT.out]; simpa using R.out, hb1, .inl ⟨[], k + 1, by omega, rfl, rfl, by have := HZ.out; omega, (fun c h => by cases h), by decide, (fun h => by omega), (fun _ => .inr (by rw [HIT.out]; simp)), (fun _ => HSOME.out)⟩⟩
                      case measure => simp [intOf]; omega
          · have hbad : isDig c = false ∨ u.length = 2 := by
              cases hdc : isDig c with
              | false => exact .inl rfl
              | true => exact .inr (by have : ¬ u.length < 2 := fun h => hdig ⟨hdc, h⟩; omega)
            have HNONE := Lib.hid (hS'.trans (goOn_bad g u _ c hd hcom hbad))
            have hy44 : (c.toNat : Int) ≠ 44 := u8_ne (n := 44) (by decide) hcom
            have hcase : (c.toNat : Int) < 48 ∨ 57 < (c.toNat : Int) ∨ (48 ≤ (c.toNat : Int) ∧ (c.toNat : Int) ≤ 57 ∧ u.length = 2) := by
              rcases hbad with h | h
              · unfold isDig at h
                simp only [Bool.and_eq_false_iff, decide_eq_false_iff_not] at h
                omega
              · omega
            obtain ⟨L, hL⟩ : ∃ L, u.length = L := ⟨_, rfl⟩
            obtain ⟨V, hV⟩ : ∃ V, valW u = V := ⟨_, rfl⟩
            rw [hL] at hcase ⊢
            rw [hV]
            obtain ⟨y, hy⟩ : ∃ y : Int, (c.toNat : Int) = y := ⟨_, rfl⟩
            rw [hy] at hcase hy44
            simp only [hy] at hiz
            clear hbad hS' hcom hdig hy hd hL hV hv hk0 hk1 hul hown
            obtain ⟨G, hG⟩ : ∃ G, (items g).length = G := ⟨_, rfl⟩
            rw [hG]
            clear hG
            rcases hcase with h | h | ⟨h, h', rfl⟩
            · go_wp2
              go_ret2
              exact ⟨by rw [HNONE.out]; rfl, hnx⟩
            · by_cases h125 : y = 125
              · subst h125
                go_wp2
                go_ret2
                exact ⟨by rw [HNONE.out]; rfl, hnx⟩
              · go_wp2
                go_ret2
                exact ⟨by rw [HNONE.out]; rfl, hnx⟩
            · go_wp2
              go_ret2
              exact ⟨by rw [HNONE.out]; rfl, hnx⟩
      · obtain rfl : k = M := by omega
        have hzN : z = (N : Int) - 1 := by have := HNM.out; omega
        clear hkM hk hz
        subst hzN
        by_cases hM0 : k = 0
        · obtain ⟨rfl, rfl⟩ := hk0 hM0
          have HS := Lib.hid (show readS s.data.toList = some 0 by rw [HRS.out, if_pos (List.eq_nil_of_length_eq_zero (HM.out.trans hM0))])
          rw [show (items 0).length = 0 from by rw [items_zero]; rfl]
          clear hown hS hd hul hk0 hk1 hv
          go_wp2
          go_ret2
          exact ⟨by rw [HS.out]; rfl, hnx⟩
        · have hgl := hk1 (by omega)
          have hS' : readS s.data.toList = rdStep (some g) u := by
            rw [hS (by omega), List.drop_of_length_le (by rw [HM.out]; exact Nat.le_refl _), List.append_nil, goOn_end g u hd]
          have HE : Hid (rdStep (some g) u = none → readS s.data.toList = none) := Lib.hid (fun h => hS'.trans h)
          have HK : Hid (∀ g', rdStep (some g) u = some g' → readS s.data.toList = some g') := Lib.hid (fun g' h => hS'.trans h)
          have BAD := Lib.hid (word_bad hg hd hul)
          have OKK := Lib.hid (word_ok hg hd hul)
          have LAST : Hid ((items g).length ≠ 0 → ∃ x, (items g)[(items g).length - 1]? = some x ∧ ∃ b off, pa = some ⟨b, off, none⟩ ∧ wr.cell? ⟨b, off + ((items g).length - 1), none⟩ = some (.int .i64 (x : Nat))) := Lib.hid (fun h => by
            rcases Sl.of_owns (enc := encI) hown with ⟨e, h0⟩ | ⟨b, off, cap, e, _, _, hc⟩
            · rw [h0] at h; exact absurd rfl h
            · have hx : (items g)[(items g).length - 1]? = some ((items g)[(items g).length - 1]'(by omega)) := List.getElem?_eq_getElem _
              simp only [Value.slice.injEq] at e
              exact ⟨_, hx, b, off, e.1, hc _ _ hx⟩)
          have hvl := hv.2
          have hvb := hv.1
          obtain ⟨L, hL⟩ : ∃ L, u.length = L := ⟨_, rfl⟩
          obtain ⟨V, hV⟩ : ∃ V, valW u = V := ⟨_, rfl⟩
          obtain ⟨G, hG⟩ : ∃ G, (items g).length = G := ⟨_, rfl⟩
          rw [hL, hV, hG] at BAD OKK
          rw [hG] at LAST hown hGle
          rw [hL, hV] at hvl
          rw [hV] at hvb
          rw [hL] at hul
          rw [hL, hV, hG]
          have HG := Lib.hid hG
          rw [hL, hG] at hgl
          clear hS' hL hV hG hd hk0 hk1 hv hS
          rcases (show L = 0 ∨ L = 1 ∨ L = 2 by omega) with rfl | rfl | rfl
          · obtain ⟨J, rfl⟩ : ∃ J, G = J + 1 := ⟨G - 1, by omega⟩
            have HNONE := Lib.hid (HE.out (BAD.out (.inl rfl)))
            clear OKK BAD HE HK LAST hown
            go_wp2
            go_ret2
            exact ⟨by rw [HNONE.out]; rfl, hnx⟩
          · have hv10 : V < 10 := hvl (by omega)
            clear hvl
            cases G with
            | zero =>
              have hnil := List.eq_nil_of_length_eq_zero HG.out
              obtain ⟨g', hg1, hg', hit⟩ := OKK.out (by decide) (by omega) (by omega) (fun x hx => by rw [hnil] at hx; simp at hx)
              have HSOME := Lib.hid (HK.out g' hg1)
              have HIT := Lib.hid hit
              clear hg1 hit OKK BAD HE HK LAST
              go_wp2_with (at_builtin; refine wpList_append_own _ rfl _ _ 27 rfl w.heap.size 3 i0 (.int .i64 0) 1 8 Tryd.underlying27 hi hz0 hz1 hz2 rfl (by decide) _ _ _ rfl (hown.alloc _) ⟨wr.heap.size, 0, none⟩ 1 1 [encI V] rfl rfl ?c1 ?c2 ?c3 ?c4 ?c5 ?_)
              case c1 => exact cell_one_new _ _ _
              case c2 => intro u hu; simp at hu; subst hu; rfl
              case c3 => unfold maxLen; omega
              case c4 => omega
              case c5 => have := hnx.size; simp; omega
              intro v' w1 hown' hgrow _
              have hb1 := below_append hown hnx.size hnx hgrow
              obtain ⟨pa', pc', rfl⟩ := owns_slice hown'
              have R := Lib.hid hown'
              have HGL : Hid ((items g').length = 0 + 1) := Lib.hid (by rw [HIT.out, List.length_append, HG.out]; rfl)
              clear hown' hgrow hown hnx
              go_wp2
              go_roundw
              case rel => exact ⟨g', _, _, _, hg', by rw [HGL.out], rfl, by rw [HGL.out, HIT.out]; simpa [hnil] using R.out, hb1, .inr ⟨by have := HNM.out; omega, HSOME.out⟩⟩
              case measure => simp [intOf]; omega
            | succ J =>
              obtain ⟨x, hx, b, off, hpa, hcell⟩ := LAST.out (by omega)
              rw [Nat.add_sub_cancel] at hcell
              subst hpa
              by_cases hxv : V ≤ x
              · have HNONE := Lib.hid (HE.out (BAD.out (.inr (.inr (.inr ⟨x, hx, hxv⟩)))))
                clear hx
                clear OKK BAD HE HK LAST hown
                go_wp2
                go_ret2
                exact ⟨by rw [HNONE.out]; rfl, hnx⟩
              · have hxv : x < V := by omega
                obtain ⟨g', hg1, hg', hit⟩ := OKK.out (by decide) (by omega) (by omega) (fun y hy => by rw [hx] at hy; cases hy; exact hxv)
                have HSOME := Lib.hid (HK.out g' hg1)
                have HIT := Lib.hid hit
                clear hx hg1 hit OKK BAD HE HK LAST
                go_wp2_with (at_builtin; refine wpList_append_own _ rfl _ _ 27 rfl w.heap.size 3 i0 (.int .i64 0) 1 8 Tryd.underlying27 hi hz0 hz1 hz2 rfl (by decide) _ _ _ rfl (hown.alloc _) ⟨wr.heap.size, 0, none⟩ 1 1 [encI V] rfl rfl ?c1 ?c2 ?c3 ?c4 ?c5 ?_)
                case c1 => exact cell_one_new _ _ _
                case c2 => intro u hu; simp at hu; subst hu; rfl
                case c3 => unfold maxLen; omega
                case c4 => omega
                case c5 => have := hnx.size; simp; omega
                intro v' w1 hown' hgrow _
                have hb1 := below_append hown hnx.size hnx hgrow
                obtain ⟨pa', pc', rfl⟩ := owns_slice hown'
                have R := Lib.hid hown'
                have HGL : Hid ((items g').length = (J + 1) + 1) := Lib.hid (by rw [HIT.out, List.length_append, HG.out]; rfl)
                clear hown' hgrow hown hnx
                go_wp2
                go_roundw
                case rel => exact ⟨g', _, _, _, hg', by rw [HGL.out], rfl, by rw [HGL.out, HIT.out]; simpa using R.out, hb1, .inr ⟨by have := HNM.out; omega, HSOME.out⟩⟩
                case measure => simp [intOf]; omega
          · clear hvl
            by_cases h63 : 63 < V
            · have HNONE := Lib.hid (HE.out (BAD.out (.inr (.inl h63))))
              clear OKK BAD HE HK LAST hown
              go_wp2
              go_ret2
              exact ⟨by rw [HNONE.out]; rfl, hnx⟩
            · have h63 : V ≤ 63 := by omega
              by_cases h10 : V < 10
              · have HNONE := Lib.hid (HE.out (BAD.out (.inr (.inr (.inl ⟨rfl, h10⟩)))))
                clear OKK BAD HE HK LAST hown
                go_wp2
                go_ret2
                exact ⟨by rw [HNONE.out]; rfl, hnx⟩
              · have h10 : 10 ≤ V := by omega
                cases G with
                | zero =>
                  have hnil := List.eq_nil_of_length_eq_zero HG.out
                  obtain ⟨g', hg1, hg', hit⟩ := OKK.out (by decide) (by omega) (by omega) (fun x hx => by rw [hnil] at hx; simp at hx)
                  have HSOME := Lib.hid (HK.out g' hg1)
                  have HIT := Lib.hid hit
                  clear hg1 hit OKK BAD HE HK LAST
                  go_wp2_with (at_builtin; refine wpList_append_own _ rfl _ _ 27 rfl w.heap.size 3 i0 (.int .i64 0) 1 8 Tryd.underlying27 hi hz0 hz1 hz2 rfl (by decide) _ _ _ rfl (hown.alloc _) ⟨wr.heap.size, 0, none⟩ 1 1 [encI V] rfl rfl ?c1 ?c2 ?c3 ?c4 ?c5 ?_)
                  case c1 => exact cell_one_new _ _ _
                  case c2 => intro u hu; simp at hu; subst hu; rfl
                  case c3 => unfold maxLen; omega
                  case c4 => omega
                  case c5 => have := hnx.size; simp; omega
                  intro v' w1 hown' hgrow _
                  have hb1 := below_append hown hnx.size hnx hgrow
                  obtain ⟨pa', pc', rfl⟩ := owns_slice hown'
                  have R := Lib.hid hown'
                  have HGL : Hid ((items g').length = 0 + 1) := Lib.hid (by rw [HIT.out, List.length_append, HG.out]; rfl)
                  clear hown' hgrow hown hnx
                  go_wp2
                  go_roundw
                  case rel => exact ⟨g', _, _, _, hg', by rw [HGL.out], rfl, by rw [HGL.out, HIT.out]; simpa [hnil] using R.out, hb1, .inr ⟨by have := HNM.out; omega, HSOME.out⟩⟩
                  case measure => simp [intOf]; omega
                | succ J =>
                  obtain ⟨x, hx, b, off, hpa, hcell⟩ := LAST.out (by omega)
                  rw [Nat.add_sub_cancel] at hcell
                  subst hpa
                  by_cases hxv : V ≤ x
                  · have HNONE := Lib.hid (HE.out (BAD.out (.inr (.inr (.inr ⟨x, hx, hxv⟩)))))
                    clear hx
                    clear OKK BAD HE HK LAST hown
                    go_wp2
                    go_ret2
                    exact ⟨by rw [HNONE.out]; rfl, hnx⟩
                  · have hxv : x < V := by omega
                    obtain ⟨g', hg1, hg', hit⟩ := OKK.out (by decide) (by omega) (by omega) (fun y hy => by rw [hx] at hy; cases hy; exact hxv)
                    have HSOME := Lib.hid (HK.out g' hg1)
                    have HIT := Lib.hid hit
                    clear hx hg1 hit OKK BAD HE HK LAST
                    go_wp2_with (at_builtin; refine wpList_append_own _ rfl _ _ 27 rfl w.heap.size 3 i0 (.int .i64 0) 1 8 Tryd.underlying27 hi hz0 hz1 hz2 rfl (by decide) _ _ _ rfl (hown.alloc _) ⟨wr.heap.size, 0, none⟩ 1 1 [encI V] rfl rfl ?c1 ?c2 ?c3 ?c4 ?c5 ?_)
                    case c1 => exact cell_one_new _ _ _
                    case c2 => intro u hu; simp at hu; subst hu; rfl
                    case c3 => unfold maxLen; omega
                    case c4 => omega
                    case c5 => have := hnx.size; simp; omega
                    intro v' w1 hown' hgrow _
                    have hb1 := below_append hown hnx.size hnx hgrow
                    obtain ⟨pa', pc', rfl⟩ := owns_slice hown'
                    have R := Lib.hid hown'
                    have HGL : Hid ((items g').length = (J + 1) + 1) := Lib.hid (by rw [HIT.out, List.length_append, HG.out]; rfl)
                    clear hown' hgrow hown hnx
                    go_wp2
                    go_roundw
                    case rel => exact ⟨g', _, _, _, hg', by rw [HGL.out], rfl, by rw [HGL.out, HIT.out]; simpa using R.out, hb1, .inr ⟨by have := HNM.out; omega, HSOME.out⟩⟩
                    case measure => simp [intOf]; omega
    · have HO := Lib.hid (fun W hh => refOf_any pa (items g).length pc ((items g).map (fun x : Nat => (x : Int))) W (by rw [List.length_map]; omega) (fun x hx => by obtain ⟨y, hy, rfl⟩ := List.mem_map.1 hx; have := items_lt hy; omega) hh)
      have hSl := (Sl.map (enc := Value.int .i64) (f := fun x : Nat => (x : Int)) (Sl.of_owns hown))
      have H9 := Lib.hid (HO.out wr hSl)
      rw [ofN_items hg] at H9
      have hzN : z = (N : Int) := by have := HNM.out; omega
      subst hzN
      have HS := Lib.hid hS
      obtain ⟨G, hG⟩ : ∃ G, (items g).length = G := ⟨_, rfl⟩
      rw [hG] at H9 ⊢
      clear HO hSl hown hS hz hG hGle
      go_wp2_with (go_at_call 28; refine H9.out.mono ?_; rintro e w' ⟨rfl, rfl⟩)
      go_ret2
      exact ⟨by rw [HS.out]; rfl, hnx⟩
end Go.Proofs.YtndbpmhdpjlncaaDoor
