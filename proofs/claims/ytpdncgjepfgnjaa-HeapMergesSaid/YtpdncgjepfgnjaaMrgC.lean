/- A merge, as a promise for whatever its caller's invariant is. -/
import Derived.Test.YtpdncgjepfgnjaaMrgB
import Derived.Test.YtpdncgjepfgnjaaMrgN
import Derived.Test.YtpdncgjepfgnjaaRangeG
import Derived.Test.YtpdncgjepfgnjaaRegionRel
import Derived.Sort.LoopGhostIn
namespace Go.Proofs.Ytpdncgjepfgnjaa
open Go.RowKit
set_option linter.unusedVariables false
attribute [local go_sem] Oper.semAt_some

/-- What a merge asks of its caller's invariant: it does not hang on new blocks; the boxes of the order and of the lists that were kept stay; a round leaves what is left without its thing; rounds write the blocks lw alone. -/
structure MergeC {σ : Type} (key : Int × Int → Int) (of Bf Bk B lo hi : Nat) (ka : Option Addr) (kn kc : Nat) (vs0 : List Value) (ls0 : List (List (Int × Int))) (lw : List Nat) (lsOf : σ → List (List (Int × Int))) (I : σ → World → Prop) (Nx : σ → σ → Prop) : Prop where
  keep : ∀ c W W', I c W → Below B W W' → I c W'
  bf : ∀ c W, I c W → W.cell? ⟨Bf, 0, none⟩ = some (.func (.func of) #[] #[])
  bk : ∀ c W, I c W → W.cell? ⟨Bk, 0, none⟩ = some (.slice ka kn kc)
  kept : ∀ c W, I c W → Sl (fun v : Value => v) hi W (.slice ka kn kc) vs0 ∧ LL lo hi W vs0 ls0
  next : ∀ c c', Nx c c' → lsOf c' = nextL key (lsOf c)
  hiB : hi ≤ B
  lw : ∀ k ∈ lw, k < lo ∧ k < B
def JM {σ : Type} (B : Nat) (lw : List Nat) (I : σ → World → Prop) (s : σ × World) (W : World) : Prop := I s.1 W ∧ But (B :: (B + 1) :: lw) s.2 W
def JmM {σ : Type} (key : Int × Int → Int) (B : Nat) (lw : List Nat) (lsOf : σ → List (List (Int × Int))) (I : σ → World → Prop) (s : σ × World) (x : Int × Int) (W : World) : Prop := JM B lw I s W ∧ ∃ j : Nat, bestF key 0 none (lsOf s.1) = some (x, (j : Int))

theorem cell_lt {W : World} {a : Addr} {v : Value} (h : W.cell? a = some v) : a.block < W.heap.size := by
  rcases Nat.lt_or_ge a.block W.heap.size with h' | h'
  · exact h'
  · simp [World.cell?, Array.getElem?_eq_none h'] at h
theorem row_form {W : World} {B e z n : Nat} {v : Value} {xs : List Value} (h : W.ownsRow B e z v n xs) : ∃ a c, v = .slice a n c := by
  rcases h.2 with ⟨rfl, h0⟩ | ⟨g, cap, cur, rfl, _⟩
  · exact ⟨none, 0, by rw [h0]⟩
  · exact ⟨_, _, rfl⟩
/-- The new heap and the new row. -/
theorem MrgM.start {of lo hi b n : Nat} {sv : Value} {vs : List Value} {ls : List (List (Int × Int))} {W W' : World} (hh : HeapP [b] W b (.func (.func of) #[] #[]) (.slice none 0 0) [] 0) (hb : Below W.heap.size W W') (hr : W'.ownsRow W.heap.size 29 1 sv n vs) (hl : LL lo hi W vs ls) (hn : ls.length = n) (h1 : hi ≤ b) (h2 : hi ≤ W.heap.size) : MrgM of lo hi b sv [b] [] ls W' := by
  have hbl := hh.lt b hh.bo
  refine ⟨⟨_, hh.below hb (Nat.le_refl _)⟩, ⟨vs, by rw [hn]; exact own_mono hr h2, hl.below hb h2⟩, fun k hk hk2 => ?_, fun k hk => ?_, Nat.le_trans h2 hb.size⟩
  · simp at hk2
    have := (hr.lt k hk).1
    omega
  · simp at hk; omega

/-- What stays between two things of a merge. -/
structure MI {σ : Type} (key : Int × Int → Int) (of lo hi b N : Nat) (sv : Value) (lsOf : σ → List (List (Int × Int))) (I : σ → World → Prop) (Rd : World → Prop) (c : σ) (own : List Nat) (l : List ((Int × Int) × Int)) (W : World) : Prop where
  inv : I c W
  rd : Rd W
  mem : MrgM of lo hi b sv own l ((lsOf c).map List.tail) W
  hd : Hd key l (lsOf c)
  ge : ∀ k ∈ mown sv own, N ≤ k
  few : (lsOf c).length ≤ 1048576
  short : ∀ xs ∈ lsOf c, xs.length ≤ 1048576
theorem short_set {ls : List (List (Int × Int))} {j m : Nat} {x : Int × Int} {r : List (Int × Int)} (h : ∀ xs ∈ ls, xs.length ≤ m) (hj : ls[j]? = some (x :: r)) : ∀ xs ∈ ls.set j r, xs.length ≤ m := fun xs hx => by
  rcases List.mem_or_eq_of_mem_set hx with hx | rfl
  · exact h xs hx
  · have := h _ (List.mem_of_getElem? hj)
    simp at this; omega
/-- Where the caller's rounds write, the merge's own blocks stay. -/
theorem MrgM.round {of lo hi b B N : Nat} {sv : Value} {own lw : List Nat} {l : List ((Int × Int) × Int)} {ls : List (List (Int × Int))} {W W' : World} (h : MrgM of lo hi b sv own l ls W) (hb : But (B :: (B + 1) :: lw) W W') (hlw : ∀ k ∈ lw, k < lo ∧ k < B) (hiB : hi ≤ B) (hN : B + 2 ≤ N) (hge : ∀ k ∈ mown sv own, N ≤ k) : MrgM of lo hi b sv own l ls W' :=
  h.but hb (fun k hk => by
    rcases List.mem_cons.1 hk with rfl | hk
    · exact ⟨.inr hiB, fun hm => by have := hge _ hm; omega⟩
    · rcases List.mem_cons.1 hk with rfl | hk
      · exact ⟨.inr (by omega), fun hm => by have := hge _ hm; omega⟩
      · obtain ⟨q1, q2⟩ := hlw k hk
        exact ⟨.inl q1, fun hm => by have := hge _ hm; omega⟩)
theorem round_old {B N k : Nat} {lw : List Nat} {W W' : World} (hb : But (B :: (B + 1) :: lw) W W') (hlw : ∀ k ∈ lw, k < B) (hN : B + 2 ≤ N) (h1 : N ≤ k) (h2 : k < W.heap.size) : W'.heap[k]? = W.heap[k]? := hb.block k h2 (fun hk => by
  rcases List.mem_cons.1 hk with rfl | hk
  · omega
  · rcases List.mem_cons.1 hk with rfl | hk
    · omega
    · have := hlw k hk; omega)

set_option maxRecDepth 100000 in
set_option maxHeartbeats 8000000 in
theorem merge1_any {σ : Type} {key : Int × Int → Int} {of Bf Bk B lo hi : Nat} {ka : Option Addr} {kn kc : Nat} {vs0 : List Value} {ls0 : List (List (Int × Int))} {lw : List Nat} {lsOf : σ → List (List (Int × Int))} {I : σ → World → Prop} {Nx : σ → σ → Prop} {Jx : Code → World → Prop} {c0 : σ} {w0 : World} (ho : OrdP of key)
    (hC : MergeC key of Bf Bk B lo hi ka kn kc vs0 ls0 lw lsOf I Nx) (hs0 : lsOf c0 = ls0) (hll : ls0.length ≤ 1048576) (hxl : ∀ xs ∈ ls0, xs.length ≤ 1048576) :
    SeqG Fence.wide 2 Try.prog 56 #[.pointer (some ⟨Bf, 0, none⟩), .pointer (some ⟨Bk, 0, none⟩)] (fun (x : Int × Int) => #[valP x]) B (JM B lw I) (JmM key B lw lsOf I) Jx (fun s s' => Nx s.1 s'.1 ∧ s'.2 = s.2) (fun s _ => bestF key 0 none (lsOf s.1) = none) (c0, w0) := by
  intro l Rd Dn W hRd hDn hRz hDz hR0 hJ0 hY
  have HC := Lib.hid hC
  have HY := Lib.hid hY
  have HR := Lib.hid hRd
  have HZ := Lib.hid hRz
  have HS0 := Lib.hid hs0
  have hBW := hRz W hR0
  have hiB := hC.hiB
  have cf := hC.bf _ _ hJ0.1
  have ck := hC.bk _ _ hJ0.1
  obtain ⟨hK, hLK⟩ := hC.kept _ _ hJ0.1
  have HK := Lib.hid hK
  have HLK := Lib.hid hLK
  have HJ0 := Lib.hid hJ0
  have HR0 := Lib.hid hR0
  have HO := Lib.hid ho
  clear hC hY hRd hRz hDz hs0 hK hLK hJ0 hR0 ho
  refine callsIn_of_wp Try.func56 rfl trivial ?_ rfl
  simp only [Try.ntmps56, List.size_toArray, List.length_cons, List.length_nil, Nat.reduceAdd, Nat.reduceSub, Array.replicate_succ, Array.replicate_zero, List.push_toArray, List.append_toArray, List.nil_append, List.cons_append]
  refine wpIn_wide.2 ?_
  have hfl := cell_lt cf
  have hkl := cell_lt ck
  have HN : Hid (∀ W : World, Calls Try.prog 8 #[.func (.func of) #[] #[]] W fun e w' => e = .returned (.pointer (some ⟨W.heap.size, 0, none⟩)) ∧ HeapP [W.heap.size] w' W.heap.size (.func (.func of) #[] #[]) (.slice none 0 0) [] 0 ∧ Below W.heap.size W w') := Lib.hid (fun W => newP _ W ⟨of, rfl⟩)
  have hkn : vs0.length = kn := by
    rcases HK.out with ⟨rfl, _, _, e, _⟩ | ⟨_, _, _, e, _⟩
    · cases e; rfl
    · cases e; rfl
  have HKN := Lib.hid hkn
  have HCL : Hid (∀ V : World, Below W.heap.size W V → Calls Try.prog 54 #[.slice ka kn kc] V fun e w' => ∃ v', e = .returned v' ∧ w'.ownsRow V.heap.size 29 1 v' kn vs0 ∧ Below V.heap.size V w') := Lib.hid (fun V hV => cloneRows ka kn kc vs0 V HKN.out (by have := HLK.out.len; have := HKN.out; omega) ((HK.out.below (hV.mono (by omega))).mono (by have := hV.size; omega)) HLK.out.form)
  clear hkn
  go_upto_region 0 with fail
  go_region_held3 (fun V => V.cell? ⟨Bf, 0, none⟩ = some (.func (.func of) #[] #[]) ∧ V.cell? ⟨Bk, 0, none⟩ = some (.slice ka kn kc)) (first | go_keep | exact ⟨(hb1.cell (p := ⟨Bf, 0, none⟩) (by simp; omega)).trans cf, (hb1.cell (p := ⟨Bk, 0, none⟩) (by simp; omega)).trans ck⟩ | exact ⟨(hb2.cell (p := ⟨Bf, 0, none⟩) (by have := hb1.size; simp at this ⊢; omega)).trans ((hb1.cell (p := ⟨Bf, 0, none⟩) (by simp; omega)).trans cf), (hb2.cell (p := ⟨Bk, 0, none⟩) (by have := hb1.size; simp at this ⊢; omega)).trans ((hb1.cell (p := ⟨Bk, 0, none⟩) (by simp; omega)).trans ck)⟩) (first | (refine (HN.out _).mono ?_; rintro e w1 ⟨rfl, hH1, hb1⟩) | (refine (HCL.out _ ((Below.refl _ _).drew.trans hb1)).mono ?_; rintro e w2 ⟨sv, rfl, hr2, hb2⟩))
  have hM := MrgM.start (lo := lo) (hi := hi) (n := kn) hH1 hb2 hr2 (HLK.out.below ((Below.refl W.heap.size W).drew.trans hb1) (by omega)) (by rw [← HKN.out, HLK.out.len]) (by simp; omega) (by have := hb1.size; simp at this; omega)
  simp only [World.size_drew] at hM
  have hB2 : Below W.heap.size W w2 := (Below.refl _ _).drew.trans (hb1.trans (hb2.mono (hb1.size)))
  have hgeW : ∀ k ∈ mown sv [W.heap.size], W.heap.size ≤ k := fun k hk => by
    rcases mown_mem.1 hk with e | e
    · have h1 := (hr2.lt k e).1
      have h2 := hb1.size
      simp at h2; omega
    · simp at e; omega
  obtain ⟨sa, sc, rfl⟩ := row_form hr2
  have HM := Lib.hid hM
  have HB2 := Lib.hid hB2
  have HGE := Lib.hid hgeW
  clear hM hB2 hgeW hH1 hb1 hr2 hb2 cf ck hfl hkl HN HCL
  have hlen0 : ls0.length = kn := by rw [← HKN.out, HLK.out.len]
  have HL0 := Lib.hid hlen0
  rw [hlen0] at hll
  have HXL := Lib.hid hxl
  obtain ⟨N, hN⟩ : ∃ N, W.heap.size = N := ⟨_, rfl⟩
  have HNN := Lib.hid hN
  rw [hN] at HM HB2 HGE hBW
  rw [hN]
  clear hlen0 hxl hN
  go_wp2_with fail
  go_loopw [15] (fun i wr => ∃ (k : Nat) (own : List Nat) (l : List ((Int × Int) × Int)), i = .int .i64 k ∧ k ≤ kn ∧ MrgM of lo hi N (.slice sa kn sc) own l (rowAt ls0 k) wr ∧ Hd key l (ls0.take k) ∧ Below N W wr ∧ ∀ j ∈ mown (.slice sa kn sc) own, N ≤ j) (fun i _ => kn - (intOf i).toNat)
  case atStart => exact ⟨0, [N], [], rfl, Nat.zero_le _, by rw [rowAt_zero]; exact HM.out, Hd.nil key, HB2.out, HGE.out⟩
  case round =>
    obtain ⟨k, own, l, rfl, hk, hM, hH, hB, hG⟩ := hrel
    have M := Lib.hid hM
    have HH := Lib.hid hH
    have BB := Lib.hid hB
    have GG := Lib.hid hG
    clear hM hH hB hG
    by_cases hlt : k < kn
    · have hlt0 : k < ls0.length := by rw [HL0.out]; exact hlt
      have HA := Lib.hid (addNext_any HO.out k ls0[k] wr M.out (rowAt_get hlt0) (HXL.out _ (List.getElem_mem hlt0)) (by rw [rowAt_len, HL0.out]; omega) (by have := HH.out.len; simp at this; omega))
      have b2 : decide ((k : Int) < (kn : Int)) = true := decide_eq_true (by omega)
      go_wp2_with (go_at_call 57; refine HA.out.mono ?_; rintro e w5 ⟨rfl, own', h5, hb5, ho5⟩)
      have hge' : ∀ j ∈ mown (.slice sa kn sc) own', N ≤ j := fun j hj => by
        rcases mown_mem.1 hj with e | e
        · exact GG.out j (mown_mem.2 (.inl e))
        · rcases ho5 j e with q | q
          · exact GG.out j (mown_mem.2 (.inr q))
          · have := BB.out.size; have := HNN.out; omega
      rw [rowAt_set hlt0] at h5
      have M5 := Lib.hid h5
      have F5 := Lib.hid (HH.out.fill key hlt0)
      have B5 := Lib.hid (BB.out.trans (hb5.below GG.out (by have := BB.out.size; have := HNN.out; omega)))
      have G5 := Lib.hid hge'
      clear h5 hb5 ho5 hge'
      go_roundw
      case rel => exact ⟨k + 1, own', _, by go_num, by omega, M5.out, F5.out, B5.out, G5.out⟩
      case measure => simp [intOf]; omega
    · obtain rfl : kn = k := by omega
      have hM5 := M.out
      have hH5 := HH.out
      rw [← HL0.out, rowAt_end] at hM5
      rw [← HL0.out, List.take_length] at hH5
      rw [HL0.out] at hM5
      have hMI : MI key of lo hi N N (.slice sa kn sc) lsOf I Rd c0 own l wr := ⟨HC.out.keep _ _ _ HJ0.out.1 (BB.out.mono (by omega)), HR.out W wr ⟨BB.out.block B (by omega), BB.out.block (B + 1) (by omega)⟩ HR0.out, by rw [HS0.out]; exact hM5, by rw [HS0.out]; exact hH5, GG.out, by rw [HS0.out, HL0.out]; omega, by rw [HS0.out]; exact HXL.out⟩
      have HMI := Lib.hid hMI
      have HZN : Hid (N ≤ wr.heap.size) := Lib.hid (by have := BB.out.size; have := HNN.out; omega)
      clear hM5 hH5 hMI M HH BB GG HM HB2 HGE HK HLK HJ0 HR0 HS0
      go_wp2_with fail
      refine (wpIn_wide (n := 2)).1 ?_
      gi_loopg [7, 8] (totL (lsOf c0)) (fun k _ _ wr => ∃ c own l, k = totL (lsOf c) ∧ MI key of lo hi N N (.slice sa kn sc) lsOf I Rd c own l wr ∧ N ≤ wr.heap.size)
      case atStart => exact ⟨c0, own, l, rfl, HMI.out, HZN.out⟩
      case round =>
        obtain ⟨c, own, l, rfl, hMI, hzN⟩ := hrel
        obtain ⟨v, hH⟩ := hMI.mem.heap
        have hP := takeP HO.out (by have := hMI.hd.len; have := hMI.few; omega) wr hH
        rcases hMI.hd.take with ⟨hl0, hb0⟩ | ⟨j, x, r, hlen, hbest, hat, hj, hjl, hnx, hlt2, hHd⟩
        · rw [hl0] at hP
          simp only [List.length_nil, if_true, ne_eq, not_true_eq_false, decide_false] at hP
          unfold valNP at hP
          have HP := Lib.hid hP
          have HMI := Lib.hid hMI
          have HB0 := Lib.hid hb0
          clear hP hMI hH hb0 hl0
          gi_wp2_with fail
          refine ⟨trivial, ?_⟩
          refine (callsIn_wide.2 HP.out).mono ?_
          rintro e w2 ⟨rfl, h2, hb2⟩
          gi_wp2
          refine ⟨fun _ h => (by cases h), ?_⟩
          gi_wp2
          refine bodyPost_ret (results_none rfl _ _ _) rfl ?_
          have hb3 := hb2.alloc (.cells #[.int .i64 0, .int .i64 0, .int .i64 0] 80)
          have hb4 : Below N wr _ := hb3.below (fun k hk => HMI.out.ge k (mown_mem.2 (.inr hk))) hzN
          exact ⟨⟨_, rfl⟩, .inl ⟨HR.out wr _ ⟨hb4.block B (by omega), hb4.block (B + 1) (by omega)⟩ HMI.out.rd, (c, _), HB0.out, HC.out.keep c wr _ HMI.out.inv (hb4.mono (by omega)), But.refl _ _⟩⟩
        · have hne : ¬ l.length = 0 := by omega
          simp only [hne, if_false, ne_eq, not_false_eq_true, decide_true] at hP
          rw [hat] at hP
          unfold valNP at hP
          obtain ⟨x, u⟩ := x
          simp only at hP
          have HP := Lib.hid hP
          have HMI := Lib.hid hMI
          have HHD := Lib.hid hHd
          have HBE := Lib.hid hbest
          have HJ := Lib.hid hj
          have HNX := Lib.hid hnx
          clear hP hMI hH hHd hbest hj hnx hat
          gi_wp2_with fail
          refine ⟨trivial, ?_⟩
          refine (callsIn_wide.2 HP.out).mono ?_
          rintro e w2 ⟨rfl, h2, hb2⟩
          have hb3 := hb2.alloc (.cells #[.int .i64 x, .int .i64 u, .int .i64 j] 80)
          have hb4 : Below N wr (w2.alloc (.cells #[.int .i64 x, .int .i64 u, .int .i64 j] 80)) := hb3.below (fun k hk => HMI.out.ge k (mown_mem.2 (.inr hk))) hzN
          have hM2 := (HMI.out.mem.heap' hb2 h2 (fun k hk => .inl hk)).below ((Below.refl _ _).alloc (Nat.le_refl _) (.cells #[.int .i64 x, .int .i64 u, .int .i64 j] 80))
          have hI2 := HC.out.keep c wr _ HMI.out.inv (hb4.mono (by omega))
          have hR2 := HR.out wr _ ⟨hb4.block B (by omega), hb4.block (B + 1) (by omega)⟩ HMI.out.rd
          have hbx : (w2.alloc (.cells #[.int .i64 x, .int .i64 u, .int .i64 j] 80)).heap[w2.heap.size]? = some (.cells #[.int .i64 x, .int .i64 u, .int .i64 j] 80 (0, 0)) := World.alloc_heap_new w2 _
          have hz2 : w2.heap.size < (w2.alloc (.cells #[.int .i64 x, .int .i64 u, .int .i64 j] 80)).heap.size := by simp
          have hzw2 := hb2.size
          obtain ⟨fn, tmps, assign, body, hy, hRR⟩ := HY.out (c, w2.alloc (.cells #[.int .i64 x, .int .i64 u, .int .i64 j] 80)) (x, u) _ hR2 ⟨⟨hI2, But.refl _ _⟩, j, HBE.out⟩
          unfold valP at hy
          have HRR := Lib.hid hRR
          have HM2 := Lib.hid hM2
          have HBX := Lib.hid hbx
          have HZ2 := Lib.hid hz2
          clear hRR hM2 hbx hI2 hR2 hb4 hb3 h2 hb2 hz2
          gi_wp2_with fail
          refine HRR.out.mono ?_
          rintro e3 W4 (⟨rfl, hR4, s', ⟨hN4, hw4⟩, hI4, hb4⟩ | ⟨rfl, c', hDn4, hJx4⟩)
          · rw [hw4] at hb4
            have hlw := HC.out.lw
            have hM4 := HM2.out.round hb4 hlw hiB hBW HMI.out.ge
            have hx4 := (round_old hb4 (fun k hk => (hlw k hk).2) hBW (k := w2.heap.size) (by omega) HZ2.out).trans HBX.out
            have c4 := cell_of_row W4 _ 2 _ _ _ hx4
            simp at c4
            have hls' := HC.out.next _ _ hN4
            have hsz4 := hb4.size
            have HA := Lib.hid (addNext_any HO.out j r W4 hM4 (map_tail_get HJ.out) (by have := HMI.out.short _ (List.mem_of_getElem? HJ.out); simp at this; omega) (by rw [List.length_map]; exact HMI.out.few) (by have := HMI.out.hd.len; have := HMI.out.few; omega))
            have HR4 := Lib.hid hR4
            have HI4 := Lib.hid hI4
            have HLS := Lib.hid (hls'.trans HNX.out)
            have htot := tot_set (lsOf c) j (x, u) r HJ.out
            rw [← HLS.out] at htot
            have HZ4 : Hid (N ≤ W4.heap.size) := Lib.hid (by simp at hsz4; omega)
            have HTOT := Lib.hid htot
            clear hb4 hM4 hx4 hls' hN4 hw4 hR4 hI4 hlw hsz4 htot hy
            gi_wp2_with fail
            refine ⟨trivial, ?_⟩
            refine (callsIn_wide.2 HA.out).mono ?_
            rintro e w5 ⟨rfl, own', h5, hb5, ho5⟩
            rw [map_tail_set, ← HLS.out] at h5
            have hge' : ∀ i ∈ mown (.slice sa kn sc) own', N ≤ i := fun i hi => by
              rcases mown_mem.1 hi with e | e
              · exact HMI.out.ge i (mown_mem.2 (.inl e))
              · rcases ho5 i e with q | q
                · exact HMI.out.ge i (mown_mem.2 (.inr q))
                · have := HZ4.out; omega
            have hb6 : Below N W4 w5 := hb5.below HMI.out.ge HZ4.out
            have HMI5 : Hid (MI key of lo hi N N (.slice sa kn sc) lsOf I Rd s'.1 own' (addL key (takeL' (ahK key) l) r (j : Int)) w5) := Lib.hid ⟨HC.out.keep _ _ _ HI4.out (hb6.mono (by omega)), HR.out W4 w5 ⟨hb6.block B (by omega), hb6.block (B + 1) (by omega)⟩ HR4.out, h5, by rw [HLS.out]; exact HHD.out, hge', by rw [HLS.out, List.length_set]; exact HMI.out.few, by rw [HLS.out]; exact short_set HMI.out.short HJ.out⟩
            have HZ5 : Hid (N ≤ w5.heap.size) := Lib.hid (Nat.le_trans HZ4.out hb6.size)
            clear h5 hb5 ho5 hge' hb6 HA
            gi_wp2
            gi_roundg (totL (lsOf s'.1))
            case measure => have := HTOT.out; omega
            case rel => exact ⟨s'.1, own', _, rfl, HMI5.out, HZ5.out⟩
          · gi_wp2
            refine bodyPost_ret (results_none rfl _ _ _) rfl ?_
            exact ⟨⟨_, rfl⟩, .inr ⟨c', hDn4, hJx4⟩⟩
end Go.Proofs.Ytpdncgjepfgnjaa
