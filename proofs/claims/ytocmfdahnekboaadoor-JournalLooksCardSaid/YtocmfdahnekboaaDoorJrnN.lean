/- frame.Write: what it hands back is new memory. -/
import Derived.Test.YtocmfdahnekboaaDoorFrameB
import Derived.Test.YtocmfdahnekboaaDoorCodM
import Derived.Test.YtocmfdahnekboaaDoorJrnA
namespace Go.Proofs.YtocmfdahnekboaaDoor
open Go.RowKit SumM
set_option linter.unusedVariables false

set_option maxRecDepth 100000 in
set_option maxHeartbeats 1000000 in
theorem write_new (k : Int) (a : Option Addr) (n c : Nat) (l : List Nat) (hl : Bytes l) (w : World) (hS : Sl encY w.heap.size w (.slice a n c) l) :
    Calls Tryd.prog 31 #[.agg #[.int .i64 k, .slice a n c]] w fun e w' => ∃ v, e = .returned (.tuple #[v, .int .i64 (writeE k l)]) ∧ w'.ownsRow w.heap.size 5 1 v (writeL k l).length ((writeL k l).map encY) ∧ Below w.heap.size w w' := by
  obtain ⟨i0, hi, hz0, hz1, hz2⟩ := info_parts info8
  obtain rfl := hS.len
  by_cases hk1 : k < 1
  · rw [show writeE k l = 1 from if_pos (.inl hk1), show writeL k l = [] from if_neg (by rw [show writeE k l = 1 from if_pos (.inl hk1)]; decide)]
    clear hl hS
    go_enter Tryd.func31, Tryd.ntmps31
    go_wp2
    go_ret2
    exact ⟨_, rfl, World.ownsRow_nil _ _ _ _, (Below.refl _ _).alloc (Nat.le_refl _) _⟩
  · by_cases hk2 : 255 < k
    · rw [show writeE k l = 1 from if_pos (.inr hk2), show writeL k l = [] from if_neg (by rw [show writeE k l = 1 from if_pos (.inr hk2)]; decide)]
      clear hl hS
      go_enter Tryd.func31, Tryd.ntmps31
      go_wp2
      go_ret2
      exact ⟨_, rfl, World.ownsRow_nil _ _ _ _, (Below.refl _ _).alloc (Nat.le_refl _) _⟩
    · have hkk : ¬ (k < 1 ∨ 255 < k) := by omega
      by_cases h4 : 4096 < l.length
      · have e2 : writeE k l = 2 := by unfold writeE; rw [if_neg hkk, if_pos h4]
        rw [e2, show writeL k l = [] from if_neg (by rw [e2]; decide)]
        have hl1 := hl.1
        clear hl hS e2 hkk
        obtain ⟨n, hn⟩ : ∃ n, l.length = n := ⟨_, rfl⟩
        rw [hn] at h4 hl1 ⊢
        clear hn
        go_enter Tryd.func31, Tryd.ntmps31
        go_wp2
        go_ret2
        exact ⟨_, rfl, World.ownsRow_nil _ _ _ _, (Below.refl _ _).alloc (Nat.le_refl _) _⟩
      · have e2 : writeE k l = 0 := by unfold writeE; rw [if_neg hkk, if_neg h4]
        rw [e2, show writeL k l = frameL k.toNat l from if_pos e2]
        clear e2 hkk
        obtain ⟨t, rfl⟩ : ∃ t : Nat, k = (t : Int) := ⟨k.toNat, by omega⟩
        rw [Int.toNat_natCast]
        have HB : Hid (Bytes (headF t l ++ l)) := Lib.hid ⟨by have := hl.1; simp [headF]; omega, by
          intro x hx
          rcases List.mem_append.1 hx with h | h
          · simp [headF] at h; omega
          · exact hl.2 x h⟩
        have HS := Lib.hid hS
        have HL := Lib.hid hl
        have HQ : Hid (∀ (w3 : World), (w3.alloc (.cells #[Value.int .u8 ((l.length : Int) % 256), Value.int .u8 ((l.length : Int) / 256), Value.int .u8 (t : Int)] 5)).ownsRow w3.heap.size 5 1 (.slice (some ⟨w3.heap.size, 0, none⟩) 3 3) 3 ((headF t l).map encY)) :=
          Lib.hid fun w3 => ⟨rfl, .inr ⟨w3.heap.size, 3, _, rfl, Nat.le_refl _, World.alloc_heap_new w3 _, Nat.le_refl _, by decide, rfl, by simp [headF, encY]⟩⟩
        have HF : Hid (frameL t l = sealL (headF t l ++ l)) := Lib.hid rfl
        obtain ⟨hd, hhd⟩ : ∃ hd, headF t l = hd := ⟨_, rfl⟩
        have HHL : Hid (hd.length = 3) := Lib.hid (by rw [← hhd]; rfl)
        rw [hhd] at HQ HB HF
        obtain ⟨n, hn⟩ : ∃ n, l.length = n := ⟨_, rfl⟩
        have HN := Lib.hid hn
        rw [hn] at h4 HS HQ ⊢
        clear hn hl hS hhd
        have c1 : (n : Int) / 256 ≤ 16 := by omega
        have c2 : 0 ≤ (n : Int) / 256 := by omega
        go_enter Tryd.func31, Tryd.ntmps31
        have HW : Below w.heap.size w (w.alloc (.cells #[.int .i64 t, .slice a n c] 66)) := (Below.refl _ _).alloc (Nat.le_refl _) _
        have HQ1 := HQ.out (w.alloc (.cells #[.int .i64 t, .slice a n c] 66))
        rw [World.size_alloc] at HQ1
        have HW2 := HW.alloc HW.size (.cells #[Value.int .u8 ((n : Int) % 256), Value.int .u8 ((n : Int) / 256), Value.int .u8 (t : Int)] 5)
        have HS2 := Lib.hid (HS.out.below HW2)
        have HQ2 := Lib.hid HQ1
        have HX := Lib.hid HW2
        clear HQ1 HW HW2
        go_wp2_with (at_builtin; refine wpList_append_bytes _ rfl (.tmp 28) (.tmp 30) rfl (w.heap.size + 1) _ 3 (hd.map encY) rfl HQ2.out w.heap.size _ l rfl HS2.out (by rw [HN.out]; omega) (by simp) ?_)
        intro v2 w2 hown2 hg2
        have hb2 : Below w.heap.size w w2 := HX.out.grown hg2 HX.out.size (fun j hj => by simp [Value.ownBlock] at hj; omega)
        have hml : 3 + l.length = (hd ++ l).length := by rw [List.length_append, HHL.out]
        rw [← List.map_append, hml] at hown2
        obtain ⟨x, hx⟩ : ∃ x, hd ++ l = x := ⟨_, rfl⟩
        rw [hx] at hown2 HB HF
        have hS2 := Sl.of_owns hown2
        obtain ⟨a2, c2', rfl⟩ := hS2.form
        have HSE := Lib.hid (seal_any _ _ _ x HB.out w2 hS2)
        obtain ⟨m, hm⟩ : ∃ m, x.length = m := ⟨_, rfl⟩
        rw [hm] at HSE
        rw [hm]
        clear hown2 hg2 hS2 hml hx hm
        go_wp2_with (go_at_call 48; refine HSE.out.mono ?_; rintro e w3 ⟨v3, rfl, hown3, hb3⟩)
        have hb03 := hb2.trans (hb3.mono hb2.size)
        have hS3 := row_base hown3 hb2.size
        rw [← HF.out] at hS3
        have H3 := Lib.hid hS3
        clear hown3 hb3 hS3
        go_wp2
        go_ret2
        exact ⟨_, rfl, H3.out, hb03⟩
end Go.Proofs.YtocmfdahnekboaaDoor

/- frame: a body that is read is new memory; the walk over frames tells it. -/
namespace Go.Proofs.YtocmfdahnekboaaDoor
open Go.RowKit Go.Shelf SumM
set_option linter.unusedVariables false
attribute [local go_sem] Oper.semAt_some

/-- What a slice reads lies from a block on, in a block of bytes. -/
def NewAt (n : Nat) (W : World) (sv : Value) : Prop := ∀ ad m c, sv = .slice (some ad) m c → n ≤ ad.block ∧ ∃ cs fr, W.heap[ad.block]? = some (.cells cs 5 fr)
theorem NewAt.nil (n : Nat) (W : World) : NewAt n W (.slice none 0 0) := fun ad m c e => by cases e
theorem NewAt.of {n b off m c : Nat} {W : World} (h : n ≤ b) (h2 : ∃ cs fr, W.heap[b]? = some (.cells cs 5 fr)) : NewAt n W (.slice (some ⟨b, off, none⟩) m c) := fun ad m c e => by cases e; exact ⟨h, h2⟩
theorem NewAt.off {n : Nat} {W : World} {sv : Value} {own : List Nat} (h : NewAt n W sv) (ho : ∀ k ∈ own, k < n) : Off own sv := fun ad m c e _ hk => by
  have := (h ad m c e).1
  have := ho _ hk
  omega
theorem NewAt.le {n m : Nat} {W : World} {sv : Value} (h : NewAt n W sv) (hm : m ≤ n) : NewAt m W sv := fun ad k c e => ⟨Nat.le_trans hm (h ad k c e).1, (h ad k c e).2⟩
theorem NewAt.keep {n : Nat} {W W' : World} {sv : Value} (h : NewAt n W sv) (hk : ∀ (k : Nat) (cs : Array Value) (fr : Nat × Nat), W.heap[k]? = some (Obj.cells cs 5 fr) → W'.heap[k]? = some (Obj.cells cs 5 fr)) : NewAt n W' sv := fun ad m c e => by
  obtain ⟨h1, cs, fr, h2⟩ := h ad m c e
  exact ⟨h1, cs, fr, hk _ _ _ h2⟩
theorem NewAt.below {n : Nat} {W W' : World} {sv : Value} (h : NewAt n W sv) (hb : Below W.heap.size W W') : NewAt n W' sv := h.keep (fun k cs fr hk => (hb.block k (Array.getElem?_eq_some_iff.1 hk).1).trans hk)
theorem NewAt.putO {n l : Nat} {W : World} {sv : Value} {o : Obj} {r : Loop} (h : NewAt n W sv) (hl : W.heap[l]? = some (.loop r)) : NewAt n (W.putObj l o) sv := h.keep (fun k cs fr hk => (World.putObj_heap_other (fun e => by subst e; rw [hl] at hk; cases hk)).trans hk)
/-- It stays as blocks of other things are written. -/
theorem NewAt.but {n : Nat} {own : List Nat} {W W' : World} {sv : Value} (h : NewAt n W sv) (hb : But own W W') (ho : ∀ k ∈ own, ∀ (cs : Array Value) (fr : Nat × Nat), W.heap[k]? ≠ some (Obj.cells cs 5 fr)) : NewAt n W' sv := h.keep (fun k cs fr hk => (hb.block k (Array.getElem?_eq_some_iff.1 hk).1 (fun hm => ho k hm cs fr hk)).trans hk)
theorem NewAt.offT {n : Nat} {own : List Nat} {W : World} {sv : Value} (h : NewAt n W sv) (ho : ∀ k ∈ own, ∀ (cs : Array Value) (fr : Nat × Nat), W.heap[k]? ≠ some (Obj.cells cs 5 fr)) : Off own sv := fun ad m c e _ hk => by
  obtain ⟨_, cs, fr, h2⟩ := h ad m c e
  exact ho _ hk cs fr h2

set_option maxRecDepth 100000 in
set_option maxHeartbeats 1000000 in
theorem sopen_new (a : Option Addr) (n c : Nat) (l : List Nat) (hl : Bytes l) (w : World) (hS : Sl encY w.heap.size w (.slice a n c) l) :
    Calls Tryd.prog 72 #[.slice a n c] w fun e w' => ∃ v, e = .returned (.tuple #[v, .bool (openL l).isSome]) ∧ Sl encY w'.heap.size w' v ((openL l).getD []) ∧ NewAt w.heap.size w' v ∧ Below w.heap.size w w' := by
  obtain rfl := hS.len
  by_cases h4 : l.length < 4
  · rw [show openL l = none from if_pos h4]
    obtain ⟨hl1, _⟩ := hl
    obtain ⟨n, hn⟩ : ∃ n, l.length = n := ⟨_, rfl⟩
    rw [hn] at h4 hl1 ⊢
    clear hn hS
    go_enter Tryd.func72, Tryd.ntmps72
    go_wp2
    go_ret2
    exact ⟨_, rfl, Sl.nil _ _ _, NewAt.nil _ _, Below.refl _ _⟩
  · obtain ⟨b, off, rfl, hb, hcap⟩ : ∃ b off, a = some ⟨b, off, none⟩ ∧ b < w.heap.size ∧ l.length ≤ c := by
      rcases hS with ⟨rfl, _⟩ | ⟨b, off, cap, e, hb, hcap, _⟩
      · simp at h4
      · cases e; exact ⟨b, off, rfl, hb, hcap⟩
    have hT := hS.cut (k := l.length - 4) (by omega) c (by omega)
    have hlt : Bytes (l.take (l.length - 4)) := ⟨by have := hl.1; simp; omega, fun x hx => hl.2 x (List.mem_of_mem_take hx)⟩
    have hlen : (l.take (l.length - 4)).length = l.length - 4 := by simp
    have hop : openL l = if sealL (l.take (l.length - 4)) = l then some (l.take (l.length - 4)) else none := if_neg h4
    obtain ⟨t, ht⟩ : ∃ t, l.take (l.length - 4) = t := ⟨_, rfl⟩
    rw [ht] at hT hlt hlen hop
    have HSE := Lib.hid (seal_any _ _ _ t hlt w hT)
    have HS := Lib.hid hS
    have HO := Lib.hid hop
    have HB := Lib.hid hl
    have hl1 := hl.1
    obtain ⟨n, hn⟩ : ∃ n, l.length = n := ⟨_, rfl⟩
    obtain ⟨m, hm⟩ : ∃ m, n - 4 = m := ⟨_, rfl⟩
    have hnm : n = m + 4 := by omega
    rw [hn] at h4 hlen hcap hl1 HSE HS ⊢
    rw [hm] at hlen HSE
    have hsub : ((n : Int) - 4) = (m : Int) := by omega
    have HM := Lib.hid hnm
    have HTL := Lib.hid hlen
    have HLT := Lib.hid hlt
    have hmc : m ≤ c := by omega
    have hml : m ≤ 1048576 := by omega
    clear ht hop hS hT hlt hl hn hm hnm hlen
    go_enter Tryd.func72, Tryd.ntmps72
    go_wp2_with (go_at_call 48; refine HSE.out.mono ?_; rintro e w1 ⟨v, rfl, hown, hb1⟩)
    have hSv := Sl.of_owns hown
    have hsl : (sealL t).length = m + 4 := by rw [seal_len, HTL.out]
    have hbb : Bytes (sealL t) := ⟨by rw [hsl]; have := HM.out; omega, seal_bytes HLT.out.2⟩
    have hfin : Sl encY w1.heap.size w1 v (sealL t) := hSv
    obtain ⟨g, cap, rfl, hmcap, hgw⟩ : ∃ g cap, v = .slice (some ⟨g, 0, none⟩) (m + 4) cap ∧ m ≤ cap ∧ (w.heap.size ≤ g ∧ ∃ cs fr, w1.heap[g]? = some (.cells cs 5 fr)) := by
      rcases hown.2 with ⟨_, e⟩ | ⟨g, cap, cur, e, hgb, hcur, hn, _⟩
      · rw [hsl] at e; omega
      · rw [hsl] at e hn; exact ⟨g, cap, e, by omega, hgb, cur, _, hcur⟩
    have HST := Lib.hid (HS.out.below hb1)
    have HEQ := Lib.hid (equal_any _ _ _ _ _ _ (sealL t) l hbb HB.out w1 hSv (HST.out.mono hb1.size))
    have hcut := hfin.cut (k := m) (by rw [hsl]; omega) m (Nat.le_refl _)
    rw [show m = t.length from HTL.out.symm, seal_take, HTL.out] at hcut
    have HC := Lib.hid hcut
    have HGW := Lib.hid hgw
    clear hgw
    clear hcut hfin hbb hsl hSv hown
    by_cases heq : sealL t = l
    · rw [show decide (sealL t = l) = true from decide_eq_true heq] at HEQ
      have HR : Hid (openL l = some t) := Lib.hid (by rw [HO.out, if_pos heq])
      clear heq
      go_wp2_with (go_at_call 77; refine HEQ.out.mono ?_; rintro e w' ⟨rfl, rfl⟩)
      go_ret2
      refine ⟨_, by rw [HR.out]; rfl, by rw [HR.out]; exact HC.out, NewAt.of HGW.out.1 HGW.out.2, hb1⟩
    · rw [show decide (sealL t = l) = false from decide_eq_false heq] at HEQ
      have HR : Hid (openL l = none) := Lib.hid (by rw [HO.out, if_neg heq])
      clear heq
      go_wp2_with (go_at_call 77; refine HEQ.out.mono ?_; rintro e w' ⟨rfl, rfl⟩)
      go_ret2
      exact ⟨_, by rw [HR.out]; rfl, by rw [HR.out]; exact Sl.nil _ _ _, NewAt.nil _ _, hb1⟩

theorem ty_set2 {W : World} {b b2 : Nat} {u v : Value} (h : ∃ cs fr, W.heap[b2]? = some (.cells cs 5 fr)) (hne : b2 ≠ b) : ∃ cs fr, ((W.setCell ⟨b, 0, none⟩ u).setCell ⟨b, 1, none⟩ v).heap[b2]? = some (.cells cs 5 fr) := by
  obtain ⟨cs, fr, h⟩ := h
  exact ⟨cs, fr, (Below.heap_setCell _ ⟨b, 1, none⟩ _ _ hne).trans ((Below.heap_setCell _ ⟨b, 0, none⟩ _ _ hne).trans h)⟩
def ReadToN (w : World) (l : List Nat) (e : Ending) (w' : World) : Prop :=
  ∃ v, e = .returned (.tuple #[.agg #[.int .i64 (readK l), v], .int .i64 (readN l), .int .i64 (readE l)]) ∧ Sl encY w'.heap.size w' v (readB l) ∧ NewAt w.heap.size w' v ∧ Below w.heap.size w w'

set_option maxRecDepth 100000 in
set_option maxHeartbeats 2000000 in
theorem read_goodN (b off c : Nat) (l : List Nat) (hl : Bytes l) (w : World) (hS : Sl encY w.heap.size w (.slice (some ⟨b, off, none⟩) l.length c) l) (h : 2 ≤ l.length) (h2 : ¬ 4096 < lenOf l) (h3 : ¬ l.length < lenOf l + 7) (h4 : openL (l.take (lenOf l + 7)) = some (l.take (lenOf l + 3))) (h5 : l.getD 2 0 ≠ 0) :
    Calls Tryd.prog 62 #[.slice (some ⟨b, off, none⟩) l.length c] w (ReadToN w l) := by
  have hz := zframe
  have HE : Hid (readE l = 0) := Lib.hid (by unfold readE; rw [if_neg (by omega), if_neg h2, if_neg h3, if_neg (by rw [h4]; simp), if_neg h5])
  have HEN : Hid (readN l = lenOf l + 7) := Lib.hid (by unfold readN; rw [if_pos HE.out])
  have HEK : Hid (readK l = l.getD 2 0) := Lib.hid (by unfold readK; rw [if_pos HE.out])
  have HEB : Hid (readB l = (l.take (lenOf l + 3)).drop 3) := Lib.hid (by unfold readB; rw [if_pos HE.out])
  obtain ⟨x, hx⟩ : ∃ x, l[0]? = some x := ⟨_, List.getElem?_eq_getElem (by omega)⟩
  obtain ⟨y, hy⟩ : ∃ y, l[1]? = some y := ⟨_, List.getElem?_eq_getElem (by omega)⟩
  have hxb := hl.2 x (List.mem_of_getElem? hx)
  have hyb := hl.2 y (List.mem_of_getElem? hy)
  obtain ⟨b0, o0, e0, hb0, hc0⟩ := hS.at_ hx
  obtain ⟨b1, o1, e1, hb1, hc1⟩ := hS.at_ hy
  cases e0; cases e1
  have hor := i64_or_nat x y hxb hyb
  have k0 : w.cell? ⟨b, off, none⟩ = some (.int .u8 (x : Int)) := hc0
  have k1 : w.cell? ⟨b, off + 1, none⟩ = some (.int .u8 (y : Int)) := hc1
  have hle : lenOf l = x + 256 * y := by unfold lenOf; simp [List.getD, hx, hy]
  obtain ⟨q, hq⟩ : ∃ q, lenOf l = q := ⟨_, rfl⟩
  rw [← hle, hq] at hor
  rw [hq] at h2
  obtain ⟨s, hs⟩ : ∃ s, q + 7 = s := ⟨_, rfl⟩
  rw [hq, hs] at h3
  have LN : s ≤ l.length := by omega
  have HSS := Lib.hid hs
  have hs7 : 7 ≤ s := by omega
  have htk := hS.cut (k := s) LN s (Nat.le_refl _)
  have htb : Bytes (l.take s) := ⟨by have := hl.1; simp; omega, fun z hz => hl.2 z (List.mem_of_mem_take hz)⟩
  have hop : openL (l.take s) = some (l.take (lenOf l + 3)) := by rw [← hs, ← hq]; exact h4
  clear h4
  rw [hq] at hop HEB HEN
  rw [hs] at HEN
  obtain ⟨z, hz2⟩ : ∃ z, l[2]? = some z := ⟨_, List.getElem?_eq_getElem (by omega)⟩
  have hzb := hl.2 z (List.mem_of_getElem? hz2)
  have h5' : l.getD 2 0 = z := by simp [List.getD, hz2]
  rw [h5'] at h5 HEK
  clear h5'
  have hz3 : (l.take (q + 3))[2]? = some z := by rw [List.getElem?_take, if_pos (by omega)]; exact hz2
  have hlt3 : (l.take (q + 3)).length = q + 3 := by rw [List.length_take]; omega
  have HZ := Lib.hid hz3
  have HL3 := Lib.hid hlt3
  clear hz2 hz3 hlt3
  have hz0 : ((z : Int) == 0) = false := beq_eq_false_iff_ne.2 (by omega)
  have HTK := Lib.hid (fun (W : World) (hb : Below w.heap.size w W) => sopen_new _ s s (l.take s) htb W ((htk.below hb).mono hb.size))
  rw [hop] at HTK
  clear htk htb hs hop

  have hl1 := hl.1
  have hcap := hS.capb
  obtain ⟨n, hn⟩ : ∃ n, l.length = n := ⟨_, rfl⟩
  rw [hn] at h hl1 hcap LN ⊢
  have g0 : 0 < n := by omega
  have g1 : (1 : Int) < n := by omega
  have g2 : (0 : Int) < n := by omega
  have g3 : 1 < n := by omega
  clear hn hS hx hy hl hle hq hc0 hc1
  go_enter Tryd.func62, Tryd.ntmps62
  go_wp2
  go_quiet (fail)
  have hR : (((frameNew w).drewN nq)).heap[w.heap.size]? = some (.cells #[.int .i64 0, .slice none 0 0] 66 (0, 0)) := frameNew_at w
  have hBW : Below w.heap.size w ((frameNew w).drewN nq) := Below.drewN_r (frameNew_below w) nq
  have HR := Lib.hid hR
  go_upto_region 12 with (first | (go_at_call 29; refine (weight_nat q s (by omega) HSS.out _).mono ?_; rintro e w' ⟨rfl, rfl⟩) | (go_at_call 72; refine (HTK.out _ hBW).mono ?_; rintro e w2 ⟨v2, rfl, hS2, hf2, hb2⟩; have H2 := Lib.hid hS2; have HF2 := Lib.hid hf2; clear hS2 hf2))
  have hR2 := (hb2.block w.heap.size (Array.getElem?_eq_some_iff.1 HR.out).1).trans HR.out
  have hB2 := hBW.trans (hb2.mono hBW.size)
  have hS2 : Sl encY w2.heap.size w2 v2 (l.take (q + 3)) := H2.out
  obtain ⟨b2, o2, c2, rfl, hc2, hcc2⟩ : ∃ b2 o2 c2, v2 = .slice (some ⟨b2, o2, none⟩) (q + 3) c2 ∧ w2.cell? ⟨b2, o2 + 2, none⟩ = some (.int .u8 (z : Int)) ∧ q + 3 ≤ c2 := by
    obtain ⟨a, c, rfl⟩ := hS2.form
    rw [HL3.out] at hS2 ⊢
    obtain ⟨b2, o2, rfl, _, hcz⟩ := hS2.at_ HZ.out
    exact ⟨b2, o2, c, rfl, hcz, hS2.capb⟩
  have HS2 := Lib.hid hS2
  have HNB : Hid (w.heap.size ≤ b2 ∧ ∃ cs fr, w2.heap[b2]? = some (.cells cs 5 fr)) := Lib.hid ⟨Nat.le_trans hBW.size (HF2.out _ _ _ rfl).1, (HF2.out _ _ _ rfl).2⟩
  clear HF2
  have HR2 := Lib.hid hR2
  obtain ⟨f1, f2, f3, f4⟩ := cell2 hR2
  obtain ⟨t, ht⟩ : ∃ t, q + 3 = t := ⟨_, rfl⟩
  rw [ht] at hcc2 HS2 ⊢
  have u1 : 2 < t := by omega
  have u2 : (2 : Int) < t := by omega
  clear hS2 hR2 H2 HTK hR
  have hdr : ∀ m, (l.take t).drop 3 = m → m = readB l := by rintro m rfl; rw [HEB.out, ht]
  have HTL := Lib.hid ht
  have hti : (3 : Int) ≤ t := by omega
  have htn : 3 ≤ t := by omega
  have hne : b2 ≠ w.heap.size := by
    rintro rfl
    have h9 := HR2.out
    simp [World.cell?, h9] at hc2
  by_cases hc3 : 3 = c2
  · have htc : t = 3 := by omega
    subst htc
    subst hc3
    go_wp2
    refine bodyPost_ret (frame_res _ _ w.heap.size _ _ _ _ (0, 0) rfl rfl rfl (heap_set2 HR2.out)) rfl ⟨_, by rw [HE.out, HEN.out, HEK.out]; rfl, ?_, NewAt.of HNB.out.1 (ty_set2 HNB.out.2 hne), below_set2 hB2 (Nat.le_refl _)⟩
    rw [← hdr _ rfl]
    exact .inl ⟨by simp, some ⟨b2, o2, none⟩, 0, rfl, fun h => by cases h⟩
  · have hc3' : 3 < c2 := by omega
    go_wp2
    refine bodyPost_ret (frame_res _ _ w.heap.size _ _ _ _ (0, 0) rfl rfl rfl (heap_set2 HR2.out)) rfl ⟨_, by rw [HE.out, HEN.out, HEK.out]; rfl, ?_, NewAt.of HNB.out.1 (ty_set2 HNB.out.2 hne), below_set2 hB2 (Nat.le_refl _)⟩
    rw [← hdr _ rfl]
    have h9 := HS2.out.from_ htn
    have h8 := (h9.set hne (j := 0) (.int .i64 (z : Int))).set hne (j := 1) (.slice (some ⟨b2, o2 + 3, none⟩) (t - 3) (c2 - 3))
    simpa using h8

theorem read_goN (a : Option Addr) (n c : Nat) (l : List Nat) (hl : Bytes l) (k s : Nat) (b : List Nat) (ht : readE l = 0) (hk : readK l = k) (hs : readN l = s) (hb : readB l = b) (w : World) (hS : Sl encY w.heap.size w (.slice a n c) l) :
    Calls Tryd.prog 62 #[.slice a n c] w fun e w' => ∃ v, e = .returned (.tuple #[.agg #[.int .i64 k, v], .int .i64 s, .int .i64 0]) ∧ Sl encY w'.heap.size w' v b ∧ NewAt w.heap.size w' v ∧ Below w.heap.size w w' := by
  obtain ⟨z1, z2, z3, z4, z5⟩ := readE_zero ht
  obtain rfl := hS.len
  obtain ⟨b0, off, rfl⟩ : ∃ b off, a = some ⟨b, off, none⟩ := by
    rcases hS with ⟨rfl, _⟩ | ⟨b, off, cap, e, _⟩
    · simp at z1
    · cases e; exact ⟨b, off, rfl⟩
  refine (read_goodN b0 off c l hl w hS z1 (by omega) (by omega) z4 z5).mono ?_
  rintro e w' ⟨v, rfl, h1, h2, h3⟩
  rw [hb] at h1
  exact ⟨v, by rw [hk, hs, ht]; rfl, h1, h2, h3⟩
def RyN (n0 : Nat) (x : FX) (W : World) : Prop := Sl encY W.heap.size W x.2 x.1.2.2 ∧ NewAt n0 W x.2

set_option maxRecDepth 100000 in
set_option maxHeartbeats 4000000 in
theorem frames1N (Bs n0 : Nat) (bs : List Nat) (L : List Nat) (hL : Bytes L) (a : Option Addr) (N c : Nat) (w : World) (hn0 : n0 ≤ w.heap.size) (hbs : ∀ k ∈ bs, k < w.heap.size) (hBs : Kept n0 bs Bs) (hv : KeptV n0 bs (.slice a N c))
    (hc : w.cell? ⟨Bs, 0, none⟩ = some (.slice a N c)) (hS : Sl encY w.heap.size w (.slice a N c) L) :
    SeqR Fence.wide 2 Tryd.prog 61 #[.pointer (some ⟨Bs, 0, none⟩)] encF n0 0 bs (fun ys => ys.map Prod.fst = scanL L 0) (fun pre => pre.map Prod.fst <+: scanL L 0) (RyN w.heap.size) w := fun l J Jx W hW hJ hJx _ _ hY h0 => by
  have hz : ∀ (w : World), (zeroValue 66).run Tryd.prog w = .ok (.agg #[.int .i64 0, .slice none 0 0]) w := zframe
  have hBsl : Bs < w.heap.size := by
    rcases hBs with h | h
    · omega
    · exact hbs _ h
  have hwW := hW.size
  have hcW := (hW.cell (p := ⟨Bs, 0, none⟩) hBsl).trans hc
  have hSW := (hS.below hW).mono hW.size
  have HS := Lib.hid hSW
  obtain rfl := hSW.len
  have HC := Lib.hid hcW
  have HL := Lib.hid hL
  have HY := Lib.hid hY
  have hn0W : n0 ≤ W.heap.size := Nat.le_trans hn0 hW.size
  have hbsW : ∀ k ∈ bs, k < W.heap.size := fun k hk => Nat.lt_of_lt_of_le (hbs k hk) hW.size
  have HBW := Lib.hid hbsW
  have HKV := Lib.hid hv
  have HKB := Lib.hid hBs
  have hL1 := hL.1
  clear hc hS hSW hcW hY hbs hbsW hv hBs hL
  refine callsIn_of_wp Tryd.func61 rfl trivial ?_ rfl
  simp only [Tryd.ntmps61, List.size_toArray, List.length_cons, List.length_nil, Nat.reduceAdd, Nat.reduceSub, Array.replicate_succ, Array.replicate_zero, List.push_toArray, List.append_toArray, List.nil_append, List.cons_append]
  obtain ⟨M, hM⟩ : ∃ M, L.length = M := ⟨_, rfl⟩
  have HM := Lib.hid hM
  rw [hM] at HS HC hL1 HKV
  clear hM
  gi_wp2
  gi_loopw [3] (fun x wr => ∃ (pre : List FX) (p : Nat), x = .int .i64 p ∧ p ≤ M ∧ pre.map Prod.fst ++ scanL L p = scanL L 0 ∧ J pre wr ∧ Stay n0 bs W wr)
    (fun x _ => M - (intOf x).toNat)
  case atStart => exact ⟨[], 0, rfl, Nat.zero_le _, rfl, h0, Stay.refl _ _ _⟩
  case round =>
    obtain ⟨pre, p, rfl, hp, hpre, hj, hst⟩ := hrel
    have hcr : wr.cell? ⟨Bs, 0, none⟩ = some (.slice a M c) := (World.cell?_of_block (hst.at_ HKB.out)).trans HC.out
    have hSr := hst.sl HKV.out HS.out
    by_cases hlt : p < M
    · have hlt' : p < L.length := by rw [HM.out]; exact hlt
      obtain ⟨b, off, rfl⟩ : ∃ b off, a = some ⟨b, off, none⟩ := by
        rcases hSr with ⟨e0, _⟩ | ⟨b, off, cap, e, _⟩
        · rw [e0] at hlt'; simp at hlt'
        · cases e; exact ⟨_, _, rfl⟩
      have hSd := hSr.drop hlt
      have hBd : Bytes (L.drop p) := ⟨by rw [List.length_drop]; have := HL.out.1; omega, fun x hx => HL.out.2 x (List.mem_of_mem_drop hx)⟩
      have hcap := hSr.capb
      have hpi : (p : Int) < M := by omega
      have hp0 : (0 : Int) ≤ p := by omega
      have hpc : p < c := by omega
      have hzr : n0 ≤ wr.heap.size := Nat.le_trans hn0W hst.1.size
      have hbr : ∀ k ∈ bs, k < wr.heap.size := fun k hk => Nat.lt_of_lt_of_le (HBW.out k hk) hst.1.size
      obtain ⟨t, ht⟩ : ∃ t, readE (L.drop p) = t := ⟨_, rfl⟩
      by_cases ht0 : t = 0
      · subst ht0
        have hstep := step_le hlt' ht
        have hsc := scanL_step hlt' ht
        obtain ⟨k, hk⟩ : ∃ k, readK (L.drop p) = k := ⟨_, rfl⟩
        obtain ⟨s, hs⟩ : ∃ s, readN (L.drop p) = s := ⟨_, rfl⟩
        obtain ⟨bd, hbd⟩ : ∃ bd, readB (L.drop p) = bd := ⟨_, rfl⟩
        rw [hk, hs, hbd] at hsc
        rw [hs, HM.out] at hstep
        have HRD := Lib.hid (callsIn_wide.2 (read_goN (some ⟨b, off + p, none⟩) (M - p) (c - p) (L.drop p) hBd k s bd ht hk hs hbd wr hSd) : CallsIn Fence.wide 1 _ _ _ _ _)
        have HPR := Lib.hid hpre
        have HSC := Lib.hid hsc
        have HST := Lib.hid hst
        have HBR := Lib.hid hbr
        obtain ⟨hs1, hs2⟩ := hstep
        have HPX : Hid (∀ v, (pre ++ [((p, k, bd), v)]).map Prod.fst <+: scanL L 0) := Lib.hid (fun v => ⟨scanL L (p + s), by rw [← hpre, hsc, List.map_append, List.append_assoc]; rfl⟩)
        have HRND := Lib.hid (fun (w2 : World) (v : Value) (hSv : Sl encY w2.heap.size w2 v bd) (hfv : NewAt wr.heap.size w2 v) (hb2 : Below wr.heap.size wr w2) => HY.out pre ((p, k, bd), v) (w2.alloc (.cells #[.int .i64 k, v] 66)) (hJ.alloc _ (hJ pre wr w2 none hj (grown_of_below hb2) (fun r e => by cases e))) (HPX.out v) (by have := hst.1.size; have := hb2.size; simp; omega)
          ⟨show Sl encY _ _ v bd from (hSv.below ((Below.refl _ w2).alloc (Nat.le_refl _) _)).mono (by simp), (hfv.le (Nat.le_trans hwW hst.1.size)).below ((Below.refl _ w2).alloc (Nat.le_refl _) _)⟩)
        clear hpre hsc hst hbr hSd hBd hSr ht hk hs hbd
        gi_wp2_with (refine ⟨trivial, ?_⟩; gi_at_call 62; refine HRD.out.mono ?_; rintro e w2 ⟨v, rfl, hSv, hfv, hb2⟩; obtain ⟨va, vc, rfl⟩ := hSv.form; obtain ⟨fn, tmps, assign, body, hy, hR⟩ := HRND.out w2 _ hSv hfv hb2; clear hfv; dsimp only [encF] at hy; have HR := Lib.hid hR; have HSV := Lib.hid hSv; clear hSv hR)
        refine HR.out.mono ?_
        rintro e W4 ⟨hK4, ⟨rfl, hj4, hb4, _, hk4⟩ | ⟨rfl, hjx4⟩⟩
        · have hst4 : Stay n0 bs W W4 := (HST.out.below (hb2.trans ((Below.refl _ w2).alloc hb2.size (.cells #[.int .i64 k, .slice va bd.length vc] 66))) hzr HBR.out).trans ⟨hb4, hk4⟩
          have HST4 := Lib.hid hst4
          clear hst4 hk4 hb4 hK4
          gi_wp2
          go_roundw
          case rel => exact ⟨pre ++ [((p, k, bd), .slice va bd.length vc)], p + s, by go_num, hs1, by rw [List.map_append, List.append_assoc]; rw [HSC.out] at HPR; exact HPR.out, hj4, HST4.out⟩
          case measure => simp [intOf]; omega
        · gi_wp2
          refine bodyPost_ret (results_none rfl _ _ _) rfl ?_
          exact ⟨⟨_, rfl⟩, .inr ⟨_, HPX.out _, hjx4⟩⟩
      · have hrd : CallsIn Fence.wide 1 Tryd.prog 62 _ _ _ := callsIn_wide.2 (read_stop (some ⟨b, off + p, none⟩) (M - p) (c - p) (L.drop p) hBd t ht ht0 wr hSd)
        have HRD := Lib.hid hrd
        clear hrd
        have hsc := scanL_bad (l := L) (a := p) (by rw [ht]; exact ht0)
        have htt : ((t : Int) != 0) = true := by rw [bne_iff_ne]; omega
        have HSC := Lib.hid hsc
        have HPR := Lib.hid hpre
        clear hpre hsc hst hbr hSd hBd hSr ht ht0
        gi_wp2_with fail
        refine ⟨trivial, ?_⟩
        refine HRD.out.mono ?_
        rintro e w2 ⟨v, rfl, hSv, hb2⟩
        obtain ⟨va, vc, rfl⟩ := hSv.form
        have hj2 := (hJ.alloc (.cells #[.int .i64 0, .slice va 0 vc] 66) (hJ pre wr w2 none hj (grown_of_below hb2) (fun r e => by cases e)))
        clear hSv
        rw [show ([] : List Nat).length = 0 from rfl]
        gi_wp2
        refine ⟨fun _ h => (by cases h), ?_⟩
        gi_wp2
        refine bodyPost_ret (results_none rfl _ _ _) rfl ?_
        exact ⟨⟨_, rfl⟩, .inl ⟨pre, by rw [← HPR.out, HSC.out, List.append_nil], hj2⟩⟩
    · obtain rfl : p = M := by omega
      have HSC : Hid (scanL L p = []) := Lib.hid (scanL_end (by rw [HM.out]; exact Nat.le_refl _))
      have HPR := Lib.hid hpre
      clear hpre hst hSr
      gi_wp2
      go_end0
      exact ⟨⟨_, rfl⟩, .inl ⟨pre, by rw [← HPR.out, HSC.out, List.append_nil], hj⟩⟩
end Go.Proofs.YtocmfdahnekboaaDoor
