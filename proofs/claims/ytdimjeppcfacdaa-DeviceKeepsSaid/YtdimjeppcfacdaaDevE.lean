/- Truncate of package device. -/
import Derived.Test.YtdimjeppcfacdaaDevD
namespace Go.Proofs.Ytdimjeppcfacdaa
open Go.RowKit

theorem Row.cut {W : World} {a : Option Addr} {n c k : Nat} {l : List Nat} (h : Row W (.slice a n c) l) (hk : k ≤ n) : Row W (.slice a k c) (l.take k) := by
  obtain rfl := h.sl.len
  have hlen : (l.take k).length = k := by simp; omega
  rcases h.2 with ⟨e, h0⟩ | ⟨g, cap, cur, e, hg, hh, hn, hm, hs, ht⟩
  · simp only [Value.slice.injEq] at e
    obtain ⟨rfl, e1, rfl⟩ := e
    obtain rfl : k = 0 := by omega
    exact ⟨by simp, .inl ⟨rfl, by simp⟩⟩
  · simp only [Value.slice.injEq] at e
    obtain ⟨rfl, _, rfl⟩ := e
    refine ⟨by simp, .inr ⟨g, c, cur, by rw [hlen], hg, hh, by rw [hlen]; omega, hm, hs, ?_⟩⟩
    rw [hlen, List.map_take, ← ht, List.take_take]
    congr 1; omega
theorem own_cut (a : Option Addr) (n c k : Nat) : (Value.slice a k c).ownBlock = (Value.slice a n c).ownBlock := by cases a <;> rfl
theorem Dev.drew {own : List Nat} {W : World} {b : Nat} {D : DevS} {v0 v1 : Value} (h : Dev own W b D v0 v1) : Dev own W.drew b D v0 v1 := h.but (own2 := []) (But.refl _ _).drew fun _ _ hk => by cases hk
/-- A device behind so many bytes turned. -/
def DevS.turn (D : DevS) (n : Nat) : DevS := { D with down := D.down || decide (D.left < n), left := D.left - doneN n D.left, turned := turnedN D.turned (doneN n D.left) }
theorem turn_ok {D : DevS} (h : D.Ok) (n : Nat) : (D.turn n).Ok := ⟨h.cap, h.l0, h.l1, h.b0, h.b1, by show D.left - _ ≤ _; have := h.lf; omega, Nat.min_le_right _ _⟩
theorem Dev.turned {own : List Nat} {W W' : World} {b : Nat} {D : DevS} {v0 v1 : Value} (h : Dev own W b D v0 v1) (n : Nat) (hb : But [b] W W') (hblk : DevB W' b D.cap v0 v1 (D.down || decide (D.left < n)) (D.left - doneN n D.left) (turnedN D.turned (doneN n D.left))) : Dev own W' b (D.turn n) v0 v1 :=
  h.field hb hblk rfl rfl (turn_ok h.ok n)
theorem turn_r0 (D : DevS) (n : Nat) : (D.turn n).r0 = D.r0 := rfl
theorem turn_r1 (D : DevS) (n : Nat) : (D.turn n).r1 = D.r1 := rfl
theorem turn_cap (D : DevS) (n : Nat) : (D.turn n).cap = D.cap := rfl

set_option maxRecDepth 100000 in
set_option maxHeartbeats 2000000 in
theorem trunc0_any {own : List Nat} {b : Nat} {D : DevS} {v0 v1 : Value} (n : Nat) (hn : n ≤ D.r0.length) (hd : D.down = false) (w : World) (h : Dev own w b D v0 v1) :
    Calls Try.prog 86 #[.pointer (some ⟨b, 0, none⟩), .int .i64 0, .int .i64 n] w fun e w' =>
      e = .returned (.int .i64 (downE (D.r0.length - n) D.left)) ∧ DevTo own w b ((D.turn (D.r0.length - n)).put 0 (D.r0.take (D.r0.length - doneN (D.r0.length - n) D.left))) w' := by
  have c3 := h.blk.c3
  rw [hd] at c3
  have hl := h.ok.l0
  have hcap := h.ok.cap
  have HH := Lib.hid (fun p w => dhas_any p 0 w)
  rw [show regB 0 = true from rfl] at HH
  obtain ⟨a, c, e0, hcc⟩ := h.r0.form
  subst e0
  have cF := h.blk.c1
  have HT := Lib.hid (fun m hm => dturn_any m hm h.ok.lf h.ok.tn w h.blk)
  have HD := Lib.hid h
  clear hd
  obtain ⟨m, hm⟩ : ∃ m, D.r0.length = m := ⟨_, rfl⟩
  have HM := Lib.hid hm
  rw [hm] at hn hl cF hcc HT HD ⊢
  obtain ⟨q, hq⟩ : ∃ q, m - n = q := ⟨_, rfl⟩
  rw [hq]
  have hqI : (m : Int) - (n : Int) = (q : Int) := by omega
  have hle : doneN q D.left ≤ q := Nat.min_le_left _ _
  have hqm : q ≤ m := by omega
  have HTQ := Lib.hid (HT.out q (by omega))
  obtain ⟨k, hk⟩ : ∃ k, doneN q D.left = k := ⟨_, rfl⟩
  rw [hk] at hle HTQ ⊢
  have hkI : (m : Int) - (k : Int) = ((m - k : Nat) : Int) := by omega
  have HFIN : Hid (∀ w1, But [b] w w1 → DevB w1 b D.cap (.slice a m c) v1 (D.down || decide (D.left < q)) (D.left - k) (turnedN D.turned k) → DevTo own w b ((D.turn q).put 0 (D.r0.take (m - k))) (w1.setCell ⟨b, 1, none⟩ (.slice a (m - k) c)).drew) := Lib.hid (by
    intro w1 hb1 hblk
    have hd1 := HD.out.turned q hb1 (by rw [hk]; exact hblk)
    have hrow : Row w1 (.slice a (m - k) c) (D.r0.take (m - k)) := Row.cut hd1.r0 (by omega)
    have hb2 : But own w w1 := hb1.more (fun x hx => by simp at hx; subst hx; exact .inl HD.out.bo)
    refine ⟨own, _, _, (hd1.set0 hrow (fun _ hk => hk) hd1.lt (fun g hg => ?_) (by rw [turn_cap, List.length_take]; omega) (fun x hx => HD.out.ok.b0 x (List.mem_of_mem_take hx))).drew, (hb2.set HD.out.bo _).drew, fun _ hk => .inl hk⟩
    rw [own_cut a m c (m - k)] at hg
    exact hd1.o0 g hg)
  have hfr := h.blk.frozen 1
  clear hq hk HT h hm HD HM
  obtain ⟨mk, hmk⟩ : ∃ mk, m - k = mk := ⟨_, rfl⟩
  rw [hmk] at hkI HFIN ⊢
  have hmk1 : mk ≤ m := by omega
  have hmk2 : mk ≤ c := by omega
  clear hmk
  go_enter Try.func86, Try.ntmps86
  go_wp2_with (first | (go_at_call 94; refine (HH.out _ _).mono ?_; rintro e w' ⟨rfl, rfl⟩) | (go_at_call 119; refine HTQ.out.mono ?_; rintro e w1 ⟨rfl, hblk, hb1, hz1⟩; have cG := hblk.c1; have fG := hblk.frozen 1; have HBK := Lib.hid hblk; have HB1 := Lib.hid hb1; clear hblk hb1 hz1))
  go_region
  all_goals go_wp2
  all_goals go_ret
  all_goals exact ⟨rfl, HFIN.out _ HB1.out HBK.out⟩

set_option maxRecDepth 100000 in
set_option maxHeartbeats 2000000 in
theorem trunc1_any {own : List Nat} {b : Nat} {D : DevS} {v0 v1 : Value} (n : Nat) (hn : n ≤ D.r1.length) (hd : D.down = false) (w : World) (h : Dev own w b D v0 v1) :
    Calls Try.prog 86 #[.pointer (some ⟨b, 0, none⟩), .int .i64 1, .int .i64 n] w fun e w' =>
      e = .returned (.int .i64 (downE (D.r1.length - n) D.left)) ∧ DevTo own w b ((D.turn (D.r1.length - n)).put 1 (D.r1.take (D.r1.length - doneN (D.r1.length - n) D.left))) w' := by
  have c3 := h.blk.c3
  rw [hd] at c3
  have hl := h.ok.l1
  have hcap := h.ok.cap
  have HH := Lib.hid (fun p w => dhas_any p 1 w)
  rw [show regB 1 = true from rfl] at HH
  obtain ⟨a, c, e1, hcc⟩ := h.r1.form
  subst e1
  have cF := h.blk.c2
  have HT := Lib.hid (fun m hm => dturn_any m hm h.ok.lf h.ok.tn w h.blk)
  have HD := Lib.hid h
  clear hd
  obtain ⟨m, hm⟩ : ∃ m, D.r1.length = m := ⟨_, rfl⟩
  have HM := Lib.hid hm
  rw [hm] at hn hl cF hcc HT HD ⊢
  obtain ⟨q, hq⟩ : ∃ q, m - n = q := ⟨_, rfl⟩
  rw [hq]
  have hqI : (m : Int) - (n : Int) = (q : Int) := by omega
  have hle : doneN q D.left ≤ q := Nat.min_le_left _ _
  have hqm : q ≤ m := by omega
  have HTQ := Lib.hid (HT.out q (by omega))
  obtain ⟨k, hk⟩ : ∃ k, doneN q D.left = k := ⟨_, rfl⟩
  rw [hk] at hle HTQ ⊢
  have hkI : (m : Int) - (k : Int) = ((m - k : Nat) : Int) := by omega
  have HFIN : Hid (∀ w1, But [b] w w1 → DevB w1 b D.cap v0 (.slice a m c) (D.down || decide (D.left < q)) (D.left - k) (turnedN D.turned k) → DevTo own w b ((D.turn q).put 1 (D.r1.take (m - k))) (w1.setCell ⟨b, 2, none⟩ (.slice a (m - k) c)).drew) := Lib.hid (by
    intro w1 hb1 hblk
    have hd1 := HD.out.turned q hb1 (by rw [hk]; exact hblk)
    have hrow : Row w1 (.slice a (m - k) c) (D.r1.take (m - k)) := Row.cut hd1.r1 (by omega)
    have hb2 : But own w w1 := hb1.more (fun x hx => by simp at hx; subst hx; exact .inl HD.out.bo)
    refine ⟨own, _, _, (hd1.set1 hrow (fun _ hk => hk) hd1.lt (fun g hg => ?_) (by rw [turn_cap, List.length_take]; omega) (fun x hx => HD.out.ok.b1 x (List.mem_of_mem_take hx))).drew, (hb2.set HD.out.bo _).drew, fun _ hk => .inl hk⟩
    rw [own_cut a m c (m - k)] at hg
    exact ⟨hd1.o1 g hg, fun e => (hd1.o0 g e).2 hg⟩)
  have hfr := h.blk.frozen 2
  clear hq hk HT h hm HD HM
  obtain ⟨mk, hmk⟩ : ∃ mk, m - k = mk := ⟨_, rfl⟩
  rw [hmk] at hkI HFIN ⊢
  have hmk1 : mk ≤ m := by omega
  have hmk2 : mk ≤ c := by omega
  clear hmk
  go_enter Try.func86, Try.ntmps86
  go_wp2_with (first | (go_at_call 94; refine (HH.out _ _).mono ?_; rintro e w' ⟨rfl, rfl⟩) | (go_at_call 119; refine HTQ.out.mono ?_; rintro e w1 ⟨rfl, hblk, hb1, hz1⟩; have cG := hblk.c2; have fG := hblk.frozen 2; have HBK := Lib.hid hblk; have HB1 := Lib.hid hb1; clear hblk hb1 hz1))
  go_region
  all_goals go_wp2
  all_goals go_ret
  all_goals exact ⟨rfl, HFIN.out _ HB1.out HBK.out⟩
end Go.Proofs.Ytdimjeppcfacdaa
