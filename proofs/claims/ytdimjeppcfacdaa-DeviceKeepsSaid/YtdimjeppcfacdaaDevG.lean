/- Append, Truncate, Load, Cut, Restore as a whole; Clone. -/
import Derived.Test.YtdimjeppcfacdaaDevF
import Derived.Deep.WholeRow
namespace Go.Proofs.Ytdimjeppcfacdaa
open Go.RowKit

theorem app_any {own : List Nat} {b : Nat} {D : DevS} {v0 v1 : Value} (i : Int) (pa : Option Addr) (n c : Nat) (l : List Nat) (hlb : ∀ x ∈ l, x < 256) (w : World) (h : Dev own w b D v0 v1) (hS : Sl encY w.heap.size w (.slice pa n c) l) (ho : Off own (.slice pa n c)) :
    Calls Try.prog 84 #[.pointer (some ⟨b, 0, none⟩), .int .i64 i, .slice pa n c] w fun e w' => e = .returned (.int .i64 (appS D i l).2) ∧ DevTo own w b (appS D i l).1 w' := by
  cases hd : D.down with
  | true => rw [show appS D i l = (D, 30) from if_pos hd]; exact appdown_any i _ hd w h
  | false =>
    have e0 : appS D i l = if regB i = false then (D, 1) else if D.cap - (D.row i).length < l.length then (D, 6) else ((D.turn l.length).put i (D.row i ++ l.take (doneN l.length D.left)), downE l.length D.left) := if_neg (by rw [hd]; decide)
    cases hr : regB i with
    | false => rw [e0, if_pos hr]; exact appreg_any i hr _ hd w h
    | true =>
      rw [e0, if_neg (by rw [hr]; decide)]
      obtain rfl := hS.len
      rcases regB_t hr with rfl | rfl
      · by_cases hf : D.cap - (D.row 0).length < l.length
        · rw [if_pos hf]; exact appfull0_any _ _ _ hf hd w h
        · rw [if_neg hf]; exact append0_any _ _ _ l hlb (by rw [row_0] at hf; omega) hd w h hS ho
      · by_cases hf : D.cap - (D.row 1).length < l.length
        · rw [if_pos hf]; exact appfull1_any _ _ _ hf hd w h
        · rw [if_neg hf]; exact append1_any _ _ _ l hlb (by rw [row_1] at hf; omega) hd w h hS ho

set_option maxHeartbeats 1000000 in
theorem truncdown_any {own : List Nat} {b : Nat} {D : DevS} {v0 v1 : Value} (i n : Int) (hd : D.down = true) (w : World) (h : Dev own w b D v0 v1) :
    Calls Try.prog 86 #[.pointer (some ⟨b, 0, none⟩), .int .i64 i, .int .i64 n] w fun e w' => e = .returned (.int .i64 30) ∧ DevTo own w b D w' := by
  have c3 := h.blk.c3
  rw [hd] at c3
  have HD := Lib.hid (h.same (Below.refl _ _))
  clear h hd
  go_enter Try.func86, Try.ntmps86
  go_wp2
  go_ret
  exact ⟨rfl, HD.out⟩
set_option maxHeartbeats 1000000 in
theorem truncreg_any {own : List Nat} {b : Nat} {D : DevS} {v0 v1 : Value} (i n : Int) (hi : regB i = false) (hd : D.down = false) (w : World) (h : Dev own w b D v0 v1) :
    Calls Try.prog 86 #[.pointer (some ⟨b, 0, none⟩), .int .i64 i, .int .i64 n] w fun e w' => e = .returned (.int .i64 1) ∧ DevTo own w b D w' := by
  have c3 := h.blk.c3
  rw [hd] at c3
  have HD := Lib.hid (h.same (Below.refl _ _))
  have HH := Lib.hid (fun p w => dhas_any p i w)
  rw [hi] at HH
  clear h hd hi
  go_enter Try.func86, Try.ntmps86
  go_wp2_with (go_at_call 94; refine (HH.out _ _).mono ?_; rintro e w' ⟨rfl, rfl⟩)
  go_ret
  exact ⟨rfl, HD.out⟩
set_option maxHeartbeats 1000000 in
theorem truncneg_any {own : List Nat} {b : Nat} {D : DevS} {v0 v1 : Value} (i n : Int) (hi : regB i = true) (hn : n < 0) (hd : D.down = false) (w : World) (h : Dev own w b D v0 v1) :
    Calls Try.prog 86 #[.pointer (some ⟨b, 0, none⟩), .int .i64 i, .int .i64 n] w fun e w' => e = .returned (.int .i64 1) ∧ DevTo own w b D w' := by
  have c3 := h.blk.c3
  rw [hd] at c3
  have HD := Lib.hid (h.same (Below.refl _ _))
  have HH := Lib.hid (fun p w => dhas_any p i w)
  rw [hi] at HH
  clear h hd hi
  go_enter Try.func86, Try.ntmps86
  go_wp2_with (go_at_call 94; refine (HH.out _ _).mono ?_; rintro e w' ⟨rfl, rfl⟩)
  go_ret
  exact ⟨rfl, HD.out⟩

set_option maxRecDepth 100000 in
set_option maxHeartbeats 1000000 in
theorem truncbig0_any {own : List Nat} {b : Nat} {D : DevS} {v0 v1 : Value} (n : Int) (hn : (D.r0.length : Int) < n) (hd : D.down = false) (w : World) (h : Dev own w b D v0 v1) :
    Calls Try.prog 86 #[.pointer (some ⟨b, 0, none⟩), .int .i64 0, .int .i64 n] w fun e w' => e = .returned (.int .i64 1) ∧ DevTo own w b D w' := by
  have c3 := h.blk.c3
  rw [hd] at c3
  have HD := Lib.hid (h.same (Below.refl _ _))
  have HH := Lib.hid (fun p w => dhas_any p 0 w)
  rw [show regB 0 = true from rfl] at HH
  obtain ⟨a, c', e0, hcc'⟩ := h.r0.form
  subst e0
  have cF := h.blk.c1
  obtain ⟨m, hm⟩ : ∃ m, D.r0.length = m := ⟨_, rfl⟩
  rw [hm] at cF hcc' hn
  have hn0 : ¬ n < 0 := by omega
  clear h hd hm
  go_enter Try.func86, Try.ntmps86
  go_wp2_with (go_at_call 94; refine (HH.out _ _).mono ?_; rintro e w' ⟨rfl, rfl⟩)
  go_ret
  exact ⟨rfl, HD.out⟩

set_option maxRecDepth 100000 in
set_option maxHeartbeats 1000000 in
theorem truncbig1_any {own : List Nat} {b : Nat} {D : DevS} {v0 v1 : Value} (n : Int) (hn : (D.r1.length : Int) < n) (hd : D.down = false) (w : World) (h : Dev own w b D v0 v1) :
    Calls Try.prog 86 #[.pointer (some ⟨b, 0, none⟩), .int .i64 1, .int .i64 n] w fun e w' => e = .returned (.int .i64 1) ∧ DevTo own w b D w' := by
  have c3 := h.blk.c3
  rw [hd] at c3
  have HD := Lib.hid (h.same (Below.refl _ _))
  have HH := Lib.hid (fun p w => dhas_any p 1 w)
  rw [show regB 1 = true from rfl] at HH
  obtain ⟨a, c', e1, hcc'⟩ := h.r1.form
  subst e1
  have cF := h.blk.c2
  obtain ⟨m, hm⟩ : ∃ m, D.r1.length = m := ⟨_, rfl⟩
  rw [hm] at cF hcc' hn
  have hn0 : ¬ n < 0 := by omega
  clear h hd hm
  go_enter Try.func86, Try.ntmps86
  go_wp2_with (go_at_call 94; refine (HH.out _ _).mono ?_; rintro e w' ⟨rfl, rfl⟩)
  go_ret
  exact ⟨rfl, HD.out⟩

theorem trunc_any {own : List Nat} {b : Nat} {D : DevS} {v0 v1 : Value} (i n : Int) (w : World) (h : Dev own w b D v0 v1) :
    Calls Try.prog 86 #[.pointer (some ⟨b, 0, none⟩), .int .i64 i, .int .i64 n] w fun e w' => e = .returned (.int .i64 (truncS D i n).2) ∧ DevTo own w b (truncS D i n).1 w' := by
  cases hd : D.down with
  | true => rw [show truncS D i n = (D, 30) from if_pos hd]; exact truncdown_any i n hd w h
  | false =>
    have e0 : truncS D i n = if regB i = false ∨ n < 0 ∨ ((D.row i).length : Int) < n then (D, 1) else ((D.turn ((D.row i).length - n.toNat)).put i ((D.row i).take ((D.row i).length - doneN ((D.row i).length - n.toNat) D.left)), downE ((D.row i).length - n.toNat) D.left) := if_neg (by rw [hd]; decide)
    rw [e0]
    cases hr : regB i with
    | false => rw [if_pos (.inl rfl)]; exact truncreg_any i n hr hd w h
    | true =>
      by_cases hn : n < 0
      · rw [if_pos (.inr (.inl hn))]; exact truncneg_any i n hr hn hd w h
      · obtain ⟨m, rfl⟩ : ∃ m : Nat, n = (m : Int) := ⟨n.toNat, by omega⟩
        rw [Int.toNat_natCast]
        rcases regB_t hr with rfl | rfl
        · by_cases hb : ((D.row 0).length : Int) < (m : Int)
          · rw [if_pos (.inr (.inr hb))]; exact truncbig0_any _ hb hd w h
          · rw [if_neg (by intro e; rcases e with e | e | e; cases e; omega; exact hb e)]
            exact trunc0_any m (by rw [row_0] at hb; omega) hd w h
        · by_cases hb : ((D.row 1).length : Int) < (m : Int)
          · rw [if_pos (.inr (.inr hb))]; exact truncbig1_any _ hb hd w h
          · rw [if_neg (by intro e; rcases e with e | e | e; cases e; omega; exact hb e)]
            exact trunc1_any m (by rw [row_1] at hb; omega) hd w h

def loadS (D : DevS) (i : Int) (l : List Nat) : DevS := if regB i = false then D else D.put i (l.take (min l.length D.cap))
theorem load_any {own : List Nat} {b : Nat} {D : DevS} {v0 v1 : Value} (i : Int) (a : Option Addr) (n c : Nat) (l : List Nat) (hl : Bytes l) (w : World) (h : Dev own w b D v0 v1) (hS : Sl encY w.heap.size w (.slice a n c) l) :
    Calls Try.prog 60 #[.pointer (some ⟨b, 0, none⟩), .int .i64 i, .slice a n c] w fun e w' => e = .returned (.tuple #[]) ∧ DevTo own w b (loadS D i l) w' := by
  cases hr : regB i with
  | false => rw [show loadS D i l = D from if_pos hr]; exact loadn_any i hr _ w h
  | true =>
    rw [show loadS D i l = D.put i (l.take (min l.length D.cap)) from if_neg (by rw [hr]; decide)]
    rcases regB_t hr with rfl | rfl
    · exact load0_any a n c l hl w h hS
    · exact load1_any a n c l hl w h hS
def cutS (D : DevS) (n : Int) : DevS := { D with left := cutN n }
def restoreS (D : DevS) : DevS := { D with down := false, left := 9223372036854775807 }
theorem cut_to {own : List Nat} {b : Nat} {D : DevS} {v0 v1 : Value} (n : Int) (hn : n ≤ 9223372036854775807) (w : World) (h : Dev own w b D v0 v1) :
    Calls Try.prog 68 #[.pointer (some ⟨b, 0, none⟩), .int .i64 n] w fun e w' => e = .returned (.tuple #[]) ∧ DevTo own w b (cutS D n) w' := by
  refine (cut_any w n hn h.blk).mono ?_
  rintro e w' ⟨rfl, h1, h2, h3⟩
  refine ⟨rfl, own, v0, v1, h.field (D' := cutS D n) h2 h1 rfl rfl ⟨h.ok.cap, h.ok.l0, h.ok.l1, h.ok.b0, h.ok.b1, ?_, h.ok.tn⟩, h2.more (fun x hx => by simp at hx; subst hx; exact .inl h.bo), fun _ hk => .inl hk⟩
  show cutN n ≤ _
  unfold cutN; split <;> omega
theorem restore_to {own : List Nat} {b : Nat} {D : DevS} {v0 v1 : Value} (w : World) (h : Dev own w b D v0 v1) :
    Calls Try.prog 71 #[.pointer (some ⟨b, 0, none⟩)] w fun e w' => e = .returned (.tuple #[]) ∧ DevTo own w b (restoreS D) w' := by
  refine (restore_any w h.blk).mono ?_
  rintro e w' ⟨rfl, h1, h2, h3⟩
  exact ⟨rfl, own, v0, v1, h.field (D' := restoreS D) h2 h1 rfl rfl ⟨h.ok.cap, h.ok.l0, h.ok.l1, h.ok.b0, h.ok.b1, Nat.le_refl _, h.ok.tn⟩, h2.more (fun x hx => by simp at hx; subst hx; exact .inl h.bo), fun _ hk => .inl hk⟩
end Go.Proofs.Ytdimjeppcfacdaa
